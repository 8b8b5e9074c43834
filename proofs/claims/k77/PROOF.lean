import PyProof.Rows.All
import Wide.All
import OpenK.AllK
import Wide.FinOn
import Lean
import PyProof.EqAt
import PyProof.EqKinds
import PyProof.TupleCall
import PySem.Challenge.RW_roundcall_k77_whole_kept_for_ever
/-! THE HAND LAYER, for ints, bools, texts, own classes, LISTS and tuples (index, slices, in, append, pop ..), calls, loops. Paste it whole ahead of your own text; what your proof does not reach may be deleted. -/
set_option Elab.async false
set_option linter.all false
set_option maxRecDepth 100000
set_option maxHeartbeats 4000000
set_option bootstrap.genMatcherCode false
namespace L2
local macro_rules | `(tactic| omega) => `(tactic| lia)
open PySem PySem.Spec PyProof.Rows
abbrev Dh:=Sum Int Str
def Ho:Dh -> Value -> Bool
 | .inl k,v=>Value.isInt k v
 | .inr x,v=>Value.isStrOf x v
def pp (w:World):Dh -> Int
 | .inl k=>hashInt k
 | .inr x=>hashStr w x
theorem C9:∀ {k:Dh} {v:Value},Ho k v = true -> (∃ i t,k = Sum.inl i /\ v = Value.int i t) \/ (∃ x t,k = Sum.inr x /\ v = Value.str x t)
 | .inl i,v,h=>by
  obtain ⟨t,e⟩ := Value.isInt_shape (k:=i) (v:=v) h
  exact .inl ⟨i,t,rfl,e⟩
 | .inr x,v,h=>by
  obtain ⟨t,e⟩ := Value.isStrOf_shape (x:=x) (v:=v) h
  exact .inr ⟨x,t,rfl,e⟩
theorem Vm (i:Int) (t:Tok):Ho (.inl i) (.int i t) = true:=by simp [Ho,Value.isInt]
theorem Vk (x:Str) (t:Tok):Ho (.inr x) (.str x t) = true:=by simp [Ho,Value.isStrOf]
theorem fg (a b:Int):decide ((Sum.inl a:Dh) = Sum.inl b) = (a == b):=by
 by_cases e:a = b
 ·subst e; simp
 ·have h:¬ (Sum.inl a:Dh) = Sum.inl b:=fun q=>e (Sum.inl.inj q)
  rw [decide_eq_false h]
  exact (beq_eq_false_iff_ne.mpr e).symm
theorem g9 (a b:Str):decide ((Sum.inr a:Dh) = Sum.inr b) = decide (a = b):=by
 by_cases e:a = b
 ·subst e; simp
 ·have h:¬ (Sum.inr a:Dh) = Sum.inr b:=fun q=>e (Sum.inr.inj q)
  rw [decide_eq_false h,decide_eq_false e]
theorem eh (a:Int) (b:Str):decide ((Sum.inl a:Dh) = Sum.inr b) = false:=decide_eq_false (fun q=>nomatch q)
theorem jg (a:Str) (b:Int):decide ((Sum.inr a:Dh) = Sum.inl b) = false:=decide_eq_false (fun q=>nomatch q)
def D5 (prog:Program) (w:World):PySem.KeyKind prog w Dh where
 is:=Ho
 hash:=pp w
 inj:=fun v a b ha hb=>by
  rcases C9 ha with ⟨i,t,rfl,rfl⟩ | ⟨x,t,rfl,rfl⟩
  ·rcases C9 hb with ⟨j,u,rfl,e⟩ | ⟨y,u,rfl,e⟩
   ·injection e with e1 _; rw [e1]
   ·exact nomatch e
  ·rcases C9 hb with ⟨j,u,rfl,e⟩ | ⟨y,u,rfl,e⟩
   ·exact nomatch e
   ·injection e with e1 _; rw [e1]
 byValue:=fun k v h=>by
  rcases C9 h with ⟨i,t,rfl,rfl⟩ | ⟨x,t,rfl,rfl⟩ <;> rfl
 pyHash:=fun hv h=>by
  rcases C9 hv with ⟨i,t,rfl,rfl⟩ | ⟨x,t,rfl,rfl⟩
  ·exact wpAny_pyHash_int h
  ·exact wpAny_pyHash_str h
 eqBool:=fun hu hv h=>by
  rcases C9 hu with ⟨i,t,rfl,rfl⟩ | ⟨x,t,rfl,rfl⟩
  ·rcases C9 hv with ⟨j,u,rfl,rfl⟩ | ⟨y,u,rfl,rfl⟩
   ·rw [fg] at h; exact wpAny_eqBool_int h
   ·rw [eh] at h; exact SeqAt.EqAt.int_str i t y u _ _ _ _ h
  ·rcases C9 hv with ⟨j,u,rfl,rfl⟩ | ⟨y,u,rfl,rfl⟩
   ·rw [jg] at h; exact SeqAt.EqAt.str_int x t j u _ _ _ _ h
   ·rw [g9] at h; exact wpAny_eqBool_str h
 «strs» := fun k x t v h=>by
  rcases C9 h with ⟨i,u,rfl,e⟩ | ⟨y,u,rfl,e⟩
  ·exact nomatch e
  ·injection e with e1 _
   subst e1
   cases v <;> rfl
theorem Q7 (prog:Program) (w:World) (i:Int) (t:Tok):(D5 prog w).is (.inl i) (.int i t) = true:=Vm i t
theorem Qs (prog:Program) (w:World) (x:Str) (t:Tok):(D5 prog w).is (.inr x) (.str x t) = true:=Vk x t
inductive V where
 | aL | bl (b:Bool) | int (i:Int) | str (x:Str) | kC (b:Array UInt8) | vU (b:UInt64) | ref (a:Addr) | ty (n:String)
 deriving DecidableEq
def Ap:V -> Value -> Prop
 | .aL,u=>u = Value.none
 | .bl b,u=>u = Value.bool b
 | .int i,u=>∃ t,u = Value.int i t
 | .str x,u=>∃ t,u = Value.str x t
 | .kC b,u=>∃ t,u = Value.bytes b t
 | .vU b,u=>∃ t,u = Value.float b t
 | .ref a,u=>u = Value.ref a
 | .ty n,u=>u = Value.type n
abbrev As:List V -> List Value -> Prop:=Paired Ap
theorem As.length {xs:List V} {us:List Value} (r:As xs us):xs.length = us.length:=Paired.length r
theorem As.get:∀ {xs:List V} {us:List Value} {i:Nat} {x:V},As xs us -> xs[i]? = some x -> ∃ u,us[i]? = some u /\ Ap x u
 | _,_,_,_,.nil,e=>by simp at e
 | _,_,0,_,.cons r _,e=>by simp at e; subst e; exact ⟨_,rfl,r⟩
 | _,_,i + 1,x,.cons _ t,e=>by
  obtain ⟨u,h1,h2⟩ := As.get (i:=i) (x:=x) t (by simpa using e)
  exact ⟨u,by simpa using h1,h2⟩
theorem As.set {x:V} {u:Value} (r:Ap x u):∀ {xs:List V} {us:List Value} (i:Nat),As xs us -> As (xs.set i x) (us.set i u)
 | _,_,_,.nil=>.nil
 | _,_,0,.cons _ t=>.cons r t
 | _,_,i + 1,.cons q t=>.cons q (As.set r i t)
theorem As.append {xs ys:List V} {us ws:List Value} (h:As xs us) (s:As ys ws):As (xs ++ ys) (us ++ ws):=by
 induction h with
 | nil=>exact s
 | cons r t ih=>exact .cons r ih
theorem As.take:∀ {xs:List V} {us:List Value} (n:Nat),As xs us -> As (xs.take n) (us.take n)
 | _,_,0,_=>.nil
 | _,_,_ + 1,.nil=>.nil
 | _,_,n + 1,.cons r t=>.cons r (As.take n t)
theorem As.drop:∀ {xs:List V} {us:List Value} (n:Nat),As xs us -> As (xs.drop n) (us.drop n)
 | _,_,0,r=>r
 | _,_,_ + 1,.nil=>.nil
 | _,_,n + 1,.cons _ t=>As.drop n t
def F7:Option V -> Option Value -> Prop
 | some v,some u=>Ap v u
 | none,none=>True
 | _,_=>False
def KV {κ:Type}:List (κ × V) -> List (κ × Value) -> Prop:=Paired fun (p:κ × V) (q:κ × Value)=>p.1 = q.1 /\ Ap p.2 q.2
def kV:Dh -> V
 | .inl i=>.int i
 | .inr x=>.str x
section
variable {prog:Program} {w:World}
def Bo (prog:Program) (w:World) (h:Heap) (k:List Int × Int) (a:Addr):Prop :=
 ∃ o n u t,h.get? a = some o /\ o.cls = .type "tuple" /\ o.data = .seq #[.ref u,.int k.2 t] n /\ IsTupleKey (intKind prog w) h k.1 u
theorem Bo.typeIs {s:Shared} {k:List Int × Int} {a:Addr} (x:Bo prog w s.heap k a):s.TypeIs (.ref a) "tuple" := let ⟨o,_,_,_,ho,hc,_⟩ := x; ⟨o,ho,hc⟩
theorem Bo.inj {h:Heap} {a:Addr} {x y:List Int × Int} (hx:Bo prog w h x a) (hy:Bo prog w h y a):x = y:=by
 obtain ⟨o,n,u,t,ho,_,hd,hi⟩ := hx
 obtain ⟨o',n',u',t',lN,_,lO,qK⟩ := hy
 obtain rfl:o = o':=Option.some.inj (ho.symm.trans lN)
 rw [hd] at lO
 injection lO with h1 _
 simp only [Array.mk.injEq,List.cons.injEq,Value.ref.injEq,Value.int.injEq,and_true] at h1
 obtain ⟨rfl,h2,_⟩ := h1
 exact Prod.ext (hi.inj qK) h2
theorem Bo.keeps {h h':Heap} {k:List Int × Int} {a d:Addr} {o:Obj} {es ep} (x:Bo prog w h k a) (ho:h.get? d = some o) (hd:o.data = .dict es ep) (hs:Heap.SameBut d h h'):Bo prog w h' k a:=by
 obtain ⟨o',n,u,t,lN,hc,lO,hi⟩ := x
 have bN:a ≠ d:=by
  rintro rfl
  obtain rfl:o' = o:=Option.some.inj (lN.symm.trans ho)
  rw [hd] at lO
  exact nomatch lO
 exact ⟨o',n,u,t,(hs.2 a bN).trans lN,hc,lO,hi.keeps ho hd hs⟩
def G8 (prog:Program) (w:World) (k:List Int × Int):Int:=reduceHash (Builtin.Tuple.tupleHashOf [tupleKeyHash (intKind prog w) k.1,(intKind prog w).hash k.2])
theorem S9 {A : Around} {E : Value -> Shared -> Prop} {s : Shared} {k : List Int × Int} {a : Addr} {Q : Int -> Shared -> Prop} (hu : A.units + 8 < cLine) (hk : Bo prog w s.heap k a) (h : Q (G8 prog w k) { s with toks := s.toks + (k.1.length + 3) }) :
  wpAny (model prog w) A (pyHash (.ref a)) Q E s:=by
 have hT:=hk.typeIs
 obtain ⟨o,n,u,t,ho,_,hd,hi⟩ := hk
 unfold pyHash
 first | unfold pyHashByItsType | skip
 first | refine wpAny_bind (wpAny_cRoomFor_or (.inr (by omega)) ?_) | skip
 refine wpAny_bind (wpAny_specialOf hT F.slot_tuple_hash.lookup ?_)
 show wpAny _ _ (if (some (Value.builtin "tuple.__hash__") == some Value.none) = true then _ else _) Q E s
 rw [if_neg (by rw [beq_builtin_none]; exact Bool.false_ne_true)]
 refine wpAny_bind (wpAny_specialOf hT F.slot_tuple_hash.lookup ?_)
 show wpAny _ _ (callSpecialIfBoundUnlessNone? (.ref a) "__hash__" _ >>= _) Q E s
 refine wpAny_bind (wpAny_callSpecialIfBoundUnlessNone?_slot hT F.slot_tuple_hash (wpAny_call_entry F.slot_tuple_hash hT F.entry_tuple_hash ?_ (F.args_tuple_hash_1 _)))
 show wpAny _ _ (Builtin.Tuple.tupleItemsOf (.ref a) >>= _) _ _ s
 refine wpAny_bind (wpAny_tupleItemsOf ho hd ?_)
 refine wpAny_bind ?_
 rw [<- Array.forIn_toList]
 show wpAny _ _ (forIn [Value.ref u,Value.int k.2 t] _ _) _ _ _
 rw [List.forIn_cons]
 have qL:A.in1.units < cLine:=by
  first | (show A.units + 1 < cLine; omega) | (show A.units < cLine; omega) | (simp only [Around.in1]; omega)
 refine wpAny_bind (wpAny_bind (wpAny_pyHash_tuple (knd:=intKind prog w) qL hi ?_))
 refine wpAny_pure ?_
 show wpAny _ _ (forIn [Value.int k.2 t] _ _) _ _ _
 rw [List.forIn_cons]
 refine wpAny_bind (wpAny_bind ((intKind prog w).pyHash (k:=k.2) (by simp [intKind,Value.isInt]) ?_))
 refine wpAny_pure ?_
 show wpAny _ _ (forIn [] _ _) _ _ _
 rw [List.forIn_nil]
 refine wpAny_pure ?_
 show wpAny _ _ (retInt (Builtin.Tuple.tupleHashOf [tupleKeyHash (intKind prog w) k.1,(intKind prog w).hash k.2])) _ _ _
 refine wpAny_ret_mkInt ?_
 generalize e:Builtin.Tuple.tupleHashOf [tupleKeyHash (intKind prog w) k.1,(intKind prog w).hash k.2] = z
 show wpAny _ _ (if (decide (-(2:Int) ^ 63 <= z) && decide (z < 2 ^ 63)) = true then _ else _) Q E _
 unfold G8 reduceHash at h
 rw [e] at h
 by_cases hr:(decide (-(2:Int) ^ 63 <= z) && decide (z < 2 ^ 63)) = true
 ·rw [if_pos hr]
  rw [if_pos hr] at h
  exact wpAny_pure (by simpa [Nat.add_assoc] using h)
 ·rw [if_neg hr]
  rw [if_neg hr] at h
  exact wpAny_bind (wpAny_rule (wpAny_pure (by simpa [Nat.add_assoc] using h)))
theorem Y0 {A : Around} {E : Value -> Shared -> Prop} {s : Shared} {x y : List Int × Int} {a b : Addr} {Q : Bool -> Shared -> Prop} (hu : A.units + 8 < cLine) (hx : Bo prog w s.heap x a) (hy : Bo prog w s.heap y b) (h : Q (decide (x = y)) s) :
  wpAny (model prog w) A (eqBool (.ref a) (.ref b)) Q E s:=by
 unfold eqBool
 try with_reducible refine wpAny_holding ?_
 show wpAny _ _ (if (Value.ref a == Value.ref b) = true then _ else _) Q E s
 by_cases DC:(Value.ref a == Value.ref b) = true
 ·rw [if_pos DC]
  have e:a = b:=by have:=eq_of_beq DC; injection this
  subst e
  obtain rfl:=hx.inj hy
  exact wpAny_bind (wpAny_rule (wpAny_pure (by simpa using h)))
 ·rw [if_neg DC]
  refine wpAny_bind (wpAny_richCompare_same_room (op := .Eq) hx.typeIs hy.typeIs F.slot_tuple_eq
   (wpAny_call_entry F.slot_tuple_eq hx.typeIs F.entry_tuple_eq ?_ (F.args_tuple_eq_2 _ _)) (by omega))
  have hTb:=hy.typeIs
  obtain ⟨oa,na,ua,ta,hoa,_,hda,hia⟩ := hx
  obtain ⟨ob,nb,ub,tb,hob,_,qZ,hib⟩ := hy
  show wpAny _ _ (isInstance (.ref b) (.type "tuple") >>= _) _ _ s
  refine wpAny_bind (wpAny_isInstance hTb isSubtype_tuple_tuple ?_)
  simp only [Bool.not_true,Bool.false_eq_true,if_false]
  refine wpAny_bind (wpAny_tupleItemsOf hoa hda ?_)
  refine wpAny_bind (wpAny_tupleItemsOf hob qZ ?_)
  refine wpAny_bind ?_
  show wpAny _ _ (forIn [(Value.ref ua,Value.ref ub),(Value.int x.2 ta,Value.int y.2 tb)] _ _) _ _ _
  rw [List.forIn_cons]
  have qL:A.in1.units < cLine:=by
   first | (show A.units + 1 < cLine; omega) | (show A.units < cLine; omega) | (simp only [Around.in1]; omega)
  refine wpAny_bind (wpAny_bind (wpAny_eqBool_tuple (knd:=intKind prog w) qL hia hib ?_))
  by_cases h1:x.1 = y.1
  ·rw [decide_eq_true h1]
   simp only [Bool.not_true,Bool.false_eq_true,if_false]
   refine wpAny_pure ?_
   show wpAny _ _ (forIn [(Value.int x.2 ta,Value.int y.2 tb)] _ _) _ _ _
   rw [List.forIn_cons]
   refine wpAny_bind (wpAny_bind ((intKind prog w).eqBool (a:=x.2) (b:=y.2) (by simp [intKind,Value.isInt]) (by simp [intKind,Value.isInt]) ?_))
   by_cases h2:x.2 = y.2
   ·rw [decide_eq_true h2]
    simp only [Bool.not_true,Bool.false_eq_true,if_false]
    refine wpAny_pure ?_
    show wpAny _ _ (forIn [] _ _) _ _ _
    rw [List.forIn_nil]
    refine wpAny_pure ?_
    have e:decide (x = y) = true:=decide_eq_true (Prod.ext h1 h2)
    rw [e] at h
    exact wpAny_pure ⟨_,rfl,(fun e=>nomatch e),wpAny_truthy_bool h⟩
   ·rw [decide_eq_false h2]
    simp only [Bool.not_false,if_true]
    have e:decide (x = y) = false:=decide_eq_false fun z=>h2 (by rw [z])
    rw [e] at h
    exact wpAny_bind (wpAny_pure (wpAny_pure (wpAny_pure (wpAny_pure ⟨_,rfl,(fun e=>nomatch e),wpAny_truthy_bool h⟩))))
  ·rw [decide_eq_false h1]
   simp only [Bool.not_false,if_true]
   have e:decide (x = y) = false:=decide_eq_false fun z=>h1 (by rw [z])
   rw [e] at h
   exact wpAny_bind (wpAny_pure (wpAny_pure (wpAny_pure (wpAny_pure ⟨_,rfl,(fun e=>nomatch e),wpAny_truthy_bool h⟩))))
theorem fk {A:Around} {E:Value -> Shared -> Prop} {s:Shared} {ks:List Int} {a:Addr} {Q:Bool -> Shared -> Prop} (hk:IsTupleKey (intKind prog w) s.heap ks a) (h:Q true s):wpAny (model prog w) A (eqIsQuiet 7 (.ref a)) Q E s:=by
 have hT:=hk.typeIs
 obtain ⟨o,items,n,ho,_,hd,hi⟩ := hk
 unfold eqIsQuiet
 refine wpAny_bind (wpAny_specialOf hT F.slot_tuple_eq.lookup ?_)
 show wpAny _ _ (isInstance (.ref a) (.type "tuple") >>= _) _ _ s
 refine wpAny_bind (wpAny_isInstance hT isSubtype_tuple_tuple ?_)
 simp only [Bool.not_true,Bool.false_eq_true,if_false]
 refine wpAny_bind (wpAny_seqItems ho hd ?_)
 refine wpAny_bind ?_
 show wpAny _ _ (forIn items _ _) _ _ s
 rw [<- Array.forIn_toList]
 refine wpAny_forIn_list _ (fun rest r s'=>r.1 = none /\ s' = s /\ ∀ v ∈ rest,carriedByValue v = true) _ ?_ ?_ _ _ ⟨rfl,rfl,hi.byValue⟩
 ·rintro v rest r s' ⟨hr,rfl,hall⟩
  rw [eqIsQuiet_byValue _ (hall v List.mem_cons_self)]
  refine wpAny_bind (wpAny_pure ?_)
  simp only [Bool.not_true,Bool.false_eq_true,if_false]
  exact wpAny_pure ⟨rfl,rfl,fun u ON=>hall u (List.mem_cons_of_mem _ ON)⟩
 ·rintro ⟨r1,r2⟩ s' ⟨hr,rfl,_⟩
  simp only at hr
  subst hr
  exact wpAny_pure h
theorem Q3 {A:Around} {E:Value -> Shared -> Prop} {s:Shared} {k:List Int × Int} {a:Addr} {Q:Bool -> Shared -> Prop} (hk:Bo prog w s.heap k a) (h:Q true s):wpAny (model prog w) A (eqIsQuiet 8 (.ref a)) Q E s:=by
 have hT:=hk.typeIs
 obtain ⟨o,n,u,t,ho,_,hd,hi⟩ := hk
 unfold eqIsQuiet
 refine wpAny_bind (wpAny_specialOf hT F.slot_tuple_eq.lookup ?_)
 show wpAny _ _ (isInstance (.ref a) (.type "tuple") >>= _) _ _ s
 refine wpAny_bind (wpAny_isInstance hT isSubtype_tuple_tuple ?_)
 simp only [Bool.not_true,Bool.false_eq_true,if_false]
 refine wpAny_bind (wpAny_seqItems ho hd ?_)
 refine wpAny_bind ?_
 show wpAny _ _ (forIn #[Value.ref u,Value.int k.2 t] _ _) _ _ s
 rw [<- Array.forIn_toList]
 show wpAny _ _ (forIn [Value.ref u,Value.int k.2 t] _ _) _ _ s
 rw [List.forIn_cons]
 refine wpAny_bind (wpAny_bind (fk hi ?_))
 simp only [Bool.not_true,Bool.false_eq_true,if_false]
 refine wpAny_pure ?_
 show wpAny _ _ (forIn [Value.int k.2 t] _ _) _ _ s
 rw [List.forIn_cons,eqIsQuiet_byValue _ rfl]
 refine wpAny_bind (wpAny_bind (wpAny_pure ?_))
 simp only [Bool.not_true,Bool.false_eq_true,if_false]
 refine wpAny_pure ?_
 show wpAny _ _ (forIn [] _ _) _ _ s
 rw [List.forIn_nil]
 exact wpAny_pure (wpAny_pure h)
def Bv (prog:Program) (w:World):HeapKind prog w (List Int × Int) where
 is:=Bo prog w
 hash:=G8 prog w
 draws:=fun k=>k.1.length + 3
 room:=fun A=>A.units + 8 < cLine
 inj:=fun hx hy=>hx.inj hy
 keeps:=fun x ho hd hs=>x.keeps ho hd hs
 pyHash:=fun hu hk h=>S9 hu hk h
 eqBool:=fun hu hx hy h=>Y0 hu hx hy h
 quiet:=fun hk h=>Q3 hk h
end
set_option genInjectivity false in
set_option genSizeOf false in
inductive HO where
  | lst (xs:List V)
  | tup (xs:List V)
  | dK (kvs:List (Dh × V)) | dT (kvs:List ((List Int × Int) × V))
  | set (S:Int -> Bool) (n:Nat)
  | ins (C dx:Addr) (fs:List (Str × V))
  | own (x:Addr)
  | xd (fs:List (Str × V))
  | met (f x:Addr)
  | MP (lo hi:Int)
  | bG (o:Obj) (u:HO)
  | qM (ps:Array Value)
  | ext (φ:Heap -> Prop)
abbrev Hp:=Addr -> Option HO
def Dx (H:Hp) (b:Addr) (k:List Int × Int):Prop := ∃ u,H b = some (.tup [.ref u,.int k.2]) /\ H u = some (.tup (k.1.map V.int))
theorem Dx.up {H H2:Hp} {b:Addr} {k:List Int × Int} (ht:∀ b xs,H b = some (.tup xs) -> H2 b = some (.tup xs)) (h:Dx H b k):Dx H2 b k:=let ⟨u,a1,a2⟩ := h; ⟨u,ht _ _ a1,ht _ _ a2⟩
def upd (H:Hp) (a:Addr) (o:HO):Hp:=fun b=>if b = a then some o else H b
theorem A5 {H:Hp} {a:Addr} {o:HO}:upd H a o a = some o:=by unfold upd; rw [if_pos rfl]
theorem Aa {H:Hp} {a b:Addr} {o:HO} (h:b ≠ a):upd H a o b = H b:=by unfold upd; rw [if_neg h]
theorem Br {H:Hp} {a b:Addr} {o u:HO} (h:H a = some o) (h':H b = some u) (d:o ≠ u):a ≠ b:=by
 intro e; subst e; rw [h] at h'; exact d (Option.some.inj h')
theorem Ad {H:Hp} {a b:Addr} {o:HO} (h:H a = some o) (h':H b = none):a ≠ b:=by
 intro e; subst e; rw [h] at h'; cases h'
section
variable (P:Program) (w:World)
def Bh (H:Hp) (h:Heap) (a:Addr):HO -> Prop
 | .lst xs=>xs.length <= sizeLine /\ ∃ (aC:List Value) (n:Nat),As xs aC /\ h.get? a = some { cls := .type "list",data := .seq aC.toArray n }
 | .tup xs=>(xs.length <= sizeLine /\ ∃ o,h.get? a = some o /\ o.dict = none) /\ ∃ aC:List Value,As xs aC /\ IsTup h a aC.toArray
 | .dK kvs=>kvs.length <= sizeLine /\ (a == sysModules) = false /\ ∃ vs,KV kvs vs /\ h.DictOf (D5 P w) a vs
 | .dT kvs => kvs.length <= sizeLine /\ (a == sysModules) = false /\ ∃ xs : List ((List Int × Int) × Addr × Value),
   Paired (fun (p:(List Int × Int) × V) (q:(List Int × Int) × Addr × Value)=>p.1 = q.1 /\ Dx H q.2.1 p.1 /\ Ap p.2 q.2.2) kvs xs /\
   ∃ o es ep,h.get? a = some o /\ o.ExactDict /\ o.data = .dict es ep /\ es.toList = xs.map (entryOfKey (Bv P w)) /\ (xs.map (·.1)).Nodup
 | .set S n=>h.SetOf (intKind P w) a S n
 | .ins C dx fs => H dx = some (.own a) /\ fs.length <= 1000 /\ dx ≠ a /\ h.get? a = some (PySem.W.instObj C dx) /\
   ∃ mA,h.Ns1 dx mA /\ (∀ f,F7 (fs.lookup f) (mA f)) /\ PySem.Within mA (fs.map (·.1))
 | .own _=>∃ o,h.get? a = some o
 | .xd fs=>∃ mA,h.Ns1 a mA /\ ∀ f,F7 (fs.lookup f) (mA f)
 | .MP lo hi=>∃ t u v,h.get? a = some { cls := .type "range",data := .fields #[.int lo t,.int hi u,.int 1 v] }
 | .bG o u=>h.get? a = some o /\ Bh H h a u
 | .qM ps=>h.get? a = some { cls := .none,data := .fields ps }
 | .met f x=>h.get? a = some (PySem.W.methodObj (.ref f) (.ref x))
 | .ext φ=>φ h /\ (∃ o,h.get? a = some o) /\ ∀ h1 h2:Heap,φ h1 -> (∀ o,h1.get? a = some o -> h2.get? a = some o) -> φ h2
def Fj (H:Hp) (h:Heap):Prop := ∀ a o,H a = some o -> Bh P w H h a o
end
section
variable {P:Program} {w:World} {H H':Hp} {h h':Heap} {a:Addr} {o:HO}
theorem Bh.lt (x:Bh P w H h a o):a < h.objs.size:=by
 cases o with
 | lst xs=>obtain ⟨_,_,_,_,e⟩ := x; exact Heap.lt_size e
 | tup xs=>obtain ⟨_,_,_,p⟩ := x; exact p.lt
 | dK kvs=>obtain ⟨_,_,_,_,o,_,_,e,_⟩ := x; exact Heap.lt_size e
 | dT kvs=>obtain ⟨_,_,_,_,o,_,_,e,_⟩ := x; exact Heap.lt_size e
 | set S n=>obtain ⟨o,_,_,_,e,_⟩ := x; exact Heap.lt_size e
 | ins C dx fs=>obtain ⟨_,_,_,e,_⟩ := x; exact Heap.lt_size e
 | own y=>obtain ⟨_,e⟩ := x; exact Heap.lt_size e
 | xd fs=>obtain ⟨_,⟨_,_,_,e,_⟩,_⟩ := x; exact Heap.lt_size e
 | MP lo hi=>obtain ⟨_,_,_,e⟩ := x; exact Heap.lt_size e
 | bG ob u=>obtain ⟨e,_⟩ := x; exact Heap.lt_size e
 | qM ps=>exact Heap.lt_size (show h.get? a = some _ from x)
 | met f y=>exact Heap.lt_size (show h.get? a = some _ from x)
 | ext φ=>obtain ⟨_,⟨_,e⟩,_⟩ := x; exact Heap.lt_size e
theorem Paired.DD {α β:Type} {F G:α -> β -> Prop} {l₁:List α} {l₂:List β} (h:Paired F l₁ l₂) (f:∀ a b,F a b -> G a b):Paired G l₁ l₂:=by
 induction h with
 | nil=>exact .nil
 | cons r t ih=>exact .cons (f _ _ r) ih
theorem Bh.eP (x : Bh P w H h a o) (k : ∀ b u, (b = a \/ H b = some (.own a)) -> h.get? b = some u -> h'.get? b = some u)
  (ho:∀ b,H b = some (.own a) -> H' b = some (.own a)) (ht:∀ b xs,H b = some (.tup xs) -> H' b = some (.tup xs)):Bh P w H' h' a o:=by
 induction o with
 | lst xs=>obtain ⟨z,aC,n,r,e⟩ := x; exact ⟨z,aC,n,r,k _ _ (.inl rfl) e⟩
 | tup xs=>obtain ⟨z,aC,r,ob,e,c⟩ := x; exact ⟨⟨z.1,let ⟨o,e2,d⟩ := z.2; ⟨o,k _ _ (.inl rfl) e2,d⟩⟩,aC,r,ob,k _ _ (.inl rfl) e,c⟩
 | dK kvs=>obtain ⟨z,y,vs,r,ob,es,ep,e,c⟩ := x; exact ⟨z,y,vs,r,ob,es,ep,k _ _ (.inl rfl) e,c⟩
 | dT kvs =>
  obtain ⟨z,y,xs,r,ob,es,ep,e,c⟩ := x
  exact ⟨z,y,xs,Paired.DD r fun p q z=>⟨z.1,z.2.1.up ht,z.2.2⟩,ob,es,ep,k _ _ (.inl rfl) e,c⟩
 | set S n=>obtain ⟨ob,es,ep,t,e,c⟩ := x; exact ⟨ob,es,ep,t,k _ _ (.inl rfl) e,c⟩
 | ins C dx fs =>
  obtain ⟨d,z,ne,e,mA,⟨od,es,ep,e2,c⟩,r⟩ := x
  exact ⟨ho _ d,z,ne,k _ _ (.inl rfl) e,mA,⟨od,es,ep,k _ _ (.inr d) e2,c⟩,r⟩
 | own y=>obtain ⟨ob,e⟩ := x; exact ⟨ob,k _ _ (.inl rfl) e⟩
 | xd fs=>obtain ⟨mA,⟨od,es,ep,e,c⟩,r⟩ := x; exact ⟨mA,⟨od,es,ep,k _ _ (.inl rfl) e,c⟩,r⟩
 | MP lo hi=>obtain ⟨t,u,v,e⟩ := x; exact ⟨t,u,v,k _ _ (.inl rfl) e⟩
 | bG ob u ih=>obtain ⟨e,q⟩ := x; exact ⟨k _ _ (.inl rfl) e,ih q⟩
 | qM ps =>
  have e:h.get? a = some { cls := .none,data := .fields ps }:=x
  show h'.get? a = some { cls := .none,data := .fields ps }
  exact k a _ (.inl rfl) e
 | met f y =>
  have e:h.get? a = some (PySem.W.methodObj (.ref f) (.ref y)):=x
  show h'.get? a = some (PySem.W.methodObj (.ref f) (.ref y))
  exact k a _ (.inl rfl) e
 | ext φ=>obtain ⟨p,⟨o,e⟩,st⟩ := x; exact ⟨st _ _ p fun o q=>k _ _ (.inl rfl) q,⟨o,k _ _ (.inl rfl) e⟩,st⟩
theorem Fj.lt (x:Fj P w H h) (e:H a = some o):a < h.objs.size:=(x a o e).lt
theorem Fj.fresh (x:Fj P w H h) (e:h.objs.size <= a):H a = none:=by
 cases q:H a with
 | none=>rfl
 | some u=>exact absurd (Nat.lt_of_lt_of_le (x.lt q) e) (Nat.lt_irrefl _)
theorem Fj.kept (x:Fj P w H h) (k:∀ b u,h.get? b = some u -> h'.get? b = some u):Fj P w H h':=fun a o e =>
 (x a o e).eP (fun b u _ q=>k b u q) (fun _ q=>q) fun _ _ q=>q
theorem Fj.laid (x:Fj P w H h) (k:∀ b u,h.get? b = some u -> h'.get? b = some u) (hp:h.objs.size <= a) (new:Bh P w (upd H a o) h' a o):Fj P w (upd H a o) h':=fun b u e=>by
 have hn:=x.fresh hp
 by_cases hb:b = a
 ·subst hb; rw [A5] at e; cases e; exact new
 ·rw [Aa hb] at e
  exact (x b u e).eP (fun c v _ q=>k c v q) (fun c q=>by rw [Aa (Ad q hn)]; exact q) fun c xs q=>by rw [Aa (Ad q hn)]; exact q
end
def Rd (H:Hp) (a:Addr) (u:HO):Prop:=H a = some u \/ ∃ o,H a = some (.bG o u)
theorem Rd.ok {P:Program} {w:World} {H:Hp} {h:Heap} {a:Addr} {u:HO} (r:Rd H a u) (x:Fj P w H h):Bh P w H h a u:=by
 rcases r with r | ⟨o,r⟩
 ·exact x a u r
 ·obtain ⟨_,q⟩ := x a _ r
  exact q
def kf:Option HO -> Prop
 | some (.lst _)=>True
 | some (.dK _)=>True
 | some (.dT _)=>True
 | some (.set _ _)=>True
 | some (.ins _ _ _)=>True
 | some (.ext _)=>True
 | _=>False
section
variable {P:Program} {w:World} {H:Hp} {h h':Heap} {x e:Addr} {o':HO}
theorem Fj.write (ok : Fj P w H h) (mu : kf (H x)) (he : e = x \/ H e = some (.own x)) (k : ∀ b u, b ≠ e -> h.get? b = some u -> h'.get? b = some u) (BZ : ∃ u, h'.get? e = some u)
  (new:Bh P w (upd H x o') h' x o'):Fj P w (upd H x o') h':=fun b u q=>by
 have DE:∀ c y,H c = some (.own y) -> c ≠ x:=fun c y r z=>by subst z; rw [r] at mu; exact mu
 have OO:∀ c xs,H c = some (.tup xs) -> c ≠ x:=fun c xs r z=>by subst z; rw [r] at mu; exact mu
 by_cases hb:b = x
 ·subst hb; rw [A5] at q; cases q; exact new
 ·rw [Aa hb] at q
  by_cases iY:b = e
  ·have q' : H b = some (.own x) := by
    rcases he with z | z
    ·exact absurd (iY.trans z) hb
    ·rw [iY]; exact z
   rw [q] at q'; cases q'
   obtain ⟨v,hv⟩ := BZ
   exact ⟨v,by rw [iY]; exact hv⟩
  ·refine (ok b u q).eP (fun c v hc r=>k c v ?_ r) (fun c r=>by rw [Aa (DE c b r)]; exact r) fun c xs r=>by rw [Aa (OO c xs r)]; exact r
   rcases hc with rfl | hc
   ·exact iY
   ·rintro rfl
    rcases he with z | z
    ·exact DE c b hc z
    ·rw [hc] at z; cases z; exact hb rfl
end
structure Un (fs ex:List Addr) (H H':Hp) (h h':Heap):Prop where
 keep:∀ b o,h.get? b = some o -> H b = none -> b ∉ fs -> b ∉ ex -> h'.get? b = some o
 slot:∀ b o,h.get? b = some o -> H b = none -> b ∈ fs -> b ∉ ex -> ∃ sl,h'.get? b = some { o with slots:=sl }
 free:∀ b o,h.get? b = some o -> H b = none -> b ∉ ex -> H' b = none
 there:∀ b o,h.get? b = some o -> b ∉ ex -> ∃ o',h'.get? b = some o'
 aQ:∀ b xs,H b = some (.tup xs) -> H' b = some (.tup xs)
 cU:∀ b o u,H b = some (.bG o u) -> H' b = some (.bG o u)
 dU:∀ b ps,H b = some (.qM ps) -> ∃ more,H' b = some (.qM (ps ++ more))
section
variable {fs fs' ex ex':List Addr} {H H1 H2:Hp} {h h1 h2 h':Heap} {a x e:Addr} {o:HO}
theorem Un.any (u:Un fs ex H H1 h h1) {b:Addr} {ob:Obj} (q:h.get? b = some ob) (n:H b = none) (hx:b ∉ ex):∃ sl,h1.get? b = some { ob with slots:=sl }:=by
 by_cases hb:b ∈ fs
 ·exact u.slot b ob q n hb hx
 ·exact ⟨ob.slots,u.keep b ob q n hb hx⟩
theorem Un.trans (a:Un fs ex H H1 h h1) (b:Un fs ex H1 H2 h1 h2):Un fs ex H H2 h h2 where
 keep:=fun c ob q n hc hx=>b.keep c ob (a.keep c ob q n hc hx) (a.free c ob q n hx) hc hx
 slot:=fun c ob q n hc hx=>by
  obtain ⟨sl,e1⟩ := a.slot c ob q n hc hx
  obtain ⟨DF,e2⟩ := b.slot c _ e1 (a.free c ob q n hx) hc hx
  exact ⟨DF,e2⟩
 free:=fun c ob q n hx=>by
  obtain ⟨o',e1⟩ := a.there c ob q hx
  exact b.free c o' e1 (a.free c ob q n hx) hx
 there:=fun c ob q hx=>by
  obtain ⟨o',e1⟩ := a.there c ob q hx
  exact b.there c o' e1 hx
 aQ:=fun c xs q=>b.aQ c xs (a.aQ c xs q)
 cU:=fun c ob xs q=>b.cU c ob xs (a.cU c ob xs q)
 dU:=fun c ps q=>by
  obtain ⟨m1,e1⟩ := a.dU c ps q
  obtain ⟨m2,e2⟩ := b.dU c _ e1
  exact ⟨m1 ++ m2,by rw [e2,Array.append_assoc]⟩
theorem Un.kept (k:∀ b u,h.get? b = some u -> h'.get? b = some u):Un fs ex H H h h' :=
 ⟨fun b ob q _ _ _=>k b ob q,fun b ob q _ _ _=>⟨ob.slots,k b ob q⟩,fun _ _ _ n _=>n,fun b ob q _=>⟨ob,k b ob q⟩,fun _ _ q=>q,fun _ _ _ q=>q,fun _ ps q=>⟨#[],by rw [q]; simp⟩⟩
theorem Un.refl:Un fs ex H H h h:=Un.kept fun _ _ q=>q
theorem Un.laid (k:∀ b u,h.get? b = some u -> h'.get? b = some u) (hp:h.objs.size <= a) (hn:H a = none):Un fs ex H (upd H a o) h h' where
 keep:=fun b u q _ _ _=>k b u q
 slot:=fun b u q _ _ _=>⟨u.slots,k b u q⟩
 free:=fun b u q n _=>by rw [Aa (Nat.ne_of_lt (Nat.lt_of_lt_of_le (Heap.lt_size q) hp))]; exact n
 there:=fun b u q _=>⟨u,k b u q⟩
 aQ:=fun b xs q=>by rw [Aa (Ad q hn)]; exact q
 cU:=fun b u xs q=>by rw [Aa (Ad q hn)]; exact q
 dU:=fun b ps q=>⟨#[],by rw [Aa (Ad q hn),q]; simp⟩
theorem Un.write (mu:kf (H x)) (he:e = x \/ H e = some (.own x)) (k:∀ b u,b ≠ e -> h.get? b = some u -> h'.get? b = some u) (BZ:∃ u,h'.get? e = some u):Un fs ex H (upd H x o) h h':=by
 have hx:∀ b,H b = none -> b ≠ x:=fun b n z=>by subst z; rw [n] at mu; exact mu
 have hb:∀ b,H b = none -> b ≠ e:=fun b n z=>by
  subst z
  rcases he with r | r
  ·exact hx b n r
  ·rw [n] at r; cases r
 have hm:∀ b u,H b = some u -> ¬ kf (some u) -> b ≠ x:=fun b u q nm z=>by subst z; rw [q] at mu; exact nm mu
 refine ⟨fun b u q n _ _=>k b u (hb b n) q,fun b u q n _ _=>⟨u.slots,k b u (hb b n) q⟩,fun b u q n _=>by rw [Aa (hx b n)]; exact n,fun b u q _=>?_,
  fun b xs q=>by rw [Aa (hm b _ q fun z=>z)]; exact q,fun b u xs q=>by rw [Aa (hm b _ q fun z=>z)]; exact q,fun b ps q=>⟨#[],by rw [Aa (hm b _ q fun z=>z),q]; simp⟩⟩
 by_cases iY:b = e
 ·subst iY; exact BZ
 ·exact ⟨u,k b u iY q⟩
end
def nz (h:Heap) (H:Hp):List Addr:=(List.range h.objs.size).filter fun a=>(H a).isSome
def P7 (h:Heap) (H:Hp):Heap:=PySem.W.hideAll h (nz h H)
theorem Wd (h:Heap) (H:Hp):(P7 h H).objs.size = h.objs.size:=PySem.W.hideAll_size _ _
theorem Yr {h:Heap} {H:Hp} {b:Addr} {o:Obj} (e:h.get? b = some o) (n:H b = none):(P7 h H).get? b = some o :=
 PySem.W.hideAll_get _ e fun hm=>by
  have q:(H b).isSome = true:=(List.mem_filter.mp hm).2
  rw [n] at q; simp at q
theorem Zv {h:Heap} {H:Hp} {b:Addr} {o:Obj} (e:(P7 h H).get? b = some o):h.get? b = some o /\ H b = none:=by
 have e':h.get? b = some o:=PySem.W.of_hideAll (nz h H) e
 refine ⟨e',?_⟩
 cases q:H b with
 | none=>rfl
 | some x =>
  have hm:b ∈ nz h H:=List.mem_filter.mpr ⟨List.mem_range.mpr (Heap.lt_size e'),by simp [q]⟩
  have z:(P7 h H).get? b = none:=PySem.W.hideAll_none (nz h H) hm
  rw [z] at e; cases e
structure Mod (K:PySem.W.Frag) (mg:Str -> Option Value) (base:Heap):Prop where
 DG:K.In base
 glob:base.Ns mainGlobals mg
 blt:∃ mb,base.Ns builtinsNs mb /\ ∀ x:Str,x ≠ "__name__" -> mb x = bootBuiltins x
 nolimit:base.NoLimit
set_option genInjectivity false in
set_option genSizeOf false in
structure Cx where
 prog:Program
 w:World
 K:PySem.W.Frag
 mg:Str -> Option Value
 base:Heap
 A:Around
 N:List Str
 s₀:Shared
 H₀:Hp
 env:Env
 outer:List Env
 stack:List Env
 ex:List Addr
 fn:Str -> Bool
 calm:Bool
 pn:List (Addr × Obj)
 xe:Value -> Shared -> Prop
def iV (l:List Env):List Addr:=l.filterMap (·.frame)
abbrev Cx.fs (X:Cx):List Addr:=iV X.outer
def ql (sc:Scope) (x:Str):Prop:=sc.names.lookup x = some .local \/ sc.names.lookup x = some .cell \/ sc.names.lookup x = some .free
def o5 (sc:Scope) (x:Str):Prop:=sc.names.lookup x = some .local \/ sc.names.lookup x = some .cell
def qd (env:Env) (h:Heap) (m:Str -> Option Value) (x:Str) (u:Value):Prop :=
 (env.kindOf x = some .local /\ m x = some u) \/ ((env.kindOf x = some .cell \/ env.kindOf x = some .free) /\ ∃ c,env.cells.lookup x = some c /\ h.IsCell c (some u))
structure Cx.Ok (X:Cx):Prop where
 mod:Mod X.K X.mg X.base
 kind:X.env.scope.kind = .function
 glob:X.env.globals = mainGlobals
 blt:X.env.builtins = builtinsNs
 above:X.s₀.heap.objs.size <= X.env.locals
 inj:∀ x y c,X.env.cells.lookup x = some c -> X.env.cells.lookup y = some c -> x = y
 has:∀ x,(X.env.kindOf x = some .cell \/ X.env.kindOf x = some .free) -> ∃ c,X.env.cells.lookup x = some c
 vV:∀ x c,X.fn x = true -> X.env.cells.lookup x = some c -> X.s₀.heap.objs.size <= c
 hd:X.calm = true -> X.A.handled = none
 frames:X.A.frames = some X.stack
 CA:X.stack = X.outer \/ (X.stack = X.env :: X.outer /\ X.env.frame = some X.env.locals)
 DH:∀ b ∈ X.ex,b ≠ X.env.locals /\ ∀ x c,X.env.cells.lookup x = some c -> c ≠ b
 bs:∀ b o,X.base.get? b = some o -> X.s₀.heap.get? b = some o /\ X.H₀ b = none
 lY:X.base.objs.size <= X.s₀.heap.objs.size
 iZ:∀ b o,X.base.get? b = some o -> b ∉ X.ex
 jA:∀ b ∈ X.ex,b ∉ X.fs
 cX:X.s₀.heap.FunFrames X.base X.outer
 rA:∀ b ∈ X.fs,X.H₀ b = none
structure Ag (X:Cx) (pins:List (Addr × Obj)) (σ:List (Option V)) (H:Hp) (s:Shared):Prop where
 ok:X.Ok
 os:s.os = X.s₀.os
 bare:AllBare s.gens
 base:Un X.fs X.ex X.H₀ H X.s₀.heap s.heap
 loc:∃ m,s.heap.Ns X.env.locals m /\ ∀ (i:Nat) (x:Str) (v:V),X.N[i]? = some x -> σ[i]? = some (some v) -> ql X.env.scope x -> ∃ u,Ap v u /\ qd X.env s.heap m x u
 cell:∀ x c,X.env.cells.lookup x = some c -> ∃ v,s.heap.IsCell c v
 free:H X.env.locals = none
 aY:∀ x c,X.env.cells.lookup x = some c -> H c = none
 pin:∀ p ∈ X.pn ++ pins,s.heap.get? p.1 = some p.2 /\ H p.1 = none /\ p.1 ≠ X.env.locals /\ p.1 ∉ X.fs /\ ∀ v,p.2.data ≠ .cell v
 aH:Fj X.prog X.w H s.heap
 len:σ.length = X.N.length
section
variable {X:Cx} {pins:List (Addr × Obj)} {σ:List (Option V)} {H H':Hp} {s:Shared} {h':Heap}
theorem Cx.Ok.OP (ok:X.Ok) {b:Addr} {o:Obj} (e:X.base.get? b = some o):b ∉ X.fs:=fun hb=>by
 have:=(ok.cX.mem hb).1
 rw [e] at this; cases this
theorem Ag.bs (I:Ag X pins σ H s):∀ b o,X.base.get? b = some o -> s.heap.get? b = some o /\ H b = none:=fun b o e =>
 ⟨I.base.keep b o (I.ok.bs b o e).1 (I.ok.bs b o e).2 (I.ok.OP e) (I.ok.iZ b o e),I.base.free b o (I.ok.bs b o e).1 (I.ok.bs b o e).2 (I.ok.iZ b o e)⟩
theorem Ag.bk (I:Ag X pins σ H s):∀ b o,X.base.get? b = some o -> s.heap.get? b = some o:=fun b o e=>(I.bs b o e).1
theorem Ag.mod (I:Ag X pins σ H s):Mod X.K X.mg X.base:=I.ok.mod
theorem Ag.eY (I:Ag X pins σ H s):X.K.In s.heap:=I.ok.mod.DG.keeps I.bk
theorem Ag.lt (I:Ag X pins σ H s):X.env.locals < s.heap.objs.size:=let ⟨_,hn,_⟩ := I.loc; hn.lt
theorem Ag.sz (I:Ag X pins σ H s):X.s₀.heap.objs.size <= s.heap.objs.size:=Nat.le_trans I.ok.above (Nat.le_of_lt I.lt)
theorem Ag.OQ (I:Ag X pins σ H s) {a:Addr} (h:s.heap.objs.size <= a):a ∉ X.fs:=fun hb=>by
 obtain ⟨_,o,ho,_⟩ := I.ok.cX.mem hb
 exact absurd (Nat.lt_of_lt_of_le (Heap.lt_size ho) (Nat.le_trans I.sz h)) (Nat.lt_irrefl _)
theorem Ag.vW (I:Ag X pins σ H s):∀ x c,X.env.cells.lookup x = some c -> c ≠ X.env.locals:=fun x c e z=>by
 obtain ⟨v,o,ho,hd⟩ := I.cell x c e
 obtain ⟨m,⟨o',es,ep,lN,lO,_⟩,_⟩ := I.loc
 rw [z,lN] at ho; cases ho; rw [lO] at hd; cases hd
theorem Ag.cX (I:Ag X pins σ H s):s.heap.FunFrames X.base X.outer:=by
 have all:∀ (l:List Env),(∀ b ∈ iV l,b ∈ X.fs) -> X.s₀.heap.FunFrames X.base l -> s.heap.FunFrames X.base l:=by
  intro l
  induction l with
  | nil=>intro _ _; trivial
  | cons env r ih =>
   intro hs hl
   obtain ⟨hk,⟨L,o,hf,hn,ho,hd⟩,hr⟩ := hl
   have hL:L ∈ X.fs:=hs L (by unfold iV; rw [List.filterMap_cons,hf]; exact List.mem_cons_self)
   obtain ⟨sl,e⟩ := I.base.slot L o ho (I.ok.rA L hL) hL fun z=>I.ok.jA L z hL
   exact ⟨hk,⟨L,_,hf,hn,e,hd⟩,ih (fun b hb=>hs b (by unfold iV; rw [List.filterMap_cons,hf]; exact List.mem_cons_of_mem _ hb)) hr⟩
 exact all X.outer (fun _ hb=>hb) I.ok.cX
theorem Ag.stack (I:Ag X pins σ H s):s.heap.FunFrames X.base X.stack:=by
 rcases I.ok.CA with e | ⟨e,hf⟩
 ·rw [e]; exact I.cX
 ·rw [e]
  obtain ⟨m,hn,_⟩ := I.loc
  refine .cons (by rw [I.ok.kind]; decide) hf hn ?_ I.cX
  exact Heap.get?_none_of_le (Nat.le_trans I.ok.lY I.ok.above)
theorem Ag.jB (I:Ag X pins σ H s):∀ b ∈ iV X.stack,b ∈ X.env.locals :: X.fs:=fun b hb=>by
 rcases I.ok.CA with e | ⟨e,hf⟩
 ·rw [e] at hb; exact List.mem_cons_of_mem _ hb
 ·rw [e] at hb
  unfold iV at hb
  rw [List.filterMap_cons,hf] at hb
  exact hb
theorem Ag.kD (I:Ag X pins σ H s):∀ b ∈ iV X.stack,H b = none:=fun b hb=>by
 rcases List.mem_cons.mp (I.jB b hb) with e | hb
 ·rw [e]; exact I.free
 ·obtain ⟨_,o,ho,_⟩ := I.ok.cX.mem hb
  exact I.base.free b o ho (I.ok.rA b hb) fun z=>I.ok.jA b z hb
theorem Ag.step {g' : Array GenState} {t' : Nat} {d' : Drawn} {ch : List Addr} (I : Ag X pins σ H s)
  (fU:∀ b ∈ ch,(b ∈ X.ex \/ X.s₀.heap.objs.size <= b) /\ b ≠ X.env.locals /\ (∀ x c,X.env.cells.lookup x = some c -> c ≠ b) /\ ∀ p ∈ X.pn ++ pins,p.1 ≠ b)
  (keep:∀ b o,b ≠ X.env.locals -> b ∉ X.fs -> b ∉ ch -> s.heap.get? b = some o -> H b = none -> h'.get? b = some o)
  (slot:∀ b o,b ≠ X.env.locals -> b ∈ X.fs -> b ∉ ch -> s.heap.get? b = some o -> H b = none -> ∃ sl,h'.get? b = some { o with slots:=sl }) (free:∀ b o,b ∉ ch -> s.heap.get? b = some o -> H b = none -> H' b = none)
  (there:∀ b o,b ∉ ch -> s.heap.get? b = some o -> ∃ o',h'.get? b = some o')
  (aQ:∀ b xs,H b = some (.tup xs) -> H' b = some (.tup xs)) (cU:∀ b o u,H b = some (.bG o u) -> H' b = some (.bG o u)) (dU:∀ b ps,H b = some (.qM ps) -> ∃ more,H' b = some (.qM (ps ++ more)))
  (ns:∀ m,s.heap.Ns X.env.locals m -> h'.Ns X.env.locals m) (aH:Fj X.prog X.w H' h') (hg:AllBare g') :
  Ag X pins σ H' { s with heap:=h',gens:=g',drawn:=d',toks:=t' }:=by
 have neL:∀ b o,X.s₀.heap.get? b = some o -> b ≠ X.env.locals:=fun b o e=>Nat.ne_of_lt (Nat.lt_of_lt_of_le (Heap.lt_size e) I.ok.above)
 have MQ:∀ b o,X.s₀.heap.get? b = some o -> b ∉ X.ex -> b ∉ ch:=fun b o e hx hb=>by
  rcases (fU b hb).1 with z | z
  ·exact hx z
  ·exact absurd (Nat.lt_of_lt_of_le (Heap.lt_size e) z) (Nat.lt_irrefl _)
 have cellK:∀ x c,X.env.cells.lookup x = some c -> ∀ v,s.heap.IsCell c v -> h'.IsCell c v:=fun x c e v ⟨o,ho,hd⟩=>by
  have DI:c ∉ ch:=fun z=>(fU c z).2.2.1 x c e rfl
  by_cases hc:c ∈ X.fs
  ·obtain ⟨sl,q⟩ := slot c o (I.vW x c e) hc DI ho (I.aY x c e)
   exact ⟨_,q,hd⟩
  ·exact ⟨o,keep c o (I.vW x c e) hc DI ho (I.aY x c e),hd⟩
 refine ⟨I.ok,I.os,hg,⟨fun b o e n hb hx=>?_,fun b o e n hb hx=>?_,fun b o e n hx=>?_,fun b o e hx=>?_,fun b xs e=>aQ b xs (I.base.aQ b xs e),fun b o xs e=>cU b o xs (I.base.cU b o xs e),fun b ps e=>?_⟩,?_,fun x c e=>?_,?_,fun x c e=>?_,fun p hp=>?_,aH,I.len⟩
 ·exact keep b o (neL b o e) hb (MQ b o e hx) (I.base.keep b o e n hb hx) (I.base.free b o e n hx)
 ·obtain ⟨sl,e1⟩ := I.base.slot b o e n hb hx
  obtain ⟨DF,e2⟩ := slot b _ (neL b o e) hb (MQ b o e hx) e1 (I.base.free b o e n hx)
  exact ⟨DF,e2⟩
 ·obtain ⟨o',e1⟩ := I.base.there b o e hx
  exact free b o' (MQ b o e hx) e1 (I.base.free b o e n hx)
 ·obtain ⟨o',e1⟩ := I.base.there b o e hx
  exact there b o' (MQ b o e hx) e1
 ·obtain ⟨m1,e1⟩ := I.base.dU b ps e
  obtain ⟨m2,e2⟩ := dU b _ e1
  exact ⟨m1 ++ m2,by rw [e2,Array.append_assoc]⟩
 ·obtain ⟨m,hn,hl⟩ := I.loc
  refine ⟨m,ns m hn,fun i x v e1 e2 e3=>?_⟩
  obtain ⟨u,r,l⟩ := hl i x v e1 e2 e3
  refine ⟨u,r,?_⟩
  rcases l with l | ⟨k,c,e,z⟩
  ·exact .inl l
  ·exact .inr ⟨k,c,e,cellK x c e _ z⟩
 ·obtain ⟨v,z⟩ := I.cell x c e
  exact ⟨v,cellK x c e v z⟩
 ·obtain ⟨m,⟨o,_,_,ho,_⟩,_⟩ := I.loc
  exact free _ o (fun z=>(fU _ z).2.1 rfl) ho I.free
 ·obtain ⟨v,o,ho,hd⟩ := I.cell x c e
  exact free c o (fun z=>(fU c z).2.2.1 x c e rfl) ho (I.aY x c e)
 ·obtain ⟨e,n,ne,nf,d⟩ := I.pin p hp
  have DI:p.1 ∉ ch:=fun z=>(fU p.1 z).2.2.2 p hp rfl
  exact ⟨keep p.1 p.2 ne nf DI e n,free p.1 p.2 DI e n,ne,nf,d⟩
theorem Ag.un {t':Nat} (I:Ag X pins σ H s) (u:Un X.fs [] H H' s.heap h') (aH:Fj X.prog X.w H' h'):Ag X pins σ H' { s with heap:=h',toks:=t' }:=by
 obtain ⟨m,⟨o,es,ep,ho,r⟩,_⟩ := id I.loc
 obtain ⟨sl,hL⟩ := u.any ho I.free (by simp)
 exact I.step (g':=s.gens) (d':=s.drawn) (ch:=[]) (fun _ z=>nomatch z) (fun b o _ hb _ e n=>u.keep b o e n hb (by simp)) (fun b o _ hb _ e n=>u.slot b o e n hb (by simp)) (fun b o _ e n=>u.free b o e n (by simp)) (fun b o _ e=>u.there b o e (by simp)) u.aQ u.cU u.dU (fun m' hm=>by
  obtain ⟨o',rB,rC,lN,r'⟩ := hm
  rw [ho] at lN; cases lN
  exact ⟨_,rB,rC,hL,r'⟩) aH I.bare
theorem Ag.call {g' : Array GenState} {t' : Nat} {d' : Drawn} {ch : List Addr} (I : Ag X pins σ H s) (u : Un (iV X.stack) ch H H' s.heap h') (aH : Fj X.prog X.w H' h') (hg : AllBare g')
  (fU:∀ b ∈ ch,(b ∈ X.ex \/ X.s₀.heap.objs.size <= b) /\ b ≠ X.env.locals /\ (∀ x c,X.env.cells.lookup x = some c -> c ≠ b) /\ ∀ p ∈ X.pn ++ pins,p.1 ≠ b) :
  Ag X pins σ H' { s with heap:=h',gens:=g',drawn:=d',toks:=t' }:=by
 obtain ⟨m,⟨o,es,ep,ho,r⟩,_⟩ := id I.loc
 obtain ⟨sl,hL⟩ := u.any ho I.free fun z=>(fU _ z).2.1 rfl
 exact I.step (ch:=ch) fU (fun b o hL hb hc e n=>u.keep b o e n (fun z=>(List.mem_cons.mp (I.jB b z)).elim hL hb) hc) (fun b o _ _ hc e n=>u.any e n hc) (fun b o hc e n=>u.free b o e n hc) (fun b o hc e=>u.there b o e hc) u.aQ u.cU u.dU (fun m' hm=>by
  obtain ⟨o',rB,rC,lN,r'⟩ := hm
  rw [ho] at lN; cases lN
  exact ⟨_,rB,rC,hL,r'⟩) aH hg
theorem Ag.turned {t' : Nat} {it : Addr} (I : Ag X pins σ H s) (k : ∀ b o, b ≠ it -> s.heap.get? b = some o -> h'.get? b = some o) (hn : H it = none) (hL : it ≠ X.env.locals)
  (h1:it ∈ X.ex \/ X.s₀.heap.objs.size <= it) (h2:∀ x c,X.env.cells.lookup x = some c -> c ≠ it) (h3:∀ p ∈ X.pn ++ pins,p.1 ≠ it):Ag X pins σ H { s with heap:=h',toks:=t' }:=by
 have nit:∀ b u,H b = some u -> b ≠ it:=fun b u e z=>by rw [z,hn] at e; cases e
 refine I.step (g':=s.gens) (d':=s.drawn) (ch:=[it]) (fun b hb=>?_) (fun b o _ _ hc e _=>k b o (fun z=>hc (by simp [z])) e) (fun b o _ _ hc e _=>⟨o.slots,k b o (fun z=>hc (by simp [z])) e⟩) (fun _ _ _ _ n=>n)
  (fun b o hc e=>⟨o,k b o (fun z=>hc (by simp [z])) e⟩) (fun _ _ e=>e) (fun _ _ _ e=>e) (fun b ps e=>⟨#[],by rw [e]; simp⟩) (fun m hm=>?_) (fun b u e=>?_) I.bare
 ·have e:b = it:=by simpa using hb
  subst e
  exact ⟨h1,hL,h2,h3⟩
 ·obtain ⟨o,es,ep,ho,r⟩ := hm
  exact ⟨o,es,ep,k _ o (Ne.symm hL) ho,r⟩
 ·refine (I.aH b u e).eP (fun c v hc q=>k c v ?_ q) (fun _ q=>q) fun _ _ q=>q
  rcases hc with z | z
  ·rw [z]; exact nit b u e
  ·exact nit c _ z
theorem Ag.tok (I:Ag X pins σ H s) (t:Nat):Ag X pins σ H { s with toks:=t }:=I.un (h':=s.heap) (t':=t) Un.refl I.aH
theorem Ag.kept {t':Nat} (I:Ag X pins σ H s) (k:∀ b u,s.heap.get? b = some u -> h'.get? b = some u):Ag X pins σ H { s with heap:=h',toks:=t' }:=I.un (Un.kept k) (I.aH.kept k)
theorem Ag.laid {a : Addr} {o : HO} {t' : Nat} (I : Ag X pins σ H s) (k : ∀ b u, s.heap.get? b = some u -> h'.get? b = some u) (hp : s.heap.objs.size <= a) (new : Bh X.prog X.w (upd H a o) h' a o) :
  Ag X pins σ (upd H a o) { s with heap:=h',toks:=t' }:=I.un (Un.laid k hp (I.aH.fresh hp)) (I.aH.laid k hp new)
theorem Ag.write {x e : Addr} {o : HO} {t' : Nat} (I : Ag X pins σ H s) (mu : kf (H x)) (he : e = x \/ H e = some (.own x)) (k : ∀ b u, b ≠ e -> s.heap.get? b = some u -> h'.get? b = some u) (BZ : ∃ u, h'.get? e = some u)
  (new:Bh X.prog X.w (upd H x o) h' x o):Ag X pins σ (upd H x o) { s with heap:=h',toks:=t' }:=I.un (Un.write mu he k BZ) (I.aH.write mu he k BZ new)
theorem Ag.weak {σ':List (Option V)} (I:Ag X pins σ H s) (hl:σ'.length = σ.length) (w:∀ (i:Nat) v,σ'[i]? = some (some v) -> σ[i]? = some (some v)):Ag X pins σ' H s :=
 ⟨I.ok,I.os,I.bare,I.base,let ⟨m,hn,hl'⟩ := I.loc; ⟨m,hn,fun i x v e1 e2 e3=>hl' i x v e1 (w i v e2) e3⟩,I.cell,I.free,I.aY,I.pin,I.aH,hl.trans I.len⟩
theorem Ag.kE {kG:List (Addr × Obj)} (I:Ag X pins σ H s) (h:∀ p ∈ kG,s.heap.get? p.1 = some p.2 /\ H p.1 = none /\ p.1 ≠ X.env.locals /\ p.1 ∉ X.fs /\ ∀ v,p.2.data ≠ .cell v):Ag X kG σ H s :=
 ⟨I.ok,I.os,I.bare,I.base,I.loc,I.cell,I.free,I.aY,fun p hp=>(List.mem_append.mp hp).elim (fun z=>I.pin p (List.mem_append_left _ z)) (h p),I.aH,I.len⟩
theorem Px {N:List Str} (hN:N.Nodup) {i j:Nat} {x:Str} (a:N[i]? = some x) (b:N[j]? = some x):i = j:=by
 obtain ⟨h1,e1⟩ := List.getElem?_eq_some_iff.mp a
 obtain ⟨h2,e2⟩ := List.getElem?_eq_some_iff.mp b
 exact (List.getElem_inj hN).mp (e1.trans e2.symm)
theorem Nw {M : Model} {A : Around} {E : Value -> Shared -> Prop} {i : Nat} {x : Str} {v : V} {u : Value} {Q : Unit -> Shared -> Prop} (I : Ag X pins σ H s) (hN : X.N.Nodup) (hi : X.N[i]? = some x) (hx : o5 X.env.scope x) (r : Ap v u)
  (h:∀ s',Ag X pins (σ.set i (some v)) H s' -> (∃ a,Heap.SameBut a s.heap s'.heap /\ (a = X.env.locals \/ X.env.cells.lookup x = some a)) -> Q () s') (hf:X.fn x = true \/ X.env.scope.names.lookup x = some .local:=by first | exact .inl rfl | exact .inr rfl | assumption):wpAny M A (storeName X.env x u) Q E s:=by
 obtain ⟨m,hn,hl⟩ := id I.loc
 have dW:(X.env.scope.kind == .class || (X.env.scope.kind == .module && X.env.locals != X.env.globals)) = false:=by rw [I.ok.kind]; rfl
 have hiσ:i < σ.length:=by rw [I.len]; exact (List.getElem?_eq_some_iff.mp hi).1
 have vW:=I.vW
 have tracked:∀ {a:Addr} {h':Heap},(∃ o,s.heap.get? a = some o /\ H a = none) -> Heap.SameBut a s.heap h' -> Fj X.prog X.w H h':=fun {a h'} ha hs b ob e=>by
  obtain ⟨_,_,tE⟩ := ha
  refine (I.aH b ob e).eP (fun c w' hc q=>(hs.2 c ?_).trans q) (fun _ q=>q) fun _ _ q=>q
  rintro rfl
  rcases hc with rfl | hc
  ·rw [tE] at e; cases e
  ·rw [tE] at hc; cases hc
 rcases hx with hk | hk
 ·refine wpAny_storeName_local hk hn (fun h' hn' hs=>?_) dW
  obtain ⟨oL,_,_,DJ,_⟩ := id hn
  refine h _ ⟨I.ok,I.os,I.bare,⟨fun b o e n hb hx=>?_,fun b o e n hb hx=>?_,I.base.free,fun b o e hx=>?_,I.base.aQ,I.base.cU,I.base.dU⟩,⟨_,hn',fun j y v' e1 e2 e3=>?_⟩,fun y c e=>?_,I.free,I.aY,fun p hp=>?_,tracked ⟨oL,DJ,I.free⟩ hs,by simpa using I.len⟩ ⟨_,hs,.inl rfl⟩
  ·exact (hs.2 b (Nat.ne_of_lt (Nat.lt_of_lt_of_le (Heap.lt_size e) I.ok.above))).trans (I.base.keep b o e n hb hx)
  ·obtain ⟨sl,e1⟩ := I.base.slot b o e n hb hx
   exact ⟨sl,(hs.2 b (Nat.ne_of_lt (Nat.lt_of_lt_of_le (Heap.lt_size e) I.ok.above))).trans e1⟩
  ·obtain ⟨o',e1⟩ := I.base.there b o e hx
   exact ⟨o',(hs.2 b (Nat.ne_of_lt (Nat.lt_of_lt_of_le (Heap.lt_size e) I.ok.above))).trans e1⟩
  ·by_cases hj:j = i
   ·subst hj
    rw [hi] at e1; cases e1
    rw [List.getElem?_set_self hiσ] at e2
    cases e2
    exact ⟨u,r,.inl ⟨hk,by simp⟩⟩
   ·rw [List.getElem?_set_ne (Ne.symm hj)] at e2
    obtain ⟨u',r',q⟩ := hl j y v' e1 e2 e3
    refine ⟨u',r',?_⟩
    rcases q with ⟨k,e⟩ | ⟨k,c,e,z⟩
    ·refine .inl ⟨k,?_⟩
     have:y ≠ x:=fun e=>hj (Px hN e1 (e ▸ hi))
     simp [this,e]
    ·exact .inr ⟨k,c,e,z.sameBut hs (vW y c e)⟩
  ·obtain ⟨w',z⟩ := I.cell y c e
   exact ⟨w',z.sameBut hs (vW y c e)⟩
  ·obtain ⟨e,n,ne,nf,d⟩ := I.pin p hp
   exact ⟨(hs.2 p.1 ne).trans e,n,ne,nf,d⟩
 ·have OS : X.fn x = true := by
   rcases hf with z | z
   ·exact z
   ·rw [z] at hk; cases hk
  obtain ⟨c,hc⟩ := I.ok.has x (.inl hk)
  obtain ⟨w',z⟩ := I.cell x c hc
  refine wpAny_storeName_cell I.ok.kind hk hc z (fun h' eZ hs=>?_)
  obtain ⟨oc,hoc,OT⟩ := id z
  refine h { s with heap:=h' } ⟨I.ok,I.os,I.bare,⟨fun b o e n hb hx=>?_,fun b o e n hb hx=>?_,I.base.free,fun b o e hx=>?_,I.base.aQ,I.base.cU,I.base.dU⟩,⟨m,hn.sameBut hs (Ne.symm (vW x c hc)),fun j y v' e1 e2 e3=>?_⟩,fun y c' e=>?_,I.free,I.aY,fun p hp=>?_,tracked ⟨oc,hoc,I.aY x c hc⟩ hs,by simpa using I.len⟩ ⟨c,hs,.inr hc⟩
  ·exact (hs.2 b (Nat.ne_of_lt (Nat.lt_of_lt_of_le (Heap.lt_size e) (I.ok.vV x c OS hc)))).trans (I.base.keep b o e n hb hx)
  ·obtain ⟨sl,e1⟩ := I.base.slot b o e n hb hx
   exact ⟨sl,(hs.2 b (Nat.ne_of_lt (Nat.lt_of_lt_of_le (Heap.lt_size e) (I.ok.vV x c OS hc)))).trans e1⟩
  ·obtain ⟨o',e1⟩ := I.base.there b o e hx
   exact ⟨o',(hs.2 b (Nat.ne_of_lt (Nat.lt_of_lt_of_le (Heap.lt_size e) (I.ok.vV x c OS hc)))).trans e1⟩
  ·by_cases hj:j = i
   ·subst hj
    rw [hi] at e1; cases e1
    rw [List.getElem?_set_self hiσ] at e2
    cases e2
    exact ⟨u,r,.inr ⟨.inl hk,c,hc,eZ⟩⟩
   ·rw [List.getElem?_set_ne (Ne.symm hj)] at e2
    obtain ⟨u',r',q⟩ := hl j y v' e1 e2 e3
    refine ⟨u',r',?_⟩
    rcases q with q | ⟨k,c',e,z'⟩
    ·exact .inl q
    ·refine .inr ⟨k,c',e,z'.sameBut hs ?_⟩
     rintro rfl
     exact hj (Px hN e1 (I.ok.inj _ _ _ e hc ▸ hi))
  ·by_cases hcc:c' = c
   ·subst hcc; exact ⟨_,eZ⟩
   ·obtain ⟨w2,z2⟩ := I.cell y c' e
    exact ⟨w2,z2.sameBut hs hcc⟩
  ·obtain ⟨e,n,ne,nf,d⟩ := I.pin p hp
   refine ⟨(hs.2 p.1 ?_).trans e,n,ne,nf,d⟩
   intro q
   rw [q,hoc] at e
   have q':oc = p.2:=Option.some.inj e
   exact d w' (by rw [<- q']; exact OT)
theorem Qo {M : Model} {A : Around} {E : Value -> Shared -> Prop} {i : Nat} {x : Str} {v : V} {u : Value} {Q : Unit -> Shared -> Prop} (I : Ag X pins σ H s) (hN : X.N.Nodup) (hi : X.N[i]? = some x) (hx : o5 X.env.scope x) (r : Ap v u)
  (h:∀ s',Ag X pins (σ.set i (some v)) H s' -> Q () s') (hf:X.fn x = true \/ X.env.scope.names.lookup x = some .local:=by first | exact .inl rfl | exact .inr rfl | assumption):wpAny M A (storeName X.env x u) Q E s :=
 Nw I hN hi hx r (fun s' I' _=>h s' I') hf
theorem Ag.DK {s' : Shared} {ch : List Addr} (I : Ag X pins σ H s) (ho : s'.os = s.os) (u : Un (iV X.stack) ch H H' s.heap s'.heap) (aH : Fj X.prog X.w H' s'.heap) (hg : AllBare s'.gens)
  (fU:∀ b ∈ ch,(b ∈ X.ex \/ X.s₀.heap.objs.size <= b) /\ b ≠ X.env.locals /\ (∀ x c,X.env.cells.lookup x = some c -> c ≠ b) /\ ∀ p ∈ X.pn ++ pins,p.1 ≠ b):Ag X pins σ H' s':=by
 obtain ⟨h',g',d',t',o'⟩ := s'
 have e:o' = s.os:=ho
 subst e
 exact I.call (g':=g') (t':=t') (d':=d') u aH hg fU
end
abbrev XK:=Value -> Option Addr -> Hp -> Prop
abbrev St:=List (Option V)
abbrev VK:=V -> Hp -> Prop
abbrev TE:=St -> Hp -> VK -> Prop
abbrev TT:=St -> Hp -> (Bool -> Hp -> Prop) -> Prop
abbrev TA:=St -> Hp -> (List V -> Hp -> Prop) -> Prop
set_option genInjectivity false in
set_option genSizeOf false in
structure Gp where
 nx:St -> Hp -> Prop
 rt:VK
 bk:St -> Hp -> Prop:=fun _ _=>False
 ct:St -> Hp -> Prop:=fun _ _=>False
abbrev TS:=Gp -> St -> Hp -> Prop
def EP (X:Cx) (pins:List (Addr × Obj)) (σ:St) (Q:VK) (u:Value) (s':Shared):Prop := ∃ v H',Ag X pins σ H' s' /\ Ap v u /\ Q v H'
def TP (X:Cx) (pins:List (Addr × Obj)) (σ:St) (Q:Bool -> Hp -> Prop) (b:Bool) (s':Shared):Prop := ∃ H',Ag X pins σ H' s' /\ Q b H'
def AP (X:Cx) (pins:List (Addr × Obj)) (σ:St) (Q:List V -> Hp -> Prop) (us:List Value) (s':Shared):Prop := ∃ vs H',Ag X pins σ H' s' /\ As vs us /\ Q vs H'
def SP (X:Cx) (pins:List (Addr × Obj)) (D:Gp) (f:Flow) (s':Shared):Prop :=
 match f with
 | .next=>∃ σ' H',Ag X pins σ' H' s' /\ D.nx σ' H'
 | .brk=>∃ σ' H',Ag X pins σ' H' s' /\ D.bk σ' H'
 | .cont=>∃ σ' H',Ag X pins σ' H' s' /\ D.ct σ' H'
 | .ret u=>∃ v σ' H',Ag X pins σ' H' s' /\ Ap v u /\ D.rt v H'
def PE (X:Cx) (e:Expr) (t:TE):Prop :=
 ∀ (pins:List (Addr × Obj)) (s:Shared) (σ:St) (H:Hp) (Q:VK),Ag X pins σ H s -> t σ H Q -> wpAny (model X.prog X.w) X.A (eval e X.env) (EP X pins σ Q) X.xe s
def PT (X:Cx) (e:Expr) (t:TT):Prop :=
 ∀ (pins:List (Addr × Obj)) (s:Shared) (σ:St) (H:Hp) (Q:Bool -> Hp -> Prop),Ag X pins σ H s -> t σ H Q -> wpAny (model X.prog X.w) X.A (isTrue e X.env (eval e X.env)) (TP X pins σ Q) X.xe s
def PW (X:Cx) (e:Expr) (t:TT):Prop :=
 ∀ (whole:Sem Value) (pins:List (Addr × Obj)) (s:Shared) (σ:St) (H:Hp) (Q:Bool -> Hp -> Prop),Ag X pins σ H s -> t σ H Q -> wpAny (model X.prog X.w) X.A (isTrue e X.env whole) (TP X pins σ Q) X.xe s
theorem PW.pt {X:Cx} {e:Expr} {t:TT} (h:PW X e t):PT X e t:=h _
def PA (X:Cx) (es:List Expr) (t:TA):Prop :=
 ∀ (pos:Pos) (pins:List (Addr × Obj)) (s:Shared) (σ:St) (H:Hp) (Q:List V -> Hp -> Prop),Ag X pins σ H s -> t σ H Q -> wpAny (model X.prog X.w) X.A (spliced (backTo pos (starEach es X.env))) (AP X pins σ Q) X.xe s
def PS (X:Cx) (st:Stmt) (t:TS):Prop :=
 ∀ (pins:List (Addr × Obj)) (s:Shared) (σ:St) (H:Hp) (D:Gp),Ag X pins σ H s -> t D σ H -> wpAny (model X.prog X.w) X.A (exec st X.env) (SP X pins D) X.xe s
def Ro (X:Cx) (st:List Stmt) (t:TS):Prop :=
 ∀ (pins:List (Addr × Obj)) (s:Shared) (σ:St) (H:Hp) (D:Gp),Ag X pins σ H s -> t D σ H -> wpAny (model X.prog X.w) X.A (execs st X.env) (SP X pins D) X.xe s
theorem C6 {α:Type} {t:Sem α} {Q Q':α -> Shared -> Prop} {M:Model} {A:Around} {E:Value -> Shared -> Prop} {s:Shared} (h:wpAny M A t Q E s) (hQ:∀ a s,Q a s -> Q' a s):wpAny M A t Q' E s:=wpAny_mono h hQ fun _ _ x=>x
section
variable {X:Cx}
def mv (i:Nat):TE:=fun σ H Q=>∃ v,σ[i]? = some (some v) /\ Q v H
def tC (v:V):TE:=fun _ H Q=>Q v H
theorem dj {i:Nat} {x:Str} {pos:Pos} (hN:X.N[i]? = some x) (hv:ql X.env.scope x) (hd:(x == ("__debug__" : Str)) = false:=by decide) (lZ:(x == ("__classdict__" : Str)) = false:=by decide):PE X (.Name x pos) (mv i):=by
 intro pins s σ H Q I h
 obtain ⟨v,e,h⟩ := h
 obtain ⟨m,hn,hl⟩ := I.loc
 obtain ⟨u,r,l⟩ := hl i x v hN e hv
 have fin:EP X pins σ Q u s:=⟨v,H,I,r,h⟩
 rcases l with ⟨hk,hm⟩ | ⟨hk,c,hc,tH⟩
 ·exact wpAny_Name (wpAny_loadName_local I.ok.kind hk hn hm fin) hd
 ·rcases hk with hk | hk
  ·exact wpAny_Name (wpAny_loadName_cell I.ok.kind hk hc tH fin) hd
  ·exact wpAny_Name (wpAny_loadName_free I.ok.kind hk hc tH fin lZ) hd
theorem A9 {i j pos}:PE X (.Constant (.int i) j pos) (tC (.int i)):=fun _ _ _ H _ I h=>wpAny_Constant_int ⟨.int i,H,I.tok _,⟨_,rfl⟩,h⟩
theorem Jc {b j pos}:PE X (.Constant (.bool b) j pos) (tC (.bl b)):=fun _ _ _ H _ I h=>Constant_bool ⟨.bl b,H,I,rfl,h⟩
theorem Ee {j pos}:PE X (.Constant .none j pos) (tC .aL):=fun _ _ _ H _ I h=>Constant_none ⟨.aL,H,I,rfl,h⟩
def Gl (X:Cx) (x:Str):Prop:=X.env.kindOf x = some .globalImplicit
theorem Ou {E : Value -> Shared -> Prop} {pins : List (Addr × Obj)} {s : Shared} {σ : St} {H : Hp} {x : Str} {u : Value} {pos : Pos} {Q : Value -> Shared -> Prop} (I : Ag X pins σ H s) (hg : Gl X x) (hm : X.mg x = some u) (h : Q u s)
  (hd:(x == ("__debug__" : Str)) = false:=by decide):wpAny (model X.prog X.w) X.A (eval (.Name x pos) X.env) Q E s :=
 Calls.Name_function_global I.ok.kind hg (Calls.loadGlobal_global (by rw [I.ok.glob]; exact I.mod.glob.keeps I.bk) hm h) hd
theorem J0 {E : Value -> Shared -> Prop} {pins : List (Addr × Obj)} {s : Shared} {σ : St} {H : Hp} {x : Str} {u : Value} {pos : Pos} {Q : Value -> Shared -> Prop} (I : Ag X pins σ H s) (hg : Gl X x) (hm : X.mg x = none) (hv : bootBuiltins x = some u) (h : Q u s)
  (hn:x ≠ "__name__" := by decide) (hd:(x == ("__debug__" : Str)) = false:=by decide):wpAny (model X.prog X.w) X.A (eval (.Name x pos) X.env) Q E s:=by
 obtain ⟨mb,h1,h2⟩ := I.mod.blt
 exact Calls.Name_function_global I.ok.kind hg (Calls.loadGlobal_builtin (by rw [I.ok.glob]; exact I.mod.glob.keeps I.bk) hm (by rw [I.ok.blt]; exact h1.keeps I.bk) ((h2 x hn).trans hv) h) hd
theorem Zw {x:Str} {v:V} {u:Value} {pos:Pos} (hg:Gl X x) (hm:X.mg x = some u) (r:Ap v u) (hd:(x == ("__debug__" : Str)) = false:=by decide):PE X (.Name x pos) (tC v) :=
 fun _ _ _ H _ I h=>Ou I hg hm ⟨v,H,I,r,h⟩ hd
theorem bd {x:Str} {v:V} {u:Value} {pos:Pos} (hg:Gl X x) (hm:X.mg x = none) (hv:bootBuiltins x = some u) (r:Ap v u) (hn:x ≠ "__name__" := by decide) (hd:(x == ("__debug__" : Str)) = false:=by decide):PE X (.Name x pos) (tC v) :=
 fun _ _ _ H _ I h=>J0 I hg hm hv ⟨v,H,I,r,h⟩ hn hd
variable {a b:Expr} {ta tb:TE} {pos:Pos}
def PC (X:Cx) (op:CmpOp) (a b:Expr) (t:TE):Prop :=
 ∀ (pins:List (Addr × Obj)) (s:Shared) (σ:St) (H:Hp) (Q:VK),Ag X pins σ H s -> t σ H Q ->
  wpAny (model X.prog X.w) X.A (eval a X.env) (fun v s₁=>wpAny (model X.prog X.w) X.A (eval b X.env) (fun u s₂=>wpAny (model X.prog X.w) X.A (compareOp op v u) (EP X pins σ Q) X.xe s₂) X.xe s₁) X.xe s
def tB (t:TE):TT:=fun σ H Q=>t σ H fun x H1=>∃ c,x = .bl c /\ Q c H1
theorem Ic {op:CmpOp} {t:TE} (h:PC X op a b t) (h1:behindInMarks op b = false:=by first | exact DL _ (by decide) (by decide) | rfl):PT X (.Compare a [op] [b] pos) (tB t):=by
 intro pins s σ H Q I hw
 refine wpAny_isTrue_Compare1 (C6 (h pins s σ H _ I hw) fun v s1 h1=>C6 h1 fun u s2 h2=>C6 h2 fun c s3 ⟨x,H1,I1,r1,q1⟩=>?_) h1
 obtain ⟨d,rfl,q⟩ := q1
 cases r1
 exact wpAny_truthy_bool ⟨H1,I1,q⟩
theorem Dt {e:Expr} {t:TE} (h:PE X e t) (he:∀ whole,isTrue e X.env whole = (do let v <- whole; standAt e.pos; holding [v] (truthy v)):=by intro _; rfl):PT X e (tB t):=by
 intro pins s σ H Q I hw
 refine isTrue_plain (C6 (h pins s σ H _ I hw) fun v s1 ⟨x,H1,I1,r1,q1⟩=>?_) (he _)
 obtain ⟨d,rfl,q⟩ := q1
 cases r1
 exact wpAny_truthy_bool ⟨H1,I1,q⟩
variable {tA qN:TT} {rest:List Expr}
def oz (t:TT):TT:=fun σ H Q=>t σ H fun c H1=>Q (!c) H1
theorem Pk (ha:PT X a tA):PW X (.BoolOp .And [a] pos) tA:=by
 intro wh pins s σ H Q I h
 refine isTrue_and (C6 (ha pins s σ H Q I h) fun c s1 e=>?_)
 cases c with
 | true=>exact isTrue_and_nil e
 | false=>exact e
theorem L7 (ha:PT X a tA):PW X (.BoolOp .Or [a] pos) tA:=by
 intro wh pins s σ H Q I h
 refine isTrue_or (C6 (ha pins s σ H Q I h) fun c s1 e=>?_)
 cases c with
 | false=>exact isTrue_or_nil e
 | true=>exact e
theorem Fc (ha:PT X a tA):PT X (.UnaryOp .Not a pos) (oz tA):=by
 intro pins s σ H Q I h
 exact isTrue_not (ha pins s σ H (fun c H1=>Q (!c) H1) I h)
theorem Pe {op} {t:TE} (h:PE X a t):PE X (.BoolOp op [a] pos) t:=fun pins s σ H Q I hw=>BoolOp_one (h pins s σ H Q I hw)
def u9 (t:TT) (ta tb:TE):TE:=fun σ H Q=>t σ H fun c H1=>if c = true then ta σ H1 Q else tb σ H1 Q
theorem Xx {c:Expr} (hc:PT X c tA) (ha:PE X a ta) (hb:PE X b tb):PE X (.IfExp c a b pos) (u9 tA ta tb):=by
 intro pins s σ H Q I h
 refine wpAny_IfExp (C6 (hc pins s σ H _ I h) fun d s1 aO=>?_)
 obtain ⟨H1,I1,q1⟩ := aO
 cases d with
 | true=>exact ha pins s1 σ H1 Q I1 q1
 | false=>exact hb pins s1 σ H1 Q I1 q1
end
def B6 (K:PySem.W.Frag) (H:Hp) (a:Addr) (xs:List V):Prop :=
 Rd H a (.lst xs) \/
  ∃ (o:Obj) (aC:Array Value) (n:Nat),K.lookup a = some o /\ o.cls = .type "list" /\ o.dict = none /\ o.data = .seq aC n /\ aC.size <= sizeLine /\ As xs aC.toList
def C0 (K:PySem.W.Frag) (H:Hp) (a:Addr) (xs:List V):Prop :=
 Rd H a (.tup xs) \/
  ∃ (o:Obj) (aC:Array Value) (n:Nat),K.lookup a = some o /\ o.cls = .type "tuple" /\ o.data = .seq aC n /\ aC.size <= sizeLine /\ As xs aC.toList
def pc:Value -> Option V
 | .none=>some .aL
 | .bool b=>some (.bl b)
 | .int i _=>some (.int i)
 | .str x _=>some (.str x)
 | .bytes b _=>some (.kC b)
 | .float b _=>some (.vU b)
 | .ref a=>some (.ref a)
 | .type n=>some (.ty n)
 | _=>none
theorem Ap.abs {x:V} {u:Value} (r:Ap x u):pc u = some x:=by
 cases x with
 | aL=>cases r; rfl
 | bl _=>cases r; rfl
 | int _=>obtain ⟨t,rfl⟩ := r; rfl
 | str _=>obtain ⟨t,rfl⟩ := r; rfl
 | kC _=>obtain ⟨t,rfl⟩ := r; rfl
 | vU _=>obtain ⟨t,rfl⟩ := r; rfl
 | ref _=>cases r; rfl
 | ty _=>cases r; rfl
theorem Ap.inj {x y:V} {u:Value} (r:Ap x u) (q:Ap y u):x = y:=Option.some.inj (r.abs.symm.trans q.abs)
theorem As.inj {xs ys:List V} {us:List Value} (h:As xs us) (g:As ys us):xs = ys:=by
 induction h generalizing ys with
 | nil =>
  cases g
  rfl
 | cons r t ih =>
  cases g with
  | cons r' t'=>rw [r.inj r',ih t']
section
variable {X:Cx} {pins:List (Addr × Obj)} {σ:St} {H:Hp} {s:Shared} {a:Addr} {xs ys:List V}
theorem B6.of {K:PySem.W.Frag} (h:H a = some (.lst xs)):B6 K H a xs := .inl (.inl h)
theorem C0.of {K:PySem.W.Frag} (h:H a = some (.tup xs)):C0 K H a xs := .inl (.inl h)
theorem Ag.list (I:Ag X pins σ H s) (h:B6 X.K H a xs):∃ aC:List Value,As xs aC /\ PlainL s.heap a aC.toArray /\ xs.length <= sizeLine:=by
 rcases h with h | ⟨o,aC,n,hk,hc,hd,hs,hz,r⟩
 ·obtain ⟨z,aC,n,r,e⟩ := h.ok I.aH
  exact ⟨aC,r,⟨_,n,e,rfl,rfl,rfl⟩,z⟩
 ·refine ⟨aC.toList,r,⟨o,n,I.eY a o hk,hc,hd,by simpa using hs⟩,?_⟩
  have e:=r.length
  simp only [Array.length_toList] at e
  omega
theorem Ag.tuple (I:Ag X pins σ H s) (h:C0 X.K H a xs):∃ aC:List Value,As xs aC /\ IsTup s.heap a aC.toArray /\ xs.length <= sizeLine:=by
 rcases h with h | ⟨o,aC,n,hk,hc,hs,hz,r⟩
 ·obtain ⟨z,aC,r,p⟩ := h.ok I.aH
  exact ⟨aC,r,p,z.1⟩
 ·refine ⟨aC.toList,r,⟨o,I.eY a o hk,hc,n,by simpa using hs⟩,?_⟩
  have e:=r.length
  simp only [Array.length_toList] at e
  omega
theorem Ag.iH (I:Ag X pins σ H s) (h:B6 X.K H a xs) (h':B6 X.K H a ys):xs = ys:=by
 obtain ⟨aC,r,⟨o,n,e,_,_,d⟩,_⟩ := I.list h
 obtain ⟨its',r',⟨o',n',e',_,_,d'⟩,_⟩ := I.list h'
 rw [e] at e'; cases e'
 rw [d] at d'
 injection d' with d1 _
 have:aC = its':=by simpa using congrArg Array.toList d1
 subst this
 exact r.inj r'
theorem Ag.gJ (I:Ag X pins σ H s) (h:C0 X.K H a xs) (h':C0 X.K H a ys):xs = ys:=by
 obtain ⟨aC,r,⟨o,e,_,n,d⟩,_⟩ := I.tuple h
 obtain ⟨its',r',⟨o',e',_,n',d'⟩,_⟩ := I.tuple h'
 rw [e] at e'; cases e'
 rw [d] at d'
 injection d' with d1 _
 have:aC = its':=by simpa using congrArg Array.toList d1
 subst this
 exact r.inj r'
end
abbrev Cx.eS (X:Cx) (E:Value -> Shared -> Prop):Cx:={ X with xe:=E }
abbrev Cx.qO (X:Cx):Cx:=X.eS fun _ _=>False
theorem Cx.Ok.eS {X:Cx} (ok:X.Ok) (E:Value -> Shared -> Prop):(X.eS E).Ok :=
 ⟨ok.mod,ok.kind,ok.glob,ok.blt,ok.above,ok.inj,ok.has,ok.vV,ok.hd,ok.frames,ok.CA,ok.DH,ok.bs,ok.lY,ok.iZ,ok.jA,ok.cX,ok.rA⟩
theorem Cx.Ok.bH {X:Cx} {E:Value -> Shared -> Prop} (ok:(X.eS E).Ok):X.Ok :=
 ⟨ok.mod,ok.kind,ok.glob,ok.blt,ok.above,ok.inj,ok.has,ok.vV,ok.hd,ok.frames,ok.CA,ok.DH,ok.bs,ok.lY,ok.iZ,ok.jA,ok.cX,ok.rA⟩
section
variable {X:Cx} {pins:List (Addr × Obj)} {σ:St} {H:Hp} {s:Shared} {E:Value -> Shared -> Prop}
theorem Ag.eS (I:Ag X pins σ H s) (E:Value -> Shared -> Prop):Ag (X.eS E) pins σ H s:=⟨I.ok.eS E,I.os,I.bare,I.base,I.loc,I.cell,I.free,I.aY,I.pin,I.aH,I.len⟩
theorem Ag.bH (I:Ag (X.eS E) pins σ H s):Ag X pins σ H s:=⟨I.ok.bH,I.os,I.bare,I.base,I.loc,I.cell,I.free,I.aY,I.pin,I.aH,I.len⟩
theorem SP.bH {D:Gp} {f:Flow} {s':Shared} (h:SP (X.eS E) pins D f s'):SP X pins D f s':=by
 cases f with
 | next=>obtain ⟨σ',H',I,q⟩ := h; exact ⟨σ',H',I.bH,q⟩
 | brk=>obtain ⟨σ',H',I,q⟩ := h; exact ⟨σ',H',I.bH,q⟩
 | cont=>obtain ⟨σ',H',I,q⟩ := h; exact ⟨σ',H',I.bH,q⟩
 | ret u=>obtain ⟨v,σ',H',I,r,q⟩ := h; exact ⟨v,σ',H',I.bH,r,q⟩
theorem PE.qO {e:Expr} {t:TE} (h:PE X.qO e t):PE X e t:=fun pins s σ H Q I hw =>
 wpAny_mono (h pins s σ H Q (I.eS _) hw) (fun _ _ ⟨v,H',I',r,q⟩=>⟨v,H',I'.bH,r,q⟩) fun _ _ z=>False.elim z
theorem PT.qO {e:Expr} {t:TT} (h:PT X.qO e t):PT X e t:=fun pins s σ H Q I hw =>
 wpAny_mono (h pins s σ H Q (I.eS _) hw) (fun _ _ ⟨H',I',q⟩=>⟨H',I'.bH,q⟩) fun _ _ z=>False.elim z
theorem Ro.qO {st:List Stmt} {t:TS} (h:Ro X.qO st t):Ro X st t:=fun pins s σ H D I hw =>
 wpAny_mono (h pins s σ H D (I.eS _) hw) (fun _ _ q=>q.bH) fun _ _ z=>False.elim z
end
section
variable {X:Cx} {st:Stmt} {rest:List Stmt} {t u:TS} {e:Expr} {te:TE} {pos:Pos}
def kr:TS:=fun D σ H=>D.nx σ H
def n8 (t u:TS):TS:=fun D σ H=>t { D with nx:=u D } σ H
theorem Ax:Ro X [] kr:=fun _ _ σ H _ I h=>wpAny_execs_nil ⟨σ,H,I,h⟩
theorem A6 (h1:PS X st t) (h2:Ro X rest u):Ro X (st :: rest) (n8 t u):=by
 intro pins s σ H D I h
 refine wpAny_execs_cons (C6 (h1 pins s σ H { D with nx:=u D } I h) fun f s1 q=>?_)
 cases f with
 | next =>
  obtain ⟨σ',H',I',q⟩ := q
  exact h2 pins s1 σ' H' D I' q
 | ret v=>exact q
 | brk=>exact q
 | cont=>exact q
theorem Ac (h1:PS X st t):Ro X [st] t:=by
 intro pins s σ H D I h
 refine wpAny_execs_cons (C6 (h1 pins s σ H D I h) fun f s1 q=>?_)
 cases f with
 | next=>exact wpAny_execs_nil q
 | ret v=>exact q
 | brk=>exact q
 | cont=>exact q
theorem Ag.quiet {pins:List (Addr × Obj)} {σ:St} {H:Hp} {s:Shared} (I:Ag X pins σ H s):interactive X.env = false:=by simp [interactive,I.ok.kind]
def ki (te:TE):TS:=fun D σ H=>te σ H fun _ H1=>D.nx σ H1
theorem Cb (he:PE X e te) (hs:swapsWith e none pos.line X.env = pure false:=by rfl):PS X (.Expr e pos) (ki te):=by
 intro pins s σ H D I h
 exact wpAny_Expr_any (C6 (he pins s σ H _ I h) fun v s1 ⟨x,H1,I1,r1,q1⟩=>⟨σ,H1,I1,q1⟩) I.quiet hs
def qx (te:TE):TS:=fun D σ H=>te σ H D.rt
theorem Ar (he:PE X e te):PS X (.Return (some e) pos) (qx te):=by
 intro pins s σ H D I h
 exact wpAny_Return_some (C6 (he pins s σ H _ I h) fun v s1 ⟨x,H1,I1,r1,q1⟩=>⟨x,σ,H1,I1,r1,q1⟩)
def qc (c:TT) (t u:TS):TS:=fun D σ H=>c σ H fun b H1=>if b = true then t D σ H1 else u D σ H1
theorem Db {c:Expr} {a b:List Stmt} {tc:TT} (hc:PT X c tc) (ha:Ro X a t) (hb:Ro X b u):PS X (.If c a b pos) (qc tc t u):=by
 intro pins s σ H D I h
 refine wpAny_If (C6 (hc pins s σ H _ I h) fun d s1 aO=>?_)
 obtain ⟨H1,I1,q1⟩ := aO
 cases d with
 | true=>exact ha pins s1 σ H1 D I1 q1
 | false=>exact hb pins s1 σ H1 D I1 q1
def gy:TS:=fun _ _ _=>False
theorem K5:PS X st gy:=fun _ _ _ _ _ _ h=>h.elim
end
abbrev TG:=V -> St -> Hp -> (St -> Hp -> Prop) -> Prop
abbrev Zg:=List V -> St -> Hp -> (St -> Hp -> Prop) -> Prop
def PG (X:Cx) (target:Expr) (t:TG):Prop :=
 ∀ (pins:List (Addr × Obj)) (s:Shared) (σ:St) (H:Hp) (v:V) (u:Value) (Q:St -> Hp -> Prop),Ag X pins σ H s -> Ap v u -> t v σ H Q ->
  wpAny (model X.prog X.w) X.A (assign target X.env u) (fun _ s'=>∃ σ' H',Ag X pins σ' H' s' /\ Q σ' H') X.xe s
def nw (X:Cx) (ts:List Expr) (t:Zg):Prop :=
 ∀ (pins:List (Addr × Obj)) (s:Shared) (σ:St) (H:Hp) (vs:List V) (us:List Value) (Q:St -> Hp -> Prop),Ag X pins σ H s -> As vs us -> t vs σ H Q ->
  wpAny (model X.prog X.w) X.A (assignInOrder ((assignEach ts X.env).map (·.2)) us) (fun _ s'=>∃ σ' H',Ag X pins σ' H' s' /\ Q σ' H') X.xe s
abbrev fh:=V -> V -> V -> Hp -> (Hp -> Prop) -> Prop
def lf (X:Cx) (t:fh):Prop :=
 ∀ (pins:List (Addr × Obj)) (s:Shared) (σ:St) (H:Hp) (o i v:V) (ov iv u:Value) (Q:Hp -> Prop),Ag X pins σ H s -> Ap o ov -> Ap i iv -> Ap v u -> t o i v H Q ->
  wpAny (model X.prog X.w) X.A (setItem ov iv u) (fun _ s'=>∃ H',Ag X pins σ H' s' /\ Q H') X.xe s
section
variable {X:Cx} {pos:Pos}
def Fn (i:Nat):TG:=fun v σ H Q=>Q (σ.set i (some v)) H
theorem Aw {i:Nat} {x:Str} (hN:X.N.Nodup) (hi:X.N[i]? = some x) (hx:o5 X.env.scope x) (hf:X.fn x = true \/ X.env.scope.names.lookup x = some .local:=by first | exact .inl rfl | exact .inr rfl | assumption):PG X (.Name x pos) (Fn i):=by
 intro pins s σ H v u Q I r h
 exact wpAny_assign_Name (Qo I hN hi hx r (fun s' I'=>⟨_,H,I',h⟩) hf)
def iw:Zg:=fun vs σ H Q=>vs = [] /\ Q σ H
def N5 (t:TG) (u:Zg):Zg:=fun vs σ H Q=>∃ v r,vs = v :: r /\ t v σ H fun σ' H'=>u r σ' H' Q
theorem Hh:nw X [] iw:=by
 intro pins s σ H vs us Q I r h
 obtain ⟨e,h⟩ := h
 subst e
 cases r
 exact assignInOrder_nil ⟨σ,H,I,h⟩
theorem Cy {e : Expr} {es : List Expr} {t : TG} {u : Zg} (h1 : PG X e t) (h2 : nw X es u)
  (hs:(assignEach (e :: es) X.env).map (·.2) = assign e X.env :: (assignEach es X.env).map (·.2):=by rfl):nw X (e :: es) (N5 t u):=by
 intro pins s σ H vs us Q I r h
 obtain ⟨v,vr,e1,h⟩ := h
 subst e1
 cases r with
 | cons r rr =>
  rw [hs]
  refine assignInOrder_cons (C6 (h1 pins s σ H _ _ _ I r h) fun _ s1 aO=>?_)
  obtain ⟨σ1,H1,I1,q1⟩ := aO
  exact h2 pins s1 σ1 H1 _ _ Q I1 rr q1
def Zh (K:PySem.W.Frag) (n:Nat) (t:Zg):TG:=fun v σ H Q=>∃ a xs,v = .ref a /\ C0 K H a xs /\ xs.length = n /\ t xs σ H Q
theorem iq {es : List Expr} {k : Nat} {t : Zg} {n : Nat} (hc : X.calm = true) (h : nw X es t)
  (hn:(assignEach es X.env).length = n:=by rfl) (bS:(assignEach es X.env).findIdx? (·.1) = none:=by rfl):PG X (.Tuple es k pos) (Zh X.K n t):=by
 intro pins s σ H v u Q I r hw
 obtain ⟨a,xs,e1,hq,hl,hw⟩ := hw
 subst e1
 cases r
 obtain ⟨aC,rv,ht,hz⟩ := I.tuple hq
 refine assign_Tuple_tuple (I.ok.hd hc) ht (by simp [hn,<- hl,rv.length]) bS fun h' hx=>?_
 have I1:Ag X pins σ H { s with heap:=h' }:=I.kept (t':=s.toks) fun b o e=>hx b o (Nat.ne_of_lt (Heap.lt_size e)) e
 exact h pins _ σ H xs _ Q I1 (by simpa using rv) hw
def oh (to ti:TE) (t:fh):TG:=fun v σ H Q=>to σ H fun o H1=>ti σ H1 fun i H2=>t o i v H2 fun H3=>Q σ H3
theorem Y6 {o i : Expr} {to ti : TE} {t : fh} (ho : PE X o to) (hi : PE X i ti) (hs : lf X t)
  (ha:∀ v,assign (.Subscript o i pos) X.env v = (do
   let ov <- holding [v] (eval o X.env)
   let iv <- holding [v,ov] (eval i X.env)
   standAt pos
   holding [v,ov,iv] (setItem ov iv v)
   release [v,ov,iv] []):=by intro _; rfl):PG X (.Subscript o i pos) (oh to ti t):=by
 intro pins s σ H v u Q I r h
 rw [ha]
 refine wpAny_bind (wpAny_holding (C6 (ho pins s σ H _ I h) fun ov s1 aO=>?_))
 obtain ⟨x,H1,I1,r1,q1⟩ := aO
 refine wpAny_bind (wpAny_holding (C6 (hi pins s1 σ H1 _ I1 q1) fun iv s2 aO=>?_))
 obtain ⟨y,H2,I2,r2,q2⟩ := aO
 refine wpAny_bind (wpAny_standAt (wpAny_bind (wpAny_holding (C6 (hs pins s2 σ H2 x y v ov iv u _ I2 r1 r2 r q2) fun _ s3 aO=>?_))))
 obtain ⟨H3,I3,q3⟩ := aO
 exact wpAny_release ⟨σ,H3,I3,q3⟩
def kg (te:TE) (g:TG):TS:=fun D σ H=>te σ H fun x H1=>g x σ H1 D.nx
theorem Y8 {tg e : Expr} {te : TE} {g : TG} (he : PE X e te) (hg : PG X tg g) (hs : swapsWithSole [tg] e pos.line X.env = pure false := by rfl) (hw : swappedStores [tg] e X.env = pure none := by rfl)
  (h1:(assignEach [tg] X.env).map (·.2) = [assign tg X.env]:=by rfl):PS X (.Assign [tg] e pos) (kg te g):=by
 intro pins s σ H D I h
 refine wpAny_Assign_stores (C6 (he pins s σ H _ I h) fun v s1 ⟨x,H1,I1,r1,q1⟩=>?_) hs hw
 rw [h1]
 exact C6 (hg pins s1 σ H1 x v _ I1 r1 q1) fun _ s2 q=>q
theorem Ah {i : Nat} {x : Str} {e : Expr} {te : TE} {pos' : Pos} (hN : X.N.Nodup) (hi : X.N[i]? = some x) (hx : o5 X.env.scope x) (he : PE X e te) (hs : swapsWith e (some (.Name x pos')) pos.line X.env = pure false := by rfl) (hf : X.fn x = true \/ X.env.scope.names.lookup x = some .local := by first | exact .inl rfl | exact .inr rfl | assumption) :
  PS X (.Assign [.Name x pos'] e pos) (kg te (Fn i)):=by
 intro pins s σ H D I h
 refine wpAny_Assign_Name (C6 (he pins s σ H _ I h) fun v s1 ⟨y,H1,I1,r1,q1⟩=>?_) hs
 exact Qo I1 hN hi hx r1 (fun s2 I2=>⟨_,H1,I2,q1⟩) hf
end
section
variable {X:Cx} {pos:Pos}
def Pb (c:TT) (tb:TS):TS:=fun D σ H=>∃ W:Nat -> St -> Hp -> Prop,(∃ m,W m σ H) /\ ∀ m σ H,W m σ H ->
 c σ H fun b H1=>if b = true then ∃ N:St -> Hp -> Prop,(∀ σ' H',N σ' H' -> ∃ m',m' < m /\ W m' σ' H') /\ tb { D with nx:=N,ct:=N,bk:=D.nx } σ H1 else D.nx σ H1
theorem Lc {c:Expr} {body:List Stmt} {tc:TT} {tb:TS} (hp:PassesOwn (model X.prog X.w) X.A X.env X.xe) (hc:PT X c tc) (hb:Ro X body tb):PS X (.While c body [] pos) (Pb tc tb):=by
 intro pins s σ H D I h
 obtain ⟨W,⟨m0,w0⟩,turn⟩ := h
 refine wpAny_While (codeAny_whileLoop (fun n s'=>∃ σ' H',Ag X pins σ' H' s' /\ W n σ' H') ?_ m0 ⟨σ,H,I,w0⟩)
 rintro n s1 ⟨σ1,H1,I1,w1⟩
 refine wpAny_passesOwn hp (C6 (hc pins s1 σ1 H1 _ I1 (turn n σ1 H1 w1)) fun b s2 aO=>?_)
 obtain ⟨H2,I2,q2⟩ := aO
 cases b with
 | true =>
  obtain ⟨N,hN,q2⟩ := q2
  rw [if_pos rfl]
  refine wpAny_passesOwn hp (C6 (hb pins s2 σ1 H2 _ I2 q2) fun f s3 q3=>?_)
  cases f with
  | next =>
   obtain ⟨σ3,H3,I3,n3⟩ := q3
   obtain ⟨m',hm,w3⟩ := hN σ3 H3 n3
   exact ⟨m',hm,σ3,H3,I3,w3⟩
  | cont =>
   obtain ⟨σ3,H3,I3,n3⟩ := q3
   obtain ⟨m',hm,w3⟩ := hN σ3 H3 n3
   exact ⟨m',hm,σ3,H3,I3,w3⟩
  | brk=>exact q3
  | ret v=>exact q3
 | false =>
  rw [if_neg Bool.false_ne_true]
  exact wpAny_execs_nil ⟨σ1,H2,I2,q2⟩
end
set_option genInjectivity false in
set_option genSizeOf false in
structure It where
 go:Nat -> Hp -> Prop
 vX:Nat -> Hp -> V -> Hp -> Prop
 stop:Nat -> Hp -> Prop
def Kx (X:Cx) (pins:List (Addr × Obj)) (H:Hp) (b:Addr):Prop :=
 H b = none /\ b ≠ X.env.locals /\ b ∉ X.fs /\ (b ∈ X.ex \/ X.s₀.heap.objs.size <= b) /\ (∀ x c,X.env.cells.lookup x = some c -> c ≠ b) /\ ∀ p ∈ X.pn ++ pins,p.1 ≠ b
theorem Ag.kP {X:Cx} {pins:List (Addr × Obj)} {σ:St} {H H':Hp} {s:Shared} {b:Addr} (I:Ag X pins σ H s) (hb:s.heap.objs.size <= b) (hn:H' b = none):Kx X pins H' b:=by
 refine ⟨hn,Nat.ne_of_gt (Nat.lt_of_lt_of_le I.lt hb),I.OQ hb,.inr (Nat.le_trans I.sz hb),fun x c e z=>?_,fun p hp z=>?_⟩
 ·obtain ⟨v,q⟩ := I.cell x c e
  exact absurd (Nat.lt_of_lt_of_le q.lt (by rw [z]; exact hb)) (Nat.lt_irrefl _)
 ·exact absurd (Nat.lt_of_lt_of_le (Heap.lt_size (I.pin p hp).1) (by rw [z]; exact hb)) (Nat.lt_irrefl _)
structure Sg (P:Program) (w:World) (K:PySem.W.Frag) (tg:Expr) (J:It) (fp:List Addr) (it:Addr) (tn:Nat -> Heap -> Prop):Prop where
 mem:it ∈ fp
 obj:∀ i h,tn i h -> ∀ b ∈ fp,∃ o,h.get? b = some o /\ ∀ v,o.data ≠ .cell v
 keep:∀ i h h',tn i h -> (∀ b ∈ fp,∀ o,h.get? b = some o -> h'.get? b = some o) -> tn i h'
 item:∀ (X:Cx),X.prog = P -> X.w = w -> X.K = K -> X.calm = true -> ∀ (i:Nat) (pins:List (Addr × Obj)) (s:Shared) (σ:St) (H:Hp) (E:Value -> Shared -> Prop),Ag X pins σ H s -> (∀ b ∈ fp,Kx X pins H b) -> tn i s.heap -> J.go i H ->
  wpAny (model P w) X.A (pyNext (.ref it)) (fun r s1=>∃ u,r = some u /\
   wpAny (model P w) X.A (letOwnedTupleGo tg (.ref it) u) (fun _ s2=>∃ x H',Ag X pins σ H' s2 /\ Ap x u /\ J.vX i H x H' /\ tn (i + 1) s2.heap /\ ∀ b ∈ fp,H' b = none) E s1) E s
 done:∀ (X:Cx),X.prog = P -> X.w = w -> X.K = K -> X.calm = true -> ∀ (i:Nat) (pins:List (Addr × Obj)) (s:Shared) (σ:St) (H:Hp) (E:Value -> Shared -> Prop),Ag X pins σ H s -> (∀ b ∈ fp,Kx X pins H b) -> tn i s.heap -> J.stop i H ->
  wpAny (model P w) X.A (pyNext (.ref it)) (fun r s1=>r = none /\ Ag X pins σ H s1) E s
 self:∀ (A:Around) (i:Nat) (s:Shared) (Q:Value -> Shared -> Prop) (E:Value -> Shared -> Prop),tn i s.heap -> Q (.ref it) s -> wpAny (model P w) A (pyIter (.ref it)) Q E s
abbrev TI:=St -> Hp -> (It -> Hp -> Prop) -> Prop
def qz (X:Cx) (pins:List (Addr × Obj)) (σ:St) (tg:Expr) (R:It -> Hp -> Prop) (MR:Value) (s2:Shared):Prop :=
 ∃ (it:Addr) (fp:List Addr) (tn:Nat -> Heap -> Prop) (J:It) (H':Hp),MR = .ref it /\ Ag X pins σ H' s2 /\ Sg X.prog X.w X.K tg J fp it tn /\ tn 0 s2.heap /\ (∀ b ∈ fp,Kx X pins H' b) /\ R J H'
def PI (X:Cx) (tg iter:Expr) (wi:TI):Prop :=
 ∀ (pins:List (Addr × Obj)) (s:Shared) (σ:St) (H:Hp) (R:It -> Hp -> Prop),Ag X pins σ H s -> wi σ H R ->
  wpAny (model X.prog X.w) X.A (eval iter X.env) (fun v s1=>wpAny (model X.prog X.w) X.A (pyIter v) (qz X pins σ tg R) X.xe s1) X.xe s
theorem Xr {M : Model} {A : Around} {E : Value -> Shared -> Prop} {s : Shared} {tg : Expr} {it : Addr} {u : Value} {o : Obj} {n : String} {vs : Array Value} {Q : Unit -> Shared -> Prop} (ho : s.heap.get? it = some o) (hc : o.cls = .type n) (hd : o.data = .fields vs)
  (hn:["enumerate","zip","dict_itemiterator","dict_reverseitemiterator","odict_iterator","itertools.zip_longest","itertools.pairwise"].contains n = false) (hQ:Q () s):wpAny M A (letOwnedTupleGo tg (.ref it) u) Q E s:=by
 unfold letOwnedTupleGo
 cases tg <;> first
  | exact wpAny_pure hQ
  | (cases u <;> first
    | exact wpAny_pure hQ
    | (refine wpAny_bind (wpAny_load ho ?_)
       rw [hc,hd]
       show wpAny M A (if (["enumerate","zip","dict_itemiterator","dict_reverseitemiterator","odict_iterator","itertools.zip_longest","itertools.pairwise"].contains n && vs[0]? == some (rawInt _)) = true then _ else _) Q E s
       rw [if_neg (by intro h; rw [hn,Bool.false_and] at h; cases h)]
       exact wpAny_pure hQ))
def jo (K:PySem.W.Frag) (a:Addr):It :=
 ⟨fun i H=>∃ xs x,B6 K H a xs /\ xs[i]? = some x,fun i H x H'=>H' = H /\ ∀ xs,B6 K H a xs -> xs[i]? = some x,fun i H=>∃ xs,B6 K H a xs /\ xs.length <= i⟩
def jn (K:PySem.W.Frag) (a:Addr):It :=
 ⟨fun i H=>∃ xs x,C0 K H a xs /\ xs[i]? = some x,fun i H x H'=>H' = H /\ ∀ xs,C0 K H a xs -> xs[i]? = some x,fun i H=>∃ xs,C0 K H a xs /\ xs.length <= i⟩
def cy (lo:Int) (n:Nat):It:=⟨fun i _=>i < n,fun i H x H'=>H' = H /\ x = .int (lo + i),fun i _=>n <= i⟩
theorem Wn {P:Program} {w:World} {K:PySem.W.Frag} {tg:Expr} (a it:Addr):Sg P w K tg (jo K a) [it] it (fun i h=>h.IsListIter it a i) where
 mem:=by simp
 obj:=fun i h st b hb=>by
  have e:b = it:=by simpa using hb
  subst e
  obtain ⟨o,e,c,d⟩ := st
  exact ⟨o,e,fun v z=>by rw [d] at z; cases z⟩
 keep:=fun i h h' st k=>st.at fun o e=>k it (by simp) o e
 item:=by
  intro X hP hw hK hc i pins s σ H E I hf st hg
  subst hP hw hK
  obtain ⟨xs,x,hq,hx⟩ := hg
  obtain ⟨aC,rv,p,hz⟩ := I.list hq
  obtain ⟨u,hu,ru⟩ := rv.get hx
  obtain ⟨f0,f1,f2,f3,f4,f5⟩ := hf it (by simp)
  refine wpAny_pyNext_list_item st p.isList (x:=u) (by simpa using hu) fun h' aE sb=>?_
  have I1:Ag X pins σ H { s with heap:=h' }:=I.turned (t':=s.toks) (fun b o hb e=>(sb.2 b hb).trans e) f0 f1 f3 f4 f5
  obtain ⟨o,e,c,d⟩ := id aE
  exact ⟨u,rfl,Xr (s:={ s with heap:=h' }) e c d (by decide) ⟨x,H,I1,ru,⟨rfl,fun ys hy=>by rw [I.iH hy hq]; exact hx⟩,aE,fun b hb=>(hf b hb).1⟩⟩
 done:=by
  intro X hP hw hK hc i pins s σ H E I hf st hg
  subst hP hw hK
  obtain ⟨xs,hq,hx⟩ := hg
  obtain ⟨aC,rv,p,hz⟩ := I.list hq
  obtain ⟨f0,f1,f2,f3,f4,f5⟩ := hf it (by simp)
  have hl:=rv.length
  exact wpAny_pyNext_list_end (I.ok.hd hc) st p.isList (by simp; omega) fun h' eb=>⟨rfl,I.turned (t':=s.toks) (fun b o hb e=>eb b o hb e) f0 f1 f3 f4 f5⟩
 self:=fun _ _ _ _ _ st h=>wpAny_pyIter_listiter st h
theorem Se {P:Program} {w:World} {K:PySem.W.Frag} {tg:Expr} (a it:Addr):Sg P w K tg (jn K a) [it] it (fun i h=>h.IsTupleIter it a i) where
 mem:=by simp
 obj:=fun i h st b hb=>by
  have e:b = it:=by simpa using hb
  subst e
  obtain ⟨o,e,c,d⟩ := st
  exact ⟨o,e,fun v z=>by rw [d] at z; cases z⟩
 keep:=fun i h h' st k=>st.at fun o e=>k it (by simp) o e
 item:=by
  intro X hP hw hK hc i pins s σ H E I hf st hg
  subst hP hw hK
  obtain ⟨xs,x,hq,hx⟩ := hg
  obtain ⟨aC,rv,p,hz⟩ := I.tuple hq
  obtain ⟨u,hu,ru⟩ := rv.get hx
  obtain ⟨f0,f1,f2,f3,f4,f5⟩ := hf it (by simp)
  refine wpAny_pyNext_tuple_item st (show s.heap.IsTuple a aC.toArray from p) (x:=u) (by simpa using hu) fun h' aE sb=>?_
  have I1:Ag X pins σ H { s with heap:=h' }:=I.turned (t':=s.toks) (fun b o hb e=>(sb.2 b hb).trans e) f0 f1 f3 f4 f5
  obtain ⟨o,e,c,d⟩ := id aE
  exact ⟨u,rfl,Xr (s:={ s with heap:=h' }) e c d (by decide) ⟨x,H,I1,ru,⟨rfl,fun ys hy=>by rw [I.gJ hy hq]; exact hx⟩,aE,fun b hb=>(hf b hb).1⟩⟩
 done:=by
  intro X hP hw hK hc i pins s σ H E I hf st hg
  subst hP hw hK
  obtain ⟨xs,hq,hx⟩ := hg
  obtain ⟨aC,rv,p,hz⟩ := I.tuple hq
  obtain ⟨f0,f1,f2,f3,f4,f5⟩ := hf it (by simp)
  have hl:=rv.length
  exact wpAny_pyNext_tuple_end (I.ok.hd hc) st (show s.heap.IsTuple a aC.toArray from p) (by simp; omega) fun h' eb=>⟨rfl,I.turned (t':=s.toks) (fun b o hb e=>eb b o hb e) f0 f1 f3 f4 f5⟩
 self:=fun _ _ _ _ _ st h=>wpAny_pyIter_tupleiter st h
theorem Sh {P:Program} {w:World} {K:PySem.W.Frag} {tg:Expr} (it:Addr) (lo:Int) (n:Nat):Sg P w K tg (cy lo n) [it] it (fun i h=>IsRangeIter h it (lo + (i:Nat) * 1) ((n:Int) - (i:Nat)) 1) where
 mem:=by simp
 obj:=fun i h st b hb=>by
  have e:b = it:=by simpa using hb
  subst e
  exact ⟨_,st,fun v z=>by
   have z':Data.fields _ = Data.cell v:=z
   cases z'⟩
 keep:=fun i h h' st k=>k it (by simp) _ st
 item:=by
  intro X hP hw hK hc i pins s σ H E I hf st hg
  subst hP hw hK
  obtain ⟨f0,f1,f2,f3,f4,f5⟩ := hf it (by simp)
  have W:=Walks.range (prog:=X.prog) (w:=X.w) (I.ok.hd hc) it lo 1 n
  refine W.item i s _ _ hg st fun v h' tk hv aE kk=>?_
  obtain ⟨t,rfl⟩ := hv
  have I1:Ag X pins σ H { s with heap:=h',toks:=tk }:=I.turned (fun b o hb e=>kk b o (by simpa using hb) e) f0 f1 f3 f4 f5
  refine ⟨_,rfl,Xr (s:={ s with heap:=h',toks:=tk }) (n := "range_iterator") aE rfl rfl (by decide) ⟨.int (lo + i),H,I1,⟨t,?_⟩,⟨rfl,rfl⟩,aE,fun b hb=>(hf b hb).1⟩⟩
  rw [Int.mul_one]
 done:=by
  intro X hP hw hK hc i pins s σ H E I hf st hg
  subst hP hw hK
  obtain ⟨f0,f1,f2,f3,f4,f5⟩ := hf it (by simp)
  exact wpAny_pyNext_range_end (I.ok.hd hc) st (by have:n <= i:=hg; omega) fun h' eb=>⟨rfl,I.turned (t':=s.toks) (fun b o hb e=>eb b o hb e) f0 f1 f3 f4 f5⟩
 self:=fun _ _ _ _ _ st h=>wpAny_pyIter_rangeiter st h
section
variable {X:Cx} {tg:Expr}
theorem Rf {pins : List (Addr × Obj)} {σ : St} {H : Hp} {s : Shared} {R : It -> Hp -> Prop} {E : Value -> Shared -> Prop} {lo hi : Int} {t u v : Tok} {tk : Nat} (I : Ag X pins σ H s) (h1 : -(2 ^ 62) <= lo) (h2 : lo < 2 ^ 62) (h3 : -(2 ^ 62) <= hi) (h4 : hi < 2 ^ 62)
  (q:R (cy lo (hi - lo).toNat) H):wpAny (model X.prog X.w) X.A (pyIter (.ref s.heap.objs.size)) (qz X pins σ tg R) E { s with heap:=s.heap.push { cls := .type "range",data := .fields #[.int lo t,.int hi u,.int 1 v] },toks:=tk }:=by
 refine wpAny_pyIter_range (IsRange.new ..) (small_one h1 h2 h3 h4) ?_
 have I1:Ag X pins σ H { s with heap:=s.heap.push { cls := .type "range",data := .fields #[.int lo t,.int hi u,.int 1 v] },toks:=tk }:=I.kept fun b o e=>Heap.get?_push_of_some _ e
 refine ⟨(s.heap.push { cls := .type "range",data := .fields #[.int lo t,.int hi u,.int 1 v] }).objs.size,[(s.heap.push { cls := .type "range",data := .fields #[.int lo t,.int hi u,.int 1 v] }).objs.size],_,_,H,rfl,
  I1.kept (t':=tk) fun b o e=>Heap.get?_push_of_some _ e,Sh _ lo (hi - lo).toNat,?_,fun b hb=>?_,q⟩
 ·have e1:lo + ((0:Nat):Int) * 1 = lo:=by simp
  have e2:(((hi - lo).toNat:Nat):Int) - ((0:Nat):Int) = Builtin.Range.rangeSize lo hi 1:=by rw [rangeSize_one]; split <;> omega
  show IsRangeIter _ _ (lo + ((0:Nat):Int) * 1) ((((hi - lo).toNat:Nat):Int) - ((0:Nat):Int)) 1
  rw [e1,e2]
  exact Heap.get?_push_size _ rfl
 ·have e:b = (s.heap.push { cls := .type "range",data := .fields #[.int lo t,.int hi u,.int 1 v] }).objs.size:=by simpa using hb
  subst e
  exact I1.kP (Nat.le_refl _) (I1.aH.fresh (Nat.le_refl _))
def lr (ta:TA):TI:=fun σ H R=>ta σ H fun vs H1=>∃ j:Int,vs = [.int j] /\ -(2 ^ 62) <= j /\ j < 2 ^ 62 /\ R (cy 0 j.toNat) H1
def l0 (ta:TA):TI:=fun σ H R=>ta σ H fun vs H1=>∃ i j:Int,vs = [.int i,.int j] /\ (-(2 ^ 62) <= i /\ i < 2 ^ 62 /\ -(2 ^ 62) <= j /\ j < 2 ^ 62) /\ R (cy i (j - i).toNat) H1
theorem G9 {a:Expr} {ta:TA} {p pos:Pos} (hg:Gl X "range") (hm:X.mg "range" = none) (ha:PA X [a] ta) (hs:starEach [a] X.env = [(false,eval a X.env)]:=by rfl):PI X tg (.Call (.Name "range" p) [a] [] pos) (lr ta):=by
 intro pins s σ H R I h
 refine Call_ (J0 I hg hm boot_range (PyProof.Rows.callWith_type1 (C6 (ha pos pins s σ H _ I h) fun us s1 ⟨vs,H1,I1,r1,q1⟩=>?_) hs rfl))
 obtain ⟨j,e,q1,q2,q⟩ := q1
 subst e
 cases r1 with
 | cons r rr =>
  cases rr
  obtain ⟨t,rfl⟩ := r
  exact call_range_1 (Rf I1 (by omega) (by omega) q1 q2 (by simpa using q))
theorem Wv {a b : Expr} {ta : TA} {p pos : Pos} (hg : Gl X "range") (hm : X.mg "range" = none) (ha : PA X [a, b] ta) (hs : starEach [a, b] X.env = [(false, eval a X.env), (false, eval b X.env)] := by rfl) (lP : starEach [b] X.env = [(false, eval b X.env)] := by rfl) :
  PI X tg (.Call (.Name "range" p) [a,b] [] pos) (l0 ta):=by
 intro pins s σ H R I h
 refine Call_ (J0 I hg hm boot_range (PyProof.Rows.callWith_type1 (C6 (ha pos pins s σ H _ I h) fun us s1 ⟨vs,H1,I1,r1,q1⟩=>?_) (by rw [hs,lP]) (by rw [lP]; rfl)))
 obtain ⟨i,j,e,⟨q1,q2,q3,q4⟩,q⟩ := q1
 subst e
 cases r1 with
 | cons r rr =>
  cases rr with
  | cons r' rr =>
   cases rr
   obtain ⟨t,rfl⟩ := r
   obtain ⟨t',rfl⟩ := r'
   exact call_range_2 (Rf I1 q1 q2 q3 q4 q)
def qm (wi:TI) (g:TG) (tb:TS):TS:=fun D σ H=>wi σ H fun J H1=>∃ W:Nat -> Nat -> St -> Hp -> Prop,(∃ m,W 0 m σ H1) /\ ∀ i m σ H,W i m σ H ->
 (J.stop i H /\ D.nx σ H) \/ (J.go i H /\ ∃ N:St -> Hp -> Prop,(∀ σ' H',N σ' H' -> ∃ m',m' < m /\ W (i + 1) m' σ' H') /\ ∀ x H',J.vX i H x H' -> g x σ H' fun σ2 H2=>tb { D with nx:=N,ct:=N,bk:=D.nx } σ2 H2)
def L8 (fp:List Addr) (h:Heap):List (Addr × Obj):=fp.filterMap fun b=>(h.get? b).map fun o=>(b,o)
theorem Ev {fp:List Addr} {h:Heap} {b:Addr} {o:Obj} (hb:b ∈ fp) (e:h.get? b = some o):(b,o) ∈ L8 fp h:=List.mem_filterMap.mpr ⟨b,hb,by rw [e]; rfl⟩
theorem V9 {fp:List Addr} {h:Heap} {p:Addr × Obj} (hp:p ∈ L8 fp h):p.1 ∈ fp /\ h.get? p.1 = some p.2:=by
 obtain ⟨b,hb,e⟩ := List.mem_filterMap.mp hp
 cases q:h.get? b with
 | none=>rw [q] at e; cases e
 | some o =>
  rw [q] at e
  have e':(b,o) = p:=Option.some.inj e
  subst e'
  exact ⟨hb,q⟩
theorem Ag.pinned {pins:List (Addr × Obj)} {σ:St} {H:Hp} {s:Shared} {fp:List Addr} (I:Ag X pins σ H s) (hf:∀ b ∈ fp,Kx X pins H b) (ho:∀ b ∈ fp,∃ o,s.heap.get? b = some o /\ ∀ v,o.data ≠ .cell v):Ag X (pins ++ L8 fp s.heap) σ H s :=
 I.kE fun p hp=>(List.mem_append.mp hp).elim (fun z=>I.pin p (List.mem_append_right _ z)) fun z=>by
  obtain ⟨hb,e⟩ := V9 z
  obtain ⟨f0,f1,f2,_⟩ := hf p.1 hb
  obtain ⟨o,e',d⟩ := ho p.1 hb
  rw [e] at e'; cases e'
  exact ⟨e,f0,f1,f2,d⟩
theorem Ag.cY {pins pl:List (Addr × Obj)} {σ:St} {H:Hp} {s:Shared} (I:Ag X (pins ++ pl) σ H s):Ag X pins σ H s:=I.kE fun p hp=>I.pin p (List.mem_append_right _ (List.mem_append_left _ hp))
theorem Cn {iter : Expr} {body : List Stmt} {wi : TI} {g : TG} {tb : TS} {pos : Pos} (hp : PassesOwn (model X.prog X.w) X.A X.env X.xe) (hc : X.calm = true) (hi : PI X tg iter wi) (hg : PG X tg g) (hb : Ro X body tb)
  (hs:∀ x,foldedSetIterable iter X.env x = pure x:=by intro _; rfl):PS X (.For tg iter body [] pos) (qm wi g tb):=by
 intro pins s σ H D I h
 refine wpAny_For (C6 (hi pins s σ H _ I h) fun v s1 h1=>C6 h1 fun MR s2 h2=>?_) hs
 obtain ⟨it,fp,tn,J,H2,e,I2,T,aK,f2,W,⟨m0,w0⟩,turn⟩ := h2
 subst e
 have stat:∀ {H':Hp},(∀ b ∈ fp,H' b = none) -> ∀ b ∈ fp,Kx X pins H' b:=fun hn b hb=>⟨hn b hb,(f2 b hb).2⟩
 refine codeAny_forLoop_any (fun n s'=>∃ i σ' H',Ag X pins σ' H' s' /\ tn i s'.heap /\ (∀ b ∈ fp,H' b = none) /\ W i n σ' H') ?_ m0 ⟨0,σ,H2,I2,aK,fun b hb=>(f2 b hb).1,w0⟩
 rintro n s3 ⟨i,σ3,H3,I3,eU,MS,w3⟩
 rcases turn i n σ3 H3 w3 with ⟨stop,qn⟩ | ⟨go,N,hN,step⟩
 ·refine wpAny_passesOwn hp (C6 (T.done X rfl rfl rfl hc i pins s3 σ3 H3 X.xe I3 (stat MS) eU stop) fun r s4 aO=>?_)
  obtain ⟨hr,I4⟩ := aO
  subst hr
  exact wpAny_execs_nil ⟨σ3,H3,I4,qn⟩
 ·refine wpAny_passesOwn hp (C6 (T.item X rfl rfl rfl hc i pins s3 σ3 H3 X.xe I3 (stat MS) eU go) fun r s4 aO=>?_)
  obtain ⟨u,hr,h4⟩ := aO
  subst hr
  refine wpAny_passesOwn hp (C6 h4 fun _ s5 aO=>?_)
  obtain ⟨x,H5,I5,r5,y5,vY,fr5⟩ := aO
  have I5':=I5.pinned (stat fr5) (T.obj _ _ vY)
  refine wpAny_passesOwn hp (C6 (hg _ s5 σ3 H5 x u _ I5' r5 (step x H5 y5)) fun _ s6 aO=>?_)
  obtain ⟨σ6,H6,I6,q6⟩ := aO
  refine wpAny_passesOwn hp (C6 (hb _ s6 σ6 H6 _ I6 q6) fun f s7 q7=>?_)
  have again:∀ {σ7:St} {H7:Hp},Ag X (pins ++ L8 fp s5.heap) σ7 H7 s7 -> N σ7 H7 -> ∃ m,m < n /\ ∃ i σ' H',Ag X pins σ' H' s7 /\ tn i s7.heap /\ (∀ b ∈ fp,H' b = none) /\ W i m σ' H':=fun {σ7 H7} I7 n7=>by
   obtain ⟨m',hm,w7⟩ := hN σ7 H7 n7
   refine ⟨m',hm,i + 1,σ7,H7,I7.cY,T.keep _ _ _ vY fun b hb o e=>(I7.pin (b,o) (List.mem_append_right _ (List.mem_append_right _ (Ev hb e)))).1,fun b hb=>?_,w7⟩
   obtain ⟨o,e,d⟩ := T.obj _ _ vY b hb
   exact (I7.pin (b,o) (List.mem_append_right _ (List.mem_append_right _ (Ev hb e)))).2.1
  cases f with
  | next=>obtain ⟨σ7,H7,I7,n7⟩ := q7; exact again I7 n7
  | cont=>obtain ⟨σ7,H7,I7,n7⟩ := q7; exact again I7 n7
  | brk=>obtain ⟨σ7,H7,I7,q7⟩ := q7; exact ⟨σ7,H7,I7.cY,q7⟩
  | ret v=>obtain ⟨x7,σ7,H7,I7,r7,q7⟩ := q7; exact ⟨x7,σ7,H7,I7.cY,r7,q7⟩
end
theorem Cq {K : PySem.W.Frag} {a : Addr} {xs : List V} {g : TG} {tb : TS} {D : Gp} {σ : St} {H : Hp} (Pv : Nat -> St -> Hp -> Prop) (h0 : Pv 0 σ H) (hl : ∀ i σ H, i <= xs.length -> Pv i σ H -> B6 K H a xs)
  (hs:∀ i x σ H,xs[i]? = some x -> Pv i σ H -> g x σ H fun σ2 H2=>tb { D with nx:=Pv (i + 1),ct:=Pv (i + 1),bk:=D.nx } σ2 H2) (hd:∀ σ H,Pv xs.length σ H -> D.nx σ H) :
  ∃ W:Nat -> Nat -> St -> Hp -> Prop,(∃ m,W 0 m σ H) /\ ∀ i m σ H,W i m σ H ->
   ((jo K a).stop i H /\ D.nx σ H) \/ ((jo K a).go i H /\ ∃ N:St -> Hp -> Prop,(∀ σ' H',N σ' H' -> ∃ m',m' < m /\ W (i + 1) m' σ' H') /\ ∀ x H',(jo K a).vX i H x H' -> g x σ H' fun σ2 H2=>tb { D with nx:=N,ct:=N,bk:=D.nx } σ2 H2):=by
 refine ⟨fun i m σ H=>m = xs.length - i /\ i <= xs.length /\ Pv i σ H,⟨xs.length,by simp,Nat.zero_le _,h0⟩,?_⟩
 rintro i m σ H ⟨rfl,hi,p⟩
 have q:=hl i σ H hi p
 by_cases aM:i < xs.length
 ·refine .inr ⟨⟨xs,xs[i],q,by simp [aM]⟩,Pv (i + 1),fun σ' H' p'=>⟨xs.length - (i + 1),by omega,rfl,aM,p'⟩,fun x H' y=>?_⟩
  obtain ⟨e,y⟩ := y
  subst e
  exact hs i x σ _ (y xs q) p
 ·have e:i = xs.length:=by omega
  subst e
  exact .inl ⟨⟨xs,q,Nat.le_refl _⟩,hd σ H p⟩
theorem U9 {K : PySem.W.Frag} {a : Addr} {xs : List V} {g : TG} {tb : TS} {D : Gp} {σ : St} {H : Hp} (Pv : Nat -> St -> Hp -> Prop) (h0 : Pv 0 σ H) (hl : ∀ i σ H, i <= xs.length -> Pv i σ H -> C0 K H a xs)
  (hs:∀ i x σ H,xs[i]? = some x -> Pv i σ H -> g x σ H fun σ2 H2=>tb { D with nx:=Pv (i + 1),ct:=Pv (i + 1),bk:=D.nx } σ2 H2) (hd:∀ σ H,Pv xs.length σ H -> D.nx σ H) :
  ∃ W:Nat -> Nat -> St -> Hp -> Prop,(∃ m,W 0 m σ H) /\ ∀ i m σ H,W i m σ H ->
   ((jn K a).stop i H /\ D.nx σ H) \/ ((jn K a).go i H /\ ∃ N:St -> Hp -> Prop,(∀ σ' H',N σ' H' -> ∃ m',m' < m /\ W (i + 1) m' σ' H') /\ ∀ x H',(jn K a).vX i H x H' -> g x σ H' fun σ2 H2=>tb { D with nx:=N,ct:=N,bk:=D.nx } σ2 H2):=by
 refine ⟨fun i m σ H=>m = xs.length - i /\ i <= xs.length /\ Pv i σ H,⟨xs.length,by simp,Nat.zero_le _,h0⟩,?_⟩
 rintro i m σ H ⟨rfl,hi,p⟩
 have q:=hl i σ H hi p
 by_cases aM:i < xs.length
 ·refine .inr ⟨⟨xs,xs[i],q,by simp [aM]⟩,Pv (i + 1),fun σ' H' p'=>⟨xs.length - (i + 1),by omega,rfl,aM,p'⟩,fun x H' y=>?_⟩
  obtain ⟨e,y⟩ := y
  subst e
  exact hs i x σ _ (y xs q) p
 ·have e:i = xs.length:=by omega
  subst e
  exact .inl ⟨⟨xs,q,Nat.le_refl _⟩,hd σ H p⟩
theorem Ng {lo : Int} {n : Nat} {g : TG} {tb : TS} {D : Gp} {σ : St} {H : Hp} (Pv : Nat -> St -> Hp -> Prop) (h0 : Pv 0 σ H)
  (hs:∀ i σ H,i < n -> Pv i σ H -> g (.int (lo + i)) σ H fun σ2 H2=>tb { D with nx:=Pv (i + 1),ct:=Pv (i + 1),bk:=D.nx } σ2 H2) (hd:∀ σ H,Pv n σ H -> D.nx σ H) :
  ∃ W:Nat -> Nat -> St -> Hp -> Prop,(∃ m,W 0 m σ H) /\ ∀ i m σ H,W i m σ H ->
   ((cy lo n).stop i H /\ D.nx σ H) \/ ((cy lo n).go i H /\ ∃ N:St -> Hp -> Prop,(∀ σ' H',N σ' H' -> ∃ m',m' < m /\ W (i + 1) m' σ' H') /\ ∀ x H',(cy lo n).vX i H x H' -> g x σ H' fun σ2 H2=>tb { D with nx:=N,ct:=N,bk:=D.nx } σ2 H2):=by
 refine ⟨fun i m σ H=>m = n - i /\ i <= n /\ Pv i σ H,⟨n,by simp,Nat.zero_le _,h0⟩,?_⟩
 rintro i m σ H ⟨rfl,hi,p⟩
 by_cases aM:i < n
 ·refine .inr ⟨aM,Pv (i + 1),fun σ' H' p'=>⟨n - (i + 1),by omega,rfl,aM,p'⟩,fun x H' y=>?_⟩
  obtain ⟨e,y⟩ := y
  subst e y
  exact hs i σ _ aM p
 ·have e:i = n:=by omega
  subst e
  exact .inl ⟨Nat.le_refl _,hd σ H p⟩
theorem Ko {c : TT} {tb : TS} {D : Gp} {σ : St} {H : Hp} (Pv : St -> Hp -> Prop) (μ : St -> Hp -> Nat) (h0 : Pv σ H)
  (hs:∀ σ H,Pv σ H -> c σ H fun b H1=>if b = true then tb { D with nx:=fun σ' H'=>Pv σ' H' /\ μ σ' H' < μ σ H,ct:=fun σ' H'=>Pv σ' H' /\ μ σ' H' < μ σ H,bk:=D.nx } σ H1 else D.nx σ H1)
  (mono:∀ σ H Q Q',(∀ b H1,Q b H1 -> Q' b H1) -> c σ H Q -> c σ H Q'):Pb c tb D σ H:=by
 refine ⟨fun m σ H=>m = μ σ H /\ Pv σ H,⟨_,rfl,h0⟩,?_⟩
 rintro m σ H ⟨rfl,p⟩
 refine mono σ H _ _ (fun b H1 q=>?_) (hs σ H p)
 cases b with
 | true=>exact ⟨_,fun σ' H' ⟨p',l⟩=>⟨_,l,rfl,p'⟩,q⟩
 | false=>exact q
abbrev R2:=V -> V -> Hp -> VK -> Prop
def J5 (X:Cx) (f:Value -> Value -> Sem Value) (r:R2):Prop :=
 ∀ (pins:List (Addr × Obj)) (s:Shared) (σ:St) (H:Hp) (x y:V) (v u:Value) (Q:VK),Ag X pins σ H s -> Ap x v -> Ap y u -> r x y H Q ->
  wpAny (model X.prog X.w) X.A (f v u) (EP X pins σ Q) X.xe s
def Di (X:Cx) (f:Value) (r:List V -> Hp -> VK -> Prop):Prop :=
 ∀ (pins:List (Addr × Obj)) (s:Shared) (σ:St) (H:Hp) (xs:List V) (us:List Value) (Q:VK),Ag X pins σ H s -> As xs us -> r xs H Q ->
  wpAny (model X.prog X.w) X.A (call f us) (EP X pins σ Q) X.xe s
def qj (X:Cx) (r:V -> Hp -> (Bool -> Hp -> Prop) -> Prop):Prop :=
 ∀ (pins:List (Addr × Obj)) (s:Shared) (σ:St) (H:Hp) (x:V) (v:Value) (Q:Bool -> Hp -> Prop),Ag X pins σ H s -> Ap x v -> r x H Q ->
  wpAny (model X.prog X.w) X.A (truthy v) (TP X pins σ Q) X.xe s
def o7 (r:R2) (ta tb:TE):TE:=fun σ H Q=>ta σ H fun x H1=>tb σ H1 fun y H2=>r x y H2 Q
def rI (C:Int -> Int -> Prop) (g:Int -> Int -> V):R2:=fun x y H Q=>∃ i j,x = .int i /\ y = .int j /\ C i j /\ Q (g i j) H
def ck (g:Int -> Int -> V):R2:=fun x y H Q=>∃ i j,x = .int i /\ y = .int j /\ Q (g i j) H
section
variable {X:Cx} {a b c:Expr} {ta tb tc:TE} {pos:Pos}
theorem ja (ha : PE X a ta) (hb : PE X b tb) {pins : List (Addr × Obj)} {s : Shared} {σ : St} {H : Hp} {R : V -> V -> Hp -> Prop} (I : Ag X pins σ H s)
  (h:ta σ H fun x H1=>tb σ H1 fun y H2=>R x y H2) {Q:Value -> Shared -> Prop} {f:Value -> Value -> Sem Value}
  (hf:∀ v u s2 x y H2,Ag X pins σ H2 s2 -> Ap x v -> Ap y u -> R x y H2 -> wpAny (model X.prog X.w) X.A (f v u) Q X.xe s2) :
  wpAny (model X.prog X.w) X.A (eval a X.env) (fun v s₁=>wpAny (model X.prog X.w) X.A (eval b X.env) (fun u s₂=>wpAny (model X.prog X.w) X.A (f v u) Q X.xe s₂) X.xe s₁) X.xe s:=by
 refine C6 (ha pins s σ H _ I h) fun v s1 aO=>?_
 obtain ⟨x,H1,I1,r1,q1⟩ := aO
 refine C6 (hb pins s1 σ H1 _ I1 q1) fun u s2 aO=>?_
 obtain ⟨y,H2,I2,r2,q2⟩ := aO
 exact hf v u s2 x y H2 I2 r1 r2 q2
theorem Au {op:Operator} {r:R2} (ho:J5 X (binaryOp op) r) (ha:PE X a ta) (hb:PE X b tb):PE X (.BinOp a op b pos) (o7 r ta tb):=by
 intro pins s σ H Q I h
 exact wpAny_BinOp (ja ha hb I h fun v u s2 x y H2 I2 rx ry q=>ho pins s2 σ H2 x y v u Q I2 rx ry q)
theorem qr {f : Value -> Value -> Sem Value} {C : Int -> Int -> Prop} {g : Int -> Int -> Int}
  (rule:∀ (i j:Int) (t u:Tok) (s:Shared) (Q:Value -> Shared -> Prop) (E:Value -> Shared -> Prop),C i j -> Q (.int (g i j) s.toks) { s with toks:=s.toks + 1 } -> wpAny (model X.prog X.w) X.A (f (.int i t) (.int j u)) Q E s) :
  J5 X f (rI C fun i j=>.int (g i j)):=by
 intro pins s σ H x y v u Q I rx ry h
 obtain ⟨i,j,rfl,rfl,hc,q⟩ := h
 obtain ⟨t,rfl⟩ := rx
 obtain ⟨t',rfl⟩ := ry
 exact rule i j t t' s _ _ hc ⟨.int (g i j),H,I.tok _,⟨_,rfl⟩,q⟩
theorem lv {f : Value -> Value -> Sem Value} {g : Int -> Int -> Int}
  (rule:∀ (i j:Int) (t u:Tok) (s:Shared) (Q:Value -> Shared -> Prop) (E:Value -> Shared -> Prop),Q (.int (g i j) s.toks) { s with toks:=s.toks + 1 } -> wpAny (model X.prog X.w) X.A (f (.int i t) (.int j u)) Q E s) :
  J5 X f (ck fun i j=>.int (g i j)):=by
 intro pins s σ H x y v u Q I rx ry h
 obtain ⟨i,j,rfl,rfl,q⟩ := h
 obtain ⟨t,rfl⟩ := rx
 obtain ⟨t',rfl⟩ := ry
 exact rule i j t t' s _ _ ⟨.int (g i j),H,I.tok _,⟨_,rfl⟩,q⟩
theorem bi {f : Value -> Value -> Sem Value} {g : Int -> Int -> Bool}
  (rule:∀ (i j:Int) (t u:Tok) (s:Shared) (Q:Value -> Shared -> Prop) (E:Value -> Shared -> Prop),Q (.bool (g i j)) s -> wpAny (model X.prog X.w) X.A (f (.int i t) (.int j u)) Q E s) :
  J5 X f (ck fun i j=>.bl (g i j)):=by
 intro pins s σ H x y v u Q I rx ry h
 obtain ⟨i,j,rfl,rfl,q⟩ := h
 obtain ⟨t,rfl⟩ := rx
 obtain ⟨t',rfl⟩ := ry
 exact rule i j t t' s _ _ ⟨.bl (g i j),H,I,rfl,q⟩
def oy (i j:Int):Prop:=0 < j /\ j < 1073741824
theorem Cf:J5 X (binaryOp .Add) (ck fun i j=>.int (i + j)):=lv fun _ _ _ _ _ _ _ q=>add_int q
theorem Gz:J5 X (binaryOp .Sub) (ck fun i j=>.int (i - j)):=lv fun _ _ _ _ _ _ _ q=>sub_int q
theorem V5:J5 X (binaryOp .FloorDiv) (rI oy fun i j=>.int (i / j)):=qr fun i j _ _ _ _ _ hc q=>by
 have h1:(0:Int) < j:=hc.1
 have h2:j < 1073741824:=hc.2
 exact floordiv_int (by omega) (by rw [Int.fdiv_eq_ediv_of_nonneg i (by omega)]; exact q) (.inl (PyProof.noPylong_small (by omega)))
theorem C7:J5 X (binaryOp .Mod) (rI (fun _ j=>0 < j) fun i j=>.int (i % j)):=qr fun i j _ _ _ _ _ hc q=>by
 have h1:(0:Int) < j:=hc
 exact mod_int' (by omega) (by rw [Int.fmod_eq_emod_of_nonneg i (by omega)]; exact q)
end
def jw:V -> V -> Bool
 | .aL,.aL=>true | .aL,.int _=>true | .int _,.aL=>true | .aL,.bl _=>true | .bl _,.aL=>true | .aL,.str _=>true | .str _,.aL=>true
 | .int _,.int _=>true | .bl _,.bl _=>true | .str _,.str _=>true | .kC _,.kC _=>true
 | .int _,.str _=>true | .str _,.int _=>true | .bl _,.str _=>true | .str _,.bl _=>true
 | _,_=>false
def u8:R2:=fun x y H Q=>jw x y = true /\ Q (.bl (decide (x = y))) H
def uq:R2:=fun x y H Q=>jw x y = true /\ Q (.bl (!decide (x = y))) H
theorem Ui {i j:Int}:decide (V.int i = V.int j) = (i == j):=by
 rw [Bool.eq_iff_iff]
 simp
theorem Yj {i j:Bool}:decide (V.bl i = V.bl j) = (i == j):=by
 rw [Bool.eq_iff_iff]
 simp
theorem V2 {i j:Str}:decide (V.str i = V.str j) = (i == j):=by
 rw [Bool.eq_iff_iff]
 simp
theorem U5 {i j:Array UInt8}:decide (V.kC i = V.kC j) = (i.toList == j.toList):=by
 rw [Bool.eq_iff_iff]
 cases i
 cases j
 simp
section
variable {X:Cx} {a b c:Expr} {ta tb tc:TE} {pos:Pos}
theorem Bf {pins:List (Addr × Obj)} {σ:St} {H:Hp} {s:Shared} {Q:VK} {k k':Bool} (I:Ag X pins σ H s) (q:Q (.bl k) H) (e:k = k'):EP X pins σ Q (.bool k') s:=by
 subst e
 exact ⟨.bl k,H,I,rfl,q⟩
theorem Fm:J5 X (compareOp .Eq) u8:=by
 intro pins s σ H x y v u Q I rx ry h
 obtain ⟨hs,q⟩ := h
 cases x with
 | aL =>
  cases rx
  cases y with
  | aL=>cases ry; exact PySem.EqNone.eq_none_none (Bf I q (by simp))
  | bl j=>cases ry; exact PySem.EqNone.eq_none_bool (Bf I q (by simp))
  | int j=>obtain ⟨t',rfl⟩ := ry; exact PySem.EqNone.eq_none_int (Bf I q (by simp))
  | str j=>obtain ⟨t',rfl⟩ := ry; exact PySem.EqNone.eq_none_str (Bf I q (by simp))
  | _=>exact absurd (show false = true from hs) Bool.false_ne_true
 | bl i =>
  cases rx
  cases y with
  | aL=>cases ry; exact PySem.EqNone.eq_bool_none (Bf I q (by simp))
  | bl j=>cases ry; exact eq_bool (Bf I q Yj)
  | str j=>obtain ⟨t',rfl⟩ := ry; exact PySem.EqMixed.eq_bool_str (Bf I q (by simp))
  | _=>exact absurd (show false = true from hs) Bool.false_ne_true
 | int i =>
  obtain ⟨t,rfl⟩ := rx
  cases y with
  | aL=>cases ry; exact PySem.EqNone.eq_int_none (Bf I q (by simp))
  | int j=>obtain ⟨t',rfl⟩ := ry; exact eq_int (Bf I q Ui)
  | str j=>obtain ⟨t',rfl⟩ := ry; exact PySem.EqMixed.eq_int_str (Bf I q (by simp))
  | _=>exact absurd (show false = true from hs) Bool.false_ne_true
 | str i =>
  obtain ⟨t,rfl⟩ := rx
  cases y with
  | aL=>cases ry; exact PySem.EqNone.eq_str_none (Bf I q (by simp))
  | bl j=>cases ry; exact PySem.EqMixed.eq_str_bool (Bf I q (by simp))
  | int j=>obtain ⟨t',rfl⟩ := ry; exact PySem.EqMixed.eq_str_int (Bf I q (by simp))
  | str j=>obtain ⟨t',rfl⟩ := ry; exact eq_str (Bf I q V2)
  | _=>exact absurd (show false = true from hs) Bool.false_ne_true
 | kC i =>
  obtain ⟨t,rfl⟩ := rx
  cases y with
  | kC j=>obtain ⟨t',rfl⟩ := ry; exact PySem.W.eq_bytes (Bf I q U5)
  | _=>exact absurd (show false = true from hs) Bool.false_ne_true
 | _=>cases y <;> exact absurd (show false = true from hs) Bool.false_ne_true
theorem de:J5 X (compareOp .NotEq) uq:=by
 intro pins s σ H x y v u Q I rx ry h
 obtain ⟨hs,q⟩ := h
 cases x with
 | aL =>
  cases rx
  cases y with
  | aL=>cases ry; exact PySem.EqNone.ne_none_none (Bf I q (by simp))
  | bl j=>cases ry; exact PySem.EqNone.ne_none_bool (Bf I q (by simp))
  | int j=>obtain ⟨t',rfl⟩ := ry; exact PySem.EqNone.ne_none_int (Bf I q (by simp))
  | str j=>obtain ⟨t',rfl⟩ := ry; exact PySem.EqNone.ne_none_str (Bf I q (by simp))
  | _=>exact absurd (show false = true from hs) Bool.false_ne_true
 | bl i =>
  cases rx
  cases y with
  | aL=>cases ry; exact PySem.EqNone.ne_bool_none (Bf I q (by simp))
  | bl j=>cases ry; exact ne_bool (Bf I q (congrArg not Yj))
  | str j=>obtain ⟨t',rfl⟩ := ry; exact PySem.EqMixed.ne_bool_str (Bf I q (by simp))
  | _=>exact absurd (show false = true from hs) Bool.false_ne_true
 | int i =>
  obtain ⟨t,rfl⟩ := rx
  cases y with
  | aL=>cases ry; exact PySem.EqNone.ne_int_none (Bf I q (by simp))
  | int j=>obtain ⟨t',rfl⟩ := ry; exact ne_int (Bf I q (congrArg not Ui))
  | str j=>obtain ⟨t',rfl⟩ := ry; exact PySem.EqMixed.ne_int_str (Bf I q (by simp))
  | _=>exact absurd (show false = true from hs) Bool.false_ne_true
 | str i =>
  obtain ⟨t,rfl⟩ := rx
  cases y with
  | aL=>cases ry; exact PySem.EqNone.ne_str_none (Bf I q (by simp))
  | bl j=>cases ry; exact PySem.EqMixed.ne_str_bool (Bf I q (by simp))
  | int j=>obtain ⟨t',rfl⟩ := ry; exact PySem.EqMixed.ne_str_int (Bf I q (by simp))
  | str j=>obtain ⟨t',rfl⟩ := ry; exact ne_str (Bf I q (congrArg not V2))
  | _=>exact absurd (show false = true from hs) Bool.false_ne_true
 | kC i =>
  obtain ⟨t,rfl⟩ := rx
  cases y with
  | kC j=>obtain ⟨t',rfl⟩ := ry; exact PySem.W.ne_bytes (Bf I q (congrArg not U5))
  | _=>exact absurd (show false = true from hs) Bool.false_ne_true
 | _=>cases y <;> exact absurd (show false = true from hs) Bool.false_ne_true
theorem Pu:J5 X (compareOp .Lt) (ck fun i j=>.bl (decide (i < j))):=bi fun _ _ _ _ _ _ _ q=>lt_int q
theorem kz:J5 X (compareOp .LtE) (ck fun i j=>.bl (decide (i <= j))):=bi fun _ _ _ _ _ _ _ q=>le_int q
theorem V0:J5 X (compareOp .Gt) (ck fun i j=>.bl (decide (j < i))):=bi fun _ _ _ _ _ _ _ q=>gt_int q
theorem cq:J5 X (compareOp .GtE) (ck fun i j=>.bl (decide (j <= i))):=bi fun _ _ _ _ _ _ _ q=>ge_int q
theorem S1:J5 X (compareOp .Is) (fun x y H Q=>y = .aL /\ Q (.bl (decide (x = .aL))) H):=by
 intro pins s σ H x y v u Q I rx ry h
 obtain ⟨rfl,q⟩ := h
 cases ry
 refine is_none_gen (Bf I q ?_)
 cases x <;> first
  | (cases rx; rfl)
  | (obtain ⟨t,rfl⟩ := rx; rfl)
theorem U7:J5 X (compareOp .IsNot) (fun x y H Q=>y = .aL /\ Q (.bl (!decide (x = .aL))) H):=by
 intro pins s σ H x y v u Q I rx ry h
 obtain ⟨rfl,q⟩ := h
 cases ry
 refine isnot_none_gen (Bf I q ?_)
 cases x <;> first
  | (cases rx; rfl)
  | (obtain ⟨t,rfl⟩ := rx; rfl)
theorem Ba (b:Expr) {op:CmpOp} (h:op ≠ .In:=by decide) (h2:op ≠ .NotIn:=by decide):behindInMarks op b = false:=by
 have e1:(op == CmpOp.In) = false:=by cases op <;> first | rfl | exact absurd rfl h
 have e2:(op == CmpOp.NotIn) = false:=by cases op <;> first | rfl | exact absurd rfl h2
 cases b <;> simp [behindInMarks,e1,e2]
theorem D4 {op:CmpOp} {r:R2} (ho:J5 X (compareOp op) r) (ha:PE X a ta) (hb:PE X b tb) (hm:behindInMarks op b = false):PE X (.Compare a [op] [b] pos) (o7 r ta tb):=by
 intro pins s σ H Q I h
 exact wpAny_Compare1 (ja ha hb I h fun v u s2 x y H2 I2 rx ry q=>ho pins s2 σ H2 x y v u Q I2 rx ry q) hm
def ng (t:TE):TT:=fun σ H Q=>t σ H fun x H'=>∃ k,x = .bl k /\ Q k H'
theorem Bg {op:CmpOp} {r:R2} (ho:J5 X (compareOp op) r) (ha:PE X a ta) (hb:PE X b tb) (hm:behindInMarks op b = false):PT X (.Compare a [op] [b] pos) (ng (o7 r ta tb)):=by
 intro pins s σ H Q I h
 refine wpAny_isTrue_Compare1 (C6 (ha pins s σ H _ I h) fun v s1 ⟨x,H1,I1,r1,q1⟩=>C6 (hb pins s1 σ H1 _ I1 q1) fun u s2 ⟨y,H2,I2,r2,q2⟩ =>
  C6 (ho pins s2 σ H2 x y v u _ I2 r1 r2 q2) fun c s3 ⟨z,H3,I3,r3,k,e,q3⟩=>?_) hm
 subst e
 cases r3
 exact wpAny_truthy_bool ⟨H3,I3,q3⟩
def ju (K:PySem.W.Frag) (x:V) (H:Hp) (k:Bool):Prop :=
 match x with
 | .aL=>k = false
 | .bl b=>k = b
 | .int i=>k = (i != 0)
 | .str y=>y.length <= sizeLine /\ k = ((y.length:Int) != 0)
 | .kC y=>y.size <= sizeLine /\ k = ((y.size:Int) != 0)
 | .ref p=>(∃ xs,B6 K H p xs /\ k = !xs.isEmpty) \/ (∃ xs,C0 K H p xs /\ k = !xs.isEmpty) \/ ∃ kvs,H p = some (.dK kvs) /\ k = !kvs.isEmpty
 | _=>False
theorem Tv {κ:Type} {kvs:List (κ × V)} {vs:List (κ × Value)} (r:KV kvs vs):(!vs.isEmpty) = !kvs.isEmpty:=by
 cases r <;> rfl
theorem Ks {xs:List V} {aC:List Value} (r:As xs aC):(!aC.toArray.isEmpty) = !xs.isEmpty:=by
 cases r <;> simp
theorem Ha:(sizeLine:Nat) < 2 ^ 63:=by rw [sizeLine_eq]; decide
theorem i7:qj X (fun x H Q=>∃ k,ju X.K x H k /\ Q k H):=by
 intro pins s σ H x v Q I rx h
 obtain ⟨k,e,q⟩ := h
 have hl:=Ha
 have hs:sizeLine = 16777216:=sizeLine_eq
 cases x with
 | aL =>
  cases rx
  have e':k = false:=e
  subst e'
  exact truthy_none ⟨H,I,q⟩
 | bl b =>
  cases rx
  have e':k = b:=e
  subst e'
  exact wpAny_truthy_bool ⟨H,I,q⟩
 | int i =>
  obtain ⟨t,rfl⟩ := rx
  have e':k = (i != 0):=e
  subst e'
  exact PySem.P.truthy_int ⟨H,I,q⟩
 | str y =>
  obtain ⟨t,rfl⟩ := rx
  obtain ⟨hy,e'⟩ : y.length <= sizeLine /\ k = ((y.length:Int) != 0):=e
  subst e'
  exact PySem.P.truthy_str (by omega) ⟨H,I.tok _,q⟩
 | kC y =>
  obtain ⟨t,rfl⟩ := rx
  obtain ⟨hy,e'⟩ : y.size <= sizeLine /\ k = ((y.size:Int) != 0):=e
  subst e'
  exact PySem.W.truthy_bytes (by omega) ⟨H,I.tok _,q⟩
 | ref p =>
  cases rx
  have e':(∃ xs,B6 X.K H p xs /\ k = !xs.isEmpty) \/ (∃ xs,C0 X.K H p xs /\ k = !xs.isEmpty) \/ ∃ kvs,H p = some (.dK kvs) /\ k = !kvs.isEmpty:=e
  rcases e' with ⟨xs,hx,e'⟩ | ⟨xs,hx,e'⟩ | ⟨kvs,hx,e'⟩
  ·subst e'
   obtain ⟨aC,r,pl,hz⟩ := I.list hx
   have hlen:=r.length
   exact wpAny_truthy_list pl.isList (by simp only [List.size_toArray]; omega) ⟨H,I.tok _,by rw [Ks r]; exact q⟩
  ·subst e'
   obtain ⟨aC,r,pl,hz⟩ := I.tuple hx
   have hlen:=r.length
   exact truthy_tuple pl (by simp only [List.size_toArray]; omega) ⟨H,I.tok _,by rw [Ks r]; exact q⟩
  ·subst e'
   obtain ⟨hz,hS,vs,r,m⟩ : kvs.length <= sizeLine /\ (p == sysModules) = false /\ ∃ vs,KV kvs vs /\ s.heap.DictOf (D5 X.prog X.w) p vs:=I.aH p _ hx
   have hlen:kvs.length = vs.length:=Paired.length r
   exact wpAny_truthy_dict hS m (by omega) ⟨H,I.tok _,by rw [Tv r]; exact q⟩
 | _=>exact (show False from e).elim
theorem Lk (ha : PE X a ta) (he : ∀ whole, isTrue a X.env whole = (do let v <- whole; standAt a.pos; holding [v] (truthy v))) :
  PT X a (fun σ H Q=>ta σ H fun x H'=>∃ k,ju X.K x H' k /\ Q k H'):=by
 intro pins s σ H Q I h
 exact isTrue_plain (C6 (ha pins s σ H _ I h) fun v s1 ⟨x,H1,I1,r1,q1⟩=>i7 pins s1 σ H1 x v Q I1 r1 q1) (he _)
theorem Ji {x:V} {us:List Value} (r:As [x] us):∃ u,us = [u] /\ Ap x u:=by
 cases r with
 | cons r1 r2=>cases r2; exact ⟨_,rfl,r1⟩
theorem cp {x y:V} {us:List Value} (r:As [x,y] us):∃ u w',us = [u,w'] /\ Ap x u /\ Ap y w':=by
 cases r with
 | cons r1 r2 =>
  cases r2 with
  | cons r3 r4=>cases r4; exact ⟨_,_,rfl,r1,r3⟩
theorem N9 (hc:X.calm = true):Di X (.builtin "max") (fun xs H Q=>∃ i j,xs = [.int i,.int j] /\ Q (.int (if j > i then j else i)) H):=by
 intro pins s σ H xs us Q I r h
 obtain ⟨i,j,rfl,q⟩ := h
 obtain ⟨u,w',rfl,⟨t,rfl⟩,⟨t',rfl⟩⟩ := cp r
 refine max_two_ints (I.ok.hd hc) fun h' tk k=>⟨_,H,I.kept k,?_,q⟩
 by_cases hj:j > i
 ·rw [if_pos hj,if_pos hj]; exact ⟨_,rfl⟩
 ·rw [if_neg hj,if_neg hj]; exact ⟨_,rfl⟩
end
structure Tc (h:Heap) (x dx C:Addr) (mA:Str -> Option Value):Prop where
 obj:h.get? x = some (PySem.W.instObj C dx)
 ns:h.Ns1 dx mA
 ne:dx ≠ x
theorem Vs {h:Heap} {dx:Addr} {mA:Str -> Option Value} (n:h.Ns1 dx mA):∃ od,h.get? dx = some od /\ ∀ name,PySem.W.lookIn name od = some (mA name):=by
 obtain ⟨o,es,ep,ho,hd,hk,_,hm⟩ := n
 refine ⟨o,ho,fun name=>?_⟩
 have e:=hm name
 unfold nsFind findBy at e
 rw [<- Array.find?_toList] at e
 unfold PySem.W.lookIn
 rw [hd]
 dsimp only
 split
 ·rename_i y q
  rw [q] at e
  exact congrArg some e
 ·rename_i q
  rw [q] at e
  have a:es.toList.any (·.refKey) = false:=by
   rw [List.any_eq_false]
   intro y hy
   obtain ⟨z,t,eX⟩ := hk y (Array.mem_toList_iff.mp hy)
   simp [DictEntry.refKey,eX]
  have a':¬ es.toList.any (·.refKey) = true:=by rw [a]; exact Bool.false_ne_true
  rw [if_neg a']
  exact congrArg some e
theorem Tc.look {h:Heap} {x dx C:Addr} {mA:Str -> Option Value} (I:Tc h x dx C mA):∃ od,PySem.W.InstAt h x (PySem.W.instObj C dx) C (some od) /\ ∀ name,PySem.W.lookIn name od = some (mA name) :=
 let ⟨od,ho,hl⟩ := Vs I.ns
 ⟨od,⟨I.obj,rfl,rfl,ho⟩,hl⟩
section
variable {prog:Program} {w:World} {A:Around} {E:Value -> Shared -> Prop} {s:Shared} {K:PySem.W.Frag} {x dx C f:Addr} {mA:Str -> Option Value} {name:Str} {v:Value}
theorem aj {expr : Bool} {Q : Value -> Shared -> Prop} (X : K.In s.heap) (I : Tc s.heap x dx C mA) (hg : PySem.W.plainGet K C name = true) (hh : PySem.W.hasDictIn K C = true)
  (ha:PySem.W.findIn K (.ref C) name = some none) (hv:mA name = some v) (CB:PySem.W.handedIn v = true) (h:Q v { s with toks:=s.toks + 1 }) :
  wpAny (model prog w) A (getAttr (.ref x) name expr) Q E s:=by
 obtain ⟨od,J,hl⟩ := I.look
 exact PySem.W.get_value X J (PySem.W.plainGet_of hg).1 (PySem.W.findObj_own hh ha rfl (by rw [hl,hv])) CB h
theorem X7 {pl : Sem Bool} {Q : Value × List Value -> Shared -> Prop} (X : K.In s.heap) (I : Tc s.heap x dx C mA) (hg : PySem.W.plainGet K C name = true)
  (hf:PySem.W.findIn K (.ref C) name = some (some (.ref f))) (ht:PySem.W.isFn K (.ref f) = true) (hv:mA name = none) (h:Q (.ref f,[.ref x]) s) :
  wpAny (model prog w) A (getMethod (.ref x) name pl) Q E s:=by
 obtain ⟨od,J,hl⟩ := I.look
 exact PySem.W.method_fn X J (PySem.W.plainGet_of hg).1 (PySem.W.plainGet_of hg).2 hf (beq_iff_eq.mp ht) (by show (PySem.W.lookIn name od).map (·.isSome) = some false; rw [hl,hv]; rfl) h
theorem ba {ns : List Str} {Q : Unit -> Shared -> Prop} (X : K.In s.heap) (I : Tc s.heap x dx C mA)
  (hs:PySem.W.findIn K (.ref C) "__setattr__" = some (some (.builtin "object.__setattr__"))) (hp:PySem.W.plainOver K C = true) (ht:PySem.W.takerIn K C name = some none) (hh:PySem.W.hasDictIn K C = true)
  (hw:PySem.Within mA ns) (hsz:ns.length <= sizeLine)
  (h:∀ h',Tc h' x dx C (fun y=>if y = name then some v else mA y) -> Heap.SameBut dx s.heap h' -> Q () { s with heap:=h',toks:=s.toks + 2 }) :
  wpAny (model prog w) A (setAttr (.ref x) name v) Q E s:=by
 obtain ⟨od,J,hl⟩ := I.look
 refine PySem.W.set_plain X J hs (PySem.W.osa_open (s:={ s with toks:=s.toks + 1 }) (r:=none) X J hp ht fun b=>?_)
 obtain ⟨cd,hc,lO⟩ := PySem.W.any_some hh
 have hx:s.heap.get? x = some ⟨.ref C,some dx,.plain,#[]⟩ := I.obj
 refine wpAny_bind (wpAny_pure (wpAny_bind (wpAny_bind (wpAny_loadPart hx (wpAny_bind (PySem.W.Looks.here (s:={ s with toks:=s.toks + 1 }) (PySem.W.looks_clsIn X hc) ?_))))))
 rw [lO]
 refine wpAny_pure (a:=some dx) (wpAny_bind (wpAny_pure (wpAny_bind ?_)))
 refine wpAny_nsSet1 (s:={ s with toks:=s.toks + 1 }) I.ns fun h' rD lP=>?_
 obtain ⟨oD,esD,epD,hoD,hdD,DM⟩ := rD.count (PySem.Within.cons name v hw)
 refine wpAny_bind (wpAny_lookBehind hoD (by rw [hdD]; exact pastItsLine_dict (Nat.le_trans DM (by rw [List.length_cons]; omega))) ?_)
 exact wpAny_pure (h _ ⟨(lP.2 _ (Ne.symm I.ne)).trans I.obj,rD,I.ne⟩ lP)
theorem Yf {R : Result -> Shared -> Prop} {vs : List Value} {kw : List (Str × Value)} (X : K.In s.heap) (hm : PySem.W.makesIn K C = true)
  (hi:PySem.W.findIn K (.ref C) "__init__" = some (some (.ref f))) (hf:PySem.W.typeIn K (.ref f) = some (.type "function"))
  (h:codeAny (model prog w) (A.under (.builtin "type.__call__" ⟨.ref C :: vs,kw⟩)) (.call (.ref f) ⟨.ref (s.heap.objs.size + 1) :: vs,kw⟩) (PySem.W.InitBack (s.heap.objs.size + 1) R)
   { s with heap:=(s.heap.push PySem.W.emptyDict).push (PySem.W.instObj C s.heap.objs.size) }) :
  codeAny (model prog w) A (.call (.ref C) ⟨vs,kw⟩) R s:=by
 obtain ⟨hh,g,d,t,os⟩ := s
 exact PySem.W.make_core (PySem.W.makes_of X hm) (PySem.W.looks_findIn X hi) (fun self=>PySem.W.bind_fn X self hf) (.inl rfl) h
end
def Dz (f:Str) (v:V):List (Str × V) -> List (Str × V)
 | []=>[(f,v)]
 | (g,x) :: r=>if g = f then (g,v) :: r else (g,x) :: Dz f v r
theorem Ja (f g:Str) (v:V):∀ fs:List (Str × V),(Dz f v fs).lookup g = if g = f then some v else fs.lookup g
 | []=>by
  show List.lookup g [(f,v)] = _
  by_cases h:g = f
  ·have hb:(g == f) = true:=beq_iff_eq.mpr h
   simp only [List.lookup,hb,if_pos h]
  ·have hb:(g == f) = false:=beq_eq_false_iff_ne.mpr h
   simp only [List.lookup,hb,if_neg h]
 | (k,x) :: r=>by
  have ih:=Ja f g v r
  rw [show Dz f v ((k,x) :: r) = (if k = f then (k,v) :: r else (k,x) :: Dz f v r) from rfl]
  by_cases hk:k = f
  ·rw [if_pos hk]
   by_cases h:g = k
   ·have hb:(g == k) = true:=beq_iff_eq.mpr h
    simp only [List.lookup,hb,if_pos (h.trans hk)]
   ·have hb:(g == k) = false:=beq_eq_false_iff_ne.mpr h
    simp only [List.lookup,hb,if_neg (fun e:g = f=>h (e.trans hk.symm))]
  ·rw [if_neg hk]
   by_cases h:g = k
   ·have hb:(g == k) = true:=beq_iff_eq.mpr h
    simp only [List.lookup,hb,if_neg (fun e:g = f=>hk (h.symm.trans e))]
   ·have hb:(g == k) = false:=beq_eq_false_iff_ne.mpr h
    simp only [List.lookup,hb]
    exact ih
theorem Ih (f:Str) (v:V):∀ fs:List (Str × V),f ∈ (Dz f v fs).map (·.1) /\ ∀ g,g ∈ fs.map (·.1) -> g ∈ (Dz f v fs).map (·.1)
 | []=>⟨by simp [Dz],fun g h=>by simp at h⟩
 | (k,x) :: r=>by
  obtain ⟨i1,i2⟩ := Ih f v r
  rw [show Dz f v ((k,x) :: r) = (if k = f then (k,v) :: r else (k,x) :: Dz f v r) from rfl]
  by_cases hk:k = f
  ·rw [if_pos hk]
   subst hk
   exact ⟨by simp,fun g h=>by simpa using h⟩
  ·rw [if_neg hk]
   refine ⟨?_,fun g h=>?_⟩
   ·rw [List.map_cons]
    exact List.mem_cons_of_mem _ i1
   ·rw [List.map_cons] at h ⊢
    rcases List.mem_cons.mp h with e | e
    ·exact List.mem_cons.mpr (.inl e)
    ·exact List.mem_cons_of_mem _ (i2 g e)
theorem Jk (f:Str) (v:V):∀ fs:List (Str × V),(Dz f v fs).length <= fs.length + 1
 | []=>by simp [Dz]
 | (k,x) :: r=>by
  have ih:=Jk f v r
  rw [show Dz f v ((k,x) :: r) = (if k = f then (k,v) :: r else (k,x) :: Dz f v r) from rfl]
  by_cases hk:k = f
  ·rw [if_pos hk,List.length_cons,List.length_cons]; omega
  ·rw [if_neg hk,List.length_cons,List.length_cons]; omega
theorem F7.some_of {v:V} {o:Option Value} (r:F7 (some v) o):∃ u,o = some u /\ Ap v u:=by
 cases o with
 | none=>exact (show False from r).elim
 | some u=>exact ⟨u,rfl,r⟩
theorem F7.none_of {o:Option Value} (r:F7 none o):o = none:=by
 cases o with
 | none=>rfl
 | some u=>exact (show False from r).elim
theorem Ve {v:V} {u:Value} (r:Ap v u):PySem.W.handedIn u = true:=by
 cases v with
 | aL=>cases (show u = Value.none from r); rfl
 | bl b=>cases (show u = Value.bool b from r); rfl
 | int i=>obtain ⟨t,e⟩ := (show ∃ t,u = Value.int i t from r); cases e; rfl
 | str x=>obtain ⟨t,e⟩ := (show ∃ t,u = Value.str x t from r); cases e; rfl
 | kC b=>obtain ⟨t,e⟩ := (show ∃ t,u = Value.bytes b t from r); cases e; rfl
 | vU b=>obtain ⟨t,e⟩ := (show ∃ t,u = Value.float b t from r); cases e; rfl
 | ref a=>cases (show u = Value.ref a from r); rfl
 | ty n=>cases (show u = Value.type n from r); rfl
section
variable {P:Program} {w:World} {H H':Hp} {h h':Heap} {a C dx:Addr} {fs fs':List (Str × V)}
theorem Jx (aH:Fj P w H h) (e:H a = some (.ins C dx fs)):∃ mA,Tc h a dx C mA /\ (∀ f,F7 (fs.lookup f) (mA f)) /\ PySem.Within mA (fs.map (·.1)) /\ fs.length <= 1000 /\ H dx = some (.own a):=by
 obtain ⟨d,z,ne,ob,mA,n,r,q⟩ := (show Bh P w H h a (.ins C dx fs) from aH a _ e)
 exact ⟨mA,⟨ob,n,ne⟩,r,q,z,d⟩
end
structure Ss (K:PySem.W.Frag) (C:Addr):Prop where
 pg:PySem.W.plainGet K C Str.empty = true
 hd:PySem.W.hasDictIn K C = true
 po:PySem.W.plainOver K C = true
 sa:PySem.W.findIn K (.ref C) "__setattr__" = some (some (.builtin "object.__setattr__"))
theorem Ss.get {K:PySem.W.Frag} {C:Addr} (c:Ss K C) (f:Str):PySem.W.plainGet K C f = true:=c.pg
def Ex (K:PySem.W.Frag) (C:Addr) (f:Str):Prop:=PySem.W.findIn K (.ref C) f = some none
theorem Ex.DN {K:PySem.W.Frag} {C:Addr} {f:Str} (n:Ex K C f):PySem.W.takerIn K C f = some none:=by
 unfold PySem.W.takerIn
 rw [show PySem.W.findIn K (.ref C) f = some none from n]
 rfl
structure a8 (K:PySem.W.Frag) (C:Addr) (m:Str) (f:Addr):Prop where
 at_:PySem.W.findIn K (.ref C) m = some (some (.ref f))
 fn:PySem.W.isFn K (.ref f) = true
 kp:PySem.W.keepIn K (.ref f) = true
section
variable {X:Cx} {pins:List (Addr × Obj)} {σ:St} {H:Hp} {s:Shared} {a C dx:Addr} {fs:List (Str × V)} {f:Str} {v:V} {A:Around} {E:Value -> Shared -> Prop}
theorem Sd {b : Bool} {Q : Value -> Shared -> Prop} (I : Ag X pins σ H s) (e : H a = some (.ins C dx fs)) (c : Ss X.K C) (n : Ex X.K C f) (l : fs.lookup f = some v)
  (h:∀ u s',Ag X pins σ H s' -> Ap v u -> Q u s'):wpAny (model X.prog X.w) A (getAttr (.ref a) f b) Q E s:=by
 obtain ⟨mA,O,r,_,_,_⟩ := Jx I.aH e
 obtain ⟨u,hu,ru⟩ := F7.some_of (v:=v) (o:=mA f) (by rw [<- l]; exact r f)
 exact aj I.eY O (c.get f) c.hd n hu (Ve ru) (h u _ (I.tok _) ru)
theorem U2 {m : Str} {g : Addr} {pl : Sem Bool} {Q : Value × List Value -> Shared -> Prop} (I : Ag X pins σ H s) (e : H a = some (.ins C dx fs)) (c : Ss X.K C) (k : a8 X.K C m g) (l : fs.lookup m = none)
  (h:Q (.ref g,[.ref a]) s):wpAny (model X.prog X.w) A (getMethod (.ref a) m pl) Q E s:=by
 obtain ⟨mA,O,r,_,_,_⟩ := Jx I.aH e
 have hn:mA m = none:=F7.none_of (by rw [<- l]; exact r m)
 exact X7 I.eY O (c.get m) k.at_ k.fn hn h
theorem Sv {y : V} {u : Value} {Q : Unit -> Shared -> Prop} (I : Ag X pins σ H s) (e : H a = some (.ins C dx fs)) (c : Ss X.K C) (n : Ex X.K C f) (hl : fs.length < 1000) (ry : Ap y u)
  (h:∀ s',Ag X pins σ (upd H a (.ins C dx (Dz f y fs))) s' -> Q () s'):wpAny (model X.prog X.w) A (setAttr (.ref a) f u) Q E s:=by
 obtain ⟨mA,O,r,wi,_,ho⟩ := Jx I.aH e
 have hz:(fs.map (·.1)).length <= sizeLine:=by rw [List.length_map,sizeLine_eq]; omega
 refine ba I.eY O c.sa c.po n.DN c.hd wi hz fun h' O' sb=>h _ ?_
 have hd:∃ o,h'.get? dx = some o:=let ⟨o,_,_,e',_⟩ := O'.ns; ⟨o,e'⟩
 refine I.write (x:=a) (e:=dx) (by rw [e]; exact True.intro) (.inr ho) (fun b q hb z=>(sb.2 b hb).trans z) hd ?_
 refine ⟨by rw [Aa O.ne]; exact ho,?_,O.ne,O'.obj,_,O'.ns,fun g=>?_,fun g hg=>?_⟩
 ·have:=Jk f y fs; omega
 ·show F7 ((Dz f y fs).lookup g) (if g = f then some u else mA g)
  rw [Ja]
  by_cases q:g = f
  ·rw [if_pos q,if_pos q]; exact ry
  ·rw [if_neg q,if_neg q]; exact r g
 ·by_cases q:g = f
  ·rw [q]; exact (Ih f y fs).1
  ·refine (Ih f y fs).2 g (wi g fun z=>hg ?_)
   show (if g = f then some u else mA g) = none
   rw [if_neg q]; exact z
theorem Ag.made (I : Ag X pins σ H s) : Ag X pins σ (upd (upd H s.heap.objs.size (.own (s.heap.objs.size + 1))) (s.heap.objs.size + 1) (.ins C s.heap.objs.size []))
  { s with heap:=(s.heap.push PySem.W.emptyDict).push (PySem.W.instObj C s.heap.objs.size) }:=by
 have e1:(s.heap.push PySem.W.emptyDict).get? s.heap.objs.size = some PySem.W.emptyDict:=Heap.get?_push_size s.heap rfl
 have e2:((s.heap.push PySem.W.emptyDict).push (PySem.W.instObj C s.heap.objs.size)).get? (s.heap.objs.size + 1) = some (PySem.W.instObj C s.heap.objs.size):=by
  have:=Heap.get?_push_size (s.heap.push PySem.W.emptyDict) (o:=PySem.W.instObj C s.heap.objs.size) rfl
  rwa [Heap.size_push] at this
 have e3:(s.heap.push PySem.W.emptyDict).Ns s.heap.objs.size (fun _=>none):=⟨PySem.W.emptyDict,#[],_,e1,rfl,(fun e he=>absurd he (by simp)),fun _=>rfl⟩
 have I1:=I.laid (a:=s.heap.objs.size) (o := .own (s.heap.objs.size + 1)) (h':=s.heap.push PySem.W.emptyDict) (t':=s.toks) (fun b u q=>Heap.get?_push_of_some _ q) (Nat.le_refl _) ⟨_,e1⟩
 refine I1.laid (a:=s.heap.objs.size + 1) (o := .ins C s.heap.objs.size []) (t':=s.toks) (fun b u q=>Heap.get?_push_of_some _ q) (Nat.le_of_eq (Heap.size_push _ _)) ?_
 have ne:s.heap.objs.size ≠ s.heap.objs.size + 1:=Nat.ne_of_lt (Nat.lt_succ_self _)
 refine ⟨by rw [Aa ne,A5],Nat.zero_le _,ne,e2,fun _=>none,(Heap.Ns1.of_empty e3).at fun o q=>Heap.get?_push_of_some _ q,fun _=>True.intro,fun y hy=>absurd rfl hy⟩
theorem aa {prog : Program} {w : World} {env : Env} {e : Expr} {f : Str} {pos : Pos} {s : Shared} {Q : Value -> Shared -> Prop} (hb : attributeBase e f env (eval e env) = eval e env)
  (h:wpAny (model prog w) A (eval e env) (fun o s₁=>wpAny (model prog w) A (getAttr o f true) Q E s₁) E s):wpAny (model prog w) A (eval (.Attribute e f pos) env) Q E s :=
 Attribute_any_ h (by rw [arm_eval_Attribute,hb])
end
def r9 (K:PySem.W.Frag) (ta:TE) (f:Str):TE:=fun σ H Q=>ta σ H fun x H1=>∃ a C dx fs v,x = .ref a /\ H1 a = some (.ins C dx fs) /\ Ss K C /\ Ex K C f /\ fs.lookup f = some v /\ Q v H1
def pq (K:PySem.W.Frag) (ta tv:TE) (f:Str):TS:=fun D σ H=>tv σ H fun y H1=>ta σ H1 fun x H2=>∃ a C dx fs,x = .ref a /\ H2 a = some (.ins C dx fs) /\ Ss K C /\ Ex K C f /\ fs.length < 1000 /\
 D.nx σ (upd H2 a (.ins C dx (Dz f y fs)))
section
variable {X:Cx} {o e value:Expr} {f:Str} {pos pos' kQ:Pos} {ta tv:TE}
theorem Lm (he:PE X e ta) (hb:attributeBase e f X.env (eval e X.env) = eval e X.env):PE X (.Attribute e f pos) (r9 X.K ta f):=by
 intro pins s σ H Q I h
 refine aa hb (C6 (he pins s σ H _ I h) fun u s1 aO=>?_)
 obtain ⟨x,H1,I1,rx,a,C,dx,fs,v,ex,ea,c,n,l,q⟩ := aO
 subst ex
 obtain rfl:u = Value.ref a:=rx
 exact Sd I1 ea c n l fun u' s2 I2 ru=>⟨v,H1,I2,ru,q⟩
theorem Od (ha:PE X o ta) (hv:PE X value tv) (hs:swapsWith value (some (.Attribute o f pos')) pos.line X.env = pure false):PS X (.Assign [.Attribute o f pos'] value pos) (pq X.K ta tv f):=by
 intro pins s σ H D I h
 refine plainObj_wpAny_Assign_Attribute (C6 (hv pins s σ H _ I h) fun u s1 ⟨y,H1,I1,ry,q⟩=>C6 (ha pins s1 σ H1 _ I1 q) fun ov s2 ⟨x,H2,I2,rx,a,C,dx,fs,ex,ea,c,n,l,q2⟩=>?_) hs
 subst ex
 obtain rfl:ov = Value.ref a:=rx
 exact Sv I2 ea c n l ry fun s3 I3=>⟨σ,_,I3,q2⟩
end
section
variable {X:Cx} {pins:List (Addr × Obj)} {σ:St} {H:Hp} {s:Shared} {A:Around} {E:Value -> Shared -> Prop} {Q:Value -> Shared -> Prop} {c:Value} {b:Bool}
inductive Ik (K:PySem.W.Frag) (H:Hp):V -> Value -> Prop where
 | aL:Ik K H .aL (.type "NoneType")
 | bl (x:Bool):Ik K H (.bl x) (.type "bool")
 | int (i:Int):Ik K H (.int i) (.type "int")
 | str (x:Str):Ik K H (.str x) (.type "str")
 | vU (x:UInt64):Ik K H (.vU x) (.type "float")
 | lst {a:Addr} {xs:List V} (e:H a = some (.lst xs)):Ik K H (.ref a) (.type "list")
 | bG {a:Addr} {o:Obj} {xs:List V} (e:H a = some (.bG o (.lst xs))):Ik K H (.ref a) (.type "list")
 | tup {a:Addr} {xs:List V} (e:H a = some (.tup xs)):Ik K H (.ref a) (.type "tuple")
 | dK {a:Addr} {kvs:List (Dh × V)} (e:H a = some (.dK kvs)):Ik K H (.ref a) (.type "dict")
 | dT {a:Addr} {kvs:List ((List Int × Int) × V)} (e:H a = some (.dT kvs)):Ik K H (.ref a) (.type "dict")
 | ins {a C dx : Addr} {fs : List (Str × V)} (e : H a = some (.ins C dx fs)) (cl : Ss K C) (ha : PySem.W.findIn K (.ref C) "__class__" = some (some (.builtin "object.__class__")))
   (hn:PySem.W.specialIn K (.builtin "object.__class__") "__get__" = some (some (.builtin "getset_descriptor.__get__"))) (htk:PySem.W.takesIn K (.builtin "object.__class__") = some true)
   (hm:PySem.W.mroIn K C (.type "object") = some true):Ik K H (.ref a) (.ref C)
theorem We {x : V} {u t : Value} (I : Ag X pins σ H s) (rx : Ap x u) (ty : Ik X.K H x t) (e : PySem.W.kitOne X.K t c = some b) (h : ∀ tk, Q (.bool b) { s with toks := tk }) :
  wpAny (model X.prog X.w) A (call (.builtin "isinstance") [u,c]) Q E s:=by
 cases ty with
 | aL=>cases (show u = Value.none from rx); exact PySem.W.kia_one PySem.W.kitx_none I.eY True.intro e (fun z=>nomatch z) h
 | bl y=>cases (show u = Value.bool y from rx); exact PySem.W.kia_one PySem.W.kitx_bool I.eY True.intro e (fun z=>nomatch z) h
 | int i=>obtain ⟨t,q⟩ := (show ∃ t,u = Value.int i t from rx); cases q; exact PySem.W.kia_one PySem.W.kitx_int I.eY True.intro e (fun z=>nomatch z) h
 | str y=>obtain ⟨t,q⟩ := (show ∃ t,u = Value.str y t from rx); cases q; exact PySem.W.kia_one PySem.W.kitx_str I.eY True.intro e (fun z=>nomatch z) h
 | vU y=>obtain ⟨t,q⟩ := (show ∃ t,u = Value.float y t from rx); cases q; exact PySem.W.kia_one PySem.W.kitx_float I.eY True.intro e (fun z=>nomatch z) h
 | @lst a xs ea =>
  cases (show u = Value.ref a from rx)
  obtain ⟨_,_,n,_,h1⟩ := (show Bh X.prog X.w H s.heap a (.lst xs) from I.aH a _ ea)
  exact PySem.W.kia_one PySem.W.kitx_list I.eY ⟨_,h1,rfl⟩ e (fun z=>nomatch z) h
 | @bG a ob xs ea =>
  cases (show u = Value.ref a from rx)
  obtain ⟨_,_,_,n,_,h1⟩ := (show Bh X.prog X.w H s.heap a (.bG ob (.lst xs)) from I.aH a _ ea)
  exact PySem.W.kia_one PySem.W.kitx_list I.eY ⟨_,h1,rfl⟩ e (fun z=>nomatch z) h
 | @tup a xs ea =>
  cases (show u = Value.ref a from rx)
  obtain ⟨_,_,_,p⟩ := (show Bh X.prog X.w H s.heap a (.tup xs) from I.aH a _ ea)
  obtain ⟨o,h1,h2,_⟩ := p
  exact PySem.W.kia_one PySem.W.kitx_tuple I.eY ⟨o,h1,h2⟩ e (fun z=>nomatch z) h
 | @dK a kvs ea =>
  cases (show u = Value.ref a from rx)
  obtain ⟨_,_,vs,_,p⟩ := (show Bh X.prog X.w H s.heap a (.dK kvs) from I.aH a _ ea)
  obtain ⟨o,es,ep,h1,h2,_⟩ := p
  exact PySem.W.kia_one PySem.W.kitx_dict I.eY ⟨o,h1,h2.1⟩ e (fun z=>nomatch z) h
 | @dT a kvs ea =>
  cases (show u = Value.ref a from rx)
  obtain ⟨_,_,xs,_,o,es,ep,h1,h2,_⟩ := (show Bh X.prog X.w H s.heap a (.dT kvs) from I.aH a _ ea)
  exact PySem.W.kia_one PySem.W.kitx_dict I.eY ⟨o,h1,h2.1⟩ e (fun z=>nomatch z) h
 | @ins a C dx fs ea cl ha hn htk hm =>
  cases (show u = Value.ref a from rx)
  obtain ⟨mA,O,_⟩ := Jx I.aH ea
  obtain ⟨od,J,_⟩ := O.look
  exact PySem.W.kia_one (PySem.W.kitx_own (cl.get _) cl.hd ha hn htk hm) I.eY J e (fun z=>nomatch z) h
end
structure Cm (k:Nat) (A:Around):Prop where
 hd:A.handled = none
 dp:A.depth + 3 * k + 5 < recursionLimit
 un:A.units + 16 * k + 200 < cLine
theorem Cm.mono {j k:Nat} {A:Around} (r:Cm k A) (h:j <= k):Cm j A:=⟨r.hd,by have:=r.dp; omega,by have:=r.un; omega⟩
theorem Cm.deeper {k:Nat} {A:Around} (r:Cm (k + 1) A) (env:Env):Cm k (A.deeper env) :=
 ⟨r.hd,by have:=r.dp; show A.depth + 1 + 3 * k + 5 < _; omega,by have:=r.un; show A.units + 3 + 16 * k + 200 < _; omega⟩
theorem U3 {A:Around} {C:Addr} {us:List Value} {kw:List (Str × Value)}:(A.under (.builtin "type.__call__" ⟨.ref C :: us,kw⟩)).depth = A.depth + 1:=by
 first | rfl | simp [Around.under,Code.weight,Code.isCreation,Code.isGuard,Code.isCaller,Code.frames,Code.isFrame,guardIds]
theorem Rq {A:Around} {C:Addr} {us:List Value} {kw:List (Str × Value)}:(A.under (.builtin "type.__call__" ⟨.ref C :: us,kw⟩)).units = A.units + 1:=by
 first | rfl | simp [Around.under,Code.cUnits,Code.frames,Code.isFrame]
theorem Cm.make {k:Nat} {A:Around} (r:Cm (k + 1) A) (C:Addr) (us:List Value) (kw:List (Str × Value)):Cm k (A.under (.builtin "type.__call__" ⟨.ref C :: us,kw⟩)) :=
 ⟨r.hd,by have:=r.dp; rw [U3]; omega,by have:=r.un; rw [Rq]; omega⟩
theorem Cm.depth {k:Nat} {A:Around} (r:Cm k A):A.depth < recursionLimit:=by have:=r.dp; omega
theorem Cm.units {k:Nat} {A:Around} (r:Cm k A):A.units + 64 < cLine:=by have:=r.un; omega
def jr:TA:=fun _ H Q=>Q [] H
def cx (ta:TE) (tr:TA):TA:=fun σ H Q=>ta σ H fun x H1=>tr σ H1 fun xs H2=>Q (x :: xs) H2
section
variable {X:Cx} {e:Expr} {es:List Expr} {te:TE} {t:TA} {pos:Pos}
theorem A8:PA X [] jr:=fun _ _ _ _ H Q I h=>Calls.spliced_nil ⟨[],H,I,.nil,h⟩
theorem A0 (ha:PE X e te) (hr:PA X es t) (hs:starEach (e :: es) X.env = (false,eval e X.env) :: starEach es X.env:=by rfl):PA X (e :: es) (cx te t):=by
 intro pos pins s σ H Q I h
 rw [hs]
 show wpAny _ _ (spliced ((false,eval e X.env) :: backTo pos (starEach es X.env))) _ _ s
 refine Calls.spliced_cons (C6 (ha pins s σ H _ I h) fun u s1 aO=>?_)
 obtain ⟨x,H1,I1,r1,q1⟩ := aO
 exact C6 (hr pos pins s1 σ H1 _ I1 q1) fun us s2 ⟨xs,H2,I2,r2,q2⟩=>⟨x :: xs,H2,I2,.cons r1 r2,q2⟩
def qw (t:TA):TE:=fun σ H Q=>t σ H fun xs H1=>xs.length <= sizeLine /\ ∀ p,H1 p = none -> Q (.ref p) (upd H1 p (.tup xs))
def r6 (t:TA):TE:=fun σ H Q=>t σ H fun xs H1=>xs.length <= sizeLine /\ ∀ p,H1 p = none -> Q (.ref p) (upd H1 p (.lst xs))
theorem Cw {x1} (h:PA X es t):PE X (.Tuple es x1 pos) (qw t):=by
 intro pins s σ H Q I hq
 refine wpAny_Tuple_spliced (C6 (h pos pins s σ H _ I hq) fun us s1 ⟨xs,H1,I1,r,z,q⟩=>⟨by rw [<- r.length]; exact z,?_⟩)
 have hf:H1 s1.heap.objs.size = none:=I1.aH.fresh (Nat.le_refl _)
 refine ⟨.ref s1.heap.objs.size,upd H1 s1.heap.objs.size (.tup xs),I1.laid (t':=s1.toks) (fun b u e=>Heap.get?_push_of_some _ e) (Nat.le_refl _) ?_,rfl,q _ hf⟩
 exact ⟨⟨z,⟨_,Heap.get?_push_size _ rfl,rfl⟩⟩,us,r,⟨_,Heap.get?_push_size _ rfl,rfl,_,rfl⟩⟩
theorem Ca (h:PA X es t):PE X (.List es pos) (r6 t):=by
 intro pins s σ H Q I hq
 refine wpAny_List_spliced (C6 (h pos pins s σ H _ I hq) fun us s1 ⟨xs,H1,I1,r,z,q⟩=>⟨by rw [<- r.length]; exact z,?_⟩)
 have hf:H1 s1.heap.objs.size = none:=I1.aH.fresh (Nat.le_refl _)
 refine ⟨.ref s1.heap.objs.size,upd H1 s1.heap.objs.size (.lst xs),I1.laid (t':=s1.toks) (fun b u e=>Heap.get?_push_of_some _ e) (Nat.le_refl _) ?_,rfl,q _ hf⟩
 exact ⟨z,us,0,r,Heap.get?_push_size _ rfl⟩
end
abbrev Sp:=List V -> Hp -> VK -> XK -> Prop
abbrev X1:=List Env -> Hp -> Shared -> XK -> Value -> Shared -> Prop
structure S3 (P:Program) (w:World) (K:PySem.W.Frag) (mg:Str -> Option Value) (base:Heap) (A:Around) (outer:List Env) (s:Shared) (H:Hp):Prop where
 frames:A.frames = some outer
 mod:Mod K mg base
 bs:∀ b o,base.get? b = some o -> s.heap.get? b = some o /\ H b = none
 lY:base.objs.size <= s.heap.objs.size
 cX:s.heap.FunFrames base outer
 rA:∀ b ∈ iV outer,H b = none
 aH:Fj P w H s.heap
 bare:AllBare s.gens
def CE (outer:List Env) (P:Program) (w:World) (H:Hp) (s:Shared) (Q:VK) (u:Value) (s':Shared):Prop :=
 ∃ v H',s'.os = s.os /\ AllBare s'.gens /\ Un (iV outer) [] H H' s.heap s'.heap /\ Fj P w H' s'.heap /\ Ap v u /\ Q v H'
def CR (CX:X1) (outer:List Env) (P:Program) (w:World) (H:Hp) (s:Shared) (Q:VK) (E:XK) (r:Result) (s':Shared):Prop :=
 match r with
 | .ok (.ret u)=>CE outer P w H s Q u s'
 | .ok _=>False
 | .error e=>CX outer H s E e s'
structure Ai (P:Program) (w:World) (K:PySem.W.Frag) (mg:Str -> Option Value) (base:Heap) (CX:X1) (k:Nat) (f:Addr) (fd:FuncData) (ps:List Str) (sp:Sp):Prop where
 len:∀ vs H Q E,sp vs H Q E -> vs.length = ps.length
 run:∀ (A:Around) (outer:List Env) (s:Shared) (H:Hp) (args:Args) (us:List Value) (vs:List V) (Q:VK) (E:XK),Cm k A -> S3 P w K mg base A outer s H -> BindsTo s fd args (ps.zip us) -> As vs us -> sp vs H Q E ->
  codeAny (model P w) A (.call (.ref f) args) (CR CX outer P w H s Q E) s
theorem S3.make {P : Program} {w : World} {K : PySem.W.Frag} {mg : Str -> Option Value} {base : Heap} {A : Around} {outer : List Env} {s : Shared} {H : Hp} (e : S3 P w K mg base A outer s H) (C : Addr) (us : List Value) (kw : List (Str × Value)) :
  S3 P w K mg base (A.under (.builtin "type.__call__" ⟨.ref C :: us,kw⟩)) outer s H:=⟨by first | exact e.frames | (simpa [Around.under,Code.envs,Code.isFrame,pushEnvs] using e.frames),e.mod,e.bs,e.lY,e.cX,e.rA,e.aH,e.bare⟩
section
variable {X:Cx} {pins:List (Addr × Obj)} {σ:St} {H:Hp} {s s':Shared}
theorem Ag.DP (I:Ag X pins σ H s):S3 X.prog X.w X.K X.mg X.base X.A X.stack s H :=
 ⟨I.ok.frames,I.ok.mod,I.bs,Nat.le_trans I.ok.lY I.sz,I.stack,I.kD,I.aH,I.bare⟩
theorem Ag.after {Q:VK} {u:Value} (I:Ag X pins σ H s) (h:CE X.stack X.prog X.w H s Q u s'):EP X pins σ Q u s':=by
 obtain ⟨v,H',os,bare,un,aH,r,q⟩ := h
 obtain ⟨hh,g,d,t,os'⟩ := s'
 obtain rfl:os' = s.os:=os
 exact ⟨v,H',I.call (h':=hh) (g':=g) (d':=d) (t':=t) (ch:=[]) un aH bare (fun b z=>absurd z (by simp)),r,q⟩
end
def ml (sp:Sp) (fV:List V) (E:XK) (t:TA):TE:=fun σ H Q=>t σ H fun vs H1=>sp (vs ++ fV) H1 Q E
def nq (C:Addr) (m:Str) (sp:Sp) (fV:List V) (E:XK) (ta:TE) (t:TA):TE:=fun σ H Q=>ta σ H fun x H1=>∃ a dx fs,x = .ref a /\ H1 a = some (.ins C dx fs) /\ fs.lookup m = none /\
 t σ H1 fun vs H2=>sp (x :: (vs ++ fV)) H2 Q E
def nk (C:Addr) (sp:Sp) (fV:List V) (E:XK) (t:TA):TE:=fun σ H Q=>t σ H fun vs H1=>∀ x dx,H1 x = none -> H1 dx = none -> dx ≠ x ->
 sp (.ref x :: (vs ++ fV)) (upd (upd H1 dx (.own x)) x (.ins C dx [])) (fun v H2=>v = .aL /\ Q (.ref x) H2) E
def Av (K:PySem.W.Frag) (fd:FuncData) (ps:List Str) (ds:List Value):Prop :=
 ∀ (s:Shared) (us:List Value),K.In s.heap -> (us ++ ds).length = ps.length -> BindsTo s fd ⟨us,[]⟩ (ps.zip (us ++ ds))
theorem Av.all {K:PySem.W.Frag} {fd:FuncData} {ps:List Str} (h:∀ us:List Value,us.length = ps.length -> bindArgs fd ⟨us,[]⟩ = pure (ps.zip us)):Av K fd ps []:=fun s us _ hl=>by
 rw [List.append_nil] at hl ⊢
 exact .of_eq (h us hl)
def Iw (CX:X1) (X:Cx) (E:XK):Prop := ∀ (pins:List (Addr × Obj)) (σ:St) (H:Hp) (s:Shared) (e:Value) (s':Shared),Ag X pins σ H s -> CX X.stack H s E e s' -> X.xe e s'
section
variable {X:Cx} {CX:X1} {k:Nat} {f C:Addr} {fd:FuncData} {ps:List Str} {sp:Sp} {fV:List V} {ds:List Value} {E:XK} {x m:Str} {p pos apos:Pos} {e o:Expr} {es:List Expr} {ta:TE} {t:TA}
theorem Yw {pins : List (Addr × Obj)} {σ : St} {H : Hp} {s : Shared} {Q : VK} {us : List Value} {vs : List V} (F : Ai X.prog X.w X.K X.mg X.base CX k f fd ps sp) (hr : Cm k X.A) (hb : Av X.K fd ps ds) (hd : As fV ds) (hx : Iw CX X E)
  (I:Ag X pins σ H s) (r:As vs us) (h:sp (vs ++ fV) H Q E):wpAny (model X.prog X.w) X.A (call (.ref f) us) (EP X pins σ Q) X.xe s:=by
 have r2:As (vs ++ fV) (us ++ ds):=r.append hd
 have hl:(us ++ ds).length = ps.length:=by rw [<- r2.length]; exact F.len _ _ _ _ h
 refine wpAny_call (codeAny_mono (F.run X.A X.stack s H ⟨us,[]⟩ (us ++ ds) (vs ++ fV) Q E hr I.DP (hb s us I.eY hl) r2 h) fun r s' hq=>?_)
 cases r with
 | error e=>exact hx pins σ H s e s' I hq
 | ok fl =>
  cases fl with
  | ret u=>exact I.after hq
  | next=>exact False.elim hq
  | brk=>exact False.elim hq
  | cont=>exact False.elim hq
theorem Am (F : Ai X.prog X.w X.K X.mg X.base CX k f fd ps sp) (hr : Cm k X.A) (hg : Gl X x) (hm : X.mg x = some (.ref f)) (hk : PySem.W.keepIn X.K (.ref f) = true) (hb : Av X.K fd ps ds) (hd : As fV ds) (hx : Iw CX X E)
  (ha:PA X (e :: es) t) (qZ:(x == ("__debug__" : Str)) = false:=by decide) (he:starEach (e :: es) X.env = (false,eval e X.env) :: starEach es X.env:=by rfl) (kR:(backTo pos (starEach es X.env)).any (·.1) = false:=by rfl) :
  PE X (.Call (.Name x p) (e :: es) [] pos) (ml sp fV E t):=by
 intro pins s σ H Q I h
 refine wpAny_Call_Name_kw (Ou I hg hm ?_ qZ)
 refine PySem.W.callWith_K (h₀:=X.base) I.ok.mod.DG hk (C6 (ha pos pins s σ H _ I h) fun us s1 ⟨vs,H1,I1,r,q⟩=>⟨I1.eY,?_⟩) he kR
 exact Yw F hr hb hd hx I1 r q
theorem Uh {pl : Sem Bool} (he : PE X o ta) (c : Ss X.K C) (hm : a8 X.K C m f) (F : Ai X.prog X.w X.K X.mg X.base CX k f fd ps sp) (hr : Cm k X.A) (hb : Av X.K fd ps ds) (hd : As fV ds) (hx : Iw CX X E) (ha : PA X (e :: es) t)
  (bS:starEach (e :: es) X.env = (false,eval e X.env) :: starEach es X.env:=by rfl) (kR:(backTo pos (starEach es X.env)).any (·.1) = false:=by rfl)
  (ht:eval (.Call (.Attribute o m apos) (e :: es) [] pos) X.env = (do
   let ov <- eval o X.env
   standAt apos.atName
   let (f,first) <- holding [ov] (getMethod ov m pl)
   callWith pos f first (backTo pos (starEach (e :: es) X.env)) (backToKw pos (keywordEach [] X.env))):=by rfl) :
  PE X (.Call (.Attribute o m apos) (e :: es) [] pos) (nq C m sp fV E ta t):=by
 intro pins s σ H Q I h
 refine PySem.W.methodCall_KW (pl:=pl) (C6 (he pins s σ H _ I h) fun u s1 ⟨x,H1,I1,rx,a,dx,fs,ex,ea,l,q⟩=>?_) ht
 subst ex
 obtain rfl:u = Value.ref a:=rx
 refine U2 I1 ea c hm l ?_
 refine PySem.W.callWith_K (first:=[.ref a]) (h₀:=X.base) I.ok.mod.DG hm.kp (C6 (ha pos pins s1 σ H1 _ I1 q) fun us s2 ⟨vs,H2,I2,r,q2⟩=>⟨I2.eY,?_⟩) bS kR
 exact Yw (us := .ref a :: us) (vs := .ref a :: vs) F hr hb hd hx I2 (.cons rfl r) q2
structure Mk (K:PySem.W.Frag) (C f:Addr):Prop where
 makes:PySem.W.makesIn K C = true
 init:PySem.W.findIn K (.ref C) "__init__" = some (some (.ref f))
 fn:PySem.W.isFn K (.ref f) = true
 kp:PySem.W.keepIn K (.ref C) = true
theorem Z2 {pins : List (Addr × Obj)} {σ : St} {H : Hp} {s : Shared} {Q : VK} {us : List Value} {vs : List V} (M : Mk X.K C f) (F : Ai X.prog X.w X.K X.mg X.base CX k f fd ps sp) (hr : Cm (k + 1) X.A) (hb : Av X.K fd ps ds) (hd : As fV ds)
  (hx:Iw CX X E) (I:Ag X pins σ H s) (r:As vs us)
  (h:∀ x dx,H x = none -> H dx = none -> dx ≠ x -> sp (.ref x :: (vs ++ fV)) (upd (upd H dx (.own x)) x (.ins C dx [])) (fun v H2=>v = .aL /\ Q (.ref x) H2) E) :
  wpAny (model X.prog X.w) X.A (call (.ref C) us) (EP X pins σ Q) X.xe s:=by
 have hq:=h (s.heap.objs.size + 1) s.heap.objs.size (I.aH.fresh (Nat.le_succ _)) (I.aH.fresh (Nat.le_refl _)) (Nat.ne_of_lt (Nat.lt_succ_self _))
 have I2:=Ag.made (C:=C) I
 have r2:As (V.ref (s.heap.objs.size + 1) :: (vs ++ fV)) (Value.ref (s.heap.objs.size + 1) :: (us ++ ds)) := .cons rfl (r.append hd)
 have hl:(Value.ref (s.heap.objs.size + 1) :: us ++ ds).length = ps.length:=by
  have e:=r2.length
  rw [F.len _ _ _ _ hq] at e
  exact e.symm
 refine wpAny_call (Yf (f:=f) I.eY M.makes M.init (beq_iff_eq.mp M.fn) (codeAny_mono (F.run _ X.stack _ _ ⟨Value.ref (s.heap.objs.size + 1) :: us,[]⟩ (Value.ref (s.heap.objs.size + 1) :: (us ++ ds)) _ _ E (hr.make C us [])
  (I2.DP.make C us []) (hb _ (Value.ref (s.heap.objs.size + 1) :: us) I2.eY hl) r2 hq) fun r s' kS=>?_))
 cases r with
 | error e=>exact hx pins σ _ _ e s' I2 kS
 | ok fl =>
  cases fl with
  | ret u =>
   obtain ⟨v,H',I3,rv,ev,q3⟩ := I2.after kS
   subst ev
   exact ⟨rv,⟨V.ref (s.heap.objs.size + 1),H',I3,rfl,q3⟩⟩
  | next=>exact False.elim kS
  | brk=>exact False.elim kS
  | cont=>exact False.elim kS
theorem U6 (M : Mk X.K C f) (F : Ai X.prog X.w X.K X.mg X.base CX k f fd ps sp) (hr : Cm (k + 1) X.A) (hg : Gl X x) (hm : X.mg x = some (.ref C)) (hb : Av X.K fd ps ds) (hd : As fV ds) (hx : Iw CX X E)
  (ha:PA X (e :: es) t) (qZ:(x == ("__debug__" : Str)) = false:=by decide) (he:starEach (e :: es) X.env = (false,eval e X.env) :: starEach es X.env:=by rfl) (kR:(backTo pos (starEach es X.env)).any (·.1) = false:=by rfl) :
  PE X (.Call (.Name x p) (e :: es) [] pos) (nk C sp fV E t):=by
 intro pins s σ H Q I h
 refine wpAny_Call_Name_kw (Ou I hg hm ?_ qZ)
 refine PySem.W.callWith_K (h₀:=X.base) I.ok.mod.DG M.kp (C6 (ha pos pins s σ H _ I h) fun us s1 ⟨vs,H1,I1,r,q⟩=>⟨I1.eY,?_⟩) he kR
 exact Z2 M F hr hb hd hx I1 r q
end
section
variable {X:Cx} {CX:X1} {k:Nat} {f C:Addr} {fd:FuncData} {ps ks:List Str} {sp:Sp} {E:XK} {x m:Str} {p pos apos OU:Pos} {e o:Expr} {es:List Expr} {kws:List Keyword} {te ta:TE} {t tk:TA} {nm:Option Str}
variable {g:List Value -> List Value -> List Value} {gV:List V -> List V -> List V}
end
structure Ao (N P:List Str) (sc:Scope):Prop where
 kind:sc.kind = .function
 co:sc.isCoroutine = false
 gen:sc.isGenerator = false
 nd:N.Nodup
 pre:N.take P.length = P
 par:∀ x ∈ P,sc.names.lookup x = some .local \/ sc.names.lookup x = some .cell
 vZ:∀ y ∈ sc.names,y.2 ≠ .free
theorem Mm {kindOf:Str -> Option NameKind} {x:Str}:∀ {binds:List (Str × Value)} {m:Str -> Option Value},(∀ v,(x,v) ∉ binds) -> bindL kindOf binds m x = m x
 | [],_,_=>rfl
 | (n,v) :: r,m,h=>by
  unfold bindL
  rw [Mm fun w hw=>h w (List.mem_cons_of_mem _ hw)]
  split
  ·have:x ≠ n:=by rintro rfl; exact h v List.mem_cons_self
   simp [this]
  ·rfl
theorem Nh {kindOf:Str -> Option NameKind} {x:Str}:∀ {binds:List (Str × Value)} {m:Str -> Option Value},(∀ v,(x,v) ∉ binds) -> bindC kindOf binds m x = m x
 | [],_,_=>rfl
 | (n,v) :: r,m,h=>by
  unfold bindC
  rw [Nh fun w hw=>h w (List.mem_cons_of_mem _ hw)]
  split
  ·rfl
  ·have:x ≠ n:=by rintro rfl; exact h v List.mem_cons_self
   simp [this]
theorem N3 {kindOf : Str -> Option NameKind} {x : Str} {v : Value} : ∀ {P : List Str} {vs : List Value} {i : Nat} {m : Str -> Option Value}, P.Nodup -> P[i]? = some x -> vs[i]? = some v -> kindOf x = some .local ->
  bindL kindOf (P.zip vs) m x = some v
 | [],_,_,_,_,h,_,_=>by simp at h
 | _ :: _,[],_,_,_,_,h,_=>by simp at h
 | p :: P,w :: vs,0,m,nd,h1,h2,hk=>by
  simp at h1 h2; subst h1; subst h2
  show bindL kindOf ((p,w) :: P.zip vs) m p = _
  unfold bindL
  rw [Mm fun v hv=>(List.nodup_cons.mp nd).1 (List.of_mem_zip hv).1,if_pos hk]
  simp
 | p :: P,w :: vs,i + 1,m,nd,h1,h2,hk=>by
  show bindL kindOf ((p,w) :: P.zip vs) m x = _
  unfold bindL
  exact N3 (i:=i) (List.nodup_cons.mp nd).2 (by simpa using h1) (by simpa using h2) hk
theorem Nf {kindOf : Str -> Option NameKind} {x : Str} {v : Value} : ∀ {P : List Str} {vs : List Value} {i : Nat} {m : Str -> Option Value}, P.Nodup -> P[i]? = some x -> vs[i]? = some v -> kindOf x ≠ some .local ->
  bindC kindOf (P.zip vs) m x = some v
 | [],_,_,_,_,h,_,_=>by simp at h
 | _ :: _,[],_,_,_,_,h,_=>by simp at h
 | p :: P,w :: vs,0,m,nd,h1,h2,hk=>by
  simp at h1 h2; subst h1; subst h2
  show bindC kindOf ((p,w) :: P.zip vs) m p = _
  unfold bindC
  rw [Nh fun v hv=>(List.nodup_cons.mp nd).1 (List.of_mem_zip hv).1,if_neg hk]
  simp
 | p :: P,w :: vs,i + 1,m,nd,h1,h2,hk=>by
  show bindC kindOf ((p,w) :: P.zip vs) m x = _
  unfold bindC
  exact Nf (i:=i) (List.nodup_cons.mp nd).2 (by simpa using h1) (by simpa using h2) hk
def start (N:List Str) (vs:List V):St:=vs.map some ++ List.replicate (N.length - vs.length) none
def Sa (CX:X1) (P:Program) (w:World) (K:PySem.W.Frag) (mg:Str -> Option Value) (base:Heap) (N:List Str) (qual:Str) (scope:Scope) (f:Addr) (cd:Value) (A:Around) (outer:List Env) (s:Shared) (H:Hp) (E:XK):Cx where
 prog:=P
 w:=w
 K:=K
 mg:=mg
 base:=base
 A:=A.deeper (envOfC qual scope s.heap.objs.size f cd)
 N:=N
 s₀:=s
 H₀:=H
 env:=envOfC qual scope s.heap.objs.size f cd
 outer:=outer
 stack:=envOfC qual scope s.heap.objs.size f cd :: outer
 ex:=[]
 calm:=true
 fn:=fun _=>true
 pn:=[]
 xe:=fun e s'=>wpAny (model P w) (A.deeper (envOfC qual scope s.heap.objs.size f cd)) (leaving (envOfC qual scope s.heap.objs.size f cd) e) (fun _ OV=>CX outer H s E e OV) (fun e' OV=>CX outer H s E e' OV) s'
theorem Rm {sc:Scope} {n:Nat} {x:Str} (h:sc.names.lookup x = some .cell):∃ c,(cellsFrom n sc.names []).lookup x = some c:=by
 have q:=PySem.W.cellsFrom_some sc.names n [] (.inl h)
 exact Option.isSome_iff_exists.mp q
theorem Vn {CX : X1} {P : Program} {w : World} {K : PySem.W.Frag} {mg : Str -> Option Value} {base : Heap} {N ps : List Str} {qual : Str} {scope : Scope} {f : Addr} {cd : Value} {A : Around} {outer : List Env} {s s1 : Shared} {H : Hp} {E : XK} {us : List Value} {vs : List V}
  (S:Ao N ps scope) (hd:A.handled = none) (e0:S3 P w K mg base A outer s H) (hl:vs.length = ps.length) (r:As vs us)
  (x:InCallC s s.heap.objs.size (bindL (envOfC qual scope s.heap.objs.size f cd).kindOf (ps.zip us) fun _=>none) (cellsFrom (s.heap.objs.size + 1) scope.names []) (bindC (envOfC qual scope s.heap.objs.size f cd).kindOf (ps.zip us) fun _=>none) s1) :
  Ag (Sa CX P w K mg base N qual scope f cd A outer s H E) [] (start N vs) H s1:=by
 have kR:ps.length <= N.length:=by have:=congrArg List.length S.pre; rw [List.length_take] at this; omega
 obtain ⟨h1,tk,rfl,hk⟩ := x.done
 have DQ:∀ b:Addr,b ∉ (Sa CX P w K mg base N qual scope f cd A outer s H E).ex:=fun b z=>absurd (show b ∈ ([]:List Addr) from z) (by simp)
 refine ⟨⟨e0.mod,S.kind,rfl,rfl,Nat.le_refl _,fun y z c h1 h2=>?_,fun y hy=>?_,fun y c _ h=>?_,fun _=>hd,Around.frames_deeper e0.frames,.inr ⟨rfl,rfl⟩,fun b z=>absurd z (DQ b),e0.bs,e0.lY,fun b _ _=>DQ b,fun b z=>absurd z (DQ b),e0.cX,e0.rA⟩,
  rfl,e0.bare,Un.kept hk,⟨_,x.toInCall.ns,fun i y v h1 h2 h3=>?_⟩,fun y c h=>⟨_,x.cell y c h⟩,e0.aH.fresh (Nat.le_refl _),fun y c h=>?_,fun p hp=>absurd (show p ∈ ([]:List (Addr × Obj)) from hp) (by simp),e0.aH.kept hk,?_⟩
 ·exact name_of_addr x.apart (PySem.mem_of_lookup h1) (PySem.mem_of_lookup h2)
 ·have hy:scope.names.lookup y = some .cell \/ scope.names.lookup y = some .free:=hy
  rcases hy with hy | hy
  ·exact Rm hy
  ·exact absurd rfl (S.vZ _ (PySem.mem_of_lookup hy))
 ·exact Nat.le_of_lt (x.above y c (PySem.mem_of_lookup h))
 ·have hi : i < vs.length := by
   unfold start at h2
   by_cases hi:i < vs.length
   ·exact hi
   ·rw [List.getElem?_append_right (by simpa using hi)] at h2
    rw [List.getElem?_replicate] at h2
    split at h2 <;> cases h2
  have ha:vs[i]? = some v:=by
   unfold start at h2
   rw [List.getElem?_append_left (by simpa using hi),List.getElem?_map] at h2
   cases e:vs[i]? with
   | none=>rw [e] at h2; cases h2
   | some a=>rw [e] at h2; cases h2; rfl
  obtain ⟨u,hu,rv⟩ := r.get ha
  have hp:ps[i]? = some y:=by
   rw [<- S.pre,List.getElem?_take_of_lt (by omega)]; exact h1
  have ndP:ps.Nodup:=by rw [<- S.pre]; exact S.nd.sublist (List.take_sublist _ _)
  refine ⟨u,rv,?_⟩
  rcases S.par y (List.mem_of_getElem? hp) with k | k
  ·exact .inl ⟨k,N3 ndP hp hu k⟩
  ·obtain ⟨c,e⟩ := Rm (n:=s.heap.objs.size + 1) k
   refine .inr ⟨.inl k,c,e,?_⟩
   have q:=x.cell y c e
   rw [Nf ndP hp hu (by show scope.names.lookup y ≠ _; rw [k]; decide)] at q
   exact q
 ·exact e0.aH.fresh (Nat.le_of_lt (x.above y c (PySem.mem_of_lookup h)))
 ·unfold start
  show _ = N.length
  rw [List.length_append,List.length_map,List.length_replicate]
  omega
theorem c9 {CX : X1} {P : Program} {w : World} {K : PySem.W.Frag} {mg : Str -> Option Value} {base : Heap} {k : Nat} {f : Addr} {name qual : Str} {params : Arguments} {body : List Stmt} {scope : Scope} {dV kV doc pm aP ct oc : Value} {an od : Option Addr}
  {gK:Array (Option Value)} {N ps:List Str} {sp:Sp} (lk:K.lookup f = some ⟨oc,od,.func (PySem.W.fnOf name qual params body scope dV kV doc pm an aP ct),gK⟩) (lZ:PySem.W.codeIn K aP qual = true) (S:Ao N ps scope)
  (len:∀ vs H Q E,sp vs H Q E -> vs.length = ps.length)
  (iI:∀ (A:Around) (outer:List Env) (s:Shared) (H:Hp) (vs:List V) (Q:VK) (E:XK),Cm k (A.deeper (envOfC qual scope s.heap.objs.size f aP)) -> sp vs H Q E ->
   ∃ t,Ro (Sa CX P w K mg base N qual scope f aP A outer s H E) body t /\ t { nx:=fun _ H'=>Q .aL H',rt:=Q } (start N vs) H) :
  Ai P w K mg base CX (k + 1) f (PySem.W.fnOf name qual params body scope dV kV doc pm an aP ct) ps sp:=by
 refine ⟨len,fun A outer s H args us vs Q E hr e0 hb r mB=>?_⟩
 have hl:=len _ _ _ _ mB
 have KX:K.In s.heap:=e0.mod.DG.keeps fun b o e=>(e0.bs b o e).1
 have lim:s.heap.NoLimit:=e0.mod.nolimit.keeps fun b o e=>(e0.bs b o e).1
 have DR:∀ y ∈ ps.zip us,scope.names.lookup y.1 = some .local \/ (scope.names.lookup y.1 = some .cell /\ ((cellsFrom (s.heap.objs.size + 1) scope.names []).lookup y.1).isSome = true):=fun ⟨n,v⟩ hy=>by
  rcases S.par n (List.of_mem_zip hy).1 with q | q
  ·exact .inl q
  ·exact .inr ⟨q,PySem.W.cellsFrom_some _ _ _ (.inl q)⟩
 refine codeAny_call_function hr.depth (KX _ _ lk) rfl S.co S.gen rfl (PySem.W.codeRec_of KX lZ) (hb _ _ _ _ ?_)
 refine wpAny_newFunctionEnv_cells S.kind DR fun env he s1 x=>?_
 subst he
 refine ⟨lim.keeps x.toInCall.keep,codeAny_func ?_⟩
 obtain ⟨t,ht,hq⟩ := iI A outer s H vs Q E (hr.deeper _) mB
 have I:Ag (Sa CX P w K mg base N qual scope f aP A outer s H E) [] (start N vs) H s1:=Vn S hr.hd e0 hl r x
 refine wpAny_mono (ht [] s1 (start N vs) H _ I hq) (fun fl s' hs=>?_) fun e s' hs=>hs
 have fin:∀ {σ':St} {H':Hp} {v:V} {u:Value},Ag (Sa CX P w K mg base N qual scope f aP A outer s H E) [] σ' H' s' -> Ap v u -> Q v H' -> CE outer P w H s Q u s' :=
  fun {σ' H' v u} J rv q=>⟨v,H',J.os,J.bare,J.base,J.aH,rv,q⟩
 cases fl with
 | ret u =>
  obtain ⟨v,σ',H',J,rv,q⟩ := hs
  exact fin J rv q
 | next =>
  obtain ⟨σ',H',J,q⟩ := hs
  exact fin (v:=V.aL) (u:=Value.none) J rfl q
 | brk =>
  obtain ⟨_,_,_,q⟩ := hs
  exact False.elim q
 | cont =>
  obtain ⟨_,_,_,q⟩ := hs
  exact False.elim q
section
variable {X:Cx} {x:Str} {p pos:Pos} {e:Expr} {es:List Expr} {t:TA} {id T:String} {r:List V -> Hp -> VK -> Prop}
def rl (r:List V -> Hp -> VK -> Prop) (t:TA):TE:=fun σ H Q=>t σ H fun vs H1=>r vs H1 Q
theorem Bi (hc : Di X (.builtin id) r) (hg : Gl X x) (hm : X.mg x = none) (hv : bootBuiltins x = some (.builtin id)) (ha : PA X (e :: es) t) (hn : x ≠ "__name__" := by decide) (qZ : (x == ("__debug__" : Str)) = false := by decide)
  (he:starEach (e :: es) X.env = (false,eval e X.env) :: starEach es X.env:=by rfl) (kR:(backTo pos (starEach es X.env)).any (·.1) = false:=by rfl):PE X (.Call (.Name x p) (e :: es) [] pos) (rl r t):=by
 intro pins s σ H Q I h
 refine wpAny_Call_Name_kw (J0 I hg hm hv ?_ hn qZ)
 exact PyProof.Rows.callWith_builtin1 (C6 (ha pos pins s σ H _ I h) fun us s1 ⟨vs,H1,I1,r1,q1⟩=>hc pins s1 σ H1 vs us Q I1 r1 q1) he kR
theorem Ct (hc : Di X (.type T) r) (hg : Gl X x) (hm : X.mg x = none) (hv : bootBuiltins x = some (.type T)) (ha : PA X (e :: es) t) (hn : x ≠ "__name__" := by decide) (qZ : (x == ("__debug__" : Str)) = false := by decide)
  (he:starEach (e :: es) X.env = (false,eval e X.env) :: starEach es X.env:=by rfl) (kR:(backTo pos (starEach es X.env)).any (·.1) = false:=by rfl):PE X (.Call (.Name x p) (e :: es) [] pos) (rl r t):=by
 intro pins s σ H Q I h
 refine wpAny_Call_Name_kw (J0 I hg hm hv ?_ hn qZ)
 exact PyProof.Rows.callWith_type1 (C6 (ha pos pins s σ H _ I h) fun us s1 ⟨vs,H1,I1,r1,q1⟩=>hc pins s1 σ H1 vs us Q I1 r1 q1) he kR
end
end L2
namespace HT
local macro_rules | `(tactic| omega) => `(tactic| lia)
open PySem PyProof.Rows
section
open PySem.SeqAt
open PySem.AutoSeq1 (wpAny_loadPart')
open PySem.MeetsSeq PySem.MeetsSeq2 PySem.MeetsSeq3
end
section
variable {prog:Program} {w:World} {A:Around} {E:Value -> Shared -> Prop} {s:Shared}
theorem rE {t b : Addr} {vs ws : List Value} {Q : Value -> Shared -> Prop} (ht : IsTup s.heap t vs.toArray) (hb : IsTup s.heap b ws.toArray) (hv : vs ≠ [])
  (h1:ws = [] -> Q (.ref t) s) (h2:ws ≠ [] -> Q (.ref s.heap.objs.size) { s with heap:=s.heap.push { cls := .type "tuple",data := .seq (vs ++ ws).toArray } })
  (hsz:vs.length + ws.length <= sizeLine):wpAny (model prog w) A (binaryOp .Add (.ref t) (.ref b)) Q E s:=by
 obtain ⟨⟨cls,dd,data,sl⟩,ho,hc,n,hd⟩ := id ht
 obtain ⟨⟨cls2,CC,data2,CD⟩,iJ,jC,n2,hd2⟩ := id hb
 simp only at hc hd jC hd2
 subst hc hd jC hd2
 have e:vs.toArray ++ ws.toArray = (vs ++ ws).toArray:=by simp
 by_cases hw:ws = []
 ·exact concat_meets ⟨_, ho, rfl⟩ ⟨_, iJ, rfl⟩ noFill_tuple_add seq_tuple_add PySem.F.slot_tuple_add PySem.F.entry_tuple_add (PySem.F.args_tuple_add_2 _ _)
   (tuple_addW1 t b vs.toArray ws.toArray n n2 dd CC sl CD (by simpa using hv) (by simp [hw])) ⟨ho,iJ,h1 hw⟩
 ·refine concat_meets ⟨_, ho, rfl⟩ ⟨_, iJ, rfl⟩ noFill_tuple_add seq_tuple_add PySem.F.slot_tuple_add PySem.F.entry_tuple_add (PySem.F.args_tuple_add_2 _ _)
   (tuple_addW2 t b vs.toArray ws.toArray n n2 dd CC sl CD (by simpa using hv) (by simpa using hw) (by rw [List.size_toArray,List.size_toArray]; exact hsz)) ⟨ho,iJ,?_⟩
  rw [e]
  exact h2 hw
def gL (n d:Nat):Option Int -> Nat
 | none=>d
 | some v=>if v < 0 then (v + (n:Int)).toNat else min v.toNat n
theorem iK (n d:Nat):gL n d none = d:=rfl
theorem kH (n d k:Nat):gL n d (some (k:Int)) = min k n:=by
 show (if (k:Int) < 0 then ((k:Int) + (n:Int)).toNat else min (k:Int).toNat n) = min k n
 rw [if_neg (by omega),Int.toNat_natCast]
end
end HT
namespace L2
local macro_rules | `(tactic| omega) => `(tactic| lia)
open PySem PySem.Spec PyProof.Rows
abbrev TO:=St -> Hp -> (Option Int -> Hp -> Prop) -> Prop
def PO (X:Cx) (e:Option Expr) (t:TO):Prop :=
 ∀ (pins:List (Addr × Obj)) (s:Shared) (σ:St) (H:Hp) (Q:Option Int -> Hp -> Prop),Ag X pins σ H s -> t σ H Q ->
  wpAny (model X.prog X.w) X.A (evalPart e X.env) (fun u s'=>∃ o H',Ag X pins σ H' s' /\ IsPart u o /\ Q o H') X.xe s
def bj:TO:=fun _ H Q=>Q none H
def kc (t:TE):TO:=fun σ H Q=>t σ H fun x H1=>∃ i,x = .int i /\ Q (some i) H1
theorem Li {ns:List Int}:∀ {us:List Value},As (ns.map V.int) us -> IntsAre us ns:=by
 induction ns with
 | nil=>intro us r; rw [List.map_nil] at r; cases r; exact .nil
 | cons n ns ih =>
  intro us r
  rw [List.map_cons] at r
  cases r with
  | cons r1 r2 =>
   obtain ⟨t,e⟩ := r1
   subst e
   exact .cons n t (ih r2)
section
variable {X:Cx} {e:Expr} {te:TE} {lo hi:Option Expr} {tl th:TO} {pos p2:Pos}
theorem P0:PO X none bj:=by
 intro pins s σ H Q I h
 rw [evalPart_none]
 exact wpAny_pure ⟨none,H,I,.none,h⟩
theorem Hl (h:PE X e te):PO X (some e) (kc te):=by
 intro pins s σ H Q I hw
 rw [evalPart_some]
 refine C6 (h pins s σ H _ I hw) fun u s1 aO=>?_
 obtain ⟨x,H1,I1,r1,q1⟩ := aO
 obtain ⟨i,rfl,q⟩ := q1
 obtain ⟨t,rfl⟩ := r1
 exact ⟨some i,H1,I1,.int i t,q⟩
def qe (X:Cx) (r:V -> Option Int -> Option Int -> Hp -> VK -> Prop):Prop :=
 ∀ (pins:List (Addr × Obj)) (s:Shared) (σ:St) (H:Hp) (x:V) (v vl vu:Value) (lo hi:Option Int) (sl:Addr) (Q:VK),Ag X pins σ H s -> Ap x v -> s.heap.IsSliceOf sl vl vu .none -> IsPart vl lo -> IsPart vu hi -> r x lo hi H Q ->
  ∃ T id,typeLookup (.type T) "__getitem__" = pure (some (.builtin id)) /\ s.TypeIs v T /\ wpAny (model X.prog X.w) X.A (getItem v (.ref sl)) (EP X pins σ Q) X.xe s
def ut (r:V -> Option Int -> Option Int -> Hp -> VK -> Prop) (te:TE) (tl th:TO):TE:=fun σ H Q=>te σ H fun x H1=>tl σ H1 fun l H2=>th σ H2 fun u H3=>r x l u H3 Q
theorem Hr {r:V -> Option Int -> Option Int -> Hp -> VK -> Prop} (hr:qe X r) (he:PE X e te) (hl:PO X lo tl) (hu:PO X hi th):PE X (.Subscript e (.Slice lo hi none p2) pos) (ut r te tl th):=by
 intro pins s σ H Q I h
 refine Subscript_ (C6 (he pins s σ H _ I h) fun v s1 aO=>?_)
 obtain ⟨x,H1,I1,r1,q1⟩ := aO
 refine wpAny_Slice (C6 (hl pins s1 σ H1 _ I1 q1) fun vl s2 ⟨l,H2,I2,pl,q2⟩=>C6 (hu pins s2 σ H2 _ I2 q2) fun vu s3 aO=>?_)
 obtain ⟨u,H3,I3,pu,q3⟩ := aO
 rw [evalPart_none]
 refine wpAny_pure ?_
 have I4:Ag X pins σ H3 { s3 with heap:=s3.heap.push { cls := .type "slice",data := .fields #[vl,vu,.none] } }:=I3.kept (t':=s3.toks) fun b ob q=>Heap.get?_push_of_some _ q
 obtain ⟨T,id,hT,ht,hg⟩ := hr pins { s3 with heap:=s3.heap.push { cls := .type "slice",data := .fields #[vl,vu,.none] } } σ H3 x v vl vu l u s3.heap.objs.size Q I4 r1 (Heap.IsSliceOf.new ..) pl pu q3
 show wpAny (model X.prog X.w) X.A (subscriptTail e (.Slice lo hi none p2) v (.ref s3.heap.objs.size)) (EP X pins σ Q) X.xe { s3 with heap:=s3.heap.push { cls := .type "slice",data := .fields #[vl,vu,.none] } }
 exact tail_any (ops:=[.ref s3.heap.objs.size,v]) ht hT hg (by with_unfolding_all rfl)
def Mh (xs:List V) (lo hi:Option Int):List V:=(xs.drop (HT.gL xs.length 0 lo)).take (HT.gL xs.length xs.length hi - HT.gL xs.length 0 lo)
theorem Q0 (xs:List V) (lo hi:Option Int):(Mh xs lo hi).length <= xs.length:=by
 unfold Mh
 rw [List.length_take,List.length_drop]
 omega
def mq (K:PySem.W.Frag):R2:=fun x y H Q=>∃ a b xs ys,x = .ref a /\ y = .ref b /\ C0 K H a xs /\ C0 K H b ys /\ xs ≠ [] /\ xs.length + ys.length <= sizeLine /\
 (ys = [] -> Q (.ref a) H) /\ (ys ≠ [] -> ∀ p,H p = none -> Q (.ref p) (upd H p (.tup (xs ++ ys))))
theorem As.gS {xs:List V} {us:List Value} (r:As xs us):us = [] ↔ xs = []:=by
 cases r with
 | nil=>simp
 | cons _ _=>simp
theorem Zt:J5 X (binaryOp .Add) (mq X.K):=by
 intro pins s σ H x y v u Q I rx ry h
 obtain ⟨a,b,xs,ys,rfl,rfl,ha,hb,hx,hz,q1,q2⟩ := h
 cases rx
 cases ry
 obtain ⟨aC,r1,p1,_⟩ := I.tuple ha
 obtain ⟨gT,r2,p2,_⟩ := I.tuple hb
 refine HT.rE p1 p2 (fun z=>hx (r1.gS.mp z)) (fun z=>⟨.ref a,H,I,rfl,q1 (r2.gS.mp z)⟩) (fun z=>?_) (by rw [<- r1.length,<- r2.length]; exact hz)
 refine ⟨.ref s.heap.objs.size,_,I.laid (t':=s.toks) (o := .tup (xs ++ ys)) (fun b ob q=>Heap.get?_push_of_some _ q) (Nat.le_refl _) ?_,rfl,q2 (fun w=>z (r2.gS.mpr w)) _ (I.aH.fresh (Nat.le_refl _))⟩
 exact ⟨⟨by rw [List.length_append]; exact hz,⟨_,Heap.get?_push_size _ rfl,rfl⟩⟩,_,r1.append r2,IsTup.new _ _⟩
end
def bo (n:Nat) (i:Int):Option Nat:=if 0 <= i then (if i < n then some i.toNat else none) else if -(n:Int) <= i then some (i + n).toNat else none
def Xq {α:Type} (xs:List α) (i:Int):Option α:=(bo xs.length i).bind fun j=>xs[j]?
theorem Uu {n:Nat} {i:Int} {j:Nat} (h:bo n i = some j):seqIndex? i n = some j /\ j < n /\ -(n:Int) <= i /\ i < n:=by
 unfold bo at h
 by_cases h0:0 <= i
 ·rw [if_pos h0] at h
  by_cases h1:i < n
  ·rw [if_pos h1] at h
   have e:i.toNat = j:=Option.some.inj h
   exact ⟨by rw [seqIndex_of h0 h1,e],by omega,by omega,h1⟩
  ·rw [if_neg h1] at h; cases h
 ·rw [if_neg h0] at h
  by_cases h1 : -(n:Int) <= i
  ·rw [if_pos h1] at h
   have e:(i + n).toNat = j:=Option.some.inj h
   exact ⟨by rw [seqIndex_neg (by omega) h1,e],by omega,h1,by omega⟩
  ·rw [if_neg h1] at h; cases h
theorem Ub {α:Type} {xs:List α} {i:Int} {v:α} (h:Xq xs i = some v):∃ j,seqIndex? i xs.length = some j /\ xs[j]? = some v /\ j < xs.length /\ -(xs.length:Int) <= i /\ i < xs.length:=by
 unfold Xq at h
 cases e:bo xs.length i with
 | none=>rw [e] at h; cases h
 | some j =>
  rw [e] at h
  obtain ⟨h1,h2,h3,h4⟩ := Uu e
  exact ⟨j,h1,h,h2,h3,h4⟩
theorem Ol {α:Type} {xs:List α} {j:Nat} {v:α} (h:xs[j]? = some v):Xq xs (j:Int) = some v:=by
 have hj:j < xs.length:=(List.getElem?_eq_some_iff.mp h).1
 have e:bo xs.length (j:Int) = some j:=by
  unfold bo
  rw [if_pos (by omega),if_pos (by omega)]; simp
 unfold Xq; rw [e]; exact h
def b6 (b:Expr):Prop := ∀ o i,subscripted b false o i = operate [o,i] (getItem o i)
def og (X:Cx) (r:R2):Prop :=
 ∀ (value slice:Expr) (pins:List (Addr × Obj)) (s:Shared) (σ:St) (H:Hp) (x y:V) (v u:Value) (Q:VK),Ag X pins σ H s -> Ap x v -> Ap y u -> r x y H Q ->
  subscripted slice false v u = operate [v,u] (getItem v u) -> wpAny (model X.prog X.w) X.A (subscriptTail value slice v u) (EP X pins σ Q) X.xe s
def om (X:Cx) (id:String) (r:V -> List V -> Hp -> VK -> Prop):Prop :=
 ∀ (pins:List (Addr × Obj)) (s:Shared) (σ:St) (H:Hp) (x:V) (xs:List V) (v:Value) (us:List Value) (Q:VK),Ag X pins σ H s -> Ap x v -> As xs us -> r x xs H Q ->
  wpAny (model X.prog X.w) X.A (call (.builtin id) (v :: us)) (EP X pins σ Q) X.xe s
section
variable {X:Cx} {a b:Expr} {ta tb:TE} {pos:Pos}
theorem B0 {r:R2} (hr:og X r) (ha:PE X a ta) (hb:PE X b tb) (hs:b6 b):PE X (.Subscript a b pos) (o7 r ta tb):=by
 intro pins s σ H Q I h
 exact Subscript_ (ja ha hb I h fun v u s2 x y H2 I2 rx ry q=>hr a b pins s2 σ H2 x y v u Q I2 rx ry q (hs _ _))
def qi (K:PySem.W.Frag):R2:=fun x y H Q=>∃ p xs i v,x = .ref p /\ y = .int i /\ B6 K H p xs /\ Xq xs i = some v /\ Q v H
def qf (K:PySem.W.Frag):R2:=fun x y H Q=>∃ p xs i v,x = .ref p /\ y = .int i /\ C0 K H p xs /\ Xq xs i = some v /\ Q v H
theorem ap:og X (qi X.K):=by
 intro value slice pins s σ H x y v u Q I rx ry h hs
 obtain ⟨p,xs,i,z,rfl,rfl,hq,he,q⟩ := h
 cases rx
 obtain ⟨t,rfl⟩ := ry
 obtain ⟨aC,r,pl,hz⟩ := I.list hq
 obtain ⟨j,h1,h2,h3,h4,h5⟩ := Ub he
 obtain ⟨w,ew,fA⟩ := r.get h2
 have hl:=r.length
 have hn:=Ha
 have fin:EP X pins σ Q w s:=⟨z,H,I,fA,q⟩
 by_cases h0:0 <= i
 ·have hj : i.toNat = j := by
   rw [seqIndex_of h0 h5] at h1
   exact Option.some.inj h1
  exact item_listR pl.isList h0 (by omega) (by rw [hj]; simpa using ew) fin hs
 ·have hj : (i + (aC.toArray.size : Int)).toNat = j := by
   rw [seqIndex_neg (by omega) h4] at h1
   rw [List.size_toArray,<- hl]
   exact Option.some.inj h1
  exact subscriptTail_builtinR (x:=w) pl.isList.typeIs slot_list_getitem.lookup
   (wpAny_getItem_list_neg (Q:=fun r s'=>r = w /\ EP X pins σ Q r s') pl.isList (by omega) (by rw [List.size_toArray] <;> omega) (by omega) (by rw [hj]; simpa using ew) ⟨rfl,fin⟩) hs
theorem ji:og X (qf X.K):=by
 intro value slice pins s σ H x y v u Q I rx ry h hs
 obtain ⟨p,xs,i,z,rfl,rfl,hq,he,q⟩ := h
 cases rx
 obtain ⟨t,rfl⟩ := ry
 obtain ⟨aC,r,pl,hz⟩ := I.tuple hq
 obtain ⟨j,h1,h2,h3,h4,h5⟩ := Ub he
 obtain ⟨w,ew,fA⟩ := r.get h2
 have hl:=r.length
 have hn:=Ha
 have fin:EP X pins σ Q w s:=⟨z,H,I,fA,q⟩
 exact subscriptTail_builtinR (x:=w) pl.typeIs slot_tuple_getitem.lookup
  (getItem_tuple (j:=j) (Q:=fun r s'=>r = w /\ EP X pins σ Q r s') pl (by omega) (by omega) (by rw [List.size_toArray,<- hl]; exact h1) (by simpa using ew) ⟨rfl,fin⟩) hs
theorem Tu (aC:List Value) (n j:Nat) (u:Value):Obj.mapSeq (·.setIfInBounds j u) { cls := .type "list",data := .seq aC.toArray n } = { cls := .type "list",data := .seq (aC.set j u).toArray n }:=by
 simp [Obj.mapSeq]
theorem Ag.lst {pins : List (Addr × Obj)} {σ : St} {H : Hp} {s : Shared} {p : Addr} {xs : List V} (I : Ag X pins σ H s) (h : H p = some (.lst xs)) :
  ∃ (aC:List Value) (n:Nat),As xs aC /\ s.heap.get? p = some { cls := .type "list",data := .seq aC.toArray n } /\ xs.length <= sizeLine:=by
 obtain ⟨z,aC,n,r,e⟩ := I.aH p _ h
 exact ⟨aC,n,r,e,z⟩
theorem Ag.w4 {pins : List (Addr × Obj)} {σ : St} {H : Hp} {s : Shared} {p : Addr} {xs ys : List V} {aC its' : List Value} {n n' : Nat} {f : Obj -> Obj} (I : Ag X pins σ H s) (h : H p = some (.lst xs))
  (ho:s.heap.get? p = some { cls := .type "list",data := .seq aC.toArray n }) (hf:f { cls := .type "list",data := .seq aC.toArray n } = { cls := .type "list",data := .seq its'.toArray n' }) (r:As ys its') (hz:ys.length <= sizeLine) (t:Nat) :
  Ag X pins σ (upd H p (.lst ys)) { s with heap:=s.heap.update p f,toks:=t }:=by
 have e:(s.heap.update p f).get? p = some { cls := .type "list",data := .seq its'.toArray n' }:=by
  rw [Heap.get?_update_self f ho (by rw [hf] <;> rfl),hf]
 refine I.write (x:=p) (e:=p) (by rw [h]; trivial) (.inl rfl) (fun b u hb q=>(Heap.get?_update_other _ _ (Ne.symm hb)).trans q) ⟨_,e⟩ ?_
 exact ⟨hz,its',n',r,e⟩
def mn:V -> V -> V -> Hp -> (Hp -> Prop) -> Prop:=fun o i v H Q=>∃ p xs k j,o = .ref p /\ i = .int k /\ H p = some (.lst xs) /\ bo xs.length k = some j /\ Q (upd H p (.lst (xs.set j v)))
theorem Qk:lf X mn:=by
 intro pins s σ H o i v ov iv u Q I ro ri rv h
 obtain ⟨p,xs,k,j,rfl,rfl,hp,hj,q⟩ := h
 cases ro
 obtain ⟨t,rfl⟩ := ri
 obtain ⟨aC,n,r,ho,hz⟩ := I.lst hp
 obtain ⟨h1,h2,h3,h4⟩ := Uu hj
 have hl:=r.length
 have hn:=Ha
 have I':Ag X pins σ (upd H p (.lst (xs.set j v))) { s with heap:=s.heap.update p (Obj.mapSeq (·.setIfInBounds j u)) } :=
  I.w4 hp ho (Tu aC n j u) (r.set rv j) (by rw [List.length_set]; exact hz) s.toks
 by_cases h0:0 <= k
 ·have hk : k.toNat = j := by
   rw [seqIndex_of h0 h4] at h1
   exact Option.some.inj h1
  exact PySem.W.ki_setAt ho h0 (by omega) (by rw [List.size_toArray,<- hl]; exact h4) (by rw [hk]; exact ⟨_,I',q⟩)
 ·have hk : (k + (aC.toArray.size : Int)).toNat = j := by
   rw [seqIndex_neg (by omega) h3] at h1
   rw [List.size_toArray,<- hl]
   exact Option.some.inj h1
  exact PySem.W.ki_setBack ho (by omega) (by rw [List.size_toArray,<- hl]; exact h3) (by omega) (by rw [hk]; exact ⟨_,I',q⟩)
theorem Oy (lo hi:Option Int) (n:Nat):(sliceBounds lo hi none n).1 = ((HT.gL n 0 lo:Nat):Int) /\ (sliceBounds lo hi none n).2.1 = ((HT.gL n n hi:Nat):Int) /\ (sliceBounds lo hi none n).2.2 = 1:=by
 refine ⟨?_,?_,rfl⟩
 ·cases lo with
  | none=>simp [sliceBounds,HT.gL]
  | some i =>
   simp only [sliceBounds,HT.gL,Option.getD_none,show (1:Int) > 0 by decide,if_true]
   by_cases h:i < 0
   ·simp only [h,if_true] <;> omega
   ·simp only [h,if_false] <;> omega
 ·cases hi with
  | none=>simp [sliceBounds,HT.gL]
  | some i =>
   simp only [sliceBounds,HT.gL,Option.getD_none,show (1:Int) > 0 by decide,if_true]
   by_cases h:i < 0
   ·simp only [h,if_true] <;> omega
   ·simp only [h,if_false] <;> omega
theorem M9 (aC:List Value) (lo hi:Option Int):slicePick aC.toArray lo hi none = ((aC.drop (HT.gL aC.length 0 lo)).take (HT.gL aC.length aC.length hi - HT.gL aC.length 0 lo)).toArray:=by
 obtain ⟨h1,h2,h3⟩ := Oy lo hi aC.toArray.size
 unfold slicePick
 rw [h1,h2,h3]
 simp only [sliceRange_one,pick_run,List.size_toArray] <;> rfl
def le (K:PySem.W.Frag):V -> Option Int -> Option Int -> Hp -> VK -> Prop:=fun x lo hi H Q=>∃ a xs,x = .ref a /\ B6 K H a xs /\ ∀ p,H p = none -> Q (.ref p) (upd H p (.lst (Mh xs lo hi)))
theorem b9:qe X (le X.K):=by
 intro pins s σ H x v vl vu lo hi sl Q I rx hs pl pu h
 obtain ⟨a,xs,rfl,hx,q⟩ := h
 cases rx
 obtain ⟨aC,r,ht,hz⟩ := I.list hx
 have hlen:=r.length
 refine ⟨"list",_,slot_list_getitem.lookup,ht.isList.typeIs,?_⟩
 refine wpAny_getItem_list_slice ht.isList hs pl pu .none (by simp) ?_ (by rw [List.size_toArray] <;> omega)
 rw [M9,<- hlen]
 refine ⟨.ref s.heap.objs.size,_,I.laid (t':=s.toks) (o := .lst (Mh xs lo hi)) (fun b ob q=>Heap.get?_push_of_some _ q) (Nat.le_refl _) ?_,rfl,q _ (I.aH.fresh (Nat.le_refl _))⟩
 exact ⟨Nat.le_trans (Q0 xs lo hi) hz,_,0,(r.drop (HT.gL xs.length 0 lo)).take (HT.gL xs.length xs.length hi - HT.gL xs.length 0 lo),Heap.get?_push_size _ rfl⟩
def E5:V -> Bool
 | .aL=>true
 | .bl _=>true
 | .int _=>true
 | .str _=>true
 | _=>false
def ar:V -> V -> Bool
 | .aL,.aL=>true
 | .bl a,.bl b=>a == b
 | .bl a,.int b=>(if a then 1 else 0) == b
 | .int a,.bl b=>a == (if b then 1 else 0)
 | .int a,.int b=>a == b
 | .str a,.str b=>a == b
 | _,_=>false
theorem fj {A:Around} {s:Shared} {y x:V} {u v:Value} (ry:Ap y u) (rx:Ap x v) (fy:E5 y = true) (fx:E5 x = true):SeqAt.EqAt A s u v (ar y x):=by
 cases y with
 | aL =>
  cases ry
  cases x with
  | aL=>cases rx; exact SeqAt.EqAt.same _
  | bl b=>cases rx; exact SeqAt.EqAt.none_bool b
  | int b=>obtain ⟨t,rfl⟩ := rx; exact SeqAt.EqAt.none_int b t
  | str b=>obtain ⟨t,rfl⟩ := rx; exact SeqAt.EqAt.none_str b t
  | _=>exact absurd (show false = true from fx) Bool.false_ne_true
 | bl a =>
  cases ry
  cases x with
  | aL=>cases rx; exact SeqAt.EqAt.bool_none a
  | bl b=>cases rx; exact SeqAt.EqAt.bool_bool a b
  | int b=>obtain ⟨t,rfl⟩ := rx; exact SeqAt.EqAt.bool_int a b t
  | str b=>obtain ⟨t,rfl⟩ := rx; exact SeqAt.EqAt.bool_str a b t
  | _=>exact absurd (show false = true from fx) Bool.false_ne_true
 | int a =>
  obtain ⟨t',rfl⟩ := ry
  cases x with
  | aL=>cases rx; exact SeqAt.EqAt.int_none a t'
  | bl b=>cases rx; exact SeqAt.EqAt.int_bool a t' b
  | int b=>obtain ⟨t,rfl⟩ := rx; exact SeqAt.EqAt.int_int a t' b t
  | str b=>obtain ⟨t,rfl⟩ := rx; exact SeqAt.EqAt.int_str a t' b t
  | _=>exact absurd (show false = true from fx) Bool.false_ne_true
 | str a =>
  obtain ⟨t',rfl⟩ := ry
  cases x with
  | aL=>cases rx; exact SeqAt.EqAt.str_none a t'
  | bl b=>cases rx; exact SeqAt.EqAt.str_bool a t' b
  | int b=>obtain ⟨t,rfl⟩ := rx; exact SeqAt.EqAt.str_int a t' b t
  | str b=>obtain ⟨t,rfl⟩ := rx; exact SeqAt.EqAt.str_str a t' b t
  | _=>exact absurd (show false = true from fx) Bool.false_ne_true
 | _=>exact absurd (show false = true from fy) Bool.false_ne_true
def Xp (x:V) (u:Value):Bool:=match u with
 | .none=>ar .aL x
 | .bool b=>ar (.bl b) x
 | .int i _=>ar (.int i) x
 | .str z _=>ar (.str z) x
 | _=>false
theorem Ti {x y:V} {u:Value} (r:Ap y u) (f:E5 y = true):Xp x u = ar y x:=by
 cases y with
 | aL=>cases r; rfl
 | bl b=>cases r; rfl
 | int i=>obtain ⟨t,rfl⟩ := r; rfl
 | str z=>obtain ⟨t,rfl⟩ := r; rfl
 | _=>exact absurd (show false = true from f) Bool.false_ne_true
theorem Uw {x:V} {xs:List V} {us:List Value} (h:As xs us) (f:xs.all E5 = true):us.any (Xp x) = xs.any fun y=>ar y x:=by
 induction h with
 | nil=>rfl
 | cons r t ih =>
  rw [List.all_cons,Bool.and_eq_true] at f
  rw [List.any_cons,List.any_cons,Ti r f.1,ih f.2]
theorem Lj {A:Around} {s:Shared} {x:V} {v:Value} (rx:Ap x v) (fx:E5 x = true) {xs:List V} {us:List Value} (h:As xs us) (f:xs.all E5 = true):∀ u ∈ us,SeqAt.EqAt A s u v (Xp x u):=by
 induction h with
 | nil =>
  intro u hu
  cases hu
 | cons r t ih =>
  intro u' hu
  rw [List.all_cons,Bool.and_eq_true] at f
  rcases List.mem_cons.mp hu with rfl | hu
  ·rw [Ti r f.1]
   exact fj r rx f.1 fx
  ·exact ih f.2 u' hu
def o6 (x:V) (xs:List V):Bool:=xs.any fun y=>ar y x
def t0 (K:PySem.W.Frag) (neg:Bool):R2:=fun x y H Q=>∃ p xs,y = .ref p /\ (B6 K H p xs \/ C0 K H p xs) /\ E5 x = true /\ xs.all E5 = true /\ Q (.bl (if neg then !o6 x xs else o6 x xs)) H
theorem Wh:J5 X (compareOp .In) (t0 X.K false):=by
 intro pins s σ H x y v u Q I rx ry h
 obtain ⟨p,xs,rfl,hq,fx,fs,q⟩ := h
 cases ry
 rcases hq with hq | hq
 ·obtain ⟨aC,r,pl,hz⟩ := I.list hq
  refine SeqAt.in_listAt (Xp x) pl.isList (fun w hw=>Lj rx fx r fs w (by simpa using hw)) ⟨.bl _,H,I,rfl,?_⟩
  rw [show aC.toArray.any (Xp x) = aC.any (Xp x) by simp,Uw r fs]
  exact q
 ·obtain ⟨aC,r,pl,hz⟩ := I.tuple hq
  refine SeqAt.in_tupleAt (Xp x) pl (fun w hw=>Lj rx fx r fs w (by simpa using hw)) ⟨.bl _,H,I,rfl,?_⟩
  rw [show aC.toArray.any (Xp x) = aC.any (Xp x) by simp,Uw r fs]
  exact q
theorem Op:Di X (.builtin "len") (fun xs H Q=>∃ p ys,xs = [.ref p] /\ (B6 X.K H p ys \/ C0 X.K H p ys) /\ Q (.int ys.length) H):=by
 intro pins s σ H xs us Q I r h
 obtain ⟨p,ys,rfl,hq,q⟩ := h
 obtain ⟨u,rfl,rx⟩ := Ji r
 cases rx
 have hn:=Ha
 rcases hq with hq | hq
 ·obtain ⟨aC,r',pl,hz⟩ := I.list hq
  have hlen:=r'.length
  exact Calls.call_len_list pl.isList (by simp only [List.size_toArray] <;> omega) ⟨.int ys.length,H,I.tok _,⟨s.toks + 1,by rw [List.size_toArray,hlen]⟩,q⟩
 ·obtain ⟨aC,r',pl,hz⟩ := I.tuple hq
  have hlen:=r'.length
  exact len_tuple pl (by simp only [List.size_toArray] <;> omega) ⟨.int ys.length,H,I.tok _,⟨s.toks + 1,by rw [List.size_toArray,hlen]⟩,q⟩
theorem F9:Di X (.type "list") (fun xs H Q=>∃ p ys,xs = [.ref p] /\ (B6 X.K H p ys \/ C0 X.K H p ys) /\ ∀ l,H l = none -> Q (.ref l) (upd H l (.lst ys))):=by
 intro pins s σ H xs us Q I r h
 obtain ⟨p,ys,rfl,hq,q⟩ := h
 obtain ⟨u,rfl,rx⟩ := Ji r
 cases rx
 have fin : ∀ (aC : List Value), As ys aC -> ys.length <= sizeLine -> ∀ (h' : Heap) (c' : Nat), (∀ b o', s.heap.get? b = some o' -> h'.get? b = some o') ->
   h'.get? s.heap.objs.size = some { cls := .type "list",dict:=none,data := .seq aC.toArray c',slots := #[] } -> EP X pins σ Q (.ref s.heap.objs.size) { s with heap:=h' }:=fun aC r' hz h' c' kp e =>
  ⟨.ref s.heap.objs.size,_,I.laid (t':=s.toks) kp (Nat.le_refl _) (show Bh X.prog X.w _ h' _ (.lst ys) from ⟨hz,aC,c',r',e⟩),rfl,q _ (I.aH.fresh (Nat.le_refl _))⟩
 rcases hq with hq | hq
 ·obtain ⟨aC,r',pl,hz⟩ := I.list hq
  have hlen:=r'.length
  obtain ⟨o,ho,hc,n,hd⟩ := pl.isList
  exact call_list_seq p (.inl rfl) ho hc hd (fun h' c' kp e=>fin aC r' hz h' c' kp e) (by simp only [List.size_toArray] <;> omega)
 ·obtain ⟨aC,r',pl,hz⟩ := I.tuple hq
  have hlen:=r'.length
  obtain ⟨o,ho,hc,n,hd⟩ := pl
  exact call_list_seq p (.inr rfl) ho hc hd (fun h' c' kp e=>fin aC r' hz h' c' kp e) (by simp only [List.size_toArray] <;> omega)
theorem Lw:Di X (.type "tuple") (fun xs H Q=>∃ p ys,xs = [.ref p] /\ ((B6 X.K H p ys /\ ∀ l,H l = none -> Q (.ref l) (upd H l (.tup ys))) \/ (C0 X.K H p ys /\ Q (.ref p) H))):=by
 intro pins s σ H xs us Q I r h
 obtain ⟨p,ys,rfl,h⟩ := h
 obtain ⟨u,rfl,rx⟩ := Ji r
 cases rx
 rcases h with ⟨hq,q⟩ | ⟨hq,q⟩
 ·obtain ⟨aC,r',pl,hz⟩ := I.list hq
  have hlen:=r'.length
  refine call_tuple_list pl.isList (fun h' kp=>?_) (by simp only [List.size_toArray] <;> omega)
  have I1:Ag X pins σ H { s with heap:=h' }:=I.kept (t':=s.toks) kp
  have I2:Ag X pins σ (upd H h'.objs.size (.tup ys)) { s with heap:=h'.push { cls := .type "tuple",data := .seq aC.toArray } } :=
   I1.laid (t':=s.toks) (fun b o e=>Heap.get?_push_of_some _ e) (Nat.le_refl _) (show Bh X.prog X.w _ _ _ (.tup ys) from ⟨⟨hz,⟨_,Heap.get?_push_size _ rfl,rfl⟩⟩,aC,r',IsTup.new _ _⟩)
  exact ⟨.ref h'.objs.size,_,I2,rfl,q _ (I1.aH.fresh (Nat.le_refl _))⟩
 ·obtain ⟨aC,r',pl,hz⟩ := I.tuple hq
  exact call_tuple_same pl ⟨.ref p,H,I,rfl,q⟩
def pz (K:PySem.W.Frag) (T:String) (x:V) (H:Hp):Prop:=match x with
 | .str _=>T = "str"
 | .int _=>T = "int"
 | .ref p => (T = "list" /\ ∃ xs, B6 K H p xs) \/ (T = "tuple" /\ ((∃ o, K.lookup p = some o /\ o.cls = .type "tuple" /\ o.dict = none) \/ ∃ xs, H p = some (.tup xs))) \/
   (T = "dict" /\ ((∃ kvs,H p = some (.dK kvs)) \/ ∃ kvs,H p = some (.dT kvs))) \/ (T = "set" /\ ∃ S n,H p = some (.set S n))
 | _=>False
theorem Xs {pins : List (Addr × Obj)} {σ : St} {H : Hp} {s : Shared} {T : String} {x : V} {v : Value} (I : Ag X pins σ H s) (r : Ap x v) (ty : pz X.K T x H) :
  s.TypeIs v T /\ ∀ a,v = .ref a -> ∃ ob,s.heap.get? a = some ob /\ ob.dict = none:=by
 cases x with
 | str z =>
  obtain ⟨t,rfl⟩ := r
  cases (show T = "str" from ty)
  exact ⟨typeIs_str s z t,fun _ e=>nomatch e⟩
 | int i =>
  obtain ⟨t,rfl⟩ := r
  cases (show T = "int" from ty)
  exact ⟨typeIs_int s i t,fun _ e=>nomatch e⟩
 | ref p =>
  cases r
  rcases ty with ⟨rfl,xs,hq⟩ | ⟨rfl,⟨o,hk,hc,hd⟩ | ⟨ys,hk⟩⟩ | ⟨rfl,hk⟩ | ⟨rfl,S,n,hk⟩
  ·obtain ⟨aC,_,pl,_⟩ := I.list hq
   refine ⟨pl.isList.typeIs,fun a e=>?_⟩
   cases e
   obtain ⟨o,n,e,c,hd,_⟩ := pl
   exact ⟨o,e,hd⟩
  ·refine ⟨⟨o,I.eY p o hk,hc⟩,fun a e=>?_⟩
   cases e
   exact ⟨o,I.eY _ o hk,hd⟩
  ·obtain ⟨⟨_,o2,e2,d2⟩,_,_,⟨o1,e1,c1,_⟩⟩ := (show Bh X.prog X.w H s.heap p (.tup ys) from I.aH p _ hk)
   refine ⟨⟨o1,e1,c1⟩,fun a ea=>?_⟩
   cases ea
   exact ⟨o2,e2,d2⟩
  ·have z : ∃ o, s.heap.get? p = some o /\ o.ExactDict := by
    rcases hk with ⟨kvs,hk⟩ | ⟨kvs,hk⟩
    ·obtain ⟨_,_,_,_,o,_,_,e,ex,_⟩ := I.aH p _ hk
     exact ⟨o,e,ex⟩
    ·obtain ⟨_,_,_,_,o,_,_,e,ex,_⟩ := I.aH p _ hk
     exact ⟨o,e,ex⟩
   obtain ⟨o,e,ex⟩ := z
   refine ⟨⟨o,e,ex.1⟩,fun a e2=>?_⟩
   cases e2
   exact ⟨o,e,ex.2.1⟩
  ·obtain ⟨o,_,_,_,e,ex,_⟩ := I.aH p _ hk
   refine ⟨⟨o,e,ex.1⟩,fun a e2=>?_⟩
   cases e2
   exact ⟨o,e,ex.2.1⟩
 | _=>exact False.elim ty
def mj (K:PySem.W.Frag) (T:String) (r:V -> List V -> Hp -> VK -> Prop) (to:TE):TE:=fun σ H Q=>to σ H fun x H1=>pz K T x H1 /\ r x [] H1 Q
def Qx (K:PySem.W.Frag) (T:String) (r:V -> List V -> Hp -> VK -> Prop) (to:TE) (t:TA):TE:=fun σ H Q=>to σ H fun x H1=>pz K T x H1 /\ t σ H1 fun xs H2=>r x xs H2 Q
variable {o e:Expr} {es:List Expr} {to:TE} {t:TA} {name:Str} {apos aW:Pos} {T id:String} {r:V -> List V -> Hp -> VK -> Prop}
theorem Y4 (pa : PlainAttrs T) (slot : Slot T name id) (OW : typeOf (.builtin id) = pure (.type "method_descriptor")) (hm : om X id r) (ho : PE X o to)
  (iL:attributeBase o name X.env (eval o X.env) = eval o X.env:=by rfl) (iM:(apos.endLine == aW.line) = true:=by rfl):PE X (.Call (.Attribute o name apos) [] [] aW) (mj X.K T r to):=by
 intro pins s σ H Q I h
 refine wpAny_Call_method0_late iL iM (C6 (ho pins s σ H _ I h) fun v s1 aO=>?_)
 obtain ⟨x,H1,I1,r1,ty,q1⟩ := aO
 obtain ⟨h1,h2⟩ := Xs I1 r1 ty
 exact ⟨T,id,pa,slot,OW,h1,h2,Calls.callWith_builtin rfl (PySem.evalArgs_none (hm pins s1 σ H1 x [] v [] Q I1 r1 .nil q1))⟩
theorem Dq (pa : PlainAttrs T) (slot : Slot T name id) (OW : typeOf (.builtin id) = pure (.type "method_descriptor")) (hm : om X id r) (ho : PE X o to) (ha : PA X (e :: es) t)
  (iL:attributeBase o name X.env (eval o X.env) = eval o X.env:=by rfl)
  (OX:((backTo aW (starEach (e :: es) X.env)).all (fun x=>!x.1) && (backToKw aW (keywordEach [] X.env)).all (fun x=>x.1.isSome)
   && decide ((e :: es).length + ([]:List Keyword).length + (if ([]:List Keyword).isEmpty then 0 else 1) < 30)) = true:=by rfl)
  (iM:(apos.endLine == aW.line) = true:=by rfl) (hs:starEach (e :: es) X.env = (false,eval e X.env) :: starEach es X.env:=by rfl) (w5:(backTo aW (starEach es X.env)).any (·.1) = false:=by rfl) :
  PE X (.Call (.Attribute o name apos) (e :: es) [] aW) (Qx X.K T r to t):=by
 intro pins s σ H Q I h
 refine wpAny_Call_method_late iL OX iM rfl (C6 (ho pins s σ H _ I h) fun v s1 aO=>?_)
 obtain ⟨x,H1,I1,r1,ty,q1⟩ := aO
 obtain ⟨h1,h2⟩ := Xs I1 r1 ty
 refine ⟨T,id,pa,slot,OW,h1,h2,?_⟩
 have hA:=ha aW pins s1 σ H1 _ I1 q1
 rw [hs] at hA ⊢
 refine Calls.callWith_builtin (by show (false || (backTo aW (starEach es X.env)).any (·.1)) = false; rw [w5] <;> rfl) (Calls.evalArgs_plain ?_)
 exact C6 hA fun us s2 ⟨vs,H2,I2,r2,q2⟩=>hm pins s2 σ H2 x vs v us Q I2 r1 r2 q2
/- xs.append(e),list.index on a DS tuple .. are om facts of 06m -/
end
def em (X:Cx) (id:String) (r:V -> List V -> Hp -> VK -> Prop):Prop :=
 ∀ (pins:List (Addr × Obj)) (s:Shared) (σ:St) (H:Hp) (x:V) (xs:List V) (v:Value) (us:List Value) (Q:VK),Ag X pins σ H s -> Ap x v -> As xs us -> r x xs H Q ->
  wpAny (model X.prog X.w) X.A (call (.builtin id) (v :: us)) (EP X pins σ Q) X.xe s
theorem As.one {x:V} {us:List Value} (h:As [x] us):∃ u,us = [u] /\ Ap x u:=by
 cases h with
 | cons r t =>
  cases t
  exact ⟨_,rfl,r⟩
theorem As.two {x y:V} {us:List Value} (h:As [x,y] us):∃ u v,us = [u,v] /\ Ap x u /\ Ap y v:=by
 cases h with
 | cons r t =>
  obtain ⟨v,rfl,q⟩ := As.one t
  exact ⟨_,v,rfl,r,q⟩
theorem As.zero:∀ {us:List Value},As [] us -> us = []
 | _,.nil=>rfl
theorem As.dropLast {xs:List V} {us:List Value} (h:As xs us):As xs.dropLast us.dropLast:=by
 induction h with
 | nil=>exact .nil
 | cons r t ih =>
  cases t with
  | nil=>exact .nil
  | cons q t'=>exact .cons r ih
theorem Ry {α:Type} (l:List α):l.eraseIdx (l.length - 1) = l.dropLast:=by
 induction l with
 | nil=>rfl
 | cons a r ih =>
  cases r with
  | nil=>rfl
  | cons b r =>
   have e:(a :: b :: r).length - 1 = ((b :: r).length - 1) + 1:=by
    have h1:(a :: b :: r).length = r.length + 2:=rfl
    have h2:(b :: r).length = r.length + 1:=rfl
    omega
   rw [e,List.eraseIdx_cons_succ,ih]
   all_goals rfl
section
variable {X:Cx} {pins:List (Addr × Obj)} {σ:St} {H:Hp} {s:Shared} {l b:Addr} {xs ys zs:List V}
theorem Ag.rF {aC its' : List Value} {n : Nat} {f : Array Value -> Array Value} {t' : Nat} (I : Ag X pins σ H s) (hH : H l = some (.lst xs))
  (e:s.heap.get? l = some { cls := .type "list",data := .seq aC.toArray n }) (hf:f aC.toArray = its'.toArray) (hv:As ys its') (hz:ys.length <= sizeLine) :
  Ag X pins σ (upd H l (.lst ys)) { s with heap:=s.heap.update l (Obj.mapSeq f),toks:=t' }:=by
 have q:=PySem.IsL.update e f
 rw [hf] at q
 refine I.write (x:=l) (e:=l) (by rw [hH]; exact trivial) (.inl rfl) (fun b' u hb hu=>(Heap.get?_update_other s.heap (Obj.mapSeq f) (Ne.symm hb)).trans hu) ⟨_,q⟩ ?_
 exact ⟨hz,its',_,hv,q⟩
theorem Ag.fresh (I:Ag X pins σ H s):H s.heap.objs.size = none:=I.aH.fresh (Nat.le_refl _)
theorem Ag.mC (I:Ag X pins σ H s) (hH:H l = some (.lst xs)):xs.length <= sizeLine /\ ∃ (aC:List Value) (n:Nat),As xs aC /\ xs.length = aC.length /\ s.heap.get? l = some { cls := .type "list",data := .seq aC.toArray n }:=by
 obtain ⟨z,aC,n,r,e⟩ := I.aH l _ hH
 exact ⟨z,aC,n,r,r.length,e⟩
theorem X3 {n:Nat} (h:n <= sizeLine):Builtin.List.listTooLong n = false:=by
 unfold Builtin.List.listTooLong
 exact decide_eq_false (by omega)
end
section
variable {X:Cx}
def b7:V -> List V -> Hp -> VK -> Prop:=fun x vs H Q=>∃ l xs y,x = .ref l /\ vs = [y] /\ H l = some (.lst xs) /\ xs.length < sizeLine /\ Q .aL (upd H l (.lst (xs ++ [y])))
theorem Cc:em X "list.append" b7:=by
 intro pins s σ H x vs v us Q I rx rv h
 obtain ⟨l,xs,y,rfl,rfl,hH,hz,q⟩ := h
 cases rx
 obtain ⟨u,rfl,ru⟩ := rv.one
 obtain ⟨z,aC,n,r,hl,e⟩ := I.mC hH
 refine call_meets F.slot_list_append ⟨_,e,rfl⟩ F.entry_list_append (F.args_list_append_2 _ _) (PySem.list_append l aC.toArray n u (by rw [List.size_toArray]; omega)) ⟨e,?_⟩
 refine ⟨.aL,_,I.rF (its':=aC ++ [u]) hH e (by simp) (r.append (.cons ru .nil)) ?_,rfl,q⟩
 rw [List.length_append,List.length_singleton]
 omega
def af:V -> List V -> Hp -> VK -> Prop:=fun x vs H Q=>∃ l b xs zs,x = .ref l /\ vs = [.ref b] /\ H l = some (.lst xs) /\ H b = some (.lst zs) /\ xs.length + zs.length <= sizeLine /\ Q .aL (upd H l (.lst (xs ++ zs)))
theorem Im:em X "list.extend" af:=by
 intro pins s σ H x vs v us Q I rx rv h
 obtain ⟨l,b,xs,zs,rfl,rfl,hH,hB,hz,q⟩ := h
 cases rx
 obtain ⟨u,rfl,ru⟩ := rv.one
 cases ru
 obtain ⟨z,aC,n,r,hl,e⟩ := I.mC hH
 obtain ⟨z2,gT,n2,r2,qP,e2⟩ := I.mC hB
 have hsz:aC.toArray.size + gT.toArray.size <= sizeLine:=by rw [List.size_toArray,List.size_toArray]; omega
 have DT:¬ (!aC.toArray.isEmpty && Builtin.List.listTooLong (aC.toArray.size + gT.toArray.size)) = true:=by
  rw [X3 hsz,Bool.and_false]
  exact Bool.false_ne_true
 refine call_meets F.slot_list_extend ⟨_,e,rfl⟩ F.entry_list_extend (F.args_list_extend_2 _ _)
  (AutoSeq1.list_extend_list_list_0 l aC.toArray n b gT.toArray n2 DT (by rw [List.size_toArray]; omega) (by omega)) ⟨e,e2,?_⟩
 refine ⟨.aL,_,I.rF (its':=aC ++ gT) hH e (by simp) (r.append r2) ?_,rfl,q⟩
 rw [List.length_append]
 omega
def qt:V -> List V -> Hp -> VK -> Prop:=fun x vs H Q=>∃ l xs y,x = .ref l /\ vs = [] /\ H l = some (.lst xs) /\ xs[xs.length - 1]? = some y /\ Q y (upd H l (.lst xs.dropLast))
theorem ef:em X "list.pop" qt:=by
 intro pins s σ H x vs v us Q I rx rv h
 obtain ⟨l,xs,y,rfl,rfl,hH,hy,q⟩ := h
 cases rx
 have fW:=rv.zero
 subst fW
 obtain ⟨z,aC,n,r,hl,e⟩ := I.mC hH
 obtain ⟨u,hu,ru⟩ := r.get hy
 have mD:aC.toArray[aC.toArray.size - 1]? = some u:=by
  show aC.toArray[aC.length - 1]? = some u
  rw [<- Array.getElem?_toList,<- hl]
  exact hu
 refine call_meets F.slot_list_pop ⟨_,e,rfl⟩ F.entry_list_pop (F.args_list_pop_1 _) (MeetsSeq.list_pop_last l aC.toArray n u mD (by rw [List.size_toArray]; omega)) ⟨e,?_⟩
 refine ⟨y,_,I.rF (its':=aC.dropLast) hH e ?_ r.dropLast ?_,ru,q⟩
 ·show aC.toArray.eraseIdxIfInBounds (aC.toArray.size - 1) = aC.dropLast.toArray
  rw [List.size_toArray,List.eraseIdxIfInBounds_toArray,Ry]
 ·rw [List.length_dropLast]
  omega
end
section
variable {prog:Program} {w:World} {A:Around} {E:Value -> Shared -> Prop} {s:Shared}
end
section
variable {X:Cx}
end
end L2
namespace Att
local macro_rules | `(tactic| omega) => `(tactic| lia)
open PySem PySem.W PySem.Calls PyProof.Rows
theorem Js {P:Params} {h:Heap}:∀ (ns:List Int) (vs:List Value),WellAll P h vs (ns.map WData.int) -> IntsAre vs ns:=by
 intro ns
 induction ns with
 | nil =>
  intro vs w
  rw [List.map_nil] at w
  cases w
  exact .nil
 | cons n ns ih =>
  intro vs w
  rw [List.map_cons] at w
  cases w with
  | cons a b =>
   cases a
   exact .cons _ _ (ih _ b)
theorem kT {l : OpenLaw} {n : Nat} (hn : l.most = some n) {P : Params} {h : Heap} {args : List WData} {vals : List Value}
  (rG:l.row.toRowW.claim.pre args = true) (CF:WellAll P h vals args) :
  ∃ a vs ns,vals = [Value.ref a] /\ args = [WData.list (ns.map WData.int)] /\ h.get? a = some { cls := .type "list",data := .seq vs.toArray } /\ IntsAre vs ns /\ ns.length <= n:=by
 have hsh:WShape.hasAll [] args [.list .int] = true:=(pre_splitW rG).1
 have hc:l.pre.holds [] { args:=args } = true:=(pre_splitW rG).2
 obtain ⟨d,r,rfl,h1,h2⟩ := hasAllW_cons hsh
 obtain rfl:=hasAllW_nil h2
 obtain ⟨xs,rfl,h3⟩ := hasW_list h1
 obtain ⟨ns,rfl⟩ := items_int h3
 have hlen:ns.length <= n:=by
  unfold OpenLaw.pre at hc
  have h4:(WTm.not (.lt (.lit (.int (n:Int))) (.len (.arg 0)))).holds [] { args:=[.list (ns.map .int)] } = true:=by
   have h4:=(holds_andW hc).1
   rw [hn] at h4
   exact h4
  have h5:=condW_of h4 (w_not (w_lt w_lit (w_len_list (w_arg rfl))))
  rw [List.length_map] at h5
  refine Nat.le_of_not_lt fun q=>?_
  have q':(n:Int) < ((ns.length:Nat):Int):=by omega
  first
   | (rw [decide_eq_true q'] at h5; exact absurd h5 (by decide))
   | (simp at h5; omega)
 cases CF with
 | cons w1 w2 =>
  cases w2
  cases w1 with
  | list ho hall=>exact ⟨_,_,ns,rfl,rfl,ho,Js ns _ hall,hlen⟩
theorem kU (l:OpenLaw) (args:List WData):l.row.toRowW.claim.post args (.bool true) args = true :=
 postW_of (r:=l.row.toRowW) (X:=(true == true))
  (show WShape.has [] (.bool true) .bool = true by first | rfl | decide | simp [WShape.has,WShape.arms,WShape.armsAll])
  (show (WTm.eq .res (.lit (.bool true))).value [] { args:=args,res:=some (.bool true),after:=args } = some (.bool (true == true)) from w_eq_bool (w_res rfl) w_lit) rfl
section
variable {prog:Program} {w:World} {A:Around} {E:Value -> Shared -> Prop} {s:Shared} {K:Frag}
end
end Att
namespace L2
local macro_rules | `(tactic| omega) => `(tactic| lia)
open PySem PySem.Spec PyProof.Rows
theorem Ny:∀ {vs:List Value} {ns:List Int},IntsAre vs ns -> As (ns.map V.int) vs
 | _,_,.nil=>.nil
 | _,_,.cons n t h=>.cons ⟨t,rfl⟩ (Ny h)
def i8 (H:Hp):Prop := ∀ b,H b = none \/ ∃ o xs,H b = some (.bG o (.lst xs))
theorem Yk {P : Program} {w : World} {K : PySem.W.Frag} {mg mb : Str -> Option Value} {CX : X1} {k : Nat} {fa a : Addr} {fd : FuncData} {x : Str} {sp : Sp} {s₁ : Shared} {vs : List Value} {ns : List Int}
  (KX:K.In s₁.heap) (qQ:s₁.heap.Ns mainGlobals mg) (hb:s₁.heap.Ns builtinsNs mb) (hbb:∀ x:Str,x ≠ "__name__" -> mb x = bootBuiltins x) (OY:s₁.heap.NoLimit) (hg:s₁.gens = #[])
  (ha:s₁.heap.get? a = some { cls := .type "list",data := .seq vs.toArray }) (hi:IntsAre vs ns) (hl:ns.length <= sizeLine) (hr:Cm k callerA)
  (F:∀ base:Heap,K.In base -> base.Ns mainGlobals mg -> Ai P w K mg base CX k fa fd [x] sp) (DU:∀ (s:Shared) (u:Value),BindsTo s fd ⟨[u],[]⟩ [(x,u)])
  (mB:∀ H:Hp,i8 H -> B6 K H a (ns.map V.int) -> sp [.ref a] H (fun v _=>v = .bl true) fun _ _ _=>False)
  (OZ:∀ H e s',CX [] H s₁ (fun _ _ _=>False) e s' -> False) :
  codeAny (model P w) callerA (.call (.ref fa) ⟨[.ref a],[]⟩) (fun r s'=>r = .ok (.ret (.bool true)) /\ OldK s₁.heap s'.heap /\ s'.os = s₁.os /\ AllBare s'.gens) s₁:=by
 have rv:=Ny hi
 have PB:=hi.length
 have core : ∀ H : Hp, i8 H -> B6 K H a (ns.map V.int) -> Fj P w H s₁.heap -> (∀ b, H b ≠ none -> b = a) -> (H a ≠ none -> K.lookup a = none) ->
   codeAny (model P w) callerA (.call (.ref fa) ⟨[.ref a],[]⟩) (fun r s'=>r = .ok (.ret (.bool true)) /\ OldK s₁.heap s'.heap /\ s'.os = s₁.os /\ AllBare s'.gens) s₁:=by
  intro H hO hS aH hA hK
  have kI:∀ {b:Addr} {o:Obj},s₁.heap.get? b = some o -> H b = none -> (P7 s₁.heap H).get? b = some o:=fun e n=>Yr e n
  have DQ:∀ {b:Addr} {o:Obj} {es:Array DictEntry} {ep:Nat},s₁.heap.get? b = some o -> o.data = .dict es ep -> H b = none:=fun {b o es ep} e d=>by
   cases q:H b with
   | none=>rfl
   | some u =>
    have e':b = a:=hA b (by rw [q]; simp)
    subst e'
    rw [ha] at e; cases e
    have d':Data.seq vs.toArray _ = Data.dict es ep:=d
    cases d'
  have MT:∀ {b:Addr} {m:Str -> Option Value},s₁.heap.Ns b m -> (P7 s₁.heap H).Ns b m:=fun {b m} ⟨o,es,ep,e,d,r⟩=>⟨o,es,ep,kI e (DQ e d),d,r⟩
  have hKb:K.In (P7 s₁.heap H):=fun b o e=>kI (KX b o e) (by
   cases q:H b with
   | none=>rfl
   | some u =>
    have e':b = a:=hA b (by rw [q]; simp)
    subst e'
    rw [hK (by rw [q]; simp)] at e; cases e)
  have hM:Mod K mg (P7 s₁.heap H):=⟨hKb,MT qQ,⟨mb,MT hb,hbb⟩,let ⟨mc,h1,h2⟩ := OY; ⟨mc,MT h1,h2⟩⟩
  have e0:S3 P w K mg (P7 s₁.heap H) callerA [] s₁ H:=⟨rfl,hM,fun b o e=>Zv e,Nat.le_of_eq (Wd _ _),trivial,fun b hb=>absurd (show b ∈ ([]:List Addr) from hb) (by simp),aH,.of_eq hg⟩
  refine codeAny_mono ((F _ hKb (MT qQ)).run callerA [] s₁ H ⟨[.ref a],[]⟩ [.ref a] [.ref a] _ _ hr e0 (DU s₁ (.ref a)) (.cons rfl .nil) (mB H hO hS)) fun r s' h=>?_
  cases r with
  | error e=>exact (OZ H e s' h).elim
  | ok fl =>
   cases fl with
   | next=>exact False.elim h
   | brk=>exact False.elim h
   | cont=>exact False.elim h
   | ret u =>
    obtain ⟨v,H',os,bare,un,PD,r',q⟩ := h
    have q':v = .bl true:=q
    subst q'
    obtain rfl:u = Value.bool true:=r'
    refine ⟨rfl,OldK.of_keep fun b o e=>?_,os,bare⟩
    cases q:H b with
    | none=>exact un.keep b o e q (by intro z; exact absurd (show b ∈ ([]:List Addr) from z) (by simp)) (by simp)
    | some u =>
     rcases hO b with z | ⟨ob,xs,z⟩
     ·rw [q] at z; cases z
     ·have z2:=un.cU b ob _ z
      obtain ⟨e1,_⟩ := aH b _ z
      obtain ⟨e2,_⟩ := PD b _ z2
      rw [e] at e1; cases e1
      exact e2
 cases hk:K.lookup a with
 | some o =>
  have e:=KX a o hk
  rw [ha] at e
  cases e
  refine core (fun _=>none) (fun _=>.inl rfl) (.inr ⟨_,vs.toArray,_,hk,rfl,rfl,rfl,by rw [List.size_toArray,PB]; exact hl,by simpa using rv⟩) (fun b u z=>by have z':(none:Option HO) = some u:=z; cases z') (fun b z=>absurd rfl z) fun z=>absurd rfl z
 | none =>
  refine core (fun b=>if b = a then some (.bG { cls := .type "list",data := .seq vs.toArray } (.lst (ns.map V.int))) else none) (fun b=>?_) (.inl (.inr ⟨{ cls := .type "list",data := .seq vs.toArray },if_pos rfl⟩)) (fun b u z=>?_) (fun b z=>?_) fun _=>hk
  ·by_cases hb:b = a
   ·exact .inr ⟨_,_,if_pos hb⟩
   ·exact .inl (if_neg hb)
  ·by_cases hb:b = a
   ·have z':=(if_pos hb).symm.trans z
    cases z'
    subst hb
    exact ⟨ha,by rw [List.length_map]; exact hl,vs,_,rv,ha⟩
   ·have z':=(if_neg hb).symm.trans z
    cases z'
  ·by_cases hb:b = a
   ·exact hb
   ·exact absurd (if_neg hb) z
def Jw (s:Stmt) (j:Nat):Stmt:=match s with
 | .ClassDef _ _ _ body _ _ _ _ _ _ _=>body.getD j (.Pass ⟨0,0,0,0⟩)
 | _=>.Pass ⟨0,0,0,0⟩
def Ak (s:Stmt):Arguments:=match s with
 | .FunctionDef _ a _ _ _ _ _ _ _ _=>a
 | _=>{ posonlyargs:=[],args:=[],vararg:=none,kwonlyargs:=[],kw_defaults:=[],kwarg:=none,defaults:=[] }
def Aj (s:Stmt):List Stmt:=match s with
 | .FunctionDef _ _ b _ _ _ _ _ _ _=>b
 | _=>[]
def A7 (s:Stmt):Scope:=match s with
 | .FunctionDef _ _ _ _ _ _ sc _ _ _=>sc
 | _=>{ kind := .function,names:=[],isGenerator:=false,isCoroutine:=false }
abbrev Bm:X1:=fun _ _ _ _ _ _=>False
abbrev E0:XK:=fun _ _ _=>False
theorem Be {X:Cx}:Iw Bm X E0:=fun _ _ _ _ _ _ _ h=>h.elim
structure Fk (K:PySem.W.Frag) (x qual:Str) (st:Stmt) (f:Addr) (fd:FuncData):Prop where
 ex:∃ (oc:Value) (od:Option Addr) (kV doc pm:Value) (an:Option Addr) (aP ct:Value) (gK:Array (Option Value)),
  fd = PySem.W.fnOf x qual (Ak st) (Aj st) (A7 st) .none kV doc pm an aP ct /\ K.lookup f = some ⟨oc,od,.func fd,gK⟩ /\ PySem.W.codeIn K aP qual = true
 kp:PySem.W.keepIn K (.ref f) = true
section
variable {P:Program} {w:World} {K:PySem.W.Frag} {mg:Str -> Option Value} {base:Heap}
theorem Fk.ok {x qual : Str} {st : Stmt} {f : Addr} {fd : FuncData} {N ps : List Str} {k : Nat} {sp : Sp} (F : Fk K x qual st f fd) (S : Ao N ps (A7 st)) (len : ∀ vs H Q E, sp vs H Q E -> vs.length = ps.length)
  (iI:∀ (aP:Value) (A:Around) (outer:List Env) (s:Shared) (H:Hp) (vs:List V) (Q:VK) (E:XK),Cm k (A.deeper (envOfC qual (A7 st) s.heap.objs.size f aP)) -> sp vs H Q E ->
   ∃ t,Ro (Sa Bm P w K mg base N qual (A7 st) f aP A outer s H E).qO (Aj st) t /\ t { nx:=fun _ H'=>Q .aL H',rt:=Q } (start N vs) H):Ai P w K mg base Bm (k + 1) f fd ps sp:=by
 obtain ⟨oc,od,kV,doc,pm,an,aP,ct,gK,rfl,lk,lZ⟩ := F.ex
 refine c9 lk lZ S len fun A outer s H vs Q E hr mB=>?_
 obtain ⟨t,h,q⟩ := iI aP A outer s H vs Q E hr mB
 exact ⟨t,h.qO,q⟩
theorem Fk.binds {x qual : Str} {st : Stmt} {f : Addr} {fd : FuncData} {ps : List Str} (F : Fk K x qual st f fd)
  (h:∀ (kV doc pm:Value) (an:Option Addr) (aP ct:Value) (us:List Value),us.length = ps.length -> bindArgs (PySem.W.fnOf x qual (Ak st) (Aj st) (A7 st) .none kV doc pm an aP ct) ⟨us,[]⟩ = pure (ps.zip us)):Av K fd ps []:=by
 obtain ⟨oc,od,kV,doc,pm,an,aP,ct,gK,rfl,lk,lZ⟩ := F.ex
 exact .all (h kV doc pm an aP ct)
theorem Bk {x qual : Str} {st : Stmt} {f : Addr} {oc : Value} {od an : Option Addr} {gK : Array (Option Value)} {kV doc pm aP ct : Value} (l : K.lookup f = some ⟨oc, od, .func (PySem.W.fnOf x qual (Ak st) (Aj st) (A7 st) .none kV doc pm an aP ct), gK⟩)
  (c:PySem.W.codeIn K aP qual = true) (k:PySem.W.keepIn K (.ref f) = true):Fk K x qual st f (PySem.W.fnOf x qual (Ak st) (Aj st) (A7 st) .none kV doc pm an aP ct):=⟨⟨oc,od,kV,doc,pm,an,aP,ct,gK,rfl,l,c⟩,k⟩
end
theorem B8 {n:Nat} (h:n <= 1000):n < sizeLine:=Nat.lt_of_le_of_lt h (by decide)
section
variable {X:Cx}
theorem pv (i : Nat) {x : Str} {pos : Pos} (hN : X.N[i]? = some x := by rfl) (hv : ql X.env.scope x := by first | exact Or.inl rfl | exact Or.inr (Or.inl rfl) | exact Or.inr (Or.inr rfl)) (hd : (x == ("__debug__" : Str)) = false := by decide)
  (lZ:(x == ("__classdict__" : Str)) = false:=by decide):PE X (.Name x pos) (mv i):=dj hN hv hd lZ
end
theorem Ly {c A B:Prop} [Decidable c] (h1:c -> A) (h2:¬ c -> B):if c then A else B:=by
 by_cases h:c
 ·rw [if_pos h]
  exact h1 h
 ·rw [if_neg h]
  exact h2 h
def Ab (H H':Hp):Prop := ∀ b o,H b = some o -> H' b = some o
theorem Ab.refl (H:Hp):Ab H H:=fun _ _ h=>h
theorem Ab.trans {H H1 H2:Hp} (a:Ab H H1) (b:Ab H1 H2):Ab H H2:=fun c o h=>b c o (a c o h)
theorem Ab.free {H H':Hp} (e:Ab H H') {l:Addr} (h:H' l = Option.none):H l = Option.none:=by
 cases q:H l with
 | none=>rfl
 | some o =>
  rw [e l o q] at h
  cases h
theorem Ab.seq {K:PySem.W.Frag} {H H':Hp} {a:Addr} {xs:List V} (e:Ab H H') (h:B6 K H a xs):B6 K H' a xs:=by
 rcases h with (h | ⟨o,h⟩) | h
 ·exact .inl (.inl (e _ _ h))
 ·exact .inl (.inr ⟨o,e _ _ h⟩)
 ·exact .inr h
def Ea (cells:List (Str × Addr)):List (Str × NameKind) -> List (Str × Addr) -> List (Str × Addr)
 | [],cs=>cs
 | (n,k) :: r,cs=>if k == NameKind.free then Ea cells r ((n,(cells.lookup n).getD 0) :: cs) else Ea cells r cs
theorem Iu {cells : List (Str × Addr)} {x : Str} {c : Addr} : ∀ {names : List (Str × NameKind)} {cs : List (Str × Addr)}, (Ea cells names cs).lookup x = some c ->
  cs.lookup x = some c \/ ((x,NameKind.free) ∈ names /\ c = (cells.lookup x).getD 0)
 | [],cs,h=>.inl h
 | (n,k) :: r,cs,h=>by
  unfold Ea at h
  by_cases hk:(k == NameKind.free) = true
  ·rw [if_pos hk] at h
   rcases Iu h with h1 | ⟨h1,h2⟩
   ·rw [List.lookup_cons] at h1
    by_cases hx:(x == n) = true
    ·rw [hx] at h1
     have e:x = n:=eq_of_beq hx
     have e2:k = NameKind.free:=eq_of_beq hk
     subst e e2
     exact .inr ⟨List.mem_cons_self,(Option.some.inj h1).symm⟩
    ·have lQ:(x == n) = false:=by simpa using hx
     rw [lQ] at h1
     exact .inl h1
   ·exact .inr ⟨List.mem_cons_of_mem _ h1,h2⟩
  ·rw [if_neg hk] at h
   rcases Iu h with h1 | ⟨h1,h2⟩
   ·exact .inl h1
   ·exact .inr ⟨List.mem_cons_of_mem _ h1,h2⟩
theorem Gu {cells:List (Str × Addr)} {x:Str}:∀ {names:List (Str × NameKind)} {cs:List (Str × Addr)},(∃ c,cs.lookup x = some c) -> ∃ c,(Ea cells names cs).lookup x = some c
 | [],cs,h=>h
 | (n,k) :: r,cs,h=>by
  unfold Ea
  by_cases hk:(k == NameKind.free) = true
  ·rw [if_pos hk]
   refine Gu ?_
   rw [List.lookup_cons]
   cases hx:x == n with
   | true=>exact ⟨_,rfl⟩
   | false=>exact h
  ·rw [if_neg hk]
   exact Gu h
theorem Er {cells:List (Str × Addr)} {x:Str}:∀ {names:List (Str × NameKind)} {cs:List (Str × Addr)},(x,NameKind.free) ∈ names -> ∃ c,(Ea cells names cs).lookup x = some c
 | [],cs,h=>by cases h
 | (n,k) :: r,cs,h=>by
  unfold Ea
  rcases List.mem_cons.mp h with e | h
  ·have e1:x = n:=congrArg Prod.fst e
   have e2:NameKind.free = k:=congrArg Prod.snd e
   subst e1 e2
   rw [if_pos (by decide)]
   refine Gu ⟨(cells.lookup x).getD 0,?_⟩
   rw [List.lookup_cons,beq_self_eq_true]
  ·by_cases hk:(k == NameKind.free) = true
   ·rw [if_pos hk]
    exact Er h
   ·rw [if_neg hk]
    exact Er h
theorem Fd {env : Env} : ∀ {names : List (Str × NameKind)} {x : Str} {k' : NameKind}, (∀ y ∈ names, y.2 ≠ NameKind.cell) -> k' ≠ .local -> (k' = .cell \/ k' = .free) ->
  (names.map fun (n,k)=>if (k == NameKind.free && env.scope.kind == .function && env.kindOf n == some .cell) then (n,NameKind.cell) else (n,k)).lookup x = some k' -> (x,NameKind.free) ∈ names
 | [],_,_,_,_,_,h=>by simp at h
 | (n,k) :: r,x,k',hc,hl,dQ,h=>by
  have ih:=@Fd env r x k' (fun y hy=>hc y (List.mem_cons_of_mem _ hy)) hl dQ
  have h0:List.lookup x ((if (k == NameKind.free && env.scope.kind == .function && env.kindOf n == some .cell) = true then (n,NameKind.cell) else (n,k)) :: (r.map fun (n,k)=>if (k == NameKind.free && env.scope.kind == .function && env.kindOf n == some .cell) then (n,NameKind.cell) else (n,k))) = some k':=h
  by_cases w6:(k == NameKind.free && env.scope.kind == .function && env.kindOf n == some .cell) = true
  ·rw [if_pos w6,List.lookup_cons] at h0
   have e2:k = NameKind.free:=by
    have q:=(Bool.and_eq_true_iff.mp (Bool.and_eq_true_iff.mp w6).1).1
    exact eq_of_beq q
   cases hx:x == n with
   | true =>
    have e:x = n:=eq_of_beq hx
    subst e e2
    exact List.mem_cons_self
   | false =>
    rw [hx] at h0
    exact List.mem_cons_of_mem _ (ih h0)
  ·rw [if_neg w6,List.lookup_cons] at h0
   cases hx:x == n with
   | true =>
    rw [hx] at h0
    have e:x = n:=eq_of_beq hx
    have e3:k = k':=Option.some.inj h0
    subst e e3
    rcases dQ with z | z
    ·exact absurd z (hc _ List.mem_cons_self)
    ·subst z
     exact List.mem_cons_self
   | false =>
    rw [hx] at h0
    exact List.mem_cons_of_mem _ (ih h0)
structure Df (sc scope:Scope) (N bK:List Str) (fr:List Nat):Prop where
 kind:scope.kind = .function
 jD:∀ y ∈ scope.names,y.2 ≠ NameKind.cell
 loc:∀ y ∈ scope.names,y.2 = NameKind.local -> scope.names.lookup y.1 = some NameKind.local
 free:∀ y ∈ scope.names,y.2 = NameKind.free -> sc.names.lookup y.1 = some NameKind.cell
 iV:∀ j ∈ fr,(N[j]?.bind fun x=>scope.names.lookup x) = some NameKind.free
def Bq (N bK:List Str) (fr:List Nat):List Str:=bK ++ fr.map fun j=>(N[j]?).getD ⟨#[]⟩
def Dn (fr:List Nat) (σ:St):St:=fr.map fun j=>(σ[j]?).getD none
def Eh (n:Nat) (fr:List Nat) (σ:St):St:=List.replicate n none ++ Dn fr σ
def Ci (X:Cx) (Nc:List Str) (scope:Scope) (C:Addr) (s2:Shared) (H2:Hp) (fp:List Addr):Cx :=
 { X with N:=Nc,s₀:=s2,H₀:=H2,env:=compEnvC scope (Ea X.env.cells scope.names []) C X.env,outer:=X.stack,ex:=fp,fn:=fun _=>false,pn:=[],xe:=fun _ _=>False }
def jy (X:Cx) (ifs:List Expr) (t:TT):Prop :=
 ∀ (pins:List (Addr × Obj)) (s:Shared) (σ:St) (H:Hp) (Q:Bool -> Hp -> Prop),Ag X pins σ H s -> t σ H Q ->
  wpAny (model X.prog X.w) X.A (forIn ifs true fun c r=>if r = true then do let ok <- isTrue c X.env (eval c X.env); pure (ForInStep.yield ok) else pure (ForInStep.yield r)) (TP X pins σ Q) X.xe s
def To:TT:=fun _ H Q=>Q true H
theorem E8 {X:Cx}:jy X [] To:=fun _ _ _ H _ I h=>wpAny_tests_nil ⟨H,I,h⟩
theorem V7 {X:Cx} {c:Expr} {t:TT} (h:PT X c t):jy X [c] t:=fun pins s σ H Q I hq=>wpAny_tests_one (h pins s σ H Q I hq)
section
variable {prog:Program} {w:World} {A:Around} {R:Result -> Shared -> Prop} {s:Shared}
theorem Pj {elt target iter : Expr} {ifs : List Expr} {scope : Scope} {pos : Pos} {it acc : Value} {env : Env} (I : Nat -> Shared -> Prop)
  (turn:∀ n s,I n s -> wpAny (model prog w) A (pyNext it) (fun r s₁=>match r with
   | none=>R (.ok .next) s₁
   | some v => wpAny (model prog w) A (letOwnedTupleGo target it v) (fun _ s₁' => wpAny (model prog w) A (assign target env v) (fun _ s₂ =>
     wpAny (model prog w) A (forIn ifs true fun c r=>if r = true then do let ok <- isTrue c env (eval c env); pure (ForInStep.yield ok) else pure (ForInStep.yield r)) (fun ok s₃ =>
      if ok = true then wpAny (model prog w) A (eval elt env) (fun x s₄ =>
       wpAny (model prog w) A (call (.builtin "list.append") [acc,x]) (fun _ s₅=>∃ m,m < n /\ I m s₅) (fun _ _=>False) s₄) (fun _ _=>False) s₃
      else ∃ m,m < n /\ I m s₃) (fun _ _=>False) s₂) (fun _ _=>False) s₁') (fun _ _=>False) s₁) (fun _ _=>False) s)
  (n:Nat) (h:I n s) :
  codeAny (model prog w) A (.compLoop (.ListComp elt [⟨target,iter,ifs,0⟩] scope pos) 0 it acc env) R s:=by
 refine codeAny_loop rfl I (fun n s hI=>?_) n h
 show wpAny _ A ((compTurn (.ListComp elt [⟨target,iter,ifs,0⟩] scope pos) 0 it acc env).onRaise (fun x=>do noteFrame x env; theTreesLotGoes x)) _ _ s
 refine wpAny_noted ?_
 rw [compTurn_list]
 refine wpAny_bind (wpAny_standAt (wpAny_bind (wpAny_mono (turn n s hI) (fun r s₁ h₁=>?_) fun _ _ h'=>h'.elim)))
 cases r with
 | none=>exact wpAny_pure h₁
 | some v =>
  refine wpAny_bind (wpAny_mono h₁ (fun _ s₁' h₁'=>?_) fun _ _ h'=>h'.elim)
  refine wpAny_bind (wpAny_mono h₁' (fun _ s₂ h₂=>wpAny_bind (wpAny_mono h₂ (fun ok s₃ h₃=>?_) fun _ _ h'=>h'.elim)) fun _ _ h'=>h'.elim)
  cases ok with
  | false=>exact wpAny_pure ⟨rfl,h₃⟩
  | true =>
   exact wpAny_bind (wpAny_bind (wpAny_mono h₃ (fun x s₄ h₄=>wpAny_bind (wpAny_mono h₄ (fun _ s₅ h₅=>wpAny_pure (wpAny_pure ⟨rfl,h₅⟩)) fun _ _ h'=>h'.elim)) fun _ _ h'=>h'.elim))
end
def E9 (n:Nat) (fr:List Nat) (J:It) (g:TG) (tt:TT) (te:TE) (σ:St) (D:Addr) (H1:Hp) (Q:Hp -> Prop):Prop :=
 ∃ W:Nat -> Nat -> List V -> Hp -> Prop,(∃ m,W 0 m [] (upd H1 D (.lst []))) /\ ∀ i m ys H',W i m ys H' ->
  (J.stop i H' /\ Q H') \/ (J.go i H' /\ ∀ x H2,J.vX i H' x H2 -> g x (Eh n fr σ) H2 fun σ3 H3=>(∃ zs:St,zs.length = n /\ σ3 = zs ++ Dn fr σ) /\ tt σ3 H3 fun b H4 =>
   if b = true then te σ3 H4 fun y H5=>H5 D = some (.lst ys) /\ ys.length < sizeLine /\ ∃ m',m' < m /\ W (i + 1) m' (ys ++ [y]) (upd H5 D (.lst (ys ++ [y])))
   else ∃ m',m' < m /\ W (i + 1) m' ys H4)
def mo (n:Nat) (fr:List Nat) (wi:TI) (g:TG) (tt:TT) (te:TE):TE:=fun σ H Q=>wi σ H fun J H1=>∀ D,H1 D = none -> E9 n fr J g tt te σ D H1 (Q (.ref D))
def Xj (n:Nat) (fr:List Nat) (wi:TI) (g:TG) (tt:TT) (te:TE) (i:Nat):TS:=fun D σ H=>wi σ H fun J H1=>∀ l,H1 l = none -> E9 n fr J g tt te σ l H1 (D.nx (σ.set i (some (.ref l))))
section
variable {X:Cx} {tg iter elt:Expr} {ifs:List Expr} {scope sc:Scope} {bK:List Str} {fr:List Nat} {wi:TI} {g:TG} {tt:TT} {te:TE} {pos:Pos}
theorem Nd {pins : List (Addr × Obj)} {σ : St} {H2 : Hp} {s2 : Shared} {it : Addr} {fp : List Addr} {tn : Nat -> Heap -> Prop} {J : It} {RR : Value -> Addr -> Result -> Shared -> Prop} {E : Value -> Shared -> Prop} {Qf : Hp -> Prop}
  (CG:X.env.scope = sc) (S:Df sc scope X.N bK fr) (hc:X.calm = true)
  (hg:∀ C s2 H2 fp,PG (Ci X (Bq X.N bK fr) scope C s2 H2 fp) tg g) (ht:∀ C s2 H2 fp,jy (Ci X (Bq X.N bK fr) scope C s2 H2 fp) ifs tt) (he:∀ C s2 H2 fp,PE (Ci X (Bq X.N bK fr) scope C s2 H2 fp) elt te)
  (I2:Ag X pins σ H2 s2) (T:Sg X.prog X.w X.K tg J fp it tn) (aK:tn 0 s2.heap) (f2:∀ b ∈ fp,Kx X pins H2 b)
  (run:E9 bK.length fr J g tt te σ s2.heap.objs.size H2 Qf)
  (hRR:∀ (C:Addr) (H3:Hp) (s4:Shared),Ag X pins σ H3 s4 -> Kx X pins H3 C -> (∃ m,s4.heap.Ns C m) -> Qf H3 -> RR (.ref s2.heap.objs.size) C (.ok .next) s4) :
  wpAny (model X.prog X.w) X.A (newList []) (fun acc s₃=>wpAny (model X.prog X.w) X.A (newFunctionEnv scope X.env.globals (Ea X.env.cells scope.names []) [] X.env.qual none .none (some X.env)) (fun DV s₄ =>
   codeAny (model X.prog X.w) X.A (.compStart (.ListComp elt [⟨tg,iter,ifs,0⟩] scope pos) 0 (.ref it) acc { DV with scope:=relabel scope X.env }) (RR acc DV.locals) s₄) E s₃) E s2:=by
 refine wpAny_newObj_type (wpAny_newFunctionEnv S.jD (by intro y hy; simp at hy) (fun h₁ w8 rH=>?_) S.kind)
 dsimp only at w8 rH ⊢
 generalize PF:s2.heap.push { cls := .type "list",dict:=none,data := .seq ([]:List Value).toArray } = G2 at w8 rH ⊢
 have hC:G2.objs.size = s2.heap.objs.size + 1:=by rw [<- PF,Heap.size_push]
 have hDC:s2.heap.objs.size ≠ G2.objs.size:=by rw [hC]; exact Nat.ne_of_lt (Nat.lt_succ_self _)
 have hle:s2.heap.objs.size <= G2.objs.size:=by rw [hC]; exact Nat.le_succ _
 have below:∀ b,b < s2.heap.objs.size -> b ≠ G2.objs.size /\ b ≠ s2.heap.objs.size:=fun b hb=>⟨Nat.ne_of_lt (Nat.lt_of_lt_of_le hb hle),Nat.ne_of_lt hb⟩
 have old:∀ b o,s2.heap.get? b = some o -> h₁.get? b = some o:=fun b o e=>rH.extBut b o (below b (Heap.lt_size e)).1 (Heap.get?_push_of_some _ (PF ▸ Heap.get?_push_of_some _ e))
 have PH:h₁.get? s2.heap.objs.size = some { cls := .type "list",data := .seq ([]:List Value).toArray 0 }:=rH.extBut _ _ hDC (Heap.get?_push_of_some _ (PF ▸ Heap.get?_push_size _ rfl))
 have wc:∀ y ∈ scope.names,y.2 = NameKind.free -> ∃ c,X.env.cells.lookup y.1 = some c:=fun y hy e=>I2.ok.has y.1 (.inl (by show X.env.scope.names.lookup y.1 = _; rw [CG]; exact S.free y hy e))
 have jE:∀ x c,(Ea X.env.cells scope.names []).lookup x = some c -> X.env.cells.lookup x = some c:=fun x c e=>by
  rcases Iu e with z | ⟨z1,z2⟩
  ·simp at z
  ·obtain ⟨c',e'⟩ := wc _ z1 rfl
   rw [z2,e']
   rfl
 have we:∀ x c,X.env.cells.lookup x = some c -> c < s2.heap.objs.size:=fun x c e=>by
  obtain ⟨v,q⟩ := I2.cell x c e
  exact q.lt
 have wg:∀ b ∈ fp,b < s2.heap.objs.size:=fun b hb=>by
  obtain ⟨o,e,_⟩ := T.obj 0 _ aK b hb
  exact Heap.lt_size e
 have DW:(Ci X (Bq X.N bK fr) scope G2.objs.size s2 H2 fp).Ok:=by
  refine ⟨I2.ok.mod,S.kind,I2.ok.glob,I2.ok.blt,hle,fun x y c e1 e2=>I2.ok.inj x y c (jE x c e1) (jE y c e2),fun x hx=>?_,fun x c z _=>absurd z Bool.false_ne_true,I2.ok.hd,I2.ok.frames,.inl rfl,
   fun b hb=>⟨(below b (wg b hb)).1,fun x c e=>(f2 b hb).2.2.2.2.1 x c (jE x c e)⟩,I2.bs,Nat.le_trans I2.ok.lY I2.sz,fun b o e hb=>?_,fun b hb z=>?_,I2.stack,I2.kD⟩
  ·rcases hx with hx | hx
   ·exact Er (Fd (env:=X.env) S.jD (by decide) (.inl rfl) hx)
   ·exact Er (Fd (env:=X.env) S.jD (by decide) (.inr rfl) hx)
  ·rcases (f2 b hb).2.2.2.1 with z | z
   ·exact I2.ok.iZ b o e z
   ·exact absurd (Nat.lt_of_lt_of_le (Heap.lt_size e) (Nat.le_trans I2.ok.lY z)) (Nat.lt_irrefl _)
  ·rcases List.mem_cons.mp (I2.jB b z) with z | z
   ·exact (f2 b hb).2.1 z
   ·exact (f2 b hb).2.2.1 z
 have I3:Ag (Ci X (Bq X.N bK fr) scope G2.objs.size s2 H2 fp) [] (Eh bK.length fr σ) (upd H2 s2.heap.objs.size (.lst [])) { s2 with heap:=h₁,toks:=s2.toks + ([]:List (Str × Value)).length }:=by
  refine ⟨DW,rfl,I2.bare,Un.laid old (Nat.le_refl _) I2.fresh,⟨_,w8,fun i x v e1 e2 e3=>?_⟩,fun x c e=>?_,?_,fun x c e=>?_,fun p hp=>absurd (show p ∈ ([]:List (Addr × Obj)) from hp) (by simp),I2.aH.laid old (Nat.le_refl _) ⟨Nat.zero_le _,[],0,.nil,PH⟩,?_⟩
  ·-- a name of the comprehension that has a value at the start is one of the def's cells
   have hi:bK.length <= i:=by
    refine Nat.le_of_not_lt fun aM=>?_
    unfold Eh at e2
    rw [List.getElem?_append_left (by simpa using aM),List.getElem?_replicate,if_pos aM] at e2
    cases e2
   have rJ:(Dn fr σ)[i - bK.length]? = some (some v):=by
    unfold Eh at e2
    rw [List.getElem?_append_right (by simpa using hi)] at e2
    simpa using e2
   have mE:(fr.map fun j=>(X.N[j]?).getD ⟨#[]⟩)[i - bK.length]? = some x:=by
    have e1:(Bq X.N bK fr)[i]? = some x:=e1
    unfold Bq at e1
    rw [List.getElem?_append_right hi] at e1
    exact e1
   unfold Dn at rJ
   rw [List.getElem?_map] at mE rJ
   cases ej:fr[i - bK.length]? with
   | none=>rw [ej] at mE; cases mE
   | some j =>
    rw [ej] at mE rJ
    have e1j:(X.N[j]?).getD ⟨#[]⟩ = x:=Option.some.inj mE
    have MU:(σ[j]?).getD none = some v:=Option.some.inj rJ
    have fB:=S.iV j (List.mem_of_getElem? ej)
    cases eN:X.N[j]? with
    | none=>rw [eN] at fB; cases fB
    | some x' =>
     rw [eN] at fB e1j
     have ex:x' = x:=e1j
     subst ex
     have hfx:scope.names.lookup x' = some NameKind.free:=fB
     have hσ:σ[j]? = some (some v):=by
      cases eσ:σ[j]? with
      | none=>rw [eσ] at MU; cases MU
      | some o=>rw [eσ] at MU; exact congrArg some MU
     have bL:=PySem.mem_of_lookup hfx
     have hkc:X.env.scope.names.lookup x' = some NameKind.cell:=by rw [CG]; exact S.free _ bL rfl
     obtain ⟨m,hn,hl⟩ := I2.loc
     obtain ⟨u,ru,lk⟩ := hl j x' v eN hσ (.inr (.inl hkc))
     refine ⟨u,ru,.inr ⟨?_,?_⟩⟩
     ·have e3:(relabel scope X.env).names.lookup x' = some NameKind.local \/ (relabel scope X.env).names.lookup x' = some NameKind.cell \/ (relabel scope X.env).names.lookup x' = some NameKind.free:=e3
      rcases e3 with z | z | z
      ·exfalso
       have key:∀ (names:List (Str × NameKind)),names.lookup x' = some NameKind.free -> (names.map fun (n,k)=>if (k == NameKind.free && X.env.scope.kind == .function && X.env.kindOf n == some .cell) then (n,NameKind.cell) else (n,k)).lookup x' ≠ some NameKind.local:=by
        intro names
        induction names with
        | nil=>intro h; simp at h
        | cons p r ih =>
         obtain ⟨n,k⟩ := p
         intro h h2
         have h2:List.lookup x' ((if (k == NameKind.free && X.env.scope.kind == .function && X.env.kindOf n == some .cell) = true then (n,NameKind.cell) else (n,k)) :: (r.map fun (n,k)=>if (k == NameKind.free && X.env.scope.kind == .function && X.env.kindOf n == some .cell) then (n,NameKind.cell) else (n,k))) = some NameKind.local:=h2
         rw [List.lookup_cons] at h
         cases hx:x' == n with
         | true =>
          rw [hx] at h
          have ek:k = NameKind.free:=Option.some.inj h
          subst ek
          split at h2
          ·rw [List.lookup_cons,hx] at h2; cases h2
          ·rw [List.lookup_cons,hx] at h2; cases h2
         | false =>
          rw [hx] at h
          split at h2
          ·rw [List.lookup_cons,hx] at h2; exact ih h h2
          ·rw [List.lookup_cons,hx] at h2; exact ih h h2
       exact key scope.names hfx z
      ·exact .inl z
      ·exact .inr z
     ·obtain ⟨c,ec⟩ := Er (cells:=X.env.cells) (cs:=[]) bL
      rcases lk with ⟨k1,_⟩ | ⟨_,c',ec',ic⟩
      ·have k1:X.env.scope.names.lookup x' = some NameKind.local:=k1
       rw [hkc] at k1; cases k1
      ·have q:=jE _ _ ec
       rw [ec'] at q
       have q':c' = c:=Option.some.inj q
       subst q'
       exact ⟨_,ec,ic.keeps old⟩
  ·obtain ⟨v,q⟩ := I2.cell x c (jE x c e)
   exact ⟨v,q.keeps old⟩
  ·show upd H2 s2.heap.objs.size (.lst []) G2.objs.size = none
   rw [Aa hDC.symm]
   exact I2.aH.fresh hle
  ·rw [Aa (Nat.ne_of_lt (we x c (jE x c e)))]
   exact I2.aY x c (jE x c e)
  ·unfold Eh Dn
   show _ = (Bq X.N bK fr).length
   unfold Bq
   simp
 obtain ⟨W,⟨m0,w0⟩,turn⟩ := run
 have stat:∀ {H':Hp},(∀ b ∈ fp,H' b = none) -> ∀ b ∈ fp,Kx (Ci X (Bq X.N bK fr) scope G2.objs.size s2 H2 fp) [] H' b:=fun hn b hb =>
  ⟨hn b hb,(below b (wg b hb)).1,DW.jA b hb,.inl hb,(DW.DH b hb).2,fun p hp=>absurd (show p ∈ ([]:List (Addr × Obj)) from hp) (by simp)⟩
 have MS:∀ b ∈ fp,upd H2 s2.heap.objs.size (.lst []) b = none:=fun b hb=>by rw [Aa (below b (wg b hb)).2]; exact (f2 b hb).1
 have eU:tn 0 h₁:=T.keep 0 _ _ aK fun b _ o e=>old b o e
 have fin:∀ {H3:Hp} {s4:Shared},Ag (Ci X (Bq X.N bK fr) scope G2.objs.size s2 H2 fp) [] (Eh bK.length fr σ) H3 s4 -> Qf H3 -> RR (.ref s2.heap.objs.size) G2.objs.size (.ok .next) s4:=fun {H3 s4} I4 q=>by
  obtain ⟨m,hn,_⟩ := id I4.loc
  have ub:Un (iV X.stack) fp H2 H3 s2.heap s4.heap:=I4.base
  refine hRR G2.objs.size H3 s4 (I2.DK (ch:=fp) (s':=s4) I4.os ub I4.aH I4.bare fun b hb=>⟨(f2 b hb).2.2.2.1,(f2 b hb).2.1,(f2 b hb).2.2.2.2.1,(f2 b hb).2.2.2.2.2⟩) (I2.kP hle I4.free) ⟨m,hn⟩ q
 have loop : ∀ s₃ : Shared, s₃ = { s2 with heap := h₁, toks := s2.toks + ([] : List (Str × Value)).length } ->
   codeAny (model X.prog X.w) X.A (.compLoop (.ListComp elt [⟨tg,iter,ifs,0⟩] scope pos) 0 (.ref it) (.ref s2.heap.objs.size) (compEnvC scope (Ea X.env.cells scope.names []) G2.objs.size X.env)) (RR (.ref s2.heap.objs.size) G2.objs.size) s₃:=by
  rintro s₃ rfl
  refine Pj (fun n s'=>∃ i ys H',Ag (Ci X (Bq X.N bK fr) scope G2.objs.size s2 H2 fp) [] (Eh bK.length fr σ) H' s' /\ tn i s'.heap /\ (∀ b ∈ fp,H' b = none) /\ W i n ys H') ?_ m0 ⟨0,[],_,I3,eU,MS,w0⟩
  rintro n s5 ⟨i,ys,H3,J3,sti,fri,w3⟩
  rcases turn i n ys H3 w3 with ⟨stop,q⟩ | ⟨go,step⟩
  ·refine wpAny_mono (T.done (Ci X (Bq X.N bK fr) scope G2.objs.size s2 H2 fp) rfl rfl rfl hc i [] s5 _ H3 (fun _ _=>False) J3 (stat fri) sti stop) (fun r s6 ⟨hr,J4⟩=>?_) (fun _ _ f=>f)
   subst hr
   exact fin J4 q
  ·refine wpAny_mono (T.item (Ci X (Bq X.N bK fr) scope G2.objs.size s2 H2 fp) rfl rfl rfl hc i [] s5 _ H3 (fun _ _=>False) J3 (stat fri) sti go) (fun r s6 ⟨u,hr,h6⟩=>?_) (fun _ _ f=>f)
   subst hr
   refine wpAny_mono h6 (fun _ s7 ⟨x,H7,J7,r7,y7,CH,fr7⟩=>?_) (fun _ _ f=>f)
   have J7':=J7.pinned (stat fr7) (T.obj _ _ CH)
   refine wpAny_mono (hg G2.objs.size s2 H2 fp _ s7 _ H7 x u _ J7' r7 (step x H7 y7)) (fun _ s8 ⟨σ8,H8,J8,⟨zs,hz,e8⟩,q8⟩=>?_) (fun _ _ f=>f)
   have again : ∀ {H9 : Hp} {s9 : Shared} {DX : List V}, Ag (Ci X (Bq X.N bK fr) scope G2.objs.size s2 H2 fp) ([] ++ L8 fp s7.heap) σ8 H9 s9 -> (∃ m', m' < n /\ W (i + 1) m' DX H9) ->
     ∃ m,m < n /\ ∃ i ys H',Ag (Ci X (Bq X.N bK fr) scope G2.objs.size s2 H2 fp) [] (Eh bK.length fr σ) H' s9 /\ tn i s9.heap /\ (∀ b ∈ fp,H' b = none) /\ W i m ys H':=fun {H9 s9 DX} J9 ⟨m',hm,w9⟩=>by
    refine ⟨m',hm,i + 1,DX,H9,J9.cY.weak ?_ ?_,T.keep _ _ _ CH fun b hb o e=>(J9.pin (b,o) (List.mem_append_right _ (List.mem_append_right _ (Ev hb e)))).1,fun b hb=>?_,w9⟩
    ·rw [e8]; unfold Eh; simp [hz]
    ·intro k v ek
     rw [e8]
     unfold Eh at ek
     by_cases hk:k < bK.length
     ·rw [List.getElem?_append_left (by simpa using hk),List.getElem?_replicate,if_pos hk] at ek
      cases ek
     ·rw [List.getElem?_append_right (by simpa using hk)] at ek
      rw [List.getElem?_append_right (by omega),hz]
      simpa using ek
    ·obtain ⟨o,e,d⟩ := T.obj _ _ CH b hb
     exact (J9.pin (b,o) (List.mem_append_right _ (List.mem_append_right _ (Ev hb e)))).2.1
   refine wpAny_mono (ht G2.objs.size s2 H2 fp _ s8 σ8 H8 _ J8 q8) (fun ok s9 ⟨H9,J9,q9⟩=>?_) (fun _ _ f=>f)
   cases ok with
   | false =>
    rw [if_neg Bool.false_ne_true] at q9 ⊢
    exact again J9 q9
   | true =>
    rw [if_pos rfl] at q9 ⊢
    refine wpAny_mono (he G2.objs.size s2 H2 fp _ s9 σ8 H9 _ J9 q9) (fun y CI ⟨v10,rK,J10,r10,hD,hlen,PJ⟩=>?_) (fun _ _ f=>f)
    refine wpAny_mono (Cc (X:=Ci X (Bq X.N bK fr) scope G2.objs.size s2 H2 fp) _ CI σ8 rK (.ref s2.heap.objs.size) [v10] (.ref s2.heap.objs.size) [y] (fun _ wj=>wj = upd rK s2.heap.objs.size (.lst (ys ++ [v10]))) J10 rfl (.cons r10 .nil) ⟨_,ys,v10,rfl,rfl,hD,hlen,rfl⟩) (fun _ gU ⟨_,wj,J11,_,e11⟩=>?_) (fun _ _ f=>f)
    subst e11
    exact again J11 PJ
 exact codeAny_compStart_list (loop _ rfl) (T.self _ 0 _ _ _ eU (loop _ rfl))
theorem Fy (hi : PI X tg iter wi) (sc : Scope) (CG : X.env.scope = sc) (S : Df sc scope X.N bK fr) (hc : X.calm = true) (mF : closureFor scope X.env = pure (Ea X.env.cells scope.names []))
  (hg:∀ C s2 H2 fp,PG (Ci X (Bq X.N bK fr) scope C s2 H2 fp) tg g) (ht:∀ C s2 H2 fp,jy (Ci X (Bq X.N bK fr) scope C s2 H2 fp) ifs tt) (he:∀ C s2 H2 fp,PE (Ci X (Bq X.N bK fr) scope C s2 H2 fp) elt te)
  (hs:∀ x,foldedSetIterable iter X.env x = pure x:=by intro _; rfl):PE X (.ListComp elt [⟨tg,iter,ifs,0⟩] scope pos) (mo bK.length fr wi g tt te):=by
 intro pins s σ H Q I h
 rw [eval_ListComp]
 refine wpAny_comprehension_free (use:=none) rfl hs mF S.kind S.loc (wpAny_mono (hi pins s σ H _ I h) (fun v s1 h1=>wpAny_mono h1 (fun MR s2 h2=>?_) fun _ _ e=>e) fun _ _ e=>e)
 obtain ⟨it,fp,tn,J,H2,e,I2,T,aK,f2,R2⟩ := h2
 subst e
 refine Nd (RR:=fun acc C=>compPost (model X.prog X.w) X.A X.xe none (EP X pins σ Q) acc C) CG S hc hg ht he I2 T aK f2 (R2 _ I2.fresh) ?_
 intro C H3 s4 I4 fC ⟨m,hn⟩ q
 refine ⟨m,hn,fun h' DY=>⟨.ref s2.heap.objs.size,H3,?_,rfl,q⟩⟩
 obtain ⟨hh,gg,dd,PK,oo⟩ := s4
 exact I4.turned (h':=h') (t':=PK) (it:=C) (fun b o hb e=>DY.extBut b o hb e) fC.1 fC.2.1 fC.2.2.2.1 fC.2.2.2.2.1 fC.2.2.2.2.2
theorem Fa {i : Nat} {y : Str} {py DZ : Pos} (hN : X.N.Nodup) (hiy : X.N[i]? = some y) (hi : PI X tg iter wi) (sc : Scope) (CG : X.env.scope = sc) (S : Df sc scope X.N bK fr) (hc : X.calm = true)
  (mF:closureFor scope X.env = pure (Ea X.env.cells scope.names []))
  (hg:∀ C s2 H2 fp,PG (Ci X (Bq X.N bK fr) scope C s2 H2 fp) tg g) (ht:∀ C s2 H2 fp,jy (Ci X (Bq X.N bK fr) scope C s2 H2 fp) ifs tt) (he:∀ C s2 H2 fp,PE (Ci X (Bq X.N bK fr) scope C s2 H2 fp) elt te)
  (hy:X.env.scope.names.lookup y = some NameKind.local)
  (hsw:swapsWith (.ListComp elt [⟨tg,iter,ifs,0⟩] scope pos) (some (.Name y py)) DZ.line X.env = pure true)
  (hs:∀ x,foldedSetIterable iter X.env x = pure x:=by intro _; rfl) :
  PS X (.Assign [.Name y py] (.ListComp elt [⟨tg,iter,ifs,0⟩] scope pos) DZ) (Xj bK.length fr wi g tt te i):=by
 intro pins s σ H D I h
 rw [exec_Assign_Name_used _ _ _ _ hsw]
 refine wpAny_bind (wpAny_standAt (wpAny_bind ?_))
 show wpAny _ X.A (do let _ <- comprehension (.ListComp elt [⟨tg,iter,ifs,0⟩] scope pos) scope X.env _ (newList []) false (eval iter X.env) (some (assign (.Name y py) X.env))) _ _ s
 refine wpAny_bind (wpAny_mono (wpAny_comprehension_free (use:=some (assign (.Name y py) X.env)) (Q:=fun _ s'=>SP X pins D .next s') rfl hs mF S.kind S.loc
  (wpAny_mono (hi pins s σ H _ I h) (fun v s1 h1=>wpAny_mono h1 (fun MR s2 h2=>?_) fun _ _ e=>e) fun _ _ e=>e)) (fun _ s' hq=>wpAny_pure (wpAny_pure hq)) fun _ _ e=>e)
 obtain ⟨it,fp,tn,J,H2,e,I2,T,aK,f2,R2⟩ := h2
 subst e
 refine Nd (RR:=fun acc C=>compPost (model X.prog X.w) X.A X.xe (some (assign (.Name y py) X.env)) (fun _ s'=>SP X pins D .next s') acc C) CG S hc hg ht he I2 T aK f2 (R2 _ I2.fresh) ?_
 intro C H3 s4 I4 fC ⟨m,hn⟩ q
 refine wpAny_assign_Name (Nw (v := .ref s2.heap.objs.size) I4 hN hiy (.inl hy) rfl (fun s5 I5 ⟨a,hsb,ha⟩=>?_) (.inr hy))
 have PL:C ≠ a:=by
  rcases ha with z | z
  ·rw [z]; exact fC.2.1
  ·exact fun z2=>fC.2.2.2.2.1 y a z z2.symm
 refine ⟨m,hn.sameBut hsb PL,fun h' DY=>⟨_,H3,?_,q⟩⟩
 obtain ⟨hh,gg,dd,PK,oo⟩ := s5
 exact I5.turned (h':=h') (t':=PK) (it:=C) (fun b o hb e=>DY.extBut b o hb e) fC.1 fC.2.1 fC.2.2.2.1 fC.2.2.2.2.1 fC.2.2.2.2.2
end
open PySem.Builtin.Int (intBits)
section
variable {X:Cx}
theorem I9:J5 X (binaryOp .Mult) (rI IntMulOk fun i j=>.int (i * j)):=qr fun _ _ _ _ _ _ _ hc q=>mul_int q hc
end
theorem Qt {a b:Int} {m n:Nat} (ha:intBits a <= m) (hb:intBits b <= n) (h:m + n <= 134217728):IntMulOk a b:=PyProof.Rows.mulOk_of_bits ha hb h
theorem F8 {a:Int} (h1 : -(2 ^ 64) < a) (h2:a < 2 ^ 64):intBits a <= 64:=intBits_le_64 h1 h2
def X9 (T C:String):Option Bool:=if (Value.type T == Value.type C) = true then some true else if PySem.W.kitMeta C = true then (fastBuiltinMro T).map (·.contains (Value.type C)) else none
theorem Xe (K:PySem.W.Frag) (T C:String):PySem.W.kitOne K (.type T) (.type C) = X9 T C:=rfl
theorem Os:X9 "bool" "bool" = some true:=by decide +kernel
theorem Lr:X9 "tuple" "tuple" = some true:=by decide +kernel
theorem Pd:X9 "list" "list" = some true:=by decide +kernel
section
variable {X:Cx}
def ma (K:PySem.W.Frag):List V -> Hp -> VK -> Prop:=fun xs H Q=>∃ x T C b,xs = [x,.ty C] /\ Ik K H x (.type T) /\ X9 T C = some b /\ Q (.bl b) H
theorem Xc:Di X (.builtin "isinstance") (ma X.K):=by
 intro pins s σ H xs us Q I r h
 obtain ⟨x,T,C,b,rfl,ty,e,q⟩ := h
 obtain ⟨u,w',rfl,rx,rc⟩ := cp r
 obtain rfl:w' = Value.type C:=rc
 exact We I rx ty ((Xe X.K T C).trans e) fun tk=>⟨.bl b,H,I.tok _,rfl,q⟩
theorem Xy {x:Str} {T:String} {pos:Pos} (hg:Gl X x) (hm:X.mg x = none) (hv:bootBuiltins x = some (.type T)) (hn:x ≠ "__name__" := by decide) (hd:(x == ("__debug__" : Str)) = false:=by decide):PE X (.Name x pos) (tC (.ty T)) :=
 bd hg hm hv rfl hn hd
end
mutual
def Rp (H:Hp):PyData -> V -> Prop
 | .none,v=>v = .aL
 | .bool b,v=>v = .bl b
 | .int i,v=>v = .int i
 | .tuple ds,v=>∃ a xs,v = .ref a /\ H a = some (.tup xs) /\ aD H ds xs
 | .list ds,v=>∃ a xs,v = .ref a /\ H a = some (.lst xs) /\ aD H ds xs
 | .str x,v=>v = .str x /\ PyData.strOk x = true
 | .dict _,_=>False
def aD (H:Hp):List PyData -> List V -> Prop
 | [],vs=>vs = []
 | d :: ds,vs=>∃ x xs,vs = x :: xs /\ Rp H d x /\ aD H ds xs
end
mutual
theorem Cl {H:Hp}:∀ (d:PyData) (v:V),Rp H d v -> d.canLay0 = true
 | .none,_,_=>rfl
 | .bool _,_,_=>rfl
 | .int _,_,_=>rfl
 | .tuple ds,_,h=>by
  unfold Rp at h
  obtain ⟨a,xs,_,_,h⟩ := h
  exact dX ds xs h
 | .list ds,_,h=>by
  unfold Rp at h
  obtain ⟨a,xs,_,_,h⟩ := h
  exact dX ds xs h
 | .str x,v,h=>by
  unfold Rp at h
  exact h.2
 | .dict _,_,h=>by unfold Rp at h; exact h.elim
theorem dX {H:Hp}:∀ (ds:List PyData) (vs:List V),aD H ds vs -> PyData.canLayAll0 ds = true
 | [],_,_=>rfl
 | d :: ds,vs,h=>by
  unfold aD at h
  obtain ⟨x,xs,_,h1,h2⟩ := h
  show (d.canLay0 && PyData.canLayAll0 ds) = true
  rw [Cl d x h1,dX ds xs h2]
  rfl
end
section
variable {X:Cx} {pins:List (Addr × Obj)} {σ:St} {H:Hp} {s:Shared}
mutual
theorem Cp (I:Ag X pins σ H s):∀ (d:PyData) (v:V) (u:Value),Rp H d v -> Ap v u -> ∃ as,Reads s.heap u d as
 | .none,v,u,h,r=>by
  unfold Rp at h
  subst h
  cases r
  exact ⟨_,.none⟩
 | .bool b,v,u,h,r=>by
  unfold Rp at h
  subst h
  cases r
  exact ⟨_,.bool b⟩
 | .int i,v,u,h,r=>by
  unfold Rp at h
  subst h
  obtain ⟨t,rfl⟩ := r
  exact ⟨_,.int i t⟩
 | .tuple ds,v,u,h,r=>by
  unfold Rp at h
  obtain ⟨a,xs,rfl,ha,h⟩ := h
  cases r
  obtain ⟨_,aC,rv,p⟩ := I.aH a _ ha
  obtain ⟨o,h1,h2,n,h3⟩ := p
  obtain ⟨as,q⟩ := bT I ds xs aC h rv
  exact ⟨_,.tuple h1 h2 h3 (by simpa using q)⟩
 | .list ds,v,u,h,r=>by
  unfold Rp at h
  obtain ⟨a,xs,rfl,ha,h⟩ := h
  cases r
  obtain ⟨_,aC,n,rv,p⟩ := I.aH a _ ha
  obtain ⟨as,q⟩ := bT I ds xs aC h rv
  exact ⟨_,.list p rfl rfl (by simpa using q)⟩
 | .str x,v,u,h,r=>by
  unfold Rp at h
  obtain ⟨rfl,_⟩ := h
  obtain ⟨t,rfl⟩ := r
  exact ⟨_,.str x t⟩
 | .dict _,_,_,h,_=>by unfold Rp at h; exact h.elim
theorem bT (I:Ag X pins σ H s):∀ (ds:List PyData) (vs:List V) (us:List Value),aD H ds vs -> As vs us -> ∃ as,ReadsAll s.heap us ds as
 | [],vs,us,h,r=>by
  unfold aD at h
  subst h
  cases r
  exact ⟨_,.nil⟩
 | d :: ds,vs,us,h,r=>by
  unfold aD at h
  obtain ⟨x,xs,rfl,h1,h2⟩ := h
  cases r with
  | cons r1 r2 =>
   obtain ⟨as,q1⟩ := Cp I d x _ h1 r1
   obtain ⟨bs,q2⟩ := bT I ds xs _ h2 r2
   exact ⟨_,.cons q1 q2⟩
end
end
section
variable {X:Cx} {k:Nat}
def k9 (neg:Bool):R2:=fun x y H Q=>∃ d e:PyData,Rp H d x /\ Rp H e y /\ d.depth <= 60 /\ Q (.bl (if neg then !PyData.eqv d e else PyData.eqv d e)) H
theorem ij (hr:Cm k X.A):J5 X (compareOp .Eq) (k9 false):=by
 intro pins s σ H x y v u Q I rx ry h
 obtain ⟨d,e,h1,h2,hd,q⟩ := h
 obtain ⟨as,q1⟩ := Cp I d x v h1 rx
 obtain ⟨bs,q2⟩ := Cp I e y u h2 ry
 have hu:=hr.units
 exact PySem.SeqAt.compareEq_reads q1 q2 (Cl d x h1) (Cl e y h2) (by omega) ⟨.bl (PyData.eqv d e),H,I,rfl,q⟩
theorem Zb (hr:Cm k X.A):J5 X (compareOp .NotEq) (k9 true):=by
 intro pins s σ H x y v u Q I rx ry h
 obtain ⟨d,e,h1,h2,hd,q⟩ := h
 obtain ⟨as,q1⟩ := Cp I d x v h1 rx
 obtain ⟨bs,q2⟩ := Cp I e y u h2 ry
 have hu:=hr.units
 exact PySem.SeqAt.compareNe_reads q1 q2 (Cl d x h1) (Cl e y h2) (by omega) ⟨.bl (!PyData.eqv d e),H,I,rfl,q⟩
end
theorem Pa {H:Hp}:∀ ns:List Int,aD H (ns.map PyData.int) (ns.map V.int)
 | []=>by unfold aD; rfl
 | n :: ns=>by
  show aD H (PyData.int n :: ns.map PyData.int) (V.int n :: ns.map V.int)
  unfold aD
  exact ⟨_,_,rfl,by unfold Rp; rfl,Pa ns⟩
theorem Ab.new {H H':Hp} {p:Addr} {o:HO} (e:Ab H H') (h:H p = none):Ab H (upd H' p o):=fun b u q=>by
 rw [Aa (Ad q h)]
 exact e b u q
theorem Ab.upd {H:Hp} {p:Addr} {o:HO} (h:H p = none):Ab H (upd H p o):=(Ab.refl H).new h
theorem mG {l : PySem.W.OpenLaw} {n k : Nat} {q : Program} {loose : List Str} {XP : (Str -> Option Value) -> Heap -> Prop} {YP : World -> Heap -> Prop} {d : DefRec} {K : Params -> PySem.W.Frag} {CX : World -> X1} {sp : World -> Sp} {x : Str}
  (hn:l.most = some n) (rD:n <= sizeLine) (PM:d.params.defaults = []) (hr:Cm k callerA)
  (hY:∀ (w:World) (h:Heap),YP w h -> (K w.params).In h)
  (F:∀ (w:World) (mg:Str -> Option Value) (fa:Addr) (h:Heap),(K w.params).In h -> h.Ns mainGlobals mg -> mg d.name = some (.ref fa) ->
   ∃ fd:FuncData,(∀ (s:Shared) (u:Value),BindsTo s fd ⟨[u],[]⟩ [(x,u)]) /\
    ∀ base:Heap,(K w.params).In base -> base.Ns mainGlobals mg -> Ai l.prog w (K w.params) mg base (CX w) k fa fd [x] (sp w))
  (mB:∀ (w:World) (H:Hp) (a:Addr) (ns:List Int),ns.length <= n -> (∀ z ∈ ns,intBits z <= 2 ^ 20) -> i8 H -> B6 (K w.params) H a (ns.map V.int) -> sp w [.ref a] H (fun v _=>v = .bl true) fun _ _ _=>False)
  (OZ:∀ (w:World) (H:Hp) (s:Shared) (e:Value) (s':Shared),CX w [] H s (fun _ _ _=>False) e s' -> False) :
  PySem.W.WalkO q loose XP YP l.row.toRowW d [] (fun f vs=>PySem.call f vs):=by
 intro w s₀ s₁ mg mb G Y fa o pm cd doc dV kV ho hd lZ hD hmg hg args vals as rG PN hrd CF EA
 obtain rfl:dV = .none:=PySem.W.Dflts.none hD PM
 obtain rfl:kV = .none:=PySem.W.Dflts.noKw hD
 obtain ⟨a,vs,ns,rfl,rfl,PQ,hints,hlen⟩ := Att.kT hn rG CF
 have big:∀ z ∈ ns,intBits z <= 2 ^ 20:=fun z hz=>by
  have l1:=(PySem.W.layW_cons PN).1
  have l2:=PySem.W.layableW_item l1 (.int z) (List.mem_map.mpr ⟨z,hz,rfl⟩)
  have l3:=(PySem.W.layableW_iff.mp l2).2.2
  simpa only [PySem.W.WData.weight,Builtin.Int.intBits] using l3
 have KX:=hY w _ Y
 obtain ⟨fd,hb,hF⟩ := F w mg fa _ KX G.T.g hmg
 refine PySem.W.enter_call (codeAny_mono (Yk KX G.T.g G.T.b G.T.builtins G.T.nolimit hg PQ hints (Nat.le_trans hlen rD) hr hF hb (fun H hO hS=>mB w H a ns hlen big hO hS) fun H e s'=>OZ w H s₁ e s') fun r s' hq=>?_)
 obtain ⟨rfl,h2,h3,h4⟩ := hq
 exact ⟨.inl ⟨.bool true,.bool true,[],rfl,fun _=>rfl,.bool true,Att.kU l _,fun _=>⟨List.Pairwise.nil,fun _ hm=>(nomatch hm)⟩⟩,h2,h3,h4⟩
section
variable {X:Cx} {tg:Expr}
def ow (K:PySem.W.Frag):R2:=fun x y H Q=>∃ p xs i v,x = .ref p /\ y = .int i /\ (B6 K H p xs \/ C0 K H p xs) /\ Xq xs i = some v /\ Q v H
theorem Az (K:PySem.W.Frag) (hK:X.K = K:=by rfl):og X (ow K):=by
 subst hK
 intro value slice pins s σ H x y v u Q I rx ry h hs
 obtain ⟨p,xs,i,z,e1,e2,h | h,ea,q⟩ := h
 ·exact ap value slice pins s σ H x y v u Q I rx ry ⟨p,xs,i,z,e1,e2,h,ea,q⟩ hs
 ·exact ji value slice pins s σ H x y v u Q I rx ry ⟨p,xs,i,z,e1,e2,h,ea,q⟩ hs
def ph (K:PySem.W.Frag):List V -> Hp -> VK -> Prop:=fun xs H Q=>∃ p ys,xs = [.ref p] /\ (B6 K H p ys \/ C0 K H p ys) /\ Q (.int ys.length) H
theorem Cd (K:PySem.W.Frag) (hK:X.K = K:=by rfl):Di X (.builtin "len") (ph K):=by
 subst hK
 exact Op
theorem Il (K:PySem.W.Frag) (hK:X.K = K:=by rfl):Di X (.builtin "isinstance") (ma K):=by
 subst hK
 exact Xc
theorem j5 (K:PySem.W.Frag) (hK:X.K = K:=by rfl):J5 X (compareOp .In) (t0 K false):=by
 subst hK
 exact Wh
theorem Hu (K:PySem.W.Frag) (hK:X.K = K:=by rfl):qe X (le K):=by
 subst hK
 exact b9
theorem Ib (K : PySem.W.Frag) {es : List Expr} {kk : Nat} {t : Zg} {n : Nat} {pos : Pos} (hc : X.calm = true) (h : nw X es t) (hK : X.K = K := by rfl)
  (hn:(assignEach es X.env).length = n:=by rfl) (bS:(assignEach es X.env).findIdx? (·.1) = none:=by rfl):PG X (.Tuple es kk pos) (Zh K n t):=by
 subst hK
 exact iq hc h hn bS
def Pl (K:PySem.W.Frag) (tl:TE):TI:=fun σ H R=>tl σ H fun x H1=>∃ a,x = .ref a /\ (((∃ xs,B6 K H1 a xs) /\ R (jo K a) H1) \/ ((∃ xs,C0 K H1 a xs) /\ R (jn K a) H1))
theorem Da {l:Expr} {tl:TE} (hl:PE X l tl):PI X tg l (Pl X.K tl):=by
 intro pins s σ H R I h
 refine C6 (hl pins s σ H _ I h) fun v s1 aO=>?_
 obtain ⟨x,H1,I1,r1,q1⟩ := aO
 obtain ⟨a,e,q1⟩ := q1
 subst e
 cases r1
 rcases q1 with ⟨⟨xs,hq⟩,q⟩ | ⟨⟨xs,hq⟩,q⟩
 ·obtain ⟨aC,rv,p,hz⟩ := I1.list hq
  refine wpAny_pyIter_list p.isList ?_
  refine ⟨s1.heap.objs.size,[s1.heap.objs.size],_,_,H1,rfl,I1.kept (t':=s1.toks) fun b o e=>Heap.get?_push_of_some _ e,Wn a _,⟨_,Heap.get?_push_size _ rfl,rfl,rfl⟩,fun b hb=>?_,q⟩
  have e:b = s1.heap.objs.size:=by simpa using hb
  subst e
  exact I1.kP (Nat.le_refl _) (I1.aH.fresh (Nat.le_refl _))
 ·obtain ⟨aC,rv,p,hz⟩ := I1.tuple hq
  refine wpAny_pyIter_tuple (show s1.heap.IsTuple a aC.toArray from p) ?_
  refine ⟨s1.heap.objs.size,[s1.heap.objs.size],_,_,H1,rfl,I1.kept (t':=s1.toks) fun b o e=>Heap.get?_push_of_some _ e,Se a _,⟨_,Heap.get?_push_size _ rfl,rfl,rfl⟩,fun b hb=>?_,q⟩
  have e:b = s1.heap.objs.size:=by simpa using hb
  subst e
  exact I1.kP (Nat.le_refl _) (I1.aH.fresh (Nat.le_refl _))
end
theorem Go {fr : List Nat} {te : TE} {σ : St} {D : Addr} {H1 : Hp} {Q : Hp -> Prop} {lo : Int} {cnt : Nat} (Pv : Nat -> List V -> Hp -> Prop) (h0 : Pv 0 [] (upd H1 D (.lst [])))
  (hs:∀ i ys H,i < cnt -> Pv i ys H -> ∀ Qe:VK,(∀ y H5,H5 D = some (.lst ys) -> ys.length < sizeLine -> Pv (i + 1) (ys ++ [y]) (upd H5 D (.lst (ys ++ [y]))) -> Qe y H5) -> te (some (.int (lo + i)) :: Dn fr σ) H Qe)
  (hd:∀ ys H,Pv cnt ys H -> Q H):E9 1 fr (cy lo cnt) (Fn 0) To te σ D H1 Q:=by
 refine ⟨fun i m ys H=>m = cnt - i /\ i <= cnt /\ Pv i ys H,⟨cnt,by simp,Nat.zero_le _,h0⟩,?_⟩
 rintro i m ys H' ⟨rfl,hi,p⟩
 by_cases aM:i < cnt
 ·refine .inr ⟨aM,fun x H2 y=>?_⟩
  obtain ⟨e,y⟩ := y
  subst e y
  refine ⟨⟨[some (.int (lo + i))],rfl,rfl⟩,?_⟩
  simp only [To,↓reduceIte]
  exact hs i ys _ aM p _ fun y H5 hD hz pv=>⟨hD,hz,cnt - (i + 1),by omega,rfl,aM,pv⟩
 ·have e:i = cnt:=by omega
  subst e
  exact .inl ⟨Nat.le_refl _,hd ys H' p⟩
theorem G0 {K : PySem.W.Frag} {a : Addr} {xs : List V} {fr : List Nat} {te : TE} {σ : St} {D : Addr} {H1 : Hp} {Q : Hp -> Prop} (Pv : Nat -> List V -> Hp -> Prop) (h0 : Pv 0 [] (upd H1 D (.lst [])))
  (hl:∀ i ys H,i <= xs.length -> Pv i ys H -> B6 K H a xs)
  (hs:∀ i x ys H,xs[i]? = some x -> Pv i ys H -> ∀ Qe:VK,(∀ y H5,H5 D = some (.lst ys) -> ys.length < sizeLine -> Pv (i + 1) (ys ++ [y]) (upd H5 D (.lst (ys ++ [y]))) -> Qe y H5) -> te (some x :: Dn fr σ) H Qe)
  (hd:∀ ys H,Pv xs.length ys H -> Q H):E9 1 fr (jo K a) (Fn 0) To te σ D H1 Q:=by
 refine ⟨fun i m ys H=>m = xs.length - i /\ i <= xs.length /\ Pv i ys H,⟨xs.length,by simp,Nat.zero_le _,h0⟩,?_⟩
 rintro i m ys H' ⟨rfl,hi,p⟩
 have q:=hl i ys H' hi p
 by_cases aM:i < xs.length
 ·refine .inr ⟨⟨xs,xs[i],q,by simp [aM]⟩,fun x H2 y=>?_⟩
  obtain ⟨e,y⟩ := y
  subst e
  refine ⟨⟨[some x],rfl,rfl⟩,?_⟩
  simp only [To,↓reduceIte]
  exact hs i x ys _ (y xs q) p _ fun y H5 hD hz pv=>⟨hD,hz,xs.length - (i + 1),by omega,rfl,aM,pv⟩
 ·have e:i = xs.length:=by omega
  subst e
  exact .inl ⟨⟨xs,q,Nat.le_refl _⟩,hd ys H' p⟩
theorem Yq {K : PySem.W.Frag} {a : Addr} {xs : List V} {fr : List Nat} {te : TE} {σ : St} {D : Addr} {H1 : Hp} {Q : Hp -> Prop} (Pv : Nat -> List V -> Hp -> Prop) (h0 : Pv 0 [] (upd H1 D (.lst [])))
  (hl:∀ i ys H,i <= xs.length -> Pv i ys H -> C0 K H a xs)
  (hs:∀ i x ys H,xs[i]? = some x -> Pv i ys H -> ∀ Qe:VK,(∀ y H5,H5 D = some (.lst ys) -> ys.length < sizeLine -> Pv (i + 1) (ys ++ [y]) (upd H5 D (.lst (ys ++ [y]))) -> Qe y H5) -> te (some x :: Dn fr σ) H Qe)
  (hd:∀ ys H,Pv xs.length ys H -> Q H):E9 1 fr (jn K a) (Fn 0) To te σ D H1 Q:=by
 refine ⟨fun i m ys H=>m = xs.length - i /\ i <= xs.length /\ Pv i ys H,⟨xs.length,by simp,Nat.zero_le _,h0⟩,?_⟩
 rintro i m ys H' ⟨rfl,hi,p⟩
 have q:=hl i ys H' hi p
 by_cases aM:i < xs.length
 ·refine .inr ⟨⟨xs,xs[i],q,by simp [aM]⟩,fun x H2 y=>?_⟩
  obtain ⟨e,y⟩ := y
  subst e
  refine ⟨⟨[some x],rfl,rfl⟩,?_⟩
  simp only [To,↓reduceIte]
  exact hs i x ys _ (y xs q) p _ fun y H5 hD hz pv=>⟨hD,hz,xs.length - (i + 1),by omega,rfl,aM,pv⟩
 ·have e:i = xs.length:=by omega
  subst e
  exact .inl ⟨⟨xs,q,Nat.le_refl _⟩,hd ys H' p⟩
def Gh (ns:List Int) (k:Int):Int:=(ns[k.toNat]?).getD 0
theorem br {ns:List Int} {k:Int} (h0:0 <= k) (h:k < ns.length):Xq (ns.map V.int) k = some (.int (Gh ns k)):=by
 obtain ⟨j,rfl⟩ : ∃ j:Nat,k = j:=⟨k.toNat,by omega⟩
 have hj:j < ns.length:=by omega
 refine Ol ?_
 unfold Gh
 rw [List.getElem?_map,Int.toNat_natCast,List.getElem?_eq_getElem hj]
 rfl
theorem Vx {ns:List Int} {k:Int} (h0:0 <= k) (h:¬ k < ns.length):Gh ns k = 0:=by
 unfold Gh
 rw [List.getElem?_eq_none (by omega)]
 rfl
theorem Rz {ns:List Int} {k:Int} (hb:∀ z ∈ ns,intBits z <= 2 ^ 20):intBits (Gh ns k) <= 2 ^ 20:=by
 unfold Gh
 cases e:ns[k.toNat]? with
 | none=>show intBits 0 <= 2 ^ 20; decide
 | some n=>exact hb n (List.mem_of_getElem? e)
theorem C0.same {K:PySem.W.Frag} {H H':Hp} {a:Addr} {xs:List V} (e:Ab H H') (h:C0 K H a xs):C0 K H' a xs:=by
 rcases h with (h | ⟨o,h⟩) | h
 ·exact .inl (.inl (e _ _ h))
 ·exact .inl (.inr ⟨o,e _ _ h⟩)
 ·exact .inr h
theorem Pw {c:Bool} {A B:Prop} (hc:c = true) (h:A):if c = true then A else B:=by rw [if_pos hc]; exact h
theorem E2 {c:Bool} {A B:Prop} (hc:c = false) (h:B):if c = true then A else B:=by rw [if_neg (by rw [hc]; exact Bool.false_ne_true)]; exact h
theorem Bn {xs:List V} (h:xs.length <= 1000:=by simp):xs.length <= sizeLine:=Nat.le_of_lt (B8 h)
theorem Pf {n:Nat} (h:n <= 1000):n <= sizeLine:=Nat.le_of_lt (B8 h)
def dT (ws:List Int):PyData := .tuple (ws.map PyData.int)
def dL (ws:List Int):PyData := .list (ws.map PyData.int)
def dP (d e:PyData):PyData := .tuple [d,e]
def dO:Option Int -> PyData
 | none=>.none
 | some i=>.int i
def vO:Option Int -> V
 | none=>.aL
 | some i=>.int i
theorem J2 {H:Hp} (i:Int):Rp H (.int i) (.int i):=by unfold Rp; rfl
theorem Sx {H:Hp}:Rp H .none .aL:=by unfold Rp; rfl
theorem cz {H:Hp} {t:Addr} {ws:List Int} (h:H t = some (.tup (ws.map V.int))):Rp H (dT ws) (.ref t):=by
 unfold dT Rp
 exact ⟨t,_,rfl,h,Pa ws⟩
theorem cn {H:Hp} {t:Addr} {ws:List Int} (h:H t = some (.lst (ws.map V.int))):Rp H (dL ws) (.ref t):=by
 unfold dL Rp
 exact ⟨t,_,rfl,h,Pa ws⟩
theorem Xl {H:Hp} {p:Addr} {d e:PyData} {x y:V} (h:H p = some (.tup [x,y])) (hd:Rp H d x) (he:Rp H e y):Rp H (dP d e) (.ref p):=by
 unfold dP Rp
 refine ⟨p,_,rfl,h,?_⟩
 unfold aD
 refine ⟨x,_,rfl,hd,?_⟩
 unfold aD
 refine ⟨y,_,rfl,he,?_⟩
 unfold aD
 rfl
theorem Ej:∀ ws:List Int,PyData.depthAll (ws.map PyData.int) = 0
 | []=>rfl
 | w :: ws=>by
  show max (PyData.depth (.int w)) (PyData.depthAll (ws.map PyData.int)) = 0
  rw [Ej ws]
  rfl
theorem Yz (ws:List Int):(dT ws).depth = 1:=by
 show PyData.depthAll (ws.map PyData.int) + 1 = 1
 rw [Ej]
theorem Y1 (ws:List Int):(dL ws).depth = 1:=by
 show PyData.depthAll (ws.map PyData.int) + 1 = 1
 rw [Ej]
theorem Qp (d e:PyData):(dP d e).depth = max d.depth e.depth + 1:=by
 show max d.depth (max e.depth 0) + 1 = _
 rw [Nat.max_zero]
theorem Dj:∀ xs ys:List Int,PyData.eqvAll (xs.map PyData.int) (ys.map PyData.int) = decide (xs = ys)
 | [],[]=>rfl
 | x :: xs,y :: ys=>by
  show (PyData.eqv (.int x) (.int y) && PyData.eqvAll (xs.map PyData.int) (ys.map PyData.int)) = _
  rw [Dj xs ys]
  show ((x == y) && decide (xs = ys)) = _
  by_cases h1:x = y <;> by_cases h2:xs = ys <;> simp [h1,h2]
 | [],_ :: _=>rfl
 | _ :: _,[]=>rfl
theorem Xf (xs ys:List Int):PyData.eqv (dT xs) (dT ys) = decide (xs = ys):=Dj xs ys
theorem fw (xs ys:List Int):PyData.eqv (dL xs) (dL ys) = decide (xs = ys):=Dj xs ys
theorem dl (a b c d:PyData):PyData.eqv (dP a b) (dP c d) = (PyData.eqv a c && PyData.eqv b d):=by
 show (PyData.eqv a c && (PyData.eqv b d && true)) = _
 rw [Bool.and_true]
section
variable {X:Cx} {pins:List (Addr × Obj)} {σ:St} {H:Hp} {s:Shared} {h':Heap}
theorem Ag.iO {ch : List Addr} {T : Addr} {o : HO} {t' : Nat} (I : Ag X pins σ H s) (fU : ∀ b ∈ ch, Kx X pins H b) (k : ∀ b ob, b ∉ ch -> s.heap.get? b = some ob -> h'.get? b = some ob)
  (hT:s.heap.objs.size <= T) (new:Bh X.prog X.w (upd H T o) h' T o):Ag X pins σ (upd H T o) { s with heap:=h',toks:=t' }:=by
 have hn:H T = none:=I.aH.fresh hT
 have off:∀ b u,H b = some u -> b ∉ ch:=fun b u e hb=>by
  have z:=(fU b hb).1
  rw [e] at z
  cases z
 refine I.call (g':=s.gens) (d':=s.drawn) (t':=t') (ch:=ch) ⟨fun b ob e _ _ hc=>k b ob hc e,fun b ob e _ _ hc=>⟨ob.slots,k b ob hc e⟩,fun b ob e n hc=>?_,fun b ob e hc=>⟨ob,k b ob hc e⟩,fun b xs e=>?_,fun b ob u e=>?_,fun b ps e=>⟨#[],?_⟩⟩ (fun b u e=>?_) I.bare
  (fun b hb=>⟨(fU b hb).2.2.2.1,(fU b hb).2.1,(fU b hb).2.2.2.2.1,(fU b hb).2.2.2.2.2⟩)
 ·rw [Aa (Nat.ne_of_lt (Nat.lt_of_lt_of_le (Heap.lt_size e) hT))]
  exact n
 ·rw [Aa (Ad e hn)]
  exact e
 ·rw [Aa (Ad e hn)]
  exact e
 ·rw [Aa (Ad e hn),e]
  simp
 ·by_cases hb:b = T
  ·subst hb
   rw [A5] at e
   cases e
   exact new
  ·rw [Aa hb] at e
   refine (I.aH b u e).eP (fun c v hc q=>k c v ?_ q) (fun c q=>?_) fun c xs q=>?_
   ·rcases hc with rfl | hc
    ·exact off _ _ e
    ·exact off _ _ hc
   ·rw [Aa (Ad q hn)]
    exact q
   ·rw [Aa (Ad q hn)]
    exact q
theorem Ag.iP {ch:List Addr} {t':Nat} (I:Ag X pins σ H s) (fU:∀ b ∈ ch,Kx X pins H b) (k:∀ b ob,b ∉ ch -> s.heap.get? b = some ob -> h'.get? b = some ob):Ag X pins σ H { s with heap:=h',toks:=t' }:=by
 have off:∀ b u,H b = some u -> b ∉ ch:=fun b u e hb=>by
  have z:=(fU b hb).1
  rw [e] at z
  cases z
 refine I.call (g':=s.gens) (d':=s.drawn) (t':=t') (ch:=ch) ⟨fun b ob e _ _ hc=>k b ob hc e,fun b ob e _ _ hc=>⟨ob.slots,k b ob hc e⟩,fun b ob e n hc=>n,fun b ob e hc=>⟨ob,k b ob hc e⟩,fun b xs e=>e,fun b ob u e=>e,fun b ps e=>⟨#[],by rw [e]; simp⟩⟩ (fun b u e=>?_) I.bare
  (fun b hb=>⟨(fU b hb).2.2.2.1,(fU b hb).2.1,(fU b hb).2.2.2.2.1,(fU b hb).2.2.2.2.2⟩)
 refine (I.aH b u e).eP (fun c v hc q=>k c v ?_ q) (fun c q=>q) fun c xs q=>q
 rcases hc with rfl | hc
 ·exact off _ _ e
 ·exact off _ _ hc
end
def ul (K:PySem.W.Frag) (l1 l2:Addr):It :=
 ⟨fun i H=>∃ xs ys x y,B6 K H l1 xs /\ B6 K H l2 ys /\ xs[i]? = some x /\ ys[i]? = some y,
  fun i H v H'=>∃ T x y,v = .ref T /\ H T = none /\ H' = upd H T (.tup [x,y]) /\ (∀ xs,B6 K H l1 xs -> xs[i]? = some x) /\ ∀ ys,B6 K H l2 ys -> ys[i]? = some y,
  fun i H=>∃ xs ys,B6 K H l1 xs /\ B6 K H l2 ys /\ (xs.length <= i \/ ys.length <= i)⟩
section
variable {X:Cx}
def uo (K:PySem.W.Frag) (ta:TA):TI:=fun σ H R=>ta σ H fun vs H1=>∃ a b,vs = [.ref a,.ref b] /\ (∃ xs,B6 K H1 a xs) /\ (∃ ys,B6 K H1 b ys) /\ R (ul K a b) H1
end
def uv (K:PySem.W.Frag) (l:Addr):It :=
 ⟨fun i H=>∃ xs x,B6 K H l xs /\ xs[i]? = some x,
  fun i H v H'=>∃ T x,v = .ref T /\ H T = none /\ H' = upd H T (.tup [.int i,x]) /\ ∀ xs,B6 K H l xs -> xs[i]? = some x,
  fun i H=>∃ xs,B6 K H l xs /\ xs.length <= i⟩
section
variable {X:Cx}
def sk (K:PySem.W.Frag) (ta:TA):TI:=fun σ H R=>ta σ H fun vs H1=>∃ a,vs = [.ref a] /\ (∃ xs,B6 K H1 a xs) /\ R (uv K a) H1
end
section
variable {X:Cx}
theorem Vt (hc:X.calm = true):Di X (.builtin "min") (fun xs H Q=>∃ (p:Addr) (ns:List Int),xs = [.ref p] /\ B6 X.K H p (ns.map V.int) /\ 0 < ns.length /\ ∀ m:Int,m ∈ ns -> (∀ a ∈ ns,m <= a) -> Q (.int m) H):=by
 intro pins s σ H vs us Q I r q
 obtain ⟨p,ns,rfl,hq,bN,q⟩ := q
 obtain ⟨u,rfl,rx⟩ := Ji r
 cases rx
 obtain ⟨aC,rv,pl,hz⟩ := I.list hq
 have hi:=Li rv
 obtain ⟨ys,ey⟩ := hi.allInts.items
 have qQ:ns = ys.toList.map (·.1):=by
  have e1:=hi.numsOf
  have e2:=nums_intItems ys
  rw [<- ey] at e2
  exact e1.symm.trans e2
 have hsz:0 < ys.size:=by
  rw [qQ,List.length_map,Array.length_toList] at bN
  exact bN
 have hl:=pl.isList
 rw [ey] at hl
 refine min_intList (I.ok.hd hc) hl hsz fun v g' tk hv hk=>?_
 obtain ⟨t,rfl⟩ := intItems_at hv
 obtain ⟨b1,b2⟩ := argBest_lt (numAt ys) (ys.size - 1)
 refine ⟨.int _,H,I.kept hk,⟨t,rfl⟩,q _ ?_ fun a ha=>?_⟩
 ·rw [qQ,numAt_eq]
  exact getD_mem (by rw [List.length_map,Array.length_toList]; omega)
 ·rw [qQ] at ha
  obtain ⟨j,hj,rfl⟩ := mem_getD ha
  rw [List.length_map,Array.length_toList] at hj
  rw [<- numAt_eq]
  exact b2 j (by omega)
end
section
variable {X:Cx}
def pk (K:PySem.W.Frag):V -> List V -> Hp -> VK -> Prop:=fun x vs H Q=>∃ (l:Addr) (ns:List Int) (y:Int) (j:Nat),x = .ref l /\ vs = [.int y] /\ B6 K H l (ns.map V.int) /\ ns[j]? = some y /\ (∀ m,m < j -> ns[m]? ≠ some y) /\ Q (.int (j:Nat)) H
theorem Gn:∀ ns:List Int,(ns.map V.int).all E5 = true
 | []=>rfl
 | n :: ns=>by
  show (E5 (V.int n) && (ns.map V.int).all E5) = true
  rw [Gn ns]
  rfl
end
structure Vq (K:PySem.W.Frag) (x qual:Str) (st:Stmt) (f:Addr) (fd:FuncData):Prop where
 ex:∃ (oc:Value) (od:Option Addr) (dV kV doc pm:Value) (an:Option Addr) (aP ct:Value) (gK:Array (Option Value)),
  fd = PySem.W.fnOf x qual (Ak st) (Aj st) (A7 st) dV kV doc pm an aP ct /\ K.lookup f = some ⟨oc,od,.func fd,gK⟩ /\ PySem.W.codeIn K aP qual = true
section
variable {P:Program} {w:World} {K:PySem.W.Frag} {mg:Str -> Option Value} {base:Heap}
theorem Vq.ok {x qual : Str} {st : Stmt} {f : Addr} {fd : FuncData} {N ps : List Str} {k : Nat} {sp : Sp} (F : Vq K x qual st f fd) (S : Ao N ps (A7 st)) (len : ∀ vs H Q E, sp vs H Q E -> vs.length = ps.length)
  (iI:∀ (aP:Value) (A:Around) (outer:List Env) (s:Shared) (H:Hp) (vs:List V) (Q:VK) (E:XK),Cm k (A.deeper (envOfC qual (A7 st) s.heap.objs.size f aP)) -> sp vs H Q E ->
   ∃ t,Ro (Sa Bm P w K mg base N qual (A7 st) f aP A outer s H E).qO (Aj st) t /\ t { nx:=fun _ H'=>Q .aL H',rt:=Q } (start N vs) H):Ai P w K mg base Bm (k + 1) f fd ps sp:=by
 obtain ⟨oc,od,dV,kV,doc,pm,an,aP,ct,gK,rfl,lk,lZ⟩ := F.ex
 refine c9 lk lZ S len fun A outer s H vs Q E hr mB=>?_
 obtain ⟨t,h,q⟩ := iI aP A outer s H vs Q E hr mB
 exact ⟨t,h.qO,q⟩
end
section
variable {X:Cx} {a b c:Expr} {rest:List Expr} {ta tb:TE} {tA qN:TT} {t u:TS} {pos:Pos}
def m8 (ta tb:TE):TE:=fun σ H Q=>ta σ H fun x H1=>∃ c d:Bool,x = .bl c /\ (c = true -> ∀ Q':VK,Q' (.bl d) H1 -> tb σ H1 Q') /\ Q (.bl (c && d)) H1
def u6 (ta tb:TE):TE:=fun σ H Q=>ta σ H fun x H1=>∃ c d:Bool,x = .bl c /\ (c = false -> ∀ Q':VK,Q' (.bl d) H1 -> tb σ H1 Q') /\ Q (.bl (c || d)) H1
theorem K3 (ha:PE X a ta) (hb:PE X (.BoolOp .And (b :: rest) pos) tb):PE X (.BoolOp .And (a :: b :: rest) pos) (m8 ta tb):=by
 intro pins s σ H Q I h
 refine BoolOp_and (C6 (ha pins s σ H _ I h) fun v s1 aO=>?_)
 obtain ⟨x,H1,I1,r1,q1⟩ := aO
 obtain ⟨c,d,rfl,q0,q1⟩ := q1
 cases r1
 refine wpAny_truthy_bool ?_
 cases c with
 | true=>exact hb pins s1 σ H1 Q I1 (q0 rfl Q q1)
 | false=>exact ⟨.bl false,H1,I1,rfl,q1⟩
def ni (t u:TT):TT:=fun σ H Q=>t σ H fun c H1=>∃ d:Bool,(c = true -> ∀ Q':Bool -> Hp -> Prop,Q' d H1 -> u σ H1 Q') /\ Q (c && d) H1
def pi (t u:TT):TT:=fun σ H Q=>t σ H fun c H1=>∃ d:Bool,(c = false -> ∀ Q':Bool -> Hp -> Prop,Q' d H1 -> u σ H1 Q') /\ Q (c || d) H1
theorem V1 (ha:PT X a tA) (hb:PW X (.BoolOp .And (b :: rest) pos) qN):PW X (.BoolOp .And (a :: b :: rest) pos) (ni tA qN):=by
 intro wh pins s σ H Q I h
 refine isTrue_and (C6 (ha pins s σ H _ I h) fun c s1 aO=>?_)
 obtain ⟨H1,I1,d,q0,q1⟩ := aO
 cases c with
 | true=>exact hb wh pins s1 σ H1 Q I1 (q0 rfl Q q1)
 | false=>exact ⟨H1,I1,q1⟩
theorem X4 (ha:PT X a tA) (hb:PW X (.BoolOp .Or (b :: rest) pos) qN):PW X (.BoolOp .Or (a :: b :: rest) pos) (pi tA qN):=by
 intro wh pins s σ H Q I h
 refine isTrue_or (C6 (ha pins s σ H _ I h) fun c s1 aO=>?_)
 obtain ⟨H1,I1,d,q0,q1⟩ := aO
 cases c with
 | true=>exact ⟨H1,I1,q1⟩
 | false=>exact hb wh pins s1 σ H1 Q I1 (q0 rfl Q q1)
theorem SP.mono {pins:List (Addr × Obj)} {D D':Gp} {f:Flow} {s':Shared} (h:SP X pins D f s') (hn:∀ σ H,D.nx σ H -> D'.nx σ H) (hr:∀ v H,D.rt v H -> D'.rt v H) (hb:∀ σ H,D.bk σ H -> D'.bk σ H) (hc:∀ σ H,D.ct σ H -> D'.ct σ H):SP X pins D' f s':=by
 cases f with
 | next=>obtain ⟨σ',H',I,q⟩ := h; exact ⟨σ',H',I,hn _ _ q⟩
 | brk=>obtain ⟨σ',H',I,q⟩ := h; exact ⟨σ',H',I,hb _ _ q⟩
 | cont=>obtain ⟨σ',H',I,q⟩ := h; exact ⟨σ',H',I,hc _ _ q⟩
 | ret v=>obtain ⟨x,σ',H',I,r,q⟩ := h; exact ⟨x,σ',H',I,r,hr _ _ q⟩
def qq (c:TT) (t u:TS):TS:=fun D σ H=>c σ H fun b H1=>∃ N:St -> Hp -> Prop,(b = true -> t { D with nx:=N } σ H1) /\ (b = false -> u { D with nx:=N } σ H1) /\ ∀ σ' H',N σ' H' -> D.nx σ' H'
theorem Dd {c:Expr} {a b:List Stmt} {tc:TT} (hc:PT X c tc) (ha:Ro X a t) (hb:Ro X b u):PS X (.If c a b pos) (qq tc t u):=by
 intro pins s σ H D I h
 refine wpAny_If (C6 (hc pins s σ H _ I h) fun d s1 aO=>?_)
 obtain ⟨H1,I1,N,q1,q2,q3⟩ := aO
 cases d with
 | true=>exact C6 (ha pins s1 σ H1 _ I1 (q1 rfl)) fun f s2 q=>q.mono q3 (fun _ _ z=>z) (fun _ _ z=>z) fun _ _ z=>z
 | false=>exact C6 (hb pins s1 σ H1 _ I1 (q2 rfl)) fun f s2 q=>q.mono q3 (fun _ _ z=>z) (fun _ _ z=>z) fun _ _ z=>z
end
section
variable {P:Program} {w:World} {A:Around} {E:Value -> Shared -> Prop} {s:Shared}
theorem Tn {I T : Addr} {k : Nat} {vs : Array Value} {v : Value} {Q : Value -> Shared -> Prop} (hI : s.heap.IsTupleIter I T k) (hT : s.heap.IsTuple T vs) (hv : vs[k]? = some v)
  (q:∀ h',h'.IsTupleIter I T (k + 1) -> Heap.SameBut I s.heap h' -> Q v { s with heap:=h' }):wpAny (model P w) A (Builtin.SmallTypes.nextOf (.ref I)) Q E s:=by
 obtain ⟨oI,eI,cI,dI⟩ := id hI
 obtain ⟨oT,eT,_,nT,PU⟩ := hT
 unfold Builtin.SmallTypes.nextOf
 refine wpAny_bind (wpAny_callSpecial?_slot (name:=Str.ofString "__next__") hI.typeIs F.slot_tuple_iterator_next (wpAny_call_entry F.slot_tuple_iterator_next hI.typeIs F.entry_tuple_iterator_next ?_ (F.args_tuple_iterator_next_1 _)))
 show wpAny _ _ (field (.ref I) 0 >>= _) _ _ s
 refine wpAny_bind (wpAny_field eI dI (x := .ref T) rfl ?_)
 show wpAny _ _ (if (Value.ref T == Value.none) = true then _ else _) _ _ s
 rw [if_neg (show ¬ ((Value.ref T == Value.none) = true) from Bool.false_ne_true)]
 show wpAny _ _ (field (.ref I) 1 >>= _) _ _ s
 refine wpAny_bind (wpAny_field eI dI (x := .int k 0) rfl ?_)
 show wpAny _ _ (seqItems? (.ref T) >>= _) _ _ s
 refine wpAny_bind (wpAny_seqItems eT PU ?_)
 simp only [Int.toNat_natCast,hv]
 refine wpAny_bind (wpAny_setField eI dI (by simp) (wpAny_pure ⟨v,rfl,wpAny_pure (q _ ⟨_,Heap.get?_update_self _ eI (Obj.isFreed_of_fields (Obj.data_mapFields dI _)),(Obj.cls_mapFields ..).trans cI,?_⟩ (Heap.SameBut.update ..))⟩))
 rw [Obj.data_mapFields dI]
 simp [rawInt]
theorem Wi {I T : Addr} {k : Nat} {vs : Array Value} {Q : Value -> Shared -> Prop} (no : A.handled = none) (hI : s.heap.IsTupleIter I T k) (hT : s.heap.IsTuple T vs) (hv : vs[k]? = none)
  (q:∀ h' e,Heap.ExtBut I s.heap h' -> (∃ o,h'.get? e = some o /\ o.cls = .type "StopIteration") -> E (.ref e) { s with heap:=h' }):wpAny (model P w) A (Builtin.SmallTypes.nextOf (.ref I)) Q E s:=by
 obtain ⟨oI,eI,cI,dI⟩ := id hI
 obtain ⟨oT,eT,_,nT,PU⟩ := hT
 unfold Builtin.SmallTypes.nextOf
 refine wpAny_bind (wpAny_callSpecial?_slot (name:=Str.ofString "__next__") hI.typeIs F.slot_tuple_iterator_next (wpAny_call_entry F.slot_tuple_iterator_next hI.typeIs F.entry_tuple_iterator_next ?_ (F.args_tuple_iterator_next_1 _)))
 show wpAny _ _ (field (.ref I) 0 >>= _) _ _ s
 refine wpAny_bind (wpAny_field eI dI (x := .ref T) rfl ?_)
 show wpAny _ _ (if (Value.ref T == Value.none) = true then _ else _) _ _ s
 rw [if_neg (show ¬ ((Value.ref T == Value.none) = true) from Bool.false_ne_true)]
 show wpAny _ _ (field (.ref I) 1 >>= _) _ _ s
 refine wpAny_bind (wpAny_field eI dI (x := .int k 0) rfl ?_)
 show wpAny _ _ (seqItems? (.ref T) >>= _) _ _ s
 refine wpAny_bind (wpAny_seqItems eT PU ?_)
 simp only [Int.toNat_natCast,hv]
 refine wpAny_bind (wpAny_rule (wpAny_bind (wpAny_setField eI dI (by simp) ?_)))
 show wpAny _ _ (newExc (.type "StopIteration") [] >>= fun _=>_) _ _ _
 refine wpAny_bind ?_
 simp only [newExc,newTuple]
 refine wpAny_bind (wpAny_newObj_type (wpAny_bind (m:=firstArgMember _ _) (wpAny_of_eq (a:=Value.none) (by first | rfl | (simp only [firstArgMember]; rfl)) (wpAny_newObj_type ?_ (by size_fits)))) (by size_fits))
 simp only [raiseNew]
 refine wpAny_bind (wpAny_handled ?_)
 first | rw [show A.in1.handled = none from no] | rw [no]
 refine wpAny_bind (wpAny_pure (wpAny_throw (q _ _ (((Heap.SameBut.update ..).extBut.push _).push _) ⟨_,Heap.get?_push_size _ rfl,rfl⟩)))
end
theorem j9 {P:Program} {w:World} {A:Around} (no:A.handled = none) (I T:Addr) (ne:T ≠ I) (vs:Array Value):Draws P w A I [I,T] vs.size (fun i v=>vs[i]? = some v) (fun i h=>h.IsTupleIter I T i /\ h.IsTuple T vs) where
 live:=fun _ _ st=>let ⟨o,e,_⟩ := st.1; ⟨o,e⟩
 frame:=fun _ _ _ st k=>⟨st.1.at fun o e=>k I (by simp) o e,let ⟨o,e,r⟩ := st.2; ⟨o,k T (by simp) o e,r⟩⟩
 item:=fun i s Q E hi st q=>Tn st.1 st.2 (v:=vs[i]) (by simp [hi]) fun h' aE sb=>q _ h' s.toks (by simp [hi]) ⟨aE,st.2.extBut sb.extBut ne⟩ sb
 done:=fun s Q E st q=>Wi no st.1 st.2 (by simp) q
def He:Bool -> Heap -> Addr -> Addr -> Nat -> Prop
 | true,h,I,T,i=>h.IsTupleIter I T i
 | false,h,I,T,i=>h.IsListIter I T i
def Rg:Bool -> Heap -> Addr -> Array Value -> Prop
 | true,h,T,vs=>h.IsTuple T vs
 | false,h,T,vs=>h.IsList T vs
def Yh:Bool -> String
 | true=>"tuple_iterator"
 | false=>"list_iterator"
def Sq:Bool -> PySem.W.Frag -> Hp -> Addr -> List V -> Prop
 | true,K,H,a,xs=>C0 K H a xs
 | false,K,H,a,xs=>B6 K H a xs
theorem Qw {P:Program} {w:World} {A:Around} (no:A.handled = none) (b:Bool) (I T:Addr) (ne:T ≠ I) (vs:Array Value):Draws P w A I [I,T] vs.size (fun i v=>vs[i]? = some v) (fun i h=>He b h I T i /\ Rg b h T vs):=by
 cases b
 ·exact Draws.list no I T ne vs
 ·exact j9 no I T ne vs
theorem He.data {b:Bool} {h:Heap} {I T:Addr} {i:Nat} (x:He b h I T i):∃ o,h.get? I = some o /\ o.cls = .type (Yh b) /\ o.data = .fields #[.ref T,.int i 0]:=by cases b <;> exact x
theorem He.of {b:Bool} {h:Heap} {I T:Addr} {i:Nat} (x:∃ o,h.get? I = some o /\ o.cls = .type (Yh b) /\ o.data = .fields #[.ref T,.int i 0]):He b h I T i:=by cases b <;> exact x
theorem He.at' {b:Bool} {h h':Heap} {I T:Addr} {i:Nat} (x:He b h I T i) (k:∀ o,h.get? I = some o -> h'.get? I = some o):He b h' I T i:=by
 obtain ⟨o,e,r⟩ := x.data
 exact .of ⟨o,k _ e,r⟩
theorem Rg.at' {b:Bool} {h h':Heap} {T:Addr} {vs:Array Value} (x:Rg b h T vs) (k:∀ o,h.get? T = some o -> h'.get? T = some o):Rg b h' T vs:=by
 cases b <;> exact let ⟨o,e,r⟩ := x; ⟨o,k _ e,r⟩
theorem Rg.lt {b:Bool} {h:Heap} {T:Addr} {vs:Array Value} (x:Rg b h T vs):T < h.objs.size:=by
 cases b <;> exact let ⟨_,e,_⟩ := x; Heap.lt_size e
theorem He.lt {b:Bool} {h:Heap} {I T:Addr} {i:Nat} (x:He b h I T i):I < h.objs.size:=by
 obtain ⟨_,e,_⟩ := x.data
 exact Heap.lt_size e
theorem He.ne {b c:Bool} {h:Heap} {I T:Addr} {i:Nat} {vs:Array Value} (x:He b h I T i) (y:Rg c h T vs):T ≠ I:=by
 rintro rfl
 obtain ⟨o,e,k,_⟩ := x.data
 cases c <;> (obtain ⟨o',e',k',_⟩ := y; rw [e] at e'; cases e'; rw [k] at k'; cases b <;> simp [Yh] at k')
section
variable {X:Cx} {pins:List (Addr × Obj)} {σ:St} {H:Hp} {s:Shared}
theorem Ag.sq {b:Bool} {a:Addr} {xs:List V} (I:Ag X pins σ H s) (q:Sq b X.K H a xs):∃ us,As xs us /\ Rg b s.heap a us.toArray:=by
 cases b
 ·obtain ⟨us,r,p,_⟩ := I.list q
  exact ⟨us,r,p.isList⟩
 ·obtain ⟨us,r,p,_⟩ := I.tuple q
  exact ⟨us,r,p⟩
theorem Ag.wk {b:Bool} {a:Addr} {xs ys:List V} (I:Ag X pins σ H s) (q:Sq b X.K H a xs) (r:Sq b X.K H a ys):xs = ys:=by
 cases b
 ·exact I.iH q r
 ·exact I.gJ q r
end
open AutoSeq1 (wpAny_loadPart')
structure vf (z TI TO i1 i2 l1 l2:Nat):Prop where
 a:TI ≠ z
 b:TO ≠ z
 c:i1 ≠ z
 d:i2 ≠ z
 e:TI ≠ TO
 f:TI ≠ i1
 g:TI ≠ i2
 h:TO ≠ i1
 i:TO ≠ i2
 j:i1 ≠ i2
 k1:l1 ≠ z /\ l1 ≠ TO /\ l1 ≠ i1 /\ l1 ≠ i2
 k2:l2 ≠ z /\ l2 ≠ TO /\ l2 ≠ i1 /\ l2 ≠ i2
section
variable {P:Program} {w:World} {A:Around} {E:Value -> Shared -> Prop} {s:Shared}
abbrev jj (b1:Bool) (h:Heap) (l1:Addr):Heap:=h.push { cls := .type (Yh b1),data := .fields #[.ref l1,.int 0 0] }
abbrev rh (b1 b2:Bool) (h:Heap) (l1 l2:Addr):Heap:=(jj b1 h l1).push { cls := .type (Yh b2),data := .fields #[.ref l2,.int 0 0] }
abbrev sh (b1 b2:Bool) (h:Heap) (l1 l2:Addr):Heap:=(rh b1 b2 h l1 l2).push { cls := .type "tuple",data := .seq #[.ref h.objs.size,.ref (jj b1 h l1).objs.size] }
abbrev um (b1 b2:Bool) (h:Heap) (l1 l2:Addr):Heap:=(sh b1 b2 h l1 l2).push { cls := .type "tuple",data := .seq #[.none,.none] }
abbrev uz (b1 b2:Bool) (h:Heap) (l1 l2:Addr):Heap:=(um b1 b2 h l1 l2).push { cls := .type "zip",data := .fields #[.none,.bool false,.bool false,.ref (rh b1 b2 h l1 l2).objs.size,.ref (sh b1 b2 h l1 l2).objs.size] }
end
open AutoSeq1 (wpAny_loadPart')
section
variable {P:Program} {w:World} {A:Around} {E:Value -> Shared -> Prop} {s:Shared}
end
def ou (K:PySem.W.Frag) (b1 b2:Bool) (l1 l2:Addr):It :=
 ⟨fun i H=>∃ xs ys x y,Sq b1 K H l1 xs /\ Sq b2 K H l2 ys /\ xs[i]? = some x /\ ys[i]? = some y,
  fun i H v H'=>∃ T x y,v = .ref T /\ H T = none /\ H' = upd H T (.tup [x,y]) /\ (∀ xs,Sq b1 K H l1 xs -> xs[i]? = some x) /\ ∀ ys,Sq b2 K H l2 ys -> ys[i]? = some y,
  fun i H=>∃ xs ys,Sq b1 K H l1 xs /\ Sq b2 K H l2 ys /\ (xs.length = i \/ (i < xs.length /\ ys.length = i))⟩
section
variable {X:Cx}
def rj (K:PySem.W.Frag) (ta:TA):TI:=fun σ H R=>ta σ H fun vs H1=>∃ (b1 b2:Bool) (a b:Addr),vs = [.ref a,.ref b] /\ (∃ xs,Sq b1 K H1 a xs) /\ (∃ ys,Sq b2 K H1 b ys) /\ R (ou K b1 b2 a b) H1
end
def ir (K:PySem.W.Frag) (b:Bool) (l:Addr):It :=
 ⟨fun i H=>∃ xs x,Sq b K H l xs /\ xs[i]? = some x,
  fun i H v H'=>∃ T x,v = .ref T /\ H T = none /\ H' = upd H T (.tup [.int i,x]) /\ ∀ xs,Sq b K H l xs -> xs[i]? = some x,
  fun i H=>∃ xs,Sq b K H l xs /\ xs.length = i⟩
theorem Tw {P : Program} {w : World} {K : PySem.W.Frag} {elts : List Expr} {kk : Nat} {pos : Pos} {b : Bool} {e it l : Addr} (bN : e ≠ it) (hel : e ≠ l) :
  Sg P w K (.Tuple elts kk pos) (ir K b l) [e,it] e (fun i h=>(∃ old,IsEnum h e it i old) /\ He b h it l i) where
 mem:=List.mem_cons_self
 obj:=fun i h ⟨⟨old,he⟩,h1⟩ c hc=>by
  obtain ⟨o1,e1,c1,d1⟩ := h1.data
  simp only [List.mem_cons,List.not_mem_nil,or_false] at hc
  rcases hc with rfl | rfl
  ·exact ⟨_,he,fun v q=>by cases q⟩
  ·exact ⟨_,e1,fun v q=>by rw [d1] at q; cases q⟩
 keep:=fun i h h' ⟨⟨old,he⟩,h1⟩ hk=>⟨⟨old,hk e (by simp) _ he⟩,h1.at' fun o q=>hk it (by simp) o q⟩
 item:=by
  intro X hP hw hK hc i pins s σ H E I CJ ⟨⟨old,he⟩,h1⟩ ⟨xs,x,q1,ex⟩
  subst hP hw hK
  obtain ⟨kW,r1,p1⟩ := I.sq q1
  obtain ⟨u1,eu1,PV⟩ := r1.get ex
  have PX:i < kW.toArray.size:=by
   have:=(List.getElem?_eq_some_iff.mp eu1).1
   simpa using this
  refine wpAny_pyNext_enum_itemD (Qw (A:=X.A.in1) (I.ok.hd hc) b it l (h1.ne p1) kW.toArray) he ⟨h1,p1⟩ PX bN (by simp [bN,hel]) fun u h' tk eu a1 a2 a3 a4 hk=>⟨_,rfl,?_⟩
  have e2:u = u1:=Option.some.inj (eu.symm.trans (by simpa using eu1))
  subst e2
  refine wpAny_letOwnedTupleGo_enum a1 fun PY PZ wm=>?_
  have EB:e < s.heap.objs.size:=Heap.lt_size he
  have EC:PY.get? s.heap.objs.size = some { cls := .type "tuple",data := .seq #[.int i tk,u] }:=wm.extBut _ _ (Nat.ne_of_gt EB) a3
  refine ⟨.ref s.heap.objs.size,upd H s.heap.objs.size (.tup [.int i,x]),I.iO (t':=tk + 1) (ch:=[e,it]) CJ (fun c o hc ec=>?_) (Nat.le_refl _) ?_,rfl,⟨_,x,rfl,I.fresh,rfl,fun xs' q=>?_⟩,⟨⟨u,?_⟩,?_⟩,fun c hc=>?_⟩
  ·simp only [List.mem_cons,List.not_mem_nil,or_false,not_or] at hc
   exact wm.extBut _ _ hc.1 (hk c o hc.1 hc.2 ec)
  ·exact ⟨⟨Nat.le_trans (by decide:2 <= 1000) (Pf (Nat.le_refl _)),_,EC,rfl⟩,[.int i tk,u],.cons ⟨_,rfl⟩ (.cons PV .nil),⟨_,EC,rfl,0,rfl⟩⟩
  ·rw [I.wk q q1]
   exact ex
  ·have z:=PZ
   rw [show ((i:Int) + 1) = ((i + 1:Nat):Int) by omega] at z
   exact z
  ·exact a2.1.at' fun o eo=>wm.extBut _ _ (Ne.symm bN) eo
  ·rw [Aa]
   ·exact (CJ c hc).1
   ·simp only [List.mem_cons,List.not_mem_nil,or_false] at hc
    rcases hc with rfl | rfl
    ·exact Nat.ne_of_lt EB
    ·exact Nat.ne_of_lt h1.lt
 done:=by
  intro X hP hw hK hc i pins s σ H E I CJ ⟨⟨old,he⟩,h1⟩ ⟨xs,q1,hl⟩
  subst hP hw hK
  obtain ⟨kW,r1,p1⟩ := I.sq q1
  have n1:=r1.length
  have n2:i = kW.toArray.size:=by simp only [List.size_toArray]; omega
  subst n2
  refine wpAny_pyNext_enum_endD (Qw (A:=X.A.in1) (I.ok.hd hc) b it l (h1.ne p1) kW.toArray) he ⟨h1,p1⟩ fun h' hk=>⟨rfl,I.iP (t':=s.toks) (ch:=[e,it]) CJ fun c o hc ec=>?_⟩
  simp only [List.mem_cons,List.not_mem_nil,or_false,not_or] at hc
  exact hk c o hc.2 ec
 self:=fun A i s Q E ⟨⟨old,he⟩,_⟩ hQ=>wpAny_pyIter_enum he hQ
theorem Ri (l : Addr) (items : Array Value) (n : Nat) (QA : Option Addr) (sl : Array (Option Value)) :
  Meets (Builtin.«enumerate.__new__» ⟨[.type "enumerate",.ref l],[]⟩) (fun _ R s=>s.heap.get? l = some { cls := .type "tuple",dict:=QA,data := .seq items n,slots:=sl } /\
   R (.ok (.ret (.ref (jj true s.heap l).objs.size))) { s with heap:=(jj true s.heap l).push { cls := .type "enumerate",data := .fields #[.none,.bool false,.ref s.heap.objs.size,rawInt 0,.none,.none] } }) :=
 .of_wp fun prog w A R s h=>by
  obtain ⟨hp,g,d,tk,os⟩ := s
  obtain ⟨hl,h⟩ := h
  have rL:=sub_enumerate
  have hT:Heap.IsTuple (Shared.heap ⟨hp,g,d,tk,os⟩) l items:=⟨_,hl,rfl,n,rfl⟩
  wp_walk using wpAny_loadPart' hl
  refine wpAny_stack_any fun st=>wpAny_pure ?_
  split
  ·rename_i c _ _ _ _ _
   cases (c == Value.type "enumerate")
   ·wp_walk using wpAny_loadPart' hl,wpAny_pyIter_tuple hT
    exact ⟨_,rfl,h⟩
   ·wp_walk using wpAny_loadPart' hl,wpAny_pyIter_tuple hT
    exact ⟨_,rfl,h⟩
  ·wp_walk using wpAny_loadPart' hl,wpAny_pyIter_tuple hT
   exact ⟨_,rfl,h⟩
theorem Sj {P : Program} {w : World} {A : Around} {E : Value -> Shared -> Prop} {s : Shared} {l : Addr} {items : Array Value} {Q : Value -> Shared -> Prop} (hT : s.heap.IsTuple l items)
  (h:∀ h',IsEnum h' (s.heap.objs.size + 1) s.heap.objs.size 0 .none -> h'.IsTupleIter s.heap.objs.size l 0 -> (∀ b o,s.heap.get? b = some o -> h'.get? b = some o) -> Q (.ref (s.heap.objs.size + 1)) { s with heap:=h' }) :
  wpAny (model P w) A (call (.type "enumerate") [.ref l]) Q E s:=by
 obtain ⟨⟨c,QA,dt,sl⟩,hl,hc,n,hd⟩ := hT
 have eZ:c = .type "tuple" := hc
 have lO:dt = .seq items n:=hd
 subst eZ lO
 refine callType_new F.called_enumerate (by decide) (F.typeCall_enumerate_1 _) (F.newCall_enumerate_1 _) (fun obj=>F.args_object_init_2 obj _) F.entry_enumerate_new (Ri l items n QA sl) ⟨hl,?_⟩
 have hz:(jj true s.heap l).objs.size = s.heap.objs.size + 1:=Heap.size_push ..
 show _ /\ _
 rw [hz]
 have he:=Heap.get?_push_size (jj true s.heap l) (o:={ cls := .type "enumerate",data := .fields #[.none,.bool false,.ref s.heap.objs.size,rawInt 0,.none,.none] }) rfl
 rw [hz] at he
 exact ⟨⟨_,he,rfl⟩,h _ he ⟨_,Heap.get?_push_of_some _ (Heap.get?_push_size _ rfl),rfl,rfl⟩ fun b o x=>Heap.get?_push_of_some _ (Heap.get?_push_of_some _ x)⟩
section
variable {X:Cx}
def di (K:PySem.W.Frag) (ta:TA):TI:=fun σ H R=>ta σ H fun vs H1=>∃ (b:Bool) (a:Addr),vs = [.ref a] /\ (∃ xs,Sq b K H1 a xs) /\ R (ir K b a) H1
theorem Xk {elts : List Expr} {kk : Nat} {kQ : Pos} {a : Expr} {ta : TA} {p pos : Pos} (hg : Gl X "enumerate") (hm : X.mg "enumerate" = none) (ha : PA X [a] ta) (hs : starEach [a] X.env = [(false, eval a X.env)] := by rfl) :
  PI X (.Tuple elts kk kQ) (.Call (.Name "enumerate" p) [a] [] pos) (di X.K ta):=by
 intro pins s σ H R I h
 refine Call_ (J0 I hg hm boot_enumerate (PyProof.Rows.callWith_type1 (C6 (ha pos pins s σ H _ I h) fun us s1 ⟨vs,H1,I1,r1,q1⟩=>?_) hs rfl))
 obtain ⟨b,l1,e,⟨xs,hx⟩,q⟩ := q1
 subst e
 obtain ⟨u1,rfl,PV⟩ := Ji r1
 cases PV
 obtain ⟨kW,rr1,p1⟩ := I1.sq hx
 have PX:=p1.lt
 have fin : ∀ h', IsEnum h' (s1.heap.objs.size + 1) s1.heap.objs.size 0 .none -> He b h' s1.heap.objs.size l1 0 -> (∀ b o, s1.heap.get? b = some o -> h'.get? b = some o) ->
   wpAny (model X.prog X.w) X.A (pyIter (.ref (s1.heap.objs.size + 1))) (qz X pins σ (.Tuple elts kk kQ) R) X.xe { s1 with heap:=h' }:=fun h' a1 a2 hk=>by
  refine wpAny_pyIter_enum a1 ?_
  have I2:Ag X pins σ H1 { s1 with heap:=h' }:=I1.kept (t':=s1.toks) hk
  refine ⟨s1.heap.objs.size + 1,[s1.heap.objs.size + 1,s1.heap.objs.size],_,_,H1,rfl,I2,Tw (Nat.ne_of_gt (Nat.lt_succ_self _)) (Nat.ne_of_gt (Nat.lt_succ_of_lt PX)),⟨⟨_,a1⟩,a2⟩,fun c hc=>?_,q⟩
  have hle:s1.heap.objs.size <= c:=by
   simp only [List.mem_cons,List.not_mem_nil,or_false] at hc
   rcases hc with rfl | rfl <;> omega
  exact I1.kP hle (I1.aH.fresh hle)
 cases b with
 | false=>exact call_enumerate_list p1 fun h' a1 a2 a3 hk=>fin h' a1 a2 hk
 | true=>exact Sj p1 fun h' a1 a2 hk=>fin h' a1 a2 hk
end
abbrev nn (K:PySem.W.Frag):TG:=Zh K 2 (N5 (Fn 0) (N5 (Fn 1) iw))
theorem Tl {K : PySem.W.Frag} {b1 : Bool} {c : Addr} {xs : List V} {fr : List Nat} {tt : TT} {te : TE} {σ : St} {D : Addr} {H1 : Hp} {Q : Hp -> Prop} (Pv : Nat -> List V -> Hp -> Prop) (h0 : Pv 0 [] (upd H1 D (.lst [])))
  (hl:∀ i zs H,i <= xs.length -> Pv i zs H -> Sq b1 K H c xs)
  (hs:∀ i x T zs H,xs[i]? = some x -> Pv i zs H -> H T = none -> tt (some (.int i) :: some x :: Dn fr σ) (upd H T (.tup [.int i,x])) fun b H4 =>
   if b = true then te (some (.int i) :: some x :: Dn fr σ) H4 fun v H5=>H5 D = some (.lst zs) /\ zs.length < sizeLine /\ Pv (i + 1) (zs ++ [v]) (upd H5 D (.lst (zs ++ [v]))) else Pv (i + 1) zs H4)
  (mt:∀ σ H Q Q',(∀ b H',Q b H' -> Q' b H') -> tt σ H Q -> tt σ H Q') (me:∀ σ H Q Q',(∀ v H',Q v H' -> Q' v H') -> te σ H Q -> te σ H Q')
  (hd:∀ zs H,Pv xs.length zs H -> Q H):E9 2 fr (ir K b1 c) (nn K) tt te σ D H1 Q:=by
 refine ⟨fun i m zs H=>m = xs.length - i /\ i <= xs.length /\ Pv i zs H,⟨xs.length,by simp,Nat.zero_le _,h0⟩,?_⟩
 rintro i m zs H' ⟨rfl,hi,p⟩
 have q1:=hl i zs H' hi p
 by_cases aM:i < xs.length
 ·refine .inr ⟨⟨xs,xs[i],q1,by simp [aM]⟩,fun v H2 y=>?_⟩
  obtain ⟨T,x,rfl,hT,rfl,e1⟩ := y
  refine ⟨T,_,rfl,C0.of A5,rfl,_,_,rfl,x,_,rfl,rfl,⟨[some (.int i),some x],rfl,rfl⟩,?_⟩
  refine mt _ _ _ _ ?_ (hs i x T zs H' (e1 xs q1) p hT)
  intro b H4 q
  cases b with
  | false=>exact ⟨xs.length - (i + 1),by omega,rfl,aM,q⟩
  | true=>exact me _ _ _ _ (fun v H5 ⟨r1,r2,r3⟩=>⟨r1,r2,xs.length - (i + 1),by omega,rfl,aM,r3⟩) q
 ·have e:i = xs.length:=by omega
  subst e
  exact .inl ⟨⟨xs,q1,rfl⟩,hd zs H' p⟩
section
variable {X:Cx} {a b:Expr} {rest:List Expr} {ta tb:TE} {tA qN:TT} {pos:Pos}
def kx (ta tb:TE):TE:=fun σ H Q=>ta σ H fun x H1=>∃ (c:Bool) (N:Bool -> Hp -> Prop),x = .bl c /\ (c = false -> N false H1) /\ (c = true -> tb σ H1 fun y H2=>∃ d:Bool,y = .bl d /\ N d H2) /\ ∀ d H2,N d H2 -> Q (.bl d) H2
def uj (ta tb:TE):TE:=fun σ H Q=>ta σ H fun x H1=>∃ (c:Bool) (N:Bool -> Hp -> Prop),x = .bl c /\ (c = true -> N true H1) /\ (c = false -> tb σ H1 fun y H2=>∃ d:Bool,y = .bl d /\ N d H2) /\ ∀ d H2,N d H2 -> Q (.bl d) H2
theorem P9 (ha:PE X a ta) (hb:PE X (.BoolOp .And (b :: rest) pos) tb):PE X (.BoolOp .And (a :: b :: rest) pos) (kx ta tb):=by
 intro pins s σ H Q I h
 refine BoolOp_and (C6 (ha pins s σ H _ I h) fun v s1 aO=>?_)
 obtain ⟨x,H1,I1,r1,q1⟩ := aO
 obtain ⟨c,N,rfl,q0,q1,q2⟩ := q1
 cases r1
 refine wpAny_truthy_bool ?_
 cases c with
 | true=>exact C6 (hb pins s1 σ H1 _ I1 (q1 rfl)) fun v s2 ⟨y,H2,I2,r2,d,e,n⟩=>⟨y,H2,I2,r2,by rw [e]; exact q2 d H2 n⟩
 | false=>exact ⟨.bl false,H1,I1,rfl,q2 _ _ (q0 rfl)⟩
def n0 (t u:TT):TT:=fun σ H Q=>t σ H fun c H1=>∃ N:Bool -> Hp -> Prop,(c = false -> N false H1) /\ (c = true -> u σ H1 N) /\ ∀ d H2,N d H2 -> Q d H2
def qa (t u:TT):TT:=fun σ H Q=>t σ H fun c H1=>∃ N:Bool -> Hp -> Prop,(c = true -> N true H1) /\ (c = false -> u σ H1 N) /\ ∀ d H2,N d H2 -> Q d H2
theorem Zm (ha:PT X a tA) (hb:PW X (.BoolOp .And (b :: rest) pos) qN):PW X (.BoolOp .And (a :: b :: rest) pos) (n0 tA qN):=by
 intro wh pins s σ H Q I h
 refine isTrue_and (C6 (ha pins s σ H _ I h) fun c s1 aO=>?_)
 obtain ⟨H1,I1,N,q0,q1,q2⟩ := aO
 cases c with
 | true=>exact C6 (hb wh pins s1 σ H1 _ I1 (q1 rfl)) fun d s2 ⟨H2,I2,n⟩=>⟨H2,I2,q2 d H2 n⟩
 | false=>exact ⟨H1,I1,q2 _ _ (q0 rfl)⟩
theorem L1 (ha:PT X a tA) (hb:PW X (.BoolOp .Or (b :: rest) pos) qN):PW X (.BoolOp .Or (a :: b :: rest) pos) (qa tA qN):=by
 intro wh pins s σ H Q I h
 refine isTrue_or (C6 (ha pins s σ H _ I h) fun c s1 aO=>?_)
 obtain ⟨H1,I1,N,q0,q1,q2⟩ := aO
 cases c with
 | true=>exact ⟨H1,I1,q2 _ _ (q0 rfl)⟩
 | false=>exact C6 (hb wh pins s1 σ H1 _ I1 (q1 rfl)) fun d s2 ⟨H2,I2,n⟩=>⟨H2,I2,q2 d H2 n⟩
end
section
variable {P:Program} {w:World} {A:Around} {E:Value -> Shared -> Prop} {s:Shared}
end
section
variable {X:Cx}
def km (K:PySem.W.Frag) (ta:TA):TE:=fun σ H Q=>ta σ H fun vs H1=>∃ l xs,vs = [.ref l] /\ B6 K H1 l xs /\ ∀ d,H1 d = none -> Q (.ref d) (upd H1 d (.lst xs.reverse))
end
section
variable {X:Cx}
def rm (i j:Int):Prop:=0 < j /\ intBits j <= 8999
end
section
variable {X:Cx} {tg:Expr}
def tj (lo c:Int) (n:Nat):It:=⟨fun i _=>i < n,fun i H x H'=>H' = H /\ x = .int (lo + i * c),fun i _=>n <= i⟩
def lp (a b c:Int):Nat:=if a < b then ((b - a - 1) / c + 1).toNat else 0
def tf (ta:TA):TI:=fun σ H R=>ta σ H fun vs H1=>∃ i j c:Int,vs = [.int i,.int j,.int c] /\ (-(2 ^ 60) <= i /\ i < 2 ^ 60 /\ -(2 ^ 60) <= j /\ j < 2 ^ 60) /\ (0 < c /\ c < 2 ^ 30) /\ R (tj i c (lp i j c)) H1
end
theorem Bh.here {P:Program} {w:World} {H:Hp} {h:Heap} {a:Addr} {o:HO} (x:Bh P w H h a o):∃ ob,h.get? a = some ob:=by
 cases o with
 | lst xs=>obtain ⟨_,_,_,_,e⟩ := x; exact ⟨_,e⟩
 | tup xs=>obtain ⟨_,_,_,o,e,_⟩ := x; exact ⟨_,e⟩
 | dK kvs=>obtain ⟨_,_,_,_,o,_,_,e,_⟩ := x; exact ⟨_,e⟩
 | dT kvs=>obtain ⟨_,_,_,_,o,_,_,e,_⟩ := x; exact ⟨_,e⟩
 | set S n=>obtain ⟨o,_,_,_,e,_⟩ := x; exact ⟨_,e⟩
 | ins C dx fs=>obtain ⟨_,_,_,e,_⟩ := x; exact ⟨_,e⟩
 | own y=>exact x
 | xd fs=>obtain ⟨mA,⟨od,es,ep,e,c⟩,r⟩ := x; exact ⟨_,e⟩
 | MP lo hi=>obtain ⟨t,u,v,e⟩ := x; exact ⟨_,e⟩
 | bG ob u=>exact ⟨_,x.1⟩
 | qM ps=>exact ⟨_,(show h.get? a = some _ from x)⟩
 | met f y=>exact ⟨_,(show h.get? a = some _ from x)⟩
 | ext φ=>exact x.2.1
theorem Fj.off {P:Program} {w:World} {H:Hp} {h:Heap} {a:Addr} (ok:Fj P w H h) (e:h.get? a = none):H a = none:=by
 cases q:H a with
 | none=>rfl
 | some u =>
  obtain ⟨ob,z⟩ := (ok a u q).here
  rw [e] at z
  cases z
def Ff (a:Addr) (cls:Value) (h:Heap):Prop := ∃ o vs,h.get? a = some o /\ o.cls = cls /\ o.data = .fields vs
def lw (a:Addr) (h:Heap):Prop := ∃ o vs,h.get? a = some o /\ o.data = .fields vs
theorem az {P:Program} {w:World} {H:Hp} {h:Heap} {a:Addr} {cls:Value} (x:Ff a cls h):Bh P w H h a (.ext (Ff a cls)):=by
 refine ⟨x,?_,?_⟩
 ·obtain ⟨o,_,e,_⟩ := x
  exact ⟨o,e⟩
 ·rintro h1 h2 ⟨o,vs,e,c⟩ k
  exact ⟨o,vs,k o e,c⟩
def ol (h:Heap) (a T:Addr):Prop := ∃ oe vs oT ts a0,h.get? a = some oe /\ oe.data = .fields vs /\ vs[0]? = some a0 /\ vs[1]? = some (.ref T) /\ T ≠ a /\ h.get? T = some oT /\ oT.data = .fields ts /\ ts[3]? = some .none
structure d8 (P:Program) (w:World) (fr:List Addr) (H:Hp) (h:Heap) (H':Hp) (h':Heap) (a T:Addr) (cls:Value):Prop where
 un:Un fr [] H H' h h'
 ok:Fj P w H' h'
 exc:H' a = some (.ext (Ff a cls))
 off:H' T = none
 new:h.get? T = none
 tr:ol h' a T
def uk (P:Program) (w:World):X1:=fun outer H s E e s'=>∃ (a T:Addr) (cls:Value) (H':Hp),e = .ref a /\ s'.os = s.os /\ AllBare s'.gens /\ d8 P w (iV outer) H s.heap H' s'.heap a T cls /\ E cls none H'
theorem ll {P : Program} {w : World} {fr old : List Addr} {H H' : Hp} {h h' h2 : Heap} {a T : Addr} {cls : Value} (u : Un fr [] H H' h h') (ok : Fj P w H' h') (fB : ∀ b ∈ fr, H' b = none)
  (CK:∀ b ∈ fr,∃ o,h'.get? b = some o /\ ∀ vs,o.data ≠ .fields vs) (ha:H' a = some (.ext (Ff a cls))) (hold:∀ b ∈ old,H' b = none /\ h.get? b = none)
  (st:(PySem.W.hideAll h' (fr ++ a :: old)).StaysIn h2) (sl:h'.UpToSlots h2) (xa:Ff a cls h2) (xT:lw T h2) (nT:(PySem.W.hideAll h' (fr ++ a :: old)).get? T = none) (na:T ≠ a) :
  Un fr [] H H' h h2 /\ Fj P w H' h2 /\ H' T = none /\ h.get? T = none:=by
 have hT:H' T = none /\ h.get? T = none:=by
  cases q:h'.get? T with
  | none =>
   refine ⟨ok.off q,?_⟩
   cases z:h.get? T with
   | none=>rfl
   | some o =>
    obtain ⟨o',e⟩ := u.there T o z (by simp)
    rw [q] at e
    cases e
  | some o =>
   by_cases hm:T ∈ fr ++ a :: old
   ·rcases List.mem_append.mp hm with z | z
    ·obtain ⟨o1,e1,d1⟩ := CK T z
     obtain ⟨DF,e2⟩ := sl T o1 e1 d1
     obtain ⟨o3,vs,e3,d3⟩ := xT
     rw [e2] at e3
     cases e3
     exact absurd d3 (d1 vs)
    ·rcases List.mem_cons.mp z with z | z
     ·exact absurd z na
     ·exact hold T z
   ·have:=PySem.W.hideAll_get _ q hm
    rw [nT] at this
    cases this
 have mH:∀ b o u',h'.get? b = some o -> H' b = some u' -> b ≠ a -> h2.get? b = some o:=fun b o u' e q n1=>by
  refine st b o (PySem.W.hideAll_get _ e fun hm=>?_)
  rcases List.mem_append.mp hm with z | z
  ·rw [fB b z] at q
   cases q
  ·rcases List.mem_cons.mp z with z | z
   ·exact n1 z
   ·rw [(hold b z).1] at q
    cases q
 have tI:∀ b o o',h.get? b = some o -> h'.get? b = some o' -> H' b = none -> b ∉ fr -> h2.get? b = some o':=fun b o o' e e' q n=>by
  refine st b o' (PySem.W.hideAll_get _ e' fun hm=>?_)
  rcases List.mem_append.mp hm with z | z
  ·exact n z
  ·rcases List.mem_cons.mp z with z | z
   ·rw [z,ha] at q
    cases q
   ·rw [(hold b z).2] at e
    cases e
 refine ⟨⟨fun b o e q n _=>tI b o o e (u.keep b o e q n (by simp)) (u.free b o e q (by simp)) n,fun b o e q n _=>?_,fun b o e q _=>u.free b o e q (by simp),fun b o e _=>?_,u.aQ,u.cU,u.dU⟩,fun b v q=>?_,hT⟩
 ·obtain ⟨sl1,e1⟩ := u.slot b o e q n (by simp)
  obtain ⟨o2,e2,d2⟩ := CK b n
  rw [e1] at e2
  cases e2
  obtain ⟨sl3,e3⟩ := sl b _ e1 d2
  exact ⟨sl3,e3⟩
 ·obtain ⟨o',e'⟩ := u.there b o e (by simp)
  cases q:H' b with
  | none =>
   by_cases n:b ∈ fr
   ·obtain ⟨o1,e1,d1⟩ := CK b n
    obtain ⟨DF,e2⟩ := sl b o1 e1 d1
    exact ⟨_,e2⟩
   ·exact ⟨_,tI b o o' e e' q n⟩
  | some v =>
   by_cases n1:b = a
   ·obtain ⟨o2,_,e2,_⟩ := xa
    rw [n1]
    exact ⟨_,e2⟩
   ·exact ⟨_,mH b o' v e' q n1⟩
 ·by_cases n1:b = a
  ·subst n1
   rw [ha] at q
   cases q
   exact az xa
  ·refine (ok b v q).eP (fun c x hc e=>?_) (fun c e=>e) fun c xs e=>e
   rcases hc with z | z
   ·subst z
    exact mH c x v e q n1
   ·refine mH c x _ e z fun e2=>?_
    rw [e2,ha] at z
    cases z
section
variable {X:Cx} {pins:List (Addr × Obj)} {σ:St} {H:Hp} {s:Shared}
theorem Ag.CK (I:Ag X pins σ H s):∀ b ∈ iV X.stack,∃ o,s.heap.get? b = some o /\ ∀ vs,o.data ≠ .fields vs:=fun b hb=>(I.stack.mem hb).2
theorem d8.cls {P:Program} {w:World} {fr:List Addr} {H H':Hp} {h h':Heap} {a T:Addr} {cls:Value} (F:d8 P w fr H h H' h' a T cls):Ff a cls h':=(F.ok a _ F.exc).1
theorem d8.on {P : Program} {w : World} {fr old : List Addr} {H H' : Hp} {h h' h2 : Heap} {a : Addr} {cls a0 : Value} (un : Un fr [] H H' h h') (ok : Fj P w H' h') (exc : H' a = some (.ext (Ff a cls))) (fB : ∀ b ∈ fr, H' b = none)
  (CK:∀ b ∈ fr,∃ o,h'.get? b = some o /\ ∀ vs,o.data ≠ .fields vs) (hold:∀ b ∈ old,H' b = none /\ h.get? b = none)
  (st:(PySem.W.hideAll h' (fr ++ a :: old)).StaysIn h2) (sl:h'.UpToSlots h2) (tr:h2.TracedW (PySem.W.hideAll h' (fr ++ a :: old)) a cls a0):∃ T,d8 P w fr H h H' h2 a T cls:=by
 obtain ⟨oe,vs,T,oT,ts,q1,⟨q2,q3⟩,q4,q5,q6,q7,q8,q9,PJ⟩ := tr
 obtain ⟨u,k,n1,n2⟩ := ll (T:=T) un ok fB CK exc hold st sl ⟨oe,vs,q1,q2,q4⟩ ⟨oT,ts,q8,q9⟩ q6 q7
 exact ⟨T,u,k,exc,n1,n2,oe,vs,oT,ts,a0,q1,q4,q3,q5,q7,q8,q9,PJ⟩
end
section
variable {P:Program} {w:World} {K:PySem.W.Frag} {mg:Str -> Option Value} {base:Heap} {N:List Str} {qual:Str} {scope:Scope} {f:Addr} {cd:Value} {A:Around} {outer:List Env} {s₀:Shared} {H₀:Hp} {E:XK}
def u5 (X:Cx) (R:St -> XK -> Prop):Prop := ∀ (pins:List (Addr × Obj)) (σ:St) (H:Hp) (s:Shared) (e:Value) (s':Shared) (E:XK),R σ E -> Ag X pins σ H s -> uk X.prog X.w X.stack H s E e s' -> X.xe e s'
def RD (E:XK):St -> XK -> Prop:=fun _ E1=>∀ c d H,E1 c d H -> E c d H
def ox (X:Cx) (E:XK):Prop := ∀ (pins:List (Addr × Obj)) (σ:St) (H:Hp) (s:Shared) (h':Heap) (e:Addr) (cls:Value) (vs:List Value),Ag X pins σ H s -> Heap.MadeExcOf s.heap h' e cls vs ->
 (∀ H2,Ab H H2 -> E cls none H2) -> X.xe (.ref e) { s with heap:=h' }
end
def qh (K:PySem.W.Frag) (C:Addr):Prop:=PySem.W.excIn K C [.type "ValueError",.type "Exception",.type "BaseException",.type "object"] "ValueError.__new__" = true
section
variable {X:Cx} {x:Str} {C:Addr} {p np aW pos:Pos} {e:Expr} {es:List Expr} {t:TA} {E:XK}
def qu (C:Addr) (t:TA) (E:XK):TS:=fun _ σ H=>t σ H fun vs H1=>vs.length <= sizeLine /\ ∀ H2,Ab H1 H2 -> E (.ref C) none H2
variable {k:Nat} {f:Addr} {fd:FuncData} {ps:List Str} {sp:Sp} {fV:List V} {ds:List Value} {R:St -> XK -> Prop}
def oq (sp:Sp) (fV:List V) (R:St -> XK -> Prop) (t:TA):TE:=fun σ H Q=>t σ H fun vs H1=>∃ E,R σ E /\ sp (vs ++ fV) H1 Q E
end
section
variable {P:Program} {w:World} {K:PySem.W.Frag} {mg:Str -> Option Value} {base:Heap} {x qual:Str} {st:Stmt} {f:Addr} {fd:FuncData} {N ps:List Str} {k:Nat} {sp:Sp}
end
open PySem.W (Looks)
inductive Gx (X:Cx) (C:Addr):List Expr -> List Addr -> Prop
 | nil:Gx X C [] []
 | cons {x : Str} {p : Pos} {c : Addr} {es : List Expr} {cs : List Addr} (hg : Gl X x) (hm : X.mg x = some (.ref c)) (hd : (x == ("__debug__" : Str)) = false)
   (hb:PySem.W.subIn X.K (.ref c) (.type "BaseException") = some true) (hn:PySem.W.subIn X.K (.ref C) (.ref c) = some false) (he:∀ env:Env,starEach (.Name x p :: es) env = (false,eval (.Name x p) env) :: starEach es env) (r:Gx X C es cs):Gx X C (.Name x p :: es) (c :: cs)
section
variable {X:Cx} {pins:List (Addr × Obj)} {σ:St} {H:Hp} {s:Shared} {C:Addr}
theorem Gx.len {es:List Expr} {cs:List Addr} (r:Gx X C es cs):cs.length = es.length:=by
 induction r with
 | nil=>rfl
 | cons _ _ _ _ _ _ _ ih=>simp [ih]
def tq (K:PySem.W.Frag):List V -> Hp -> VK -> Prop:=fun xs H Q=>∃ (a:Addr) (t c:Value) (v:V),xs = [.ref a,v] /\ H a = some (.ext (Ff a t)) /\ (∀ u,Ap v u -> u = c) /\ PySem.W.kitOne K t c = some true /\ Q (.bl true) H
end
abbrev Cx.at (X:Cx) (A:Around):Cx:={ X with A:=A,calm:=false,xe:=fun _ _=>False }
abbrev Cx.MV (X:Cx) (pn:List (Addr × Obj)) (W:Value -> Shared -> Prop):Cx:={ X with pn:=pn,xe:=W }
section
variable {X:Cx} {pins:List (Addr × Obj)} {σ:St} {H:Hp} {s:Shared}
theorem Ag.at (I:Ag X pins σ H s) {A:Around} (hA:A.frames = X.A.frames):Ag (X.at A) pins σ H s :=
 ⟨⟨I.ok.mod,I.ok.kind,I.ok.glob,I.ok.blt,I.ok.above,I.ok.inj,I.ok.has,I.ok.vV,fun z=>(nomatch z),hA.trans I.ok.frames,I.ok.CA,I.ok.DH,I.ok.bs,I.ok.lY,I.ok.iZ,I.ok.jA,I.ok.cX,I.ok.rA⟩,I.os,I.bare,I.base,I.loc,I.cell,I.free,I.aY,I.pin,I.aH,I.len⟩
theorem Ag.back {A:Around} (ok:X.Ok) (I:Ag (X.at A) pins σ H s):Ag X pins σ H s:=⟨ok,I.os,I.bare,I.base,I.loc,I.cell,I.free,I.aY,I.pin,I.aH,I.len⟩
theorem Ag.MV {W:Value -> Shared -> Prop} (I:Ag X pins σ H s):Ag (X.MV (X.pn ++ pins) W) [] σ H s :=
 ⟨⟨I.ok.mod,I.ok.kind,I.ok.glob,I.ok.blt,I.ok.above,I.ok.inj,I.ok.has,I.ok.vV,I.ok.hd,I.ok.frames,I.ok.CA,I.ok.DH,I.ok.bs,I.ok.lY,I.ok.iZ,I.ok.jA,I.ok.cX,I.ok.rA⟩,I.os,I.bare,I.base,I.loc,I.cell,I.free,I.aY,
  fun p hp=>I.pin p (by rwa [List.append_nil] at hp),I.aH,I.len⟩
theorem Ag.out {W:Value -> Shared -> Prop} {kG:List (Addr × Obj)} (ok:X.Ok) (I:Ag (X.MV (X.pn ++ pins) W) kG σ H s):Ag X pins σ H s :=
 ⟨ok,I.os,I.bare,I.base,I.loc,I.cell,I.free,I.aY,fun p hp=>I.pin p (List.mem_append_left _ hp),I.aH,I.len⟩
theorem SP.out {W:Value -> Shared -> Prop} {D:Gp} {f:Flow} {s':Shared} (ok:X.Ok) (h:SP (X.MV (X.pn ++ pins) W) [] D f s'):SP X pins D f s':=by
 cases f with
 | next=>obtain ⟨σ',H',I,q⟩ := h; exact ⟨σ',H',I.out ok,q⟩
 | brk=>obtain ⟨σ',H',I,q⟩ := h; exact ⟨σ',H',I.out ok,q⟩
 | cont=>obtain ⟨σ',H',I,q⟩ := h; exact ⟨σ',H',I.out ok,q⟩
 | ret u=>obtain ⟨v,σ',H',I,r,q⟩ := h; exact ⟨v,σ',H',I.out ok,r,q⟩
theorem d8.kept {P:Program} {w:World} {fr:List Addr} {H H':Hp} {h h' h2:Heap} {a T:Addr} {cls:Value} (F:d8 P w fr H h H' h' a T cls) (k:∀ b o,h'.get? b = some o -> h2.get? b = some o):d8 P w fr H h H' h2 a T cls:=by
 obtain ⟨oe,vs,oT,ts,a0,e1,d1,h0,h1,nT,e2,d2,h3⟩ := F.tr
 exact ⟨F.un.trans (Un.kept k),F.ok.kept k,F.exc,F.off,F.new,oe,vs,oT,ts,a0,k _ _ e1,d1,h0,h1,nT,k _ _ e2,d2,h3⟩
def RT (tu:TS) (C:Addr) (i:Nat) (D:Gp):St -> XK -> Prop:=fun σ1 E=>∀ cls H',E cls none H' -> cls = .ref C /\ ∀ a,H' a = some (.ext (Ff a (.ref C))) ->
 tu { nx:=fun σ' H4=>D.nx (σ'.set i none) H4,rt:=fun _ _=>False } (σ1.set i (some (.ref a))) H'
def uc (tb:(St -> XK -> Prop) -> TS) (tu:TS) (C:Addr) (i:Nat):TS:=fun D σ H=>tb (RT tu C i D) D σ H
theorem Gx.all {C:Addr} {es:List Expr} {cs:List Addr} (r:Gx X C es cs):∀ c ∈ cs,PySem.W.subIn X.K (.ref c) (.type "BaseException") = some true /\ PySem.W.subIn X.K (.ref C) (.ref c) = some false:=by
 induction r with
 | nil=>exact fun _ z=>nomatch z
 | cons _ _ _ hb hn _ _ ih =>
  intro c hc
  rcases List.mem_cons.mp hc with e | hc
  ·rw [e]
   exact ⟨hb,hn⟩
  ·exact ih c hc
end
section
variable {X:Cx}
end
def Mz (val:Nat -> Int) (j:Nat) (m:Int):Prop:=(∃ i,i <= j /\ m = val i) /\ ∀ i,i <= j -> val i <= m
theorem Mz.up {val:Nat -> Int} {j:Nat} {m:Int} (h:Mz val j m) (b:m < val (j + 1)):Mz val (j + 1) (val (j + 1)):=by
 refine ⟨⟨j + 1,Nat.le_refl _,rfl⟩,fun i hi=>?_⟩
 rcases Nat.lt_or_ge j i with z | z
 ·have e:i = j + 1:=by omega
  rw [e]
  omega
 ·have:=h.2 i z
  omega
theorem Mz.same {val:Nat -> Int} {j:Nat} {m:Int} (h:Mz val j m) (b:¬ m < val (j + 1)):Mz val (j + 1) m:=by
 obtain ⟨⟨i0,z0,e0⟩,h2⟩ := h
 refine ⟨⟨i0,by omega,e0⟩,fun i hi=>?_⟩
 rcases Nat.lt_or_ge j i with z | z
 ·have e:i = j + 1:=by omega
  rw [e]
  omega
 ·exact h2 i z
section
variable {prog:Program} {w:World} {A:Around} {R:Result -> Shared -> Prop} {I S:Addr} {fp wr:List Addr} {n:Nat} {P:Nat -> Value -> Prop} {St:Nat -> Heap -> Prop} {val:Nat -> Int}
end
section
variable {prog:Program} {w:World} {A:Around} {E:Value -> Shared -> Prop} {s:Shared} {l:Addr}
theorem N4 {id : String} {b : Builtin} {args : Args} {Q : Value -> Shared -> Prop} (hk : builtinKind id = none) (hp : plainId id = true) (hb : entryFor table id = some b) (ha : argsOk id args)
  (hc:wpAny (model prog w) A.in1 (b args) (fun fin s'=>match fin with
   | .done f=>(match (Except.ok f:Result) with | .ok (.ret v)=>Q v s' | .ok _=>False | .error e=>E e s')
   | .again c'=>c'.quiet = true /\ codeAny (model prog w) A c' (fun r s'=>match r with | .ok (.ret v)=>Q v s' | .ok _=>False | .error e=>E e s') s') E s) :
  wpAny (model prog w) A (call (.builtin id) args.pos args.kw) Q E s:=by
 refine wpAny_call (codeAny_call_builtin hp hb ?_)
 simp only [checkBuiltinCall,hk]
 cases hs:Manifest.signature? id with
 | none=>exact wpAny_pure hc
 | some sg =>
  have h2:Bind.checkArgs id sg args = pure ():=by simpa only [argsOk,hs] using ha
  have h3:(⟨args.pos,args.kw⟩ : Args) = args:=rfl
  simp only [h3,h2]
  exact wpAny_pure hc
end
section
variable {X:Cx} {p pos OU:Pos} {e d:Expr} {t:TA} {td:TE} {x:Str}
def sw (K:PySem.W.Frag) (t:TA) (td:TE):TE:=fun σ H Q=>t σ H fun vs H1=>cx td jr σ H1 fun ys H2=>∃ (a:Addr) (ns:List Int) (dv:Int),vs = [.ref a] /\ ys = [.int dv] /\ B6 K H2 a (ns.map V.int) /\
 ∀ m:Int,(ns = [] -> m = dv) -> (ns ≠ [] -> m ∈ ns /\ ∀ b ∈ ns,b <= m) -> Q (.int m) H2
end
open PySem PySem.Spec PyProof.Rows PySem.SeqAt
def gc (A:Around) (s:Shared) (x y:Value) (b:Bool):Prop := ∀ (prog:Program) (w:World) (E:Value -> Shared -> Prop) (Q:Value -> Shared -> Prop),Q (.bool b) s -> wpAny (model prog w) A (richCompare .Lt x y) Q E s
theorem du (l b : Addr) (xs ys : Array Value) (n n2 : Nat) (dd CC : Option Addr) (sl CD : Array (Option Value)) (e : Nat -> Bool) (r : Bool) :
  Meets (Builtin.«tuple.__lt__» ⟨[.ref l,.ref b],[]⟩)
   (fun A R s=>s.heap.get? l = some { cls := .type "tuple",dict:=dd,data := .seq xs n,slots:=sl } /\ s.heap.get? b = some { cls := .type "tuple",dict:=CC,data := .seq ys n2,slots:=CD } /\
    (∀ j (h1:j < xs.size) (h2:j < ys.size),EqAt A.in1 s xs[j] ys[j] (e j)) /\ (∀ j (h1:j < xs.size) (h2:j < ys.size),(∀ i,i < j -> e i = true) -> e j = false -> gc A.in1 s xs[j] ys[j] r) /\
    ((∀ j,j < min xs.size ys.size -> e j = true) -> r = decide (xs.size < ys.size)) /\ R (.ok (.ret (.bool r))) s) :=
 .of_wp fun prog w A R s h=>by
  obtain ⟨hp,g,d,tk,os⟩ := s
  obtain ⟨hl,hb,he,hf,hz,h⟩ := h
  have f2:=AutoSeq1.sub_tuple_tuple
  have hZ:(xs.toList.zip ys.toList).length = min xs.size ys.size:=by simp
  wp_walk using wpAny_loadPart' hl,wpAny_loadPart' hb,wpAny_forIn_list _ (fun rest b s'=>b.1 = none /\ s' = ⟨hp,g,d,tk,os⟩ /\ ∃ i,rest = (xs.toList.zip ys.toList).drop i /\ ∀ k,k < i -> k < min xs.size ys.size -> e k = true) _
  case turn =>
   rintro ⟨y,x⟩ rest b s' ⟨fF,rfl,i,hq,hR⟩
   have aM:i < (xs.toList.zip ys.toList).length:=by
    apply Classical.byContradiction
    intro z
    rw [List.drop_of_length_le (by omega)] at hq
    cases hq
   have h1:i < xs.size:=by omega
   have h2:i < ys.size:=by omega
   rw [List.drop_eq_getElem_cons aM] at hq
   injection hq with ED mI
   have hy:y = xs[i]:=by simpa using congrArg Prod.fst ED
   have hx:x = ys[i]:=by simpa using congrArg Prod.snd ED
   subst hy hx
   refine wpAny_bind (he i h1 h2 prog w _ _ ?_)
   cases hy:e i with
   | true =>
    wp_walk
    refine ⟨rfl,rfl,i + 1,mI,fun k hk rM=>?_⟩
    by_cases z:k = i
    ·rw [z]
     exact hy
    ·exact hR k (by omega) rM
   | false =>
    have qP:=hf i h1 h2 (fun k hk=>hR k hk (by omega)) hy prog w
    wp_walk using qP _ _
    exact ⟨_,rfl,h⟩
  case fin =>
   rintro ⟨b1,b2⟩ s' ⟨fF,rfl,i,hq,hR⟩
   simp only at fF
   subst fF
   have MW:min xs.size ys.size <= i:=by
    apply Classical.byContradiction
    intro z
    rw [List.drop_eq_getElem_cons (by omega)] at hq
    cases hq
   have hr:=hz fun j hj=>hR j (by omega) hj
   wp_walk
   refine ⟨_,rfl,?_⟩
   rw [hr] at h
   simpa [Builtin.Tuple.tupleCompareSizes] using h
  case h =>
   exact ⟨rfl,rfl,0,rfl,fun k hk=>absurd hk (Nat.not_lt_zero k)⟩
mutual
def Jf:PyData -> PyData -> Bool
 | .int a,.int b=>decide (a < b)
 | .tuple xs,.tuple ys=>aF xs ys
 | _,_=>false
def aF:List PyData -> List PyData -> Bool
 | [],[]=>false
 | [],_ :: _=>true
 | _ :: _,[]=>false
 | x :: xs,y :: ys=>if PyData.eqv x y then aF xs ys else Jf x y
end
mutual
def Gf:PyData -> PyData -> Prop
 | .int _,.int _=>True
 | .tuple xs,.tuple ys=>bA xs ys
 | _,_=>False
def bA:List PyData -> List PyData -> Prop
 | x :: xs,y :: ys=>Gf x y /\ bA xs ys
 | _,_=>True
end
theorem Mu:∀ (xs ys:List PyData),(∀ j,j < min xs.length ys.length -> pairEq xs ys j = true) -> aF xs ys = decide (xs.length < ys.length)
 | [],[],_=>rfl
 | [],y :: ys,_=>by simp [aF]
 | x :: xs,[],_=>by simp [aF]
 | x :: xs,y :: ys,h=>by
  have h0:PyData.eqv x y = true:=h 0 (by simp only [List.length_cons]; omega)
  have ih:=Mu xs ys fun j hj=>h (j + 1) (by simp only [List.length_cons]; omega)
  rw [aF,if_pos h0,ih]
  simp
mutual
theorem Kl : ∀ (da db : PyData) (A : Around) (s : Shared) (a b : Value) (as bs : List Addr), Reads s.heap a da as -> Reads s.heap b db bs -> da.canLay0 = true -> db.canLay0 = true -> Gf da db ->
  A.units + min da.depth db.depth < cLine -> gc A s a b (Jf da db)
 | .int x,db,A,s,_,_,_,_,ra,rb,_,_,hc,hu=>by
  cases db with
  | int y =>
   cases ra with
   | int _ t =>
    cases rb with
    | int _ u =>
     intro prog w E Q h
     exact richCompare_gives (op := .Lt) (typeIs_int s _ t) (typeIs_int s _ u) F.slot_int_lt F.entry_int_lt (F.args_int_lt_2 _ _) (gives_int_lt _ _ t u) (fun z=>nomatch z) h
  | none=>exact hc.elim
  | bool _=>exact hc.elim
  | str _=>exact hc.elim
  | list _=>exact hc.elim
  | tuple _=>exact hc.elim
  | dict _=>exact hc.elim
 | .tuple xs,db,A,s,_,_,_,_,ra,rb,ha,hb,hc,hu=>by
  cases db with
  | tuple ys =>
   cases ra with
   | @tuple l o vs n _ as₁ h1 h2 h3 h4 =>
    cases rb with
    | @tuple l' o' rN n' _ bs₁ k1 k2 k3 k4 =>
     obtain ⟨oc,od,MX,gK⟩ := o
     obtain ⟨oc',QB,QC,wq⟩ := o'
     simp only at h2 h3 k2 k3
     subst h2 h3 k2 k3
     have n1:vs.size = xs.length:=by simpa using ReadsAll.length _ _ _ h4
     have n2:rN.size = ys.length:=by simpa using ReadsAll.length _ _ _ k4
     intro prog w E Q h
     refine richCompare_meets_room (op := .Lt) ⟨_,h1,rfl⟩ ⟨_,k1,rfl⟩ F.slot_tuple_lt F.entry_tuple_lt (F.args_tuple_lt_2 _ _) (du l l' vs rN n n' od QB gK wq (pairEq xs ys) (aF xs ys)) ⟨h1,k1,fun j j1 j2=>?_,fun j j1 j2 f1 f2=>?_,fun f=>?_,(fun z=>nomatch z),h⟩ (room_here hu)
     ·have:=eqAt_readsAll xs ys A.in1 s vs.toList rN.toList _ _ h4 k4 ha hb (room_in hu) j (by simpa using j1) (by simpa using j2)
      simpa using this
     ·have:=eC xs ys A.in1 s vs.toList rN.toList _ _ h4 k4 ha hb hc (room_in hu) j (by simpa using j1) (by simpa using j2) f1 f2
      simpa using this
     ·rw [n1,n2] at f ⊢
      exact Mu xs ys f
  | none=>exact hc.elim
  | bool _=>exact hc.elim
  | str _=>exact hc.elim
  | list _=>exact hc.elim
  | int _=>exact hc.elim
  | dict _=>exact hc.elim
 | .none,_,_,_,_,_,_,_,_,_,_,_,hc,_=>hc.elim
 | .bool _,_,_,_,_,_,_,_,_,_,_,_,hc,_=>hc.elim
 | .str _,_,_,_,_,_,_,_,_,_,_,_,hc,_=>hc.elim
 | .list _,_,_,_,_,_,_,_,_,_,_,_,hc,_=>hc.elim
 | .dict _,_,_,_,_,_,_,_,_,_,_,_,hc,_=>hc.elim
theorem eC : ∀ (xs ys : List PyData) (A : Around) (s : Shared) (vs ws : List Value) (as bs : List Addr), ReadsAll s.heap vs xs as -> ReadsAll s.heap ws ys bs -> PyData.canLayAll0 xs = true -> PyData.canLayAll0 ys = true -> bA xs ys ->
  A.units + min (PyData.depthAll xs) (PyData.depthAll ys) < cLine -> ∀ j (h1:j < vs.length) (h2:j < ws.length),(∀ i,i < j -> pairEq xs ys i = true) -> pairEq xs ys j = false -> gc A s vs[j] ws[j] (aF xs ys)
 | [],_,_,_,_,_,_,_,ra,_,_,_,_,_,j,h1,_,_,_=>by cases ra; exact absurd h1 (Nat.not_lt_zero _)
 | _ :: _,[],_,_,_,_,_,_,_,rb,_,_,_,_,j,_,h2,_,_=>by cases rb; exact absurd h2 (Nat.not_lt_zero _)
 | x :: xs,y :: ys,A,s,_,_,_,_,ra,rb,ca,cb,hc,hu,j,h1,h2,f1,f2=>by
  cases ra with
  | cons r1 r2 =>
   cases rb with
   | cons q1 q2 =>
    have tJ:x.canLay0 = true /\ PyData.canLayAll0 xs = true:=by simpa [PyData.canLayAll0] using ca
    have tK:y.canLay0 = true /\ PyData.canLayAll0 ys = true:=by simpa [PyData.canLayAll0] using cb
    have hd:A.units + min x.depth y.depth < cLine /\ A.units + min (PyData.depthAll xs) (PyData.depthAll ys) < cLine:=by
     simp only [PyData.depthAll] at hu
     omega
    cases j with
    | zero =>
     have e:aF (x :: xs) (y :: ys) = Jf x y:=by
      have f3:PyData.eqv x y = false:=f2
      rw [aF,f3]
      rfl
     rw [e]
     exact Kl x y A s _ _ _ _ r1 q1 tJ.1 tK.1 hc.1 hd.1
    | succ j =>
     have e:aF (x :: xs) (y :: ys) = aF xs ys:=by
      have f3:PyData.eqv x y = true:=f1 0 (Nat.succ_pos _)
      rw [aF,f3]
      rfl
     rw [e]
     exact eC xs ys A s _ _ _ _ r2 q2 tJ.2 tK.2 hc.2 hd.2 j (Nat.lt_of_succ_lt_succ h1) (Nat.lt_of_succ_lt_succ h2) (fun i hi=>f1 (i + 1) (Nat.succ_lt_succ hi)) f2
end
section
variable {X:Cx} {k:Nat}
def uf:R2:=fun x y H Q=>∃ d e:PyData,Rp H d x /\ Rp H e y /\ Gf d e /\ d.depth <= 60 /\ Q (.bl (Jf d e)) H
end
section
variable {X:Cx}
def kh (K:PySem.W.Frag):R2:=fun x y H Q=>∃ a b xs ys,x = .ref a /\ y = .ref b /\ C0 K H a xs /\ H b = some (.tup ys) /\ ys ≠ [] /\ xs.length + ys.length <= sizeLine /\
 ∀ p H',Ab H H' -> H' p = some (.tup (xs ++ ys)) -> Q (.ref p) H'
theorem Zx (K:PySem.W.Frag) (hK:X.K = K:=by rfl):J5 X (binaryOp .Add) (kh K):=by
 subst hK
 intro pins s σ H x y v u Q I rx ry h
 obtain ⟨a,b,xs,ys,rfl,rfl,ha,hb,hy,hz,q⟩ := h
 by_cases hx:xs = []
 ·subst hx
  cases rx
  cases ry
  obtain ⟨aC,r1,p1,_⟩ := I.tuple ha
  obtain ⟨gT,r2,p2,_⟩ := I.tuple (C0.of hb)
  cases r1
  obtain ⟨⟨c1,d1,t1,l1⟩,ho,hc,n,hd⟩ := p1
  obtain ⟨⟨c2,d2,t2,l2⟩,iJ,jC,n2,hd2⟩ := p2
  simp only at hc hd jC hd2
  subst hc hd jC hd2
  exact concat_meets ⟨_,ho,rfl⟩ ⟨_,iJ,rfl⟩ noFill_tuple_add seq_tuple_add PySem.F.slot_tuple_add PySem.F.entry_tuple_add (PySem.F.args_tuple_add_2 _ _) (tuple_addW0 a b _ _ n n2 d1 d2 l1 l2 rfl) ⟨ho,iJ,.ref b,H,I,rfl,q b H (Ab.refl H) hb⟩
 ·exact Zt pins s σ H _ _ v u Q I rx ry ⟨a,b,xs,ys,rfl,rfl,ha,C0.of hb,hx,hz,fun e=>absurd e hy,fun _ p hp=>q p _ (Ab.upd hp) A5⟩
end
def Y7 (h:Heap) (a t:Addr) (i:Int):Prop := ∃ o,h.get? a = some o /\ o.cls = .type "reversed" /\ o.data = .fields #[.ref t,rawInt i]
section
variable {prog:Program} {w:World} {A:Around} {E:Value -> Shared -> Prop} {s:Shared}
theorem Y7.ty {a t:Addr} {i:Int} (x:Y7 s.heap a t i):s.TypeIs (.ref a) "reversed" := let ⟨o,ho,hc,_⟩ := x; ⟨o,ho,hc⟩
theorem Y7.at {h h':Heap} {a t:Addr} {i:Int} (x:Y7 h a t i) (e:∀ o,h.get? a = some o -> h'.get? a = some o):Y7 h' a t i:=let ⟨o,ho,r⟩ := x; ⟨o,e _ ho,r⟩
end
def qp (t:Addr) (i:Int):Obj:={ cls := .type "reversed",data := .fields #[.ref t,rawInt i] }
section
variable {prog:Program} {w:World} {A:Around} {E:Value -> Shared -> Prop} {s:Shared}
end
def ug (K:PySem.W.Frag) (a:Addr) (xs:List V):It :=
 ⟨fun i H=>C0 K H a xs /\ i < xs.length,fun i H x H'=>H' = H /\ xs.reverse[i]? = some x,fun i H=>C0 K H a xs /\ xs.length <= i⟩
def ue (K:PySem.W.Frag) (ta:TA):TI:=fun σ H R=>ta σ H fun vs H1=>∃ t xs,vs = [.ref t] /\ C0 K H1 t xs /\ R (ug K t xs) H1
section
variable {X:Cx} {tg:Expr}
end
section
variable {P:Program} {w:World} {A:Around} {E:Value -> Shared -> Prop} {s:Shared}
end
section
variable {X:Cx}
def o9 (K:PySem.W.Frag) (ta:TA):TE:=fun σ H Q=>ta σ H fun vs H1=>∃ l xs,vs = [.ref l] /\ B6 K H1 l xs /\ ∀ d,H1 d = none -> Q (.ref d) (upd H1 d (.tup xs.reverse))
end
section
variable {X:Cx}
end
section
variable {prog:Program} {w:World} {A:Around} {E:Value -> Shared -> Prop} {I:Addr} {fp wr:List Addr} {St:Nat -> Heap -> Prop} {items:Array Value}
end
section
variable {X:Cx} {pos:Pos}
def uy (K:PySem.W.Frag) (n:Nat) (t:Zg):TG:=fun v σ H Q=>∃ a xs,v = .ref a /\ B6 K H a xs /\ xs.length = n /\ t xs σ H Q
end
open PySem.W (Looks)
section
variable {prog:Program} {w:World} {A:Around} {E:Value -> Shared -> Prop} {K:PySem.W.Frag} {x C:Addr} {h:Heap} {g:Array GenState} {d:Drawn} {t:Nat} {os:OsState}
structure lm (K:PySem.W.Frag) (C:Addr):Prop where
 ga:PySem.W.findIn K (.ref C) "__getattribute__" = some (some (.builtin "BaseException.__getattribute__"))
 gt:PySem.W.findIn K (.ref C) "__getattr__" = some none
 cl:PySem.W.findIn K (.ref C) "__class__" = some (some (.builtin "object.__class__"))
 gs:PySem.W.specialIn K (.builtin "object.__class__") "__get__" = some (some (.builtin "getset_descriptor.__get__"))
 tk:PySem.W.takesIn K (.builtin "object.__class__") = some true
 ob:PySem.W.mroIn K C (.type "object") = some true
 be:PySem.W.subIn K (.ref C) (.type "BaseException") = some true
end
section
variable {X:Cx}
def sr (K:PySem.W.Frag):List V -> Hp -> VK -> Prop:=fun xs H Q=>∃ (a C:Addr) (c:Value) (v:V) (b:Bool),xs = [.ref a,v] /\ H a = some (.ext (Ff a (.ref C))) /\ (∀ u,Ap v u -> u = c) /\ lm K C /\ PySem.W.kitOne K (.ref C) c = some b /\ Q (.bl b) H
end
open PySem.W (Looks)
section
variable {X:Cx}
def uh (K:PySem.W.Frag) (tu:TS) (Y:Addr) (i:Nat) (D:Gp):St -> XK -> Prop:=fun σ1 E=>∀ cls H',E cls none H' -> ∃ C,cls = .ref C /\ PySem.W.subIn K (.ref C) (.ref Y) = some true /\ ∀ a,H' a = some (.ext (Ff a (.ref C))) ->
 tu { nx:=fun σ' H4=>D.nx (σ'.set i none) H4,rt:=fun _ _=>False } (σ1.set i (some (.ref a))) H'
def sj (K:PySem.W.Frag) (tb:(St -> XK -> Prop) -> TS) (tu:TS) (Y:Addr) (i:Nat):TS:=fun D σ H=>tb (uh K tu Y i D) D σ H
end
section
variable {X:Cx}
def u7 (i j:Int):Prop:=0 <= j /\ ((intBits i:Nat):Int) + j <= 2 ^ 27
end
section
variable {prog:Program} {w:World} {A:Around} {E:Value -> Shared -> Prop} {s:Shared} {l:Addr} {xs:Array (Int × Tok)}
theorem Qj {Q : Value -> Shared -> Prop} (hl : s.heap.IsTuple l (intItems xs))
  (h:∀ s₂:Shared,s₂ = { s with heap:=s.heap.push { cls := .type "tuple_iterator",data := .fields #[.ref l,.int 0 0] } } ->
   (s₂.heap.IsTupleIter s.heap.objs.size l 0 /\ s₂.heap.IsTuple l (intItems xs)) -> (∀ b ∈ [s.heap.objs.size,l],b < s₂.heap.objs.size) -> l ≠ s.heap.objs.size -> Q (.ref s.heap.objs.size) s₂) :
  wpAny (model prog w) A (pyIter (.ref l)) Q E s:=by
 have aM:l < s.heap.objs.size:=by obtain ⟨_,e,_⟩ := hl; exact Heap.lt_size e
 refine wpAny_pyIter_tuple hl (h _ rfl ⟨⟨_,Heap.get?_push_size _ rfl,rfl,rfl⟩,?_⟩ (fun b hb=>?_) (Nat.ne_of_lt aM))
 ·exact hl.at fun o e=>Heap.get?_push_of_some _ e
 show b < (s.heap.push _).objs.size
 rw [Heap.size_push]
 rcases List.mem_cons.mp hb with rfl | hb
 ·exact Nat.lt_succ_self _
 ·rcases List.mem_cons.mp hb with rfl | hb
  ·exact Nat.lt_succ_of_lt aM
  ·cases hb
theorem Wk {h' : Heap} (hk : ∀ b o, b ∉ [s.heap.objs.size] -> (s.heap.push { cls := .type "tuple_iterator", data := .fields #[.ref l, .int 0 0] }).get? b = some o -> h'.get? b = some o) :
  ∀ b o,s.heap.get? b = some o -> h'.get? b = some o:=fun b o e=>by
 refine hk b o (fun hm=>?_) (Heap.get?_push_of_some _ e)
 rcases List.mem_cons.mp hm with e1 | hm
 ·exact absurd (e1 ▸ Heap.lt_size e) (Nat.lt_irrefl _)
 ·cases hm
theorem Sw {Q : Value -> Shared -> Prop} (hh : A.handled = none) (hl : s.heap.IsTuple l (intItems xs)) (bN : 0 < xs.size)
  (h:∀ v h' tk,(intItems xs)[argBest (fun i j=>decide (numAt xs i < numAt xs j)) (xs.size - 1)]? = some v -> (∀ b o,s.heap.get? b = some o -> h'.get? b = some o) -> Q v { s with heap:=h',toks:=tk }) :
  wpAny (model prog w) A (call (.builtin "min") [.ref l]) Q E s:=by
 refine call_min_walk (Qj hl fun s₂ e st CJ QD=>?_)
 subst e
 refine ⟨_,_,_,_,_,_,_,rfl,Walks.tuple (A:=A.in1) hh _ l QD (intItems xs),st,CJ,by simpa [intItems] using bN,CmpOf.ints_lt (numAt xs) (fun _ _=>intItems_at),fun v h' tk hP hk=>?_⟩
 exact h v h' tk (by simpa [intItems] using hP) (Wk hk)
end
section
variable {X:Cx}
theorem Vb (hc:X.calm = true):Di X (.builtin "min") (fun xs H Q=>∃ (p:Addr) (ns:List Int),xs = [.ref p] /\ C0 X.K H p (ns.map V.int) /\ 0 < ns.length /\ ∀ m:Int,m ∈ ns -> (∀ a ∈ ns,m <= a) -> Q (.int m) H):=by
 intro pins s σ H vs us Q I r q
 obtain ⟨p,ns,rfl,hq,bN,q⟩ := q
 obtain ⟨u,rfl,rx⟩ := Ji r
 cases rx
 obtain ⟨aC,rv,pl,hz⟩ := I.tuple hq
 have hi:=Li rv
 obtain ⟨ys,ey⟩ := hi.allInts.items
 have qQ:ns = ys.toList.map (·.1):=by
  have e1:=hi.numsOf
  have e2:=nums_intItems ys
  rw [<- ey] at e2
  exact e1.symm.trans e2
 have hsz:0 < ys.size:=by
  rw [qQ,List.length_map,Array.length_toList] at bN
  exact bN
 have hl:s.heap.IsTuple p aC.toArray:=pl
 rw [ey] at hl
 refine Sw (I.ok.hd hc) hl hsz fun v g' tk hv hk=>?_
 obtain ⟨t,rfl⟩ := intItems_at hv
 obtain ⟨b1,b2⟩ := argBest_lt (numAt ys) (ys.size - 1)
 refine ⟨.int _,H,I.kept hk,⟨t,rfl⟩,q _ ?_ fun a ha=>?_⟩
 ·rw [qQ,numAt_eq]
  exact getD_mem (by rw [List.length_map,Array.length_toList]; omega)
 ·rw [qQ] at ha
  obtain ⟨j,hj,rfl⟩ := mem_getD ha
  rw [List.length_map,Array.length_toList] at hj
  rw [<- numAt_eq]
  exact b2 j (by omega)
theorem Wu (K:PySem.W.Frag) (hc:X.calm = true) (hK:X.K = K:=by rfl):Di X (.builtin "min") (fun xs H Q=>∃ (p:Addr) (ns:List Int),xs = [.ref p] /\ (B6 K H p (ns.map V.int) \/ C0 K H p (ns.map V.int)) /\ 0 < ns.length /\ ∀ m:Int,m ∈ ns -> (∀ a ∈ ns,m <= a) -> Q (.int m) H):=by
 subst hK
 intro pins s σ H vs us Q I r q
 obtain ⟨p,ns,rfl,hq | hq,bN,q⟩ := q
 ·exact Vt hc pins s σ H _ us Q I r ⟨p,ns,rfl,hq,bN,q⟩
 ·exact Vb hc pins s σ H _ us Q I r ⟨p,ns,rfl,hq,bN,q⟩
end
section
variable {X:Cx}
def tm (K:PySem.W.Frag):R2:=fun x y H Q=>∃ a b xs ys,x = .ref a /\ y = .ref b /\ H a = some (.tup xs) /\ H b = some (.tup ys) /\ xs.length + ys.length <= sizeLine /\
 ∀ p H',Ab H H' -> H' p = some (.tup (xs ++ ys)) -> Q (.ref p) H'
end
structure vc (K:PySem.W.Frag) (C:Addr):Prop where
 makes:PySem.W.makesIn K C = true
 init:PySem.W.findIn K (.ref C) "__init__" = some (some (.builtin "object.__init__"))
 kp:PySem.W.keepIn K (.ref C) = true
def ot (C:Addr):TE:=fun σ H Q=>∀ x dx,H x = none -> H dx = none -> dx ≠ x -> Q (.ref x) (upd (upd H dx (.own x)) x (.ins C dx []))
section
variable {X:Cx} {C:Addr} {x:Str} {p pos:Pos}
end
section
variable {K:PySem.W.Frag} {x C:Addr}
end
section
variable {X:Cx}
def rq (K:PySem.W.Frag):List V -> Hp -> VK -> Prop:=fun xs H Q=>∃ (a C tp:Addr) (as:List Addr) (b:Bool),xs = [.ref a,.ref tp] /\ H a = some (.ext (Ff a (.ref C))) /\ H tp = some (.tup (as.map V.ref)) /\ lm K C /\ qh K C /\
 PySem.W.kitAny K (.ref C) (as.map Value.ref) = some b /\ Q (.bl b) H
end
theorem Mc (l : Addr) (items : Array Value) (n : Nat) (dd : Option Addr) (sl : Array (Option Value)) (x : Value) (e : Value -> Bool) (j : Nat) (hj : j < items.size)
  (hit:e items[j] = true) (lR:∀ m (hm:m < items.size),m < j -> e items[m] = false) :
  Meets (Builtin.«tuple.index» ⟨[.ref l,x],[]⟩)
   (fun A R s=>s.heap.get? l = some { cls := .type "tuple",dict:=dd,data := .seq items n,slots:=sl } /\ (∀ y,y ∈ items -> PySem.SeqAt.EqAt A.in1 s y x (e y)) /\ R (.ok (.ret (.int j s.toks))) { s with toks:=s.toks + 1 }):=by
 intro prog w A R s h
 obtain ⟨hl,he,h⟩ := h
 unfold Builtin.«tuple.index»
 refine wpAny_bind (wpAny_of_eq (show selfAndSome "tuple.index" "index" 1 3 { pos:=[Value.ref l,x] } = pure (Value.ref l,[x]) from rfl) ?_)
 refine wpAny_bind (wpAny_tupleItemsOf hl rfl ?_)
 refine wpAny_bind (wpAny_pure (wpAny_bind (wpAny_pure (wpAny_bind ?_))))
 rw [Nat.min_self,Std.Legacy.Range.forIn_eq_forIn_range']
 refine wpAny_forIn_list _ (fun rest b s'=>b = (none,()) /\ s' = s /\ ∃ i,rest = List.range' i (items.size - i) /\ i <= j) _ ?_ ?_ _ _ ⟨rfl,rfl,0,by simp [Std.Legacy.Range.size],Nat.zero_le _⟩
 ·rintro k rest b s' ⟨rfl,rfl,i,hr,wu⟩
  have hi:i < items.size:=by omega
  rw [show items.size - i = (items.size - i - 1) + 1 by omega,List.range'_succ] at hr
  obtain ⟨rfl,rfl⟩ := List.cons.inj hr
  rw [Array.getElem?_eq_getElem hi]
  refine wpAny_bind (he _ (Array.getElem_mem hi) prog w _ _ ?_)
  by_cases e1:k = j
  ·subst e1
   rw [hit]
   refine wpAny_bind (wpAny_bind (wpAny_mkInt ?_))
   exact wpAny_pure (wpAny_pure (wpAny_pure h))
  ·rw [lR k hi (by omega)]
   refine wpAny_pure ⟨rfl,rfl,k + 1,?_,by omega⟩
   rw [show items.size - (k + 1) = items.size - k - 1 by omega]
 ·rintro b s' ⟨rfl,rfl,i,hr,wu⟩
  have:items.size - i = 0:=by
   have:=congrArg List.length hr
   simpa using this.symm
  omega
section
variable {X:Cx}
def al (K:PySem.W.Frag):V -> List V -> Hp -> VK -> Prop:=fun x vs H Q=>∃ (l:Addr) (ns:List Int) (y:Int) (j:Nat),x = .ref l /\ vs = [.int y] /\ C0 K H l (ns.map V.int) /\ ns[j]? = some y /\ (∀ m,m < j -> ns[m]? ≠ some y) /\ Q (.int (j:Nat)) H
theorem X0:em X "tuple.index" (al X.K):=by
 intro pins s σ H x vs v us Q I rx rv h
 obtain ⟨l,ns,y,j,rfl,rfl,hq,hj,lR,q⟩ := h
 cases rx
 obtain ⟨u,rfl,ru⟩ := rv.one
 obtain ⟨aC,r,⟨⟨oc,od,MX,gK⟩,e,hc,n,hd⟩,hz⟩ := I.tuple hq
 simp only at hc hd
 subst hc hd
 have hlen:=r.length
 rw [List.length_map] at hlen
 have hjn:j < ns.length:=(List.getElem?_eq_some_iff.mp hj).1
 have kJ:∀ m (hm:m < aC.toArray.size),Xp (.int y) aC.toArray[m] = decide (ns[m]? = some y):=by
  intro m hm
  have fX:m < ns.length:=by
   rw [List.size_toArray] at hm
   omega
  have e1:(ns.map V.int)[m]? = some (V.int ns[m]):=by rw [List.getElem?_map,List.getElem?_eq_getElem fX]; rfl
  obtain ⟨w,ew,fA⟩ := r.get e1
  have e2:aC.toArray[m] = w:=by
   have:=(List.getElem?_eq_some_iff.mp ew).2
   simpa using this
  rw [e2,Ti fA rfl,List.getElem?_eq_getElem fX]
  show (ns[m] == y) = _
  by_cases z:ns[m] = y <;> simp [z]
 refine call_meets F.slot_tuple_index ⟨_,e,rfl⟩ F.entry_tuple_index (F.args_tuple_index_2 _ _) (Mc l aC.toArray n od gK u (Xp (.int y)) j (by rw [List.size_toArray]; omega) ?_ ?_) ⟨e,fun z QE=>?_,?_⟩
 ·rw [kJ j (by rw [List.size_toArray]; omega),hj]
  simp
 ·intro m hm QF
  rw [kJ m hm]
  exact decide_eq_false (lR m QF)
 ·exact Lj ru rfl r (Gn ns) z (by simpa using QE)
 ·exact ⟨.int (j:Nat),H,I.tok _,⟨_,rfl⟩,q⟩
end
section
variable {X:Cx}
end
section
variable {X:Cx} {tg:Expr}
def sv (ta:TA):TI:=fun σ H R=>ta σ H fun vs H1=>∃ i j:Int,vs = [.int i,.int j,.int (-1)] /\ (-(2 ^ 60) <= i /\ i < 2 ^ 60 /\ -(2 ^ 60) <= j /\ j < 2 ^ 60) /\ R (tj i (-1) (i - j).toNat) H1
end
section
variable {κ:Type} [DecidableEq κ]
def Af (kvs:List (κ × V)) (k:κ):Option V:=(kvs.find? fun kv=>decide (kv.1 = k)).map (·.2)
def Bl (kvs:List (κ × V)) (k:κ) (v:V):List (κ × V) :=
 if (kvs.any fun kv=>decide (kv.1 = k)) = true then kvs.map (fun kv=>if kv.1 = k then (kv.1,v) else kv) else kvs ++ [(k,v)]
def Bp (kvs:List (κ × V)) (k:κ):List (κ × V):=kvs.filter fun kv=>decide (kv.1 ≠ k)
theorem Bx {p:κ × V} {r:List (κ × V)} {k:κ} (e:p.1 = k):Af (p :: r) k = some p.2:=by simp [Af,List.find?_cons,e]
theorem Bz {p:κ × V} {r:List (κ × V)} {k:κ} (e:¬ p.1 = k):Af (p :: r) k = Af r k:=by simp [Af,List.find?_cons,e]
theorem Dl (k:κ):∀ kvs:List (κ × V),(kvs.any fun kv=>decide (kv.1 = k)) = (Af kvs k).isSome
 | []=>rfl
 | p :: r=>by
  rw [List.any_cons]
  by_cases e:p.1 = k
  ·simp only [Bx e,decide_eq_true e,Bool.true_or,Option.isSome_some]
  ·rw [Bz e,decide_eq_false e,Bool.false_or]; exact Dl k r
theorem Rc (k j:κ) (y:V):∀ kvs:List (κ × V),Af (kvs.map fun kv=>if kv.1 = k then (kv.1,y) else kv) j = (Af kvs j).map fun x=>if j = k then y else x
 | []=>rfl
 | p :: r=>by
  have ih:=Rc k j y r
  rw [List.map_cons]
  by_cases h:p.1 = k
  ·rw [if_pos h]
   by_cases e:p.1 = j
   ·rw [Bx (p:=(p.1,y)) e,Bx e,Option.map_some,if_pos (e.symm.trans h)]
   ·rw [Bz (p:=(p.1,y)) e,Bz e,ih]
  ·rw [if_neg h]
   by_cases e:p.1 = j
   ·rw [Bx (p:=p) e,Bx e,Option.map_some,if_neg (fun z=>h (e.trans z))]
   ·rw [Bz (p:=p) e,Bz e,ih]
theorem N8 (k j:κ) (y:V):∀ kvs:List (κ × V),Af kvs k = none -> Af (kvs ++ [(k,y)]) j = if j = k then some y else Af kvs j
 | [],_=>by
  by_cases e:k = j
  ·rw [if_pos e.symm]; exact Bx (p:=(k,y)) e
  ·rw [if_neg (fun z=>e z.symm)]; exact Bz (p:=(k,y)) e
 | p :: r,hn=>by
  rw [List.cons_append]
  have hk:¬ p.1 = k:=fun z=>by rw [Bx z] at hn; cases hn
  rw [Bz hk] at hn
  have ih:=N8 k j y r hn
  by_cases e:p.1 = j
  ·rw [Bx e,Bx e,if_neg (fun z=>hk (e.trans z))]
  ·rw [Bz e,Bz e,ih]
theorem Fw (kvs:List (κ × V)) (k j:κ) (y:V):Af (Bl kvs k y) j = if j = k then some y else Af kvs j:=by
 unfold Bl
 by_cases a:(kvs.any fun kv=>decide (kv.1 = k)) = true
 ·rw [if_pos a,Rc]
  rw [Dl] at a
  by_cases e:j = k
  ·obtain ⟨x,hx⟩ := Option.isSome_iff_exists.mp a
   rw [if_pos e,e,hx,Option.map_some,if_pos rfl]
  ·rw [if_neg e]
   cases Af kvs j with
   | none=>rfl
   | some x=>rw [Option.map_some,if_neg e]
 ·rw [if_neg a]
  refine N8 k j y kvs ?_
  rw [Dl] at a
  cases q:Af kvs k with
  | none=>rfl
  | some x=>rw [q] at a; exact (a rfl).elim
theorem D1 (kvs:List (κ × V)) (k:κ) (v:V):(Bl kvs k v).length <= kvs.length + 1:=by
 unfold Bl
 split
 ·rw [List.length_map]; omega
 ·rw [List.length_append,List.length_cons,List.length_nil]; omega
theorem Dk {kvs:List (κ × V)} {k:κ} (v:V) (h:Af kvs k = none):Bl kvs k v = kvs ++ [(k,v)]:=by
 unfold Bl
 rw [Dl,h]
 exact if_neg (by decide)
theorem F7.bI {o:Option V} {u:Option Value} (r:F7 o u):o.isSome = u.isSome:=by
 cases o with
 | none=>cases u with
  | none=>rfl
  | some _=>exact (show False from r).elim
 | some _=>cases u with
  | none=>exact (show False from r).elim
  | some _=>rfl
theorem F7.getD {o:Option V} {u:Option Value} {d:V} {d':Value} (r:F7 o u) (rd:Ap d d'):Ap (o.getD d) (u.getD d'):=by
 cases o with
 | none=>cases u with
  | none=>exact rd
  | some _=>exact (show False from r).elim
 | some _=>cases u with
  | none=>exact (show False from r).elim
  | some _=>exact r
theorem KV.val {kvs:List (κ × V)} {vs:List (κ × Value)} (r:KV kvs vs) (k:κ):F7 (Af kvs k) (valueAt vs k):=by
 unfold KV at r
 induction r with
 | nil=>exact True.intro
 | @cons p q ps qs h t ih =>
  obtain ⟨h1,h2⟩ := h
  by_cases e:p.1 = k
  ·have e':q.1 = k:=h1.symm.trans e
   have b:valueAt (q :: qs) k = some q.2:=by simp [valueAt,List.find?_cons,e']
   rw [Bx e,b]; exact h2
  ·have e':¬ q.1 = k:=fun z=>e (h1.trans z)
   have b:valueAt (q :: qs) k = valueAt qs k:=by simp [valueAt,List.find?_cons,e']
   rw [Bz e,b]; exact ih
theorem KV.any {kvs:List (κ × V)} {vs:List (κ × Value)} (r:KV kvs vs) (k:κ):(kvs.any fun kv=>decide (kv.1 = k)) = vs.any fun kv=>decide (kv.1 = k):=by
 unfold KV at r
 induction r with
 | nil=>rfl
 | cons h t ih=>rw [List.any_cons,List.any_cons,ih,h.1]
theorem KV.wx {kvs : List (κ × V)} {vs : List (κ × Value)} (r : KV kvs vs) (k : κ) {y : V} {u : Value} (ry : Ap y u) :
  KV (kvs.map fun kv=>if kv.1 = k then (kv.1,y) else kv) (vs.map fun kv=>if kv.1 = k then (kv.1,u) else kv):=by
 unfold KV at r ⊢
 induction r with
 | nil=>exact .nil
 | @cons p q ps qs h t ih =>
  rw [List.map_cons,List.map_cons]
  refine .cons ?_ ih
  obtain ⟨h1,h2⟩ := h
  by_cases e:p.1 = k
  ·rw [if_pos e,if_pos (h1.symm.trans e)]; exact ⟨h1,ry⟩
  ·rw [if_neg e,if_neg (fun z=>e (h1.trans z))]; exact ⟨h1,h2⟩
theorem KV.put {kvs:List (κ × V)} {vs:List (κ × Value)} (r:KV kvs vs) (k:κ) {y:V} {u:Value} (ry:Ap y u):KV (Bl kvs k y) (stored vs k u):=by
 unfold Bl stored
 rw [r.any k]
 by_cases e:(vs.any fun kv=>decide (kv.1 = k)) = true
 ·rw [if_pos e,if_pos e]; exact r.wx k ry
 ·rw [if_neg e,if_neg e]; exact Paired.snoc r ⟨rfl,ry⟩
theorem KV.drop {kvs:List (κ × V)} {vs:List (κ × Value)} (r:KV kvs vs) (k:κ):KV (Bp kvs k) (without vs k):=by
 unfold KV at r ⊢
 unfold Bp without
 induction r with
 | nil=>exact .nil
 | @cons p q ps qs h t ih =>
  obtain ⟨h1,h2⟩ := h
  rw [List.filter_cons,List.filter_cons]
  by_cases e:p.1 = k
  ·have a:¬ decide (p.1 ≠ k) = true:=by simp [e]
   have b:¬ decide (q.1 ≠ k) = true:=by simp [h1.symm.trans e]
   rw [if_neg a,if_neg b]; exact ih
  ·have e':¬ q.1 = k:=fun z=>e (h1.trans z)
   have a:decide (p.1 ≠ k) = true:=by simp [e]
   have b:decide (q.1 ≠ k) = true:=by simp [e']
   rw [if_pos a,if_pos b]; exact .cons ⟨h1,h2⟩ ih
theorem KV.keys {kvs:List (κ × V)} {vs:List (κ × Value)} (r:KV kvs vs):kvs.map (·.1) = vs.map (·.1):=by
 unfold KV at r
 induction r with
 | nil=>rfl
 | cons h t ih=>rw [List.map_cons,List.map_cons,ih,h.1]
theorem KV.length {kvs:List (κ × V)} {vs:List (κ × Value)} (r:KV kvs vs):kvs.length = vs.length:=Paired.length r
theorem Qc (kvs:List (κ × V)) (k:κ):(Bp kvs k).length <= kvs.length:=List.length_filter_le _ _
end
theorem Mr {P:Program} {w:World} {k:Dh} {u:Value} (r:Ap (kV k) u):(D5 P w).is k u = true:=by
 cases k with
 | inl i=>obtain ⟨t,e⟩ := (show ∃ t,u = Value.int i t from r); subst e; exact Q7 P w i t
 | inr x=>obtain ⟨t,e⟩ := (show ∃ t,u = Value.str x t from r); subst e; exact Qs P w x t
abbrev KT (H:Hp):List ((List Int × Int) × V) -> List ((List Int × Int) × Addr × Value) -> Prop:=Paired fun p q=>p.1 = q.1 /\ Dx H q.2.1 p.1 /\ Ap p.2 q.2.2
theorem KT.val {H:Hp} {kvs:List ((List Int × Int) × V)} {xs:List ((List Int × Int) × Addr × Value)} (r:KT H kvs xs) (k:(List Int × Int)):F7 (Af kvs k) ((atKey xs k).map (·.2)):=by
 induction r with
 | nil=>exact True.intro
 | @cons p q ps qs h t ih =>
  obtain ⟨h1,_,h2⟩ := h
  by_cases e:p.1 = k
  ·have e':q.1 = k:=h1.symm.trans e
   have b:atKey (q :: qs) k = some q.2:=by simp [atKey,List.find?_cons,e']
   rw [Bx e,b]; exact h2
  ·have e':¬ q.1 = k:=fun z=>e (h1.trans z)
   have b:atKey (q :: qs) k = atKey qs k:=by simp [atKey,List.find?_cons,e']
   rw [Bz e,b]; exact ih
theorem KT.wx {H : Hp} {kvs : List ((List Int × Int) × V)} {xs : List ((List Int × Int) × Addr × Value)} (r : KT H kvs xs) (k : (List Int × Int)) {y : V} {u : Value} (ry : Ap y u) :
  KT H (kvs.map fun kv=>if kv.1 = k then (kv.1,y) else kv) (xs.map (putAt k u)):=by
 induction r with
 | nil=>exact .nil
 | @cons p q ps qs h t ih =>
  rw [List.map_cons,List.map_cons]
  refine .cons ?_ ih
  obtain ⟨h1,h2,h3⟩ := h
  unfold putAt
  by_cases e:p.1 = k
  ·rw [if_pos e,if_pos (h1.symm.trans e)]; exact ⟨h1,h2,ry⟩
  ·rw [if_neg e,if_neg (fun z=>e (h1.trans z))]; exact ⟨h1,h2,h3⟩
theorem KT.put {H : Hp} {kvs : List ((List Int × Int) × V)} {xs : List ((List Int × Int) × Addr × Value)} (r : KT H kvs xs) (k : (List Int × Int)) {b : Addr} {y : V} {u : Value} (hb : Dx H b k) (ry : Ap y u) :
  KT H (Bl kvs k y) (storedH xs k b u):=by
 have e:(kvs.any fun kv=>decide (kv.1 = k)) = (atKey xs k).isSome:=by
  rw [Dl,(r.val k).bI,Option.isSome_map]
 unfold Bl storedH
 rw [e]
 by_cases q:(atKey xs k).isSome = true
 ·rw [if_pos q,if_pos q]; exact r.wx k ry
 ·rw [if_neg q,if_neg q]; exact Paired.snoc r ⟨rfl,hb,ry⟩
theorem KT.keeps {H H':Hp} {kvs:List ((List Int × Int) × V)} {xs:List ((List Int × Int) × Addr × Value)} (r:KT H kvs xs) (ht:∀ b ys,H b = some (.tup ys) -> H' b = some (.tup ys)):KT H' kvs xs :=
 Paired.DD r fun _ _ z=>⟨z.1,z.2.1.up ht,z.2.2⟩
section
variable {P:Program} {w:World} {H:Hp} {h:Heap} {a:Addr}
theorem dh {u:HO} (ok:Fj P w H h) (e:Rd H a u):Bh P w H h a u:=e.ok ok
theorem Jh {kvs:List (Dh × V)} (ok:Fj P w H h) (e:Rd H a (.dK kvs)):kvs.length <= sizeLine /\ (a == sysModules) = false /\ ∃ vs,KV kvs vs /\ h.DictOf (D5 P w) a vs :=
 show Bh P w H h a (.dK kvs) from dh ok e
theorem ci {kvs:List (Dh × V)} (ok:Fj P w H h) (e:H a = some (.dK kvs)):kvs.length <= sizeLine /\ (a == sysModules) = false /\ ∃ vs,KV kvs vs /\ h.DictOf (D5 P w) a vs:=Jh ok (.inl e)
theorem Qh {P:Program} {w:World}:∀ {ks:List Int} {us:List Value},As (ks.map V.int) us -> ItemsAre (intKind P w) ks us
 | [],us,r=>by
  cases r
  exact .nil
 | k :: ks,us,r=>by
  cases r with
  | cons h t =>
   obtain ⟨tk,rfl⟩ := h
   exact .cons (by simp [intKind,Value.isInt]) (Qh t)
theorem D0 {P:Program} {w:World} {A:Around} (hu:A.units + 20 < cLine):(Bv P w).room A.in1:=by
 first | (show A.units + 1 + 8 < cLine; omega) | (show A.units + 8 < cLine; omega)
theorem Fp {ks:List Int × Int} (ok:Fj P w H h) (e:Dx H a ks):(Bv P w).is h ks a:=by
 obtain ⟨u,e1,e2⟩ := e
 obtain ⟨_,aC,r,o,h1,h2,n,h3⟩ := (show Bh P w H h a (.tup [.ref u,.int ks.2]) from ok a _ e1)
 obtain ⟨_,gT,r2,o2,g1,g2,m,g3⟩ := (show Bh P w H h u (.tup (ks.1.map V.int)) from ok u _ e2)
 cases r with
 | cons r1 rr =>
  cases rr with
  | cons r3 rr =>
   cases rr
   cases (show _ = Value.ref u from r1)
   obtain ⟨t,rfl⟩ := r3
   exact ⟨o,n,u,t,h1,h2,h3,o2,gT.toArray,m,g1,g2,g3,by simpa using Qh r2⟩
theorem Kf {kvs : List ((List Int × Int) × V)} (ok : Fj P w H h) (e : Rd H a (.dT kvs)) : kvs.length <= sizeLine /\ (a == sysModules) = false /\
  ∃ xs,KT H kvs xs /\ h.DictOfH (Bv P w) a xs:=by
 obtain ⟨z,y,xs,r,o,es,ep,h1,h2,h3,h4,h5⟩ := (show Bh P w H h a (.dT kvs) from dh ok e)
 refine ⟨z,y,xs,r,o,es,ep,h1,h2,h3,h4,fun x hx=>?_,h5⟩
 have all:∀ {l:List ((List Int × Int) × V)} {m:List ((List Int × Int) × Addr × Value)},KT H l m -> ∀ x ∈ m,(Bv P w).is h x.1 x.2.1:=by
  intro l m q
  induction q with
  | nil=>intro x hx; exact nomatch hx
  | @cons p q ps qs hq t ih =>
   intro x hx
   rcases List.mem_cons.mp hx with e | hx
   ·subst e
    exact Fp ok (by rw [<- hq.1]; exact hq.2.1)
   ·exact ih x hx
 exact all r x hx
theorem d6 {kvs : List ((List Int × Int) × V)} (ok : Fj P w H h) (e : H a = some (.dT kvs)) : kvs.length <= sizeLine /\ (a == sysModules) = false /\
  ∃ xs,KT H kvs xs /\ h.DictOfH (Bv P w) a xs:=Kf ok (.inl e)
end
def D8 (H:Hp) (a:Addr) (y:V) (r:Option V):Prop :=
 (∃ kvs k,Rd H a (.dK kvs) /\ y = kV k /\ r = Af kvs k) \/ ∃ kvs k b,Rd H a (.dT kvs) /\ y = .ref b /\ Dx H b k /\ r = Af kvs k
def Lv (H:Hp) (a:Addr) (y v:V) (H':Hp):Prop :=
 (∃ kvs k,H a = some (.dK kvs) /\ y = kV k /\ kvs.length < sizeLine /\ H' = upd H a (.dK (Bl kvs k v))) \/
 ∃ kvs k b,H a = some (.dT kvs) /\ y = .ref b /\ Dx H b k /\ kvs.length < sizeLine /\ H' = upd H a (.dT (Bl kvs k v))
theorem D8.k {H:Hp} {a:Addr} {kvs:List (Dh × V)} {k:Dh} (e:H a = some (.dK kvs)):D8 H a (kV k) (Af kvs k) := .inl ⟨kvs,k,.inl e,rfl,rfl⟩
theorem D8.t {H:Hp} {a b:Addr} {kvs:List ((List Int × Int) × V)} {k:(List Int × Int)} (e:H a = some (.dT kvs)) (eb:Dx H b k):D8 H a (.ref b) (Af kvs k) := .inr ⟨kvs,k,b,.inl e,rfl,eb,rfl⟩
theorem Lv.k {H:Hp} {a:Addr} {kvs:List (Dh × V)} {k:Dh} {v:V} (e:H a = some (.dK kvs)) (hl:kvs.length < sizeLine):Lv H a (kV k) v (upd H a (.dK (Bl kvs k v))) := .inl ⟨kvs,k,e,rfl,hl,rfl⟩
theorem Lv.t {H : Hp} {a b : Addr} {kvs : List ((List Int × Int) × V)} {k : (List Int × Int)} {v : V} (e : H a = some (.dT kvs)) (eb : Dx H b k) (hl : kvs.length < sizeLine) :
  Lv H a (.ref b) v (upd H a (.dT (Bl kvs k v))) := .inr ⟨kvs,k,b,e,rfl,eb,hl,rfl⟩
section
variable {X:Cx} {pins:List (Addr × Obj)} {σ:St} {H:Hp} {s:Shared} {a:Addr} {y v:V} {u r:Value} {o:Option V} {A:Around} {E:Value -> Shared -> Prop}
theorem Ag.big (I:Ag X pins σ H s):sysModules < s.heap.objs.size:=by
 have h:mainGlobals < s.heap.objs.size:=(I.mod.glob.keeps I.bk).lt
 exact Nat.lt_trans (by decide) h
theorem Vi {Q : Value -> Shared -> Prop} (hu : A.units + 20 < cLine) (I : Ag X pins σ H s) (g : D8 H a y (some v)) (ry : Ap y u) (h : ∀ w' s', Ag X pins σ H s' -> Ap v w' -> Q w' s') :
  wpAny (model X.prog X.w) A (getItem (.ref a) u) Q E s:=by
 rcases g with ⟨kvs,k,e,ey,l⟩ | ⟨kvs,k,b,e,ey,eb,l⟩
 ·subst ey
  obtain ⟨z,hd,vs,rel,dd⟩ := Jh I.aH e
  obtain ⟨w',hw,fA⟩ := F7.some_of (v:=v) (o:=valueAt vs k) (by rw [l]; exact rel.val k)
  exact wpAny_getItem_of (Mr ry) dd.mapOf hw (h w' _ (I.tok _) fA)
 ·subst ey
  cases (show u = Value.ref b from ry)
  obtain ⟨z,hd,xs,rel,dd⟩ := Kf I.aH e
  obtain ⟨w',hw,fA⟩ := F7.some_of (v:=v) (o:=(atKey xs k).map (·.2)) (by rw [l]; exact rel.val k)
  obtain ⟨p,hp,EE⟩ := Option.map_eq_some_iff.mp hw
  refine wpAny_getItem_heap (D0 hu) (Fp I.aH eb) dd hp ?_
  rw [EE]
  exact h w' _ (I.tok _) fA
theorem qb {Q : Value -> Shared -> Prop} (hu : A.units + 20 < cLine) (I : Ag X pins σ H s) (g : D8 H a y o) (ry : Ap y u) (h : ∀ s', Ag X pins σ H s' -> Q (.bool o.isSome) s') :
  wpAny (model X.prog X.w) A (compareOp .In u (.ref a)) Q E s:=by
 rcases g with ⟨kvs,k,e,ey,l⟩ | ⟨kvs,k,b,e,ey,eb,l⟩
 ·subst ey
  obtain ⟨z,hd,vs,rel,dd⟩ := Jh I.aH e
  refine wpAny_in_of (Mr ry) hd dd.mapOf ?_
  rw [<- (rel.val k).bI,<- l]
  exact h _ (I.tok _)
 ·subst ey
  cases (show u = Value.ref b from ry)
  obtain ⟨z,hd,xs,rel,dd⟩ := Kf I.aH e
  refine wpAny_in_heap (D0 hu) (Fp I.aH eb) hd dd ?_
  have q:=(rel.val k).bI
  rw [Option.isSome_map] at q
  rw [<- q,<- l]
  exact h _ (I.tok _)
theorem ah {Q : Value -> Shared -> Prop} (hu : A.units + 20 < cLine) (I : Ag X pins σ H s) (g : D8 H a y o) (ry : Ap y u) (h : ∀ s', Ag X pins σ H s' -> Q (.bool (!o.isSome)) s') :
  wpAny (model X.prog X.w) A (compareOp .NotIn u (.ref a)) Q E s:=by
 rcases g with ⟨kvs,k,e,ey,l⟩ | ⟨kvs,k,b,e,ey,eb,l⟩
 ·subst ey
  obtain ⟨z,hd,vs,rel,dd⟩ := Jh I.aH e
  refine wpAny_notIn_of (Mr ry) hd dd.mapOf ?_
  rw [<- (rel.val k).bI,<- l]
  exact h _ (I.tok _)
 ·subst ey
  cases (show u = Value.ref b from ry)
  obtain ⟨z,hd,xs,rel,dd⟩ := Kf I.aH e
  refine wpAny_notIn_heap (D0 hu) (Fp I.aH eb) hd dd ?_
  have q:=(rel.val k).bI
  rw [Option.isSome_map] at q
  rw [<- q,<- l]
  exact h _ (I.tok _)
theorem K1 {h' : Heap} {t' : Nat} {ob : HO} (I : Ag X pins σ H s) (mu : kf (H a)) (hs : Heap.SameBut a s.heap h') (he : ∃ q, h'.get? a = some q) (new : Bh X.prog X.w (upd H a ob) h' a ob) :
  Ag X pins σ (upd H a ob) { s with heap:=h',toks:=t' } :=
 I.write (x:=a) (e:=a) mu (.inl rfl) (fun b q hb z=>(hs.2 b hb).trans z) he new
theorem Y5 {P : Program} {w : World} {H' : Hp} {h' : Heap} {kvs : List (Dh × V)} {vs : List (Dh × Value)} (z : kvs.length <= sizeLine) (hd : (a == sysModules) = false) (rel : KV kvs vs) (dd : h'.DictOf (D5 P w) a vs) :
  Bh P w H' h' a (.dK kvs):=⟨z,hd,vs,rel,dd⟩
theorem Ws {H' : Hp} {Q : Unit -> Shared -> Prop} (hu : A.units + 20 < cLine) (I : Ag X pins σ H s) (g : Lv H a y v H') (ry : Ap y u) (rv : Ap v r) (h : ∀ s', Ag X pins σ H' s' -> Q () s') :
  wpAny (model X.prog X.w) A (setItem (.ref a) u r) Q E s:=by
 rcases g with ⟨kvs,k,e,ey,l,eH⟩ | ⟨kvs,k,b,e,ey,eb,l,eH⟩
 ·subst ey eH
  obtain ⟨z,hd,vs,rel,dd⟩ := ci I.aH e
  have hz:vs.length <= sizeLine:=by rw [<- rel.length]; exact z
  have hl:(Bl kvs k v).length <= sizeLine:=by have:=D1 kvs k v; omega
  refine wpAny_setItem_pairs (hsz:=hz) (Mr ry) dd fun h' rO hs=>h _ ?_
  have he:∃ q,h'.get? a = some q:=let ⟨q,_,_,hq,_⟩ := rO; ⟨q,hq⟩
  exact K1 I (by rw [e]; exact True.intro) hs he (Y5 hl hd (rel.put k rv) rO)
 ·subst ey eH
  cases (show u = Value.ref b from ry)
  obtain ⟨z,hd,xs,rel,dd⟩ := d6 I.aH e
  have hz:xs.length <= sizeLine:=by rw [<- Paired.length rel]; exact z
  have hl:(Bl kvs k v).length <= sizeLine:=by have:=D1 kvs k v; omega
  refine wpAny_setItem_heap (hsz:=hz) (D0 hu) (Fp I.aH eb) dd fun h' rO hs=>h _ ?_
  obtain ⟨q,es,ep,hq,h2,h3,h4,_,h5⟩ := rO
  refine K1 I (by rw [e]; exact True.intro) hs ⟨q,hq⟩ ⟨hl,hd,_,(rel.put k eb rv).keeps fun c ys ec=>?_,q,es,ep,hq,h2,h3,h4,h5⟩
  rw [Aa (Br ec e (fun z=>nomatch z))]
  exact ec
end
section
variable {X:Cx} {pins:List (Addr × Obj)} {σ:St} {H:Hp} {s:Shared} {a:Addr} {kvs:List (Dh × V)} {k:Dh} {u:Value} {A:Around} {E:Value -> Shared -> Prop}
theorem ln {v : V} {more : List Value} {Q : Value -> Shared -> Prop} (I : Ag X pins σ H s) (e : H a = some (.dK kvs)) (ry : Ap (kV k) u) (l : Af kvs k = some v) (hm : more = [] \/ ∃ x, more = [x])
  (h:∀ w' s',Ag X pins σ (upd H a (.dK (Bp kvs k))) s' -> Ap v w' -> Q w' s'):wpAny (model X.prog X.w) A (call (.builtin "dict.pop") (.ref a :: u :: more)) Q E s:=by
 obtain ⟨z,hd,vs,rel,dd⟩ := ci I.aH e
 obtain ⟨w',hw,fA⟩ := F7.some_of (v:=v) (o:=valueAt vs k) (by rw [<- l]; exact rel.val k)
 have hp:(keyPart u).isSome = true:=by
  cases k with
  | inl i=>obtain ⟨t,q⟩ := (show ∃ t,u = Value.int i t from ry); subst q; rfl
  | inr x=>obtain ⟨t,q⟩ := (show ∃ t,u = Value.str x t from ry); subst q; rfl
 have ha:argsOk "dict.pop" ⟨.ref a :: u :: more,[]⟩ := by
  rcases hm with q | ⟨x,q⟩
  ·subst q; exact PySem.F.args_dict_pop_2 _ _
  ·subst q; exact PySem.F.args_dict_pop_3 _ _ _
 refine call_meetsIn PySem.F.slot_dict_pop dd.typeIs PySem.F.entry_dict_pop ha (meets_dict_pop_there (D5 X.prog X.w) a (Mr ry) more hm hp)
  ⟨vs,w',dd,by rw [<- rel.length]; exact z,hw,fun h' rO hs=>h w' _ ?_ fA⟩
 have he:∃ q,h'.get? a = some q:=let ⟨q,_,_,hq,_⟩ := rO; ⟨q,hq⟩
 exact K1 I (by rw [e]; exact True.intro) hs he (Y5 (Nat.le_trans (Qc kvs k) z) hd (rel.drop k) rO)
end
def k0 (i:Expr):Prop := ∀ ov iv,subscripted i false ov iv = operate [ov,iv] (getItem ov iv)
theorem ao {prog : Program} {w : World} {A : Around} {E : Value -> Shared -> Prop} {s : Shared} {env : Env} {value slice : Expr} {pos : Pos} {T id : String} {Q : Value -> Shared -> Prop}
  (hl:typeLookup (.type T) "__getitem__" = pure (some (.builtin id))) (hs:k0 slice)
  (h:wpAny (model prog w) A (eval value env) (fun o s₁=>wpAny (model prog w) A (eval slice env) (fun i s₂=>s₂.TypeIs o T /\ wpAny (model prog w) A (getItem o i) Q E s₂) E s₁) E s) :
  wpAny (model prog w) A (eval (.Subscript value slice pos) env) Q E s:=by
 refine Subscript_ (wpAny_mono h (fun o s₁ h₁=>wpAny_mono h₁ (fun i s₂ h₂=>?_) fun _ _ x=>x) fun _ _ x=>x)
 obtain ⟨hT,h₂⟩ := h₂
 unfold subscriptTail
 refine wpAny_bind ?_
 rw [getitemInPython_of_ne hT.not_modules]
 refine wpAny_bind (wpAny_specialOf hT hl ?_)
 have fin:wpAny (model prog w) A (subscripted slice false o i) (fun r s₃=>wpAny (model prog w) A (letTemporaryGo value o r >>= fun _=>pure r) Q E s₃) E s₂:=by
  rw [hs o i]
  exact wpAny_operating (wpAny_mono h₂ (fun r s₃ h₃=>wpAny_bind (wpAny_letTemporaryGo (wpAny_pure h₃))) fun _ _ x=>x)
 first
  | exact wpAny_pure (wpAny_bind fin)
  | exact wpAny_bind (wpAny_pure (wpAny_bind fin))
  | exact wpAny_bind fin
theorem Q4 {X:Cx} {pins:List (Addr × Obj)} {σ:St} {H:Hp} {s:Shared} {a:Addr} {y:V} {o:Option V} (I:Ag X pins σ H s) (g:D8 H a y o):s.TypeIs (.ref a) "dict" := by
 rcases g with ⟨kvs,k,e,_,_⟩ | ⟨kvs,k,b,e,_,_,_⟩
 ·obtain ⟨_,_,vs,_,dd⟩ := Jh I.aH e
  exact dd.typeIs
 ·obtain ⟨_,_,xs,_,dd⟩ := Kf I.aH e
  exact dd.typeIs
def nh (td ty:TE):TE:=fun σ H Q=>td σ H fun x H1=>ty σ H1 fun y H2=>∃ a v,x = .ref a /\ D8 H2 a y (some v) /\ Q v H2
def rf (ty td:TE):TE:=fun σ H Q=>ty σ H fun y H1=>td σ H1 fun x H2=>∃ a o,x = .ref a /\ D8 H2 a y o /\ Q (.bl o.isSome) H2
def Zr (ty td:TE):TE:=fun σ H Q=>ty σ H fun y H1=>td σ H1 fun x H2=>∃ a o,x = .ref a /\ D8 H2 a y o /\ Q (.bl (!o.isSome)) H2
def kj (td ty tv:TE):TS:=fun D σ H=>tv σ H fun v H1=>td σ H1 fun x H2=>ty σ H2 fun y H3=>∃ a H4,x = .ref a /\ Lv H3 a y v H4 /\ D.nx σ H4
def so (td ty tv:TE) (rd:V -> V -> Hp -> VK -> Prop):TS:=fun D σ H=>td σ H fun x H1=>ty σ H1 fun y H2=>∃ a v,x = .ref a /\ D8 H2 a y (some v) /\
 tv σ H2 fun y2 H3=>rd v y2 H3 fun z H4=>∃ H5,Lv H4 a y z H5 /\ D.nx σ H5
def sn (td ty:TE):TS:=fun D σ H=>td σ H fun x H1=>ty σ H1 fun y H2=>∃ a kvs k,x = .ref a /\ H2 a = some (.dK kvs) /\ y = kV k /\ (Af kvs k).isSome = true /\ D.nx σ (upd H2 a (.dK (Bp kvs k)))
section
variable {X:Cx} {o i e value:Expr} {pos pos' kQ:Pos} {td ty tv:TE}
theorem Hn (hu:X.A.units + 20 < cLine) (ho:PE X o td) (hi:PE X i ty) (hs:k0 i):PE X (.Subscript o i pos) (nh td ty):=by
 intro pins s σ H Q I h
 refine ao PySem.F.slot_dict_getitem.lookup hs (C6 (ho pins s σ H _ I h) fun u s1 ⟨x,H1,I1,rx,q1⟩=>C6 (hi pins s1 σ H1 _ I1 q1) fun iv s2 aO=>?_)
 obtain ⟨y,H2,I2,ry,a,v,ex,g,q2⟩ := aO
 subst ex
 obtain rfl:u = Value.ref a:=rx
 exact ⟨Q4 I2 g,Vi hu I2 g ry fun w' s3 I3 fA=>⟨v,H2,I3,fA,q2⟩⟩
theorem Ov (hu:X.A.units + 20 < cLine) (hi:PE X i ty) (ho:PE X o td):PC X .In i o (rf ty td):=by
 intro pins s σ H Q I h
 refine C6 (hi pins s σ H _ I h) fun iv s1 ⟨y,H1,I1,ry,q1⟩=>C6 (ho pins s1 σ H1 _ I1 q1) fun u s2 aO=>?_
 obtain ⟨x,H2,I2,rx,a,ov,ex,g,q2⟩ := aO
 subst ex
 obtain rfl:u = Value.ref a:=rx
 exact qb hu I2 g ry fun s3 I3=>⟨.bl ov.isSome,H2,I3,rfl,q2⟩
theorem Mp (hu:X.A.units + 20 < cLine) (hi:PE X i ty) (ho:PE X o td):PC X .NotIn i o (Zr ty td):=by
 intro pins s σ H Q I h
 refine C6 (hi pins s σ H _ I h) fun iv s1 ⟨y,H1,I1,ry,q1⟩=>C6 (ho pins s1 σ H1 _ I1 q1) fun u s2 aO=>?_
 obtain ⟨x,H2,I2,rx,a,ov,ex,g,q2⟩ := aO
 subst ex
 obtain rfl:u = Value.ref a:=rx
 exact ah hu I2 g ry fun s3 I3=>⟨.bl (!ov.isSome),H2,I3,rfl,q2⟩
theorem Ju (hu : X.A.units + 20 < cLine) (ho : PE X o td) (hi : PE X i ty) (hv : PE X value tv) (hs : swapsWith value (some (.Subscript o i pos')) pos.line X.env = pure false) :
  PS X (.Assign [.Subscript o i pos'] value pos) (kj td ty tv):=by
 intro pins s σ H D I h
 refine wpAny_Assign_Subscript (C6 (hv pins s σ H _ I h) fun r s1 ⟨v,H1,I1,rv,q1⟩=>C6 (ho pins s1 σ H1 _ I1 q1) fun u s2 ⟨x,H2,I2,rx,q2⟩=>C6 (hi pins s2 σ H2 _ I2 q2) fun iv s3 ⟨y,H3,I3,ry,a,H4,ex,g,q3⟩=>?_) hs
 subst ex
 obtain rfl:u = Value.ref a:=rx
 exact Ws hu I3 g ry rv fun s4 I4=>⟨σ,H4,I4,q3⟩
end
theorem Yn {P:Program} {w:World} {H:Hp} (h:Heap) (hb:sysModules < h.objs.size):Bh P w H (h.push { cls := .type "dict",data := .dict #[] }) h.objs.size (.dK []) :=
 ⟨Nat.zero_le _,beq_eq_false_iff_ne.mpr (Ne.symm (Nat.ne_of_lt hb)),[],.nil,Heap.DictOf.new h⟩
theorem X6 {P:Program} {w:World} {H:Hp} (h:Heap) (hb:sysModules < h.objs.size):Bh P w H (h.push { cls := .type "dict",data := .dict #[] }) h.objs.size (.dT []) :=
 ⟨Nat.zero_le _,beq_eq_false_iff_ne.mpr (Ne.symm (Nat.ne_of_lt hb)),[],.nil,_,#[],0,Heap.get?_push_size _ rfl,⟨rfl,rfl,rfl⟩,rfl,rfl,List.nodup_nil⟩
def je:TE:=fun _ H Q=>∀ p,H p = none -> Q (.ref p) (upd H p (.dK []))
def jf:TE:=fun _ H Q=>∀ p,H p = none -> Q (.ref p) (upd H p (.dT []))
section
variable {X:Cx} {pos:Pos}
theorem X5:PE X (.Dict [] [] pos) je:=fun pins s σ H Q I h =>
 wpAny_Dict_empty ⟨.ref s.heap.objs.size,_,I.laid (a:=s.heap.objs.size) (o := .dK []) (t':=s.toks) (fun _ _ q=>Heap.get?_push_of_some _ q) (Nat.le_refl _) (Yn s.heap I.big),rfl,h _ (I.aH.fresh (Nat.le_refl _))⟩
theorem Hx:PE X (.Dict [] [] pos) jf:=fun pins s σ H Q I h =>
 wpAny_Dict_empty ⟨.ref s.heap.objs.size,_,I.laid (a:=s.heap.objs.size) (o := .dT []) (t':=s.toks) (fun _ _ q=>Heap.get?_push_of_some _ q) (Nat.le_refl _) (X6 s.heap I.big),rfl,h _ (I.aH.fresh (Nat.le_refl _))⟩
end
def P8:List (TE × TE) -> St -> Hp -> (List (V × V) -> Hp -> Prop) -> Prop
 | [],_,H,Q=>Q [] H
 | (tk,tv) :: r,σ,H,Q=>tk σ H fun x H1=>tv σ H1 fun y H2=>P8 r σ H2 fun ps H3=>Q ((x,y) :: ps) H3
abbrev VV:List (V × V) -> List (Value × Value) -> Prop:=Paired fun p q=>Ap p.1 q.1 /\ Ap p.2 q.2
def vd (X:Cx) (pos:Pos) (keys:List (Option Expr)) (values:List Expr) (QG:List (TE × TE)):Prop :=
 ∀ (pins:List (Addr × Obj)) (s:Shared) (σ:St) (H:Hp) (Q:List (V × V) -> Hp -> Prop),Ag X pins σ H s -> P8 QG σ H Q ->
  wpAny (model X.prog X.w) X.A (evalPairs (pairTrees keys values X.env pos)) (fun vs s'=>∃ ps H',Ag X pins σ H' s' /\ VV ps vs /\ Q ps H') X.xe s
def iu (kvs more:List (Dh × V)):List (Dh × V):=more.foldl (fun acc kv=>Bl acc kv.1 kv.2) kvs
def t9 (QG:List (TE × TE)):TE:=fun σ H Q=>∀ p,H p = none -> P8 QG σ (upd H p (.dK [])) fun ps H2=>H2 p = some (.dK []) /\ ∃ kvs:List (Dh × V),ps = kvs.map (fun kv=>(kV kv.1,kv.2)) /\ kvs.length <= 15 /\ Q (.ref p) (upd H2 p (.dK (iu [] kvs)))
structure M1 (X:Cx) (o:Expr) (m:Str) (apos:Pos) (e:Expr) (aW:Pos):Prop where
 base:attributeBase o m X.env (eval o X.env) = eval o X.env
 MY:((backTo aW (starEach [e] X.env)).all (fun x=>!x.1) && (backToKw aW (keywordEach [] X.env)).all (fun x=>x.1.isSome)
  && decide (([e]:List Expr).length + ([]:List Keyword).length + (if ([]:List Keyword).isEmpty then 0 else 1) < 30)) = true
 line:(apos.endLine == aW.line) = true
 trees:backTo aW (starEach [e] X.env) = [(false,eval e X.env)]
structure M2 (X:Cx) (o:Expr) (m:Str) (apos:Pos) (e f:Expr) (aW:Pos):Prop where
 base:attributeBase o m X.env (eval o X.env) = eval o X.env
 MY:((backTo aW (starEach [e,f] X.env)).all (fun x=>!x.1) && (backToKw aW (keywordEach [] X.env)).all (fun x=>x.1.isSome)
  && decide (([e,f]:List Expr).length + ([]:List Keyword).length + (if ([]:List Keyword).isEmpty then 0 else 1) < 30)) = true
 line:(apos.endLine == aW.line) = true
 trees:backTo aW (starEach [e,f] X.env) = [(false,eval e X.env),(false,eval f X.env)]
def jk (H:Hp) (a:Addr):Prop:=(∃ kvs,Rd H a (.dK kvs)) \/ ∃ kvs,Rd H a (.dT kvs)
theorem S7 {X : Cx} {pins : List (Addr × Obj)} {σ : St} {H : Hp} {s : Shared} {a : Addr} (I : Ag X pins σ H s) (d : jk H a) :
  s.TypeIs (.ref a) "dict" /\ (∀ b,Value.ref a = .ref b -> ∃ ob,s.heap.get? b = some ob /\ ob.dict = none) /\ (a == sysModules) = false:=by
 rcases d with ⟨kvs,e⟩ | ⟨kvs,e⟩
 ·obtain ⟨_,hd,vs,_,dd⟩ := Jh I.aH e
  refine ⟨dd.typeIs,fun b q=>?_,hd⟩
  cases q
  obtain ⟨ob,_,_,h1,h2,_⟩ := dd
  exact ⟨ob,h1,h2.2.1⟩
 ·obtain ⟨_,hd,xs,_,dd⟩ := Kf I.aH e
  refine ⟨dd.typeIs,fun b q=>?_,hd⟩
  cases q
  obtain ⟨ob,_,_,h1,h2,_⟩ := dd
  exact ⟨ob,h1,h2.2.1⟩
section
variable {X:Cx} {pins:List (Addr × Obj)} {σ:St} {H:Hp} {s:Shared} {a:Addr} {y d:V} {u r:Value} {o:Option V} {A:Around} {E:Value -> Shared -> Prop}
theorem ez {Q : Value -> Shared -> Prop} (hu : A.units + 20 < cLine) (I : Ag X pins σ H s) (g : D8 H a y o) (ry : Ap y u) (rd : Ap d r) (h : ∀ w' s', Ag X pins σ H s' -> Ap (o.getD d) w' -> Q w' s') :
  wpAny (model X.prog X.w) A (call (.builtin "dict.get") [.ref a,u,r]) Q E s:=by
 rcases g with ⟨kvs,k,e,ey,l⟩ | ⟨kvs,k,b,e,ey,eb,l⟩
 ·subst ey
  obtain ⟨z,hd,vs,rel,dd⟩ := Jh I.aH e
  refine call_meetsIn PySem.F.slot_dict_get dd.typeIs PySem.F.entry_dict_get (PySem.F.args_dict_get_3 _ _ _) (meets_dict_get_default (D5 X.prog X.w) a (Mr ry) hd r) ⟨_,dd.mapOf,h _ _ (I.tok _) ?_⟩
  rw [l]
  exact (rel.val k).getD rd
 ·subst ey
  cases (show u = Value.ref b from ry)
  obtain ⟨z,hd,xs,rel,dd⟩ := Kf I.aH e
  refine call_meetsIn PySem.F.slot_dict_get dd.typeIs PySem.F.entry_dict_get (PySem.F.args_dict_get_3 _ _ _) (meetsH_dict_get_default (Bv X.prog X.w) a b hd r) ⟨D0 hu,k,xs,Fp I.aH eb,dd,h _ _ (I.tok _) ?_⟩
  rw [l]
  exact (rel.val k).getD rd
end
def r8 (td ty:TE):TE:=fun σ H Q=>td σ H fun x H1=>∃ a,x = .ref a /\ jk H1 a /\ ty σ H1 fun y H2=>∃ o,D8 H2 a y o /\ Q (o.getD .aL) H2
def gj (td ty tx:TE):TE:=fun σ H Q=>td σ H fun x H1=>∃ a,x = .ref a /\ jk H1 a /\ ty σ H1 fun y H2=>tx σ H2 fun z H3=>∃ o,D8 H3 a y o /\ Q (o.getD z) H3
def fb (td ty:TE):TE:=fun σ H Q=>td σ H fun x H1=>∃ a,x = .ref a /\ jk H1 a /\ ty σ H1 fun y H2=>∃ kvs k v,H2 a = some (.dK kvs) /\ y = kV k /\ Af kvs k = some v /\ Q v (upd H2 a (.dK (Bp kvs k)))
def qo (td ty tx:TE):TE:=fun σ H Q=>td σ H fun x H1=>∃ a,x = .ref a /\ jk H1 a /\ ty σ H1 fun y H2=>tx σ H2 fun z H3=>∃ kvs k,H3 a = some (.dK kvs) /\ y = kV k /\
 (∀ v,Af kvs k = some v -> Q v (upd H3 a (.dK (Bp kvs k)))) /\ (Af kvs k = none -> Q z H3)
section
variable {X:Cx} {o e f:Expr} {apos aW:Pos} {td ty tx:TE}
theorem Z3 (hu:X.A.units + 20 < cLine) (ho:PE X o td) (he:PE X e ty) (hf:PE X f tx) (m:M2 X o "get" apos e f aW):PE X (.Call (.Attribute o "get" apos) [e,f] [] aW) (gj td ty tx):=by
 intro pins s σ H Q I h
 refine wpAny_Call_method m.base m.MY m.line PySem.F.plainAttrs_dict PySem.F.slot_dict_get PySem.F.type_dict_get (C6 (ho pins s σ H _ I h) fun u s1 aO=>?_)
 obtain ⟨x,H1,I1,rx,a,ex,d,q1⟩ := aO
 subst ex
 obtain rfl:u = Value.ref a:=rx
 obtain ⟨t1,t2,_⟩ := S7 I1 d
 refine ⟨t1,t2,?_⟩
 rw [m.trees]
 refine Calls.callWith_builtin rfl (Calls.evalArgs_plain (Calls.spliced_cons (C6 (he pins s1 σ H1 _ I1 q1) fun iv s2 ⟨y,H2,I2,ry,q2⟩ =>
  Calls.spliced_cons (C6 (hf pins s2 σ H2 _ I2 q2) fun fv s3 ⟨z,H3,I3,rz,ov,g,q3⟩=>Calls.spliced_nil ?_))))
 exact ez hu I3 g ry rz fun w' s4 I4 fA=>⟨_,H3,I4,fA,q3⟩
theorem Yo (ho:PE X o td) (he:PE X e ty) (m:M1 X o "pop" apos e aW):PE X (.Call (.Attribute o "pop" apos) [e] [] aW) (fb td ty):=by
 intro pins s σ H Q I h
 refine wpAny_Call_method m.base m.MY m.line PySem.F.plainAttrs_dict PySem.F.slot_dict_pop PySem.F.type_dict_pop (C6 (ho pins s σ H _ I h) fun u s1 aO=>?_)
 obtain ⟨x,H1,I1,rx,a,ex,d,q1⟩ := aO
 subst ex
 obtain rfl:u = Value.ref a:=rx
 obtain ⟨t1,t2,_⟩ := S7 I1 d
 refine ⟨t1,t2,?_⟩
 rw [m.trees]
 refine Calls.callWith_builtin rfl (Calls.evalArgs_plain (Calls.spliced_cons (C6 (he pins s1 σ H1 _ I1 q1) fun iv s2 ⟨y,H2,I2,ry,kvs,k,v,ea,ey,l,q2⟩=>Calls.spliced_nil ?_)))
 subst ey
 exact ln I2 ea ry l (.inl rfl) fun w' s3 I3 fA=>⟨v,_,I3,fA,q2⟩
end
section
variable {X:Cx} {pins:List (Addr × Obj)} {σ:St} {H:Hp} {s:Shared} {a:Addr} {kvs:List (Dh × V)} {A:Around} {E:Value -> Shared -> Prop}
end
section
variable {X:Cx} {pins:List (Addr × Obj)} {σ:St} {H:Hp} {s:Shared} {a:Addr} {y:V} {u:Value} {A:Around} {E:Value -> Shared -> Prop}
end
section
variable {κ:Type} [DecidableEq κ]
theorem Hc {kvs:List (κ × V)} {k:κ} (h:Af kvs k = none):¬ k ∈ kvs.map (·.1):=by
 intro m
 obtain ⟨p,hp,e⟩ := List.mem_map.mp m
 have q:(kvs.any fun kv=>decide (kv.1 = k)) = true:=List.any_eq_true.mpr ⟨p,hp,decide_eq_true e⟩
 rw [Dl,h] at q
 exact absurd q (by simp)
theorem Ul {kvs:List (κ × V)} {k:κ} {v:V} (h:Af kvs k = some v):k ∈ kvs.map (·.1):=by
 have q:(kvs.any fun kv=>decide (kv.1 = k)) = true:=by
  rw [Dl,h]
  all_goals rfl
 obtain ⟨p,hp,e⟩ := List.any_eq_true.mp q
 exact List.mem_map.mpr ⟨p,hp,of_decide_eq_true e⟩
theorem V3:∀ {l:List κ} {k:κ},l.Nodup -> ¬ k ∈ l -> (l ++ [k]).Nodup
 | [],k,_,_=>by simp
 | a :: r,k,h,hk=>by
  obtain ⟨h1,h2⟩ := List.nodup_cons.mp h
  show (a :: (r ++ [k])).Nodup
  refine List.nodup_cons.mpr ⟨fun m=>?_,V3 h2 fun m=>hk (List.mem_cons.mpr (Or.inr m))⟩
  rcases List.mem_append.mp m with q | q
  ·exact h1 q
  ·exact hk (List.mem_cons.mpr (Or.inl (List.mem_singleton.mp q).symm))
theorem Zq {kvs:List (κ × V)} {k:κ} (v:V) (hn:(kvs.map (·.1)).Nodup) (h:Af kvs k = none):((Bl kvs k v).map (·.1)).Nodup:=by
 rw [Dk v h,List.map_append]
 exact V3 hn (Hc h)
theorem Wx {p:κ × V} {r:List (κ × V)} {k:κ} (e:p.1 = k):Bp (p :: r) k = Bp r k:=by
 unfold Bp
 rw [List.filter_cons,if_neg (by simp [e])]
end
section
variable {P:Program} {w:World} {A:Around} {E:Value -> Shared -> Prop} {s:Shared}
theorem Yy {it d : Addr} {i n ep : Nat} {ok ov key val : Value} {Q : Value -> Shared -> Prop} (hit : IsItemIter s.heap it d i n ep ok ov)
  (hQ:∀ h',IsItemIterOut h' it d i n ep key val s.heap.objs.size -> h'.get? s.heap.objs.size = some { cls := .type "tuple",data := .seq #[key,val] } -> (∀ b o,b ≠ it -> s.heap.get? b = some o -> h'.get? b = some o) -> Q (.ref s.heap.objs.size) { s with heap:=h' }) :
  wpAny (model P w) A (Builtin.Dict_items.pairFromOwner (.ref it) 6 key val) Q E s:=by
 unfold Builtin.Dict_items.pairFromOwner; refine wpAny_bind (wpAny_newTuple ?_)
 have aM:it < s.heap.objs.size:=Heap.lt_size hit
 have a1:IsItemIter (s.heap.push { cls := .type "tuple",data := .seq #[key,val] }) it d i n ep ok ov:=Heap.get?_push_of_some _ hit
 have a2:(s.heap.push { cls := .type "tuple",data := .seq #[key,val] }).get? s.heap.objs.size = some { cls := .type "tuple",data := .seq #[key,val] }:=Heap.get?_push_size _ rfl
 have a3:∀ b o,s.heap.get? b = some o -> (s.heap.push { cls := .type "tuple",data := .seq #[key,val] }).get? b = some o:=fun b o z=>Heap.get?_push_of_some _ z
 show wpAny (model P w) A (Builtin.Dict_items.ownedTupleIsFree (.ref it) >>= _) Q E { s with heap:=s.heap.push { cls := .type "tuple",data := .seq #[key,val] } }
 generalize s.heap.push { cls := .type "tuple",data := .seq #[key,val] } = h1 at a1 a2 a3 ⊢
 unfold Builtin.Dict_items.ownedTupleIsFree; refine wpAny_bind (wpAny_bind (wpAny_field a1 rfl (x := .none) rfl (wpAny_pure ?_))); simp only [if_true]
 refine wpAny_bind (wpAny_field a1 rfl (x:=ok) rfl (wpAny_bind (wpAny_field a1 rfl (x:=ov) rfl ?_)))
 refine wpAny_bind (wpAny_setField_rec a1 (by simp) fun h2 b2 c2=>wpAny_bind ?_)
 have b2':IsItemIter h2 it d i n ep key ov:=b2
 refine wpAny_setField_rec b2' (by simp) fun h3 b3 c3=>wpAny_bind ?_
 have b3':IsItemIter h3 it d i n ep key val:=b3
 refine wpAny_setField_rec b3' (by simp) fun h4 b4 c4=>wpAny_bind ?_
 have b4':IsItemIterOut h4 it d i n ep key val s.heap.objs.size:=b4
 refine wpAny_setField_rec b4' (by simp) fun h5 b5 c5=>wpAny_bind (wpAny_letGo (wpAny_pure ?_))
 have up:∀ b o,b ≠ it -> h1.get? b = some o -> h5.get? b = some o:=fun b o hb z=>c5.extBut b o hb (c4.extBut b o hb (c3.extBut b o hb (c2.extBut b o hb z)))
 exact hQ h5 b5 (up _ _ (Nat.ne_of_gt aM) a2) fun b o hb z=>up b o hb (a3 b o z)
theorem Ql {it d : Addr} {i ep : Nat} {es : Array DictEntry} {ok ov : Value} {o : Obj} {Q : Option Value -> Shared -> Prop} (hit : IsItemIter s.heap it d i es.size ep ok ov) (fY : s.heap.get? d = some o) (cZ : o.data = .dict es ep)
  {en:DictEntry} (he:es[i]? = some en)
  (hQ:∀ h',IsItemIterOut h' it d (i + 1) es.size ep en.key en.val s.heap.objs.size -> h'.get? s.heap.objs.size = some { cls := .type "tuple",data := .seq #[en.key,en.val] } -> (∀ b o,b ≠ it -> s.heap.get? b = some o -> h'.get? b = some o) -> Q (some (.ref s.heap.objs.size)) { s with heap:=h' }) :
  wpAny (model P w) A (pyNext (.ref it)) Q E s:=by
 have hT:s.TypeIs (.ref it) "dict_itemiterator" := ⟨_,hit,rfl⟩
 have own:Builtin.Dict_items.ownsTuple "dict_itemiterator" = true:=by decide
 unfold pyNext; refine wpAny_bind (wpAny_attempt (wpAny_callSpecial?_slot (name:=Str.ofString "__next__") hT F.slot_dict_itemiterator_next (wpAny_call_entry F.slot_dict_itemiterator_next hT F.entry_dict_itemiterator_next ?_ (F.args_dict_itemiterator_next_1 _))))
 refine wpAny_bind (wpAny_pure (wpAny_bind (wpAny_bind (wpAny_bind (wpAny_typeNameOfWhole_itemiter hT (wpAny_pure (wpAny_bind (wpAny_fieldsOf hit rfl ?_))))))))
 simp only [own,if_true]; show wpAny _ _ (if (Value.ref d == Value.none) = true then _ else _) _ _ s
 rw [if_neg (show ¬ (Value.ref d == Value.none) = true from Bool.false_ne_true)]; refine wpAny_bind (wpAny_pure (wpAny_bind (wpAny_dictEntries fY cZ ?_)))
 rw [if_neg (show ¬ ((es.size:Int) != (es.size:Int)) = true by simp)]; refine wpAny_bind (wpAny_pure (wpAny_bind (wpAny_dictEpoch fY cZ ?_)))
 rw [if_neg (show ¬ ((ep:Int) != (ep:Int)) = true by simp)]; refine wpAny_pure ?_
 simp only [show ¬ ((i:Int) < 0) by omega,if_false,Int.toNat_natCast,he]
 refine wpAny_bind (wpAny_bind (wpAny_typeNameOfWhole_itemiter hT (wpAny_pure (wpAny_bind (wpAny_isOneOf_itemiter hT ?_)))))
 show wpAny _ _ (setField (.ref it) 3 (rawInt ((i:Int) + 1)) >>= _) _ _ s; refine wpAny_bind (wpAny_setField_rec hit (by simp) fun h1 b1 c1=>?_)
 have EF:IsItemIter h1 it d (i + 1) es.size ep ok ov:=by
  have e:((i + 1:Nat):Int) = (i:Int) + 1:=by omega
  unfold IsItemIter; rw [e]; simpa [rawInt] using b1
 have EG:Shared.TypeIs { s with heap:=h1 } (.ref it) "dict_itemiterator" := ⟨_,EF,rfl⟩
 refine wpAny_bind (wpAny_holding (wpAny_bind (wpAny_isOneOf_itemiter EG (wpAny_bind (wpAny_isOneOf_itemiter EG ?_)))))
 have z1:h1.objs.size = s.heap.objs.size:=c1.1
 refine Yy (s:={ s with heap:=h1 }) EF fun h2 e1 e2 e3=>?_
 rw [show (Shared.heap { s with heap:=h1 }).objs.size = s.heap.objs.size from z1] at e1 e2 ⊢
 exact wpAny_pure ⟨_,rfl,wpAny_pure (hQ h2 e1 e2 fun b o hb z=>e3 b o hb (c1.extBut b o hb z))⟩
end
section
variable {X:Cx}
def se (K:PySem.W.Frag):V -> List V -> Hp -> VK -> Prop:=fun x xs H Q=>∃ (sep:Str) (a:Addr) (zs:List Str),x = .str sep /\ xs = [.ref a] /\ B6 K H a (zs.map V.str) /\ zs.length <= 500 /\ (∀ z ∈ zs,z.length <= 30000) /\ sep.length <= 500 /\ Q (.str (Txt.join sep zs)) H
def si (K:PySem.W.Frag):List V -> Hp -> VK -> Prop:=fun xs H Q=>∃ (a C dx:Addr) (fs:List (Str × V)) (c:Value) (v:V),xs = [.ref a,v] /\ H a = some (.ins C dx fs) /\ (∀ u,Ap v u -> u = c) /\ PySem.W.kitOne K (.ref C) c = some true /\ Q (.bl true) H
def tw (K:PySem.W.Frag):R2:=fun x y H Q=>∃ a b xs ys,x = .ref a /\ y = .ref b /\ B6 K H a xs /\ B6 K H b ys /\ xs.length + ys.length <= sizeLine /\ ∀ p,H p = none -> Q (.ref p) (upd H p (.lst (xs ++ ys)))
end
theorem Uo:entryFor table "dict.update.loop" = some Builtin.«dict.update.loop» := entryFor_of_tree (by kernel_rfl)
theorem Oj:plainId "dict.update.loop" = true:=by decide +kernel
section
variable {P:Program} {w:World} {A:Around} {R:Result -> Shared -> Prop} {K:Type} [DecidableEq K] {knd:HeapKind P w K}
def Fl (ps:Nat -> K × Addr × Value) (xs:List (K × Addr × Value)) (i k:Nat):List (K × Addr × Value):=(List.range' i k).foldl (fun xs j=>storedH xs (ps j).1 (ps j).2.1 (ps j).2.2) xs
theorem Qq {xs:List (K × Addr × Value)} {k:K} {a:Addr} {v:Value}:(storedH xs k a v).length <= xs.length + 1:=by
 cases h:atKey xs k with
 | none =>
  rw [storedH_new h,List.length_append]
  exact Nat.le_refl _
 | some p =>
  unfold storedH
  simp [h]
theorem ff {l I d : Addr} {items : Array Value} {ps : Nat -> K × Addr × Value} {h0 : Heap} (no : A.in1.handled = none) (hu : knd.room A.in1) (QD : l ≠ I) (hdI : d ≠ I) (CL : d ≠ l)
  (hit:∀ j v,items[j]? = some v -> ∃ t o n,v = .ref t /\ t ≠ I /\ t ≠ d /\ h0.get? t = some o /\ o.cls = .type "tuple" /\ o.data = .seq #[.ref (ps j).2.1,(ps j).2.2] n)
  (gW:∀ j,j < items.size -> ∀ h:Heap,(∀ b o,b ≠ I -> b ≠ d -> h0.get? b = some o -> h.get? b = some o) -> knd.is h (ps j).1 (ps j).2.1) (MZ:∀ (h h':Heap) (j:Nat) xs,h.IsListIter I l j -> h.DictOfH knd d xs -> (∀ b o,b ≠ I -> h.get? b = some o -> h'.get? b = some o) -> h'.DictOfH knd d xs) :
  ∀ (k i:Nat) (s:Shared) (xs:List (K × Addr × Value)) (tk:Tok),items.size = i + k -> (s.heap.IsListIter I l i /\ s.heap.IsList l items) -> s.heap.DictOfH knd d xs -> (∀ b o,b ≠ I -> b ≠ d -> h0.get? b = some o -> s.heap.get? b = some o) -> xs.length + k <= sizeLine ->
   (∀ h' mJ,h'.DictOfH knd d (Fl ps xs i k) -> (∀ b o,b ≠ I -> b ≠ d -> s.heap.get? b = some o -> h'.get? b = some o) -> R (.ok (.ret .none)) { s with heap:=h',toks:=mJ }) ->
   codeAny (model P w) A (.builtin "dict.update.loop" ⟨[.ref d,.ref I,.int i tk,.none],[]⟩) R s:=by
 have W:=Walks.list (prog:=P) (w:=w) (A:=A.in1) no I l QD items
 intro k
 induction k with
 | zero =>
  intro i s xs tk hk bS hm hf hz hR
  refine codeAny_builtin Uo ?_
  rw [Around.under_plainId Oj _]
  show wpAny (model P w) A.in1 (pyNext (.ref I) >>= _) _ _ s
  have ei:i = items.size:=by omega
  refine wpAny_bind (W.done s _ _ (ei ▸ bS) fun h1 gX k1=>?_)
  show wpAny (model P w) A.in1 (Builtin.Dict.addKeywords d [] >>= _) _ _ _
  refine wpAny_bind ?_
  unfold Builtin.Dict.addKeywords
  refine wpAny_pure (wpAny_pure ?_)
  have iW:∀ b o,b ≠ I -> s.heap.get? b = some o -> h1.get? b = some o:=fun b o hb e=>k1 b o (by simpa using hb) e
  exact hR h1 gX (MZ _ _ _ _ bS.1 hm iW) fun b o hb _ e=>iW b o hb e
 | succ k ih =>
  intro i s xs tk hk bS hm hf hz hR
  refine codeAny_builtin Uo ?_
  rw [Around.under_plainId Oj _]
  show wpAny (model P w) A.in1 (pyNext (.ref I) >>= _) _ _ s
  refine wpAny_bind (W.item i s _ _ (by omega) bS fun v h1 gX hP bE k1=>?_)
  have iW:∀ b o,b ≠ I -> s.heap.get? b = some o -> h1.get? b = some o:=fun b o hb e=>k1 b o (by simpa using hb) e
  obtain ⟨t,o,n,rfl,htI,htd,ht,hc,hd⟩ := hit i _ hP
  have ht1:=iW _ _ htI (hf _ _ htI htd ht)
  have lS:=MZ _ _ _ _ bS.1 hm iW
  have hf1:∀ b o,b ≠ I -> b ≠ d -> h0.get? b = some o -> h1.get? b = some o:=fun b o hb fF e=>iW b o hb (hf b o hb fF e)
  refine wpAny_bind ?_
  refine wpAny_holding ?_
  refine wpAny_bind (wpAny_tryCatch ?_)
  unfold Builtin.Dict.pairItems
  refine wpAny_bind (wpAny_typeOf (T := "tuple") (s:={ s with heap:=h1,toks:=gX }) ⟨o,ht1,hc⟩ ?_)
  rw [if_pos (by decide)]
  refine wpAny_bind (wpAny_seqItems (s:={ s with heap:=h1,toks:=gX }) ht1 hd ?_)
  refine wpAny_pure ?_
  show wpAny (model P w) A.in1 (holding [.ref (ps i).2.1,(ps i).2.2] (dictSet d (.ref (ps i).2.1) (ps i).2.2)) _ _ _
  refine wpAny_holding ?_
  refine wpAny_dictSet_heap (s:={ s with heap:=h1,toks:=gX }) hu (gW i (by omega) h1 hf1) lS (fun h2 CM lP=>?_) (by omega)
  have k2:∀ b o,b ≠ d -> h1.get? b = some o -> h2.get? b = some o:=fun b o hb e=>(lP.2 b hb).trans e
  refine wpAny_pure ⟨plainId_quiet Oj _,?_⟩
  have qP:(storedH xs (ps i).1 (ps i).2.1 (ps i).2.2).length <= xs.length + 1:=Qq
  refine ih (i + 1) _ (storedH xs (ps i).1 (ps i).2.1 (ps i).2.2) _ (by omega) ⟨?_,?_⟩ CM (fun b o hb fF e=>k2 b o fF (hf1 b o hb fF e)) (by omega) fun h' mJ fX dQ=>?_
  ·exact bE.1.at fun o e=>k2 _ _ hdI.symm e
  ·exact bE.2.at fun o e=>k2 _ _ CL.symm e
  ·exact hR h' mJ fX fun b o hb fF e=>dQ b o hb fF (k2 b o fF (iW b o hb e))
end
theorem i9:mroOf (.type "dict") = pure [.type "dict",.type "object"]:=by rw [mroOf_type]; kernel_rfl
theorem Vv:typeLookup (.type "dict") "__new__" = pure (some (.builtin "dict.__new__")):=by rw [typeLookup_type,builtinLookup_eq_fast]; kernel_rfl
theorem Ox:TypeCalled "dict" "dict.__new__" "dict.__init__" :=
 ⟨by decide +kernel,by decide +kernel,⟨_,_,i9⟩,madeBy_type i9 Vv (by decide +kernel),by decide +kernel,by rw [isSubtype_type]; kernel_rfl,PySem.F.slot_dict_init⟩
theorem Kt (a:Value):checkTypeCall "dict" ⟨[a],[]⟩ = pure ():=by kernel_rfl
theorem M6 (a:Value):checkBuiltinCall "dict.__new__" ⟨[.type "dict",a],[]⟩ = pure ():=by kernel_rfl
theorem Jn:entryFor table "dict.__new__" = some Builtin.«dict.__new__» := entryFor_of_tree (by kernel_rfl)
theorem Fh:plainId "dict.__new__" = true:=by decide +kernel
theorem Ls:isSubtype (.type "dict") (.type "dict") = pure true:=by rw [isSubtype_type]; kernel_rfl
theorem Jo (a b:Value):argsOk "dict.__init__" ⟨[a,b],[]⟩ := by
 unfold argsOk
 kernel_rfl
theorem O7:typeLookup (.type "list") (Str.ofString "keys") = pure none:=by rw [typeLookup_type,builtinLookup_eq_fast]; kernel_rfl
section
variable {prog:Program} {w:World} {A:Around} {E:Value -> Shared -> Prop} {s:Shared}
theorem Kz (a : Value) {Q₁ : Value -> Shared -> Prop}
  (h:Q₁ (.ref s.heap.objs.size) { s with heap:=s.heap.push { cls := .type "dict",data := .dict #[] } }) :
  codeAny (model prog w) A (.call (.builtin "dict.__new__") ⟨[.type "dict",a],[]⟩) (wants Q₁ E) s:=by
 refine codeAny_of_tree ?_
 show wpAny _ A.in1 (do checkBuiltinCall "dict.__new__" ⟨[.type "dict",a],[]⟩; again (.builtin "dict.__new__" ⟨[.type "dict",a],[]⟩)) _ _ s
 refine wpAny_bind (wpAny_of_eq (M6 a) (wpAny_pure ⟨plainId_quiet Fh _,codeAny_builtin Jn ?_⟩))
 rw [Around.under_plainId Fh _]
 have rL:=Ls
 have hm:=i9
 obtain ⟨hp,g,d,tk,os⟩ := s
 unfold Builtin.«dict.__new__»
 dsimp only
 wp_walk
 exact h
theorem bq {l : Addr} {xs : Array Value} {k : Nat} {sl : Array (Option Value)} {Q : Option Value -> Shared -> Prop} (hx : s.heap.get? l = some { cls := .type "list", dict := none, data := .seq xs k, slots := sl })
  (hA:A.handled = none) (h:∀ h' tk,(∀ b o,s.heap.get? b = some o -> h'.get? b = some o) -> Q none { s with heap:=h',toks:=tk }):wpAny (model prog w) A (getAttr? (.ref l) (Str.ofString "keys")) Q E s:=by
 obtain ⟨hp,g,d,tk,os⟩ := s
 have hT:∀ mJ,(⟨hp,g,d,mJ,os⟩ : Shared).TypeIs (.ref l) "list" := fun _=>⟨_,hx,rfl⟩
 have f3:=PySem.F.slot_list_getattribute.lookup
 have f4:=PySem.F.slot_list_getattribute.bind (.ref l)
 have f5:=am_list_getattr_none
 have f6:=O7
 have f1:=sub_AttributeError
 unfold getAttr? getAttrBy?
 repeat (any_goals (first | assumption | exact hT _ | ((with_reducible show wpAny _ _ (call (Value.builtin "list.__getattribute__") _ _) _ _ _); refine call_meets PySem.F.slot_list_getattribute (hT _) am_entry_list_getattribute (PySem.F.args_list_getattribute_2 _ _) (meets_getattribute_miss_list _ _ _ _ _ _ f6 (by decide)) ⟨hx,hA,fun h' mJ e lQ=>?_⟩) | wp_step))
 obtain ⟨t',u',he⟩ := lQ.there
 show wpAny _ _ (getattributeRaised _ _ _ _ _ _ _) _ _ _
 unfold getattributeRaised
 repeat (any_goals (first | assumption | wp_step))
 exact h h' mJ lQ.keeps
end
section
variable {P:Program} {w:World} {A:Around} {E:Value -> Shared -> Prop} {s:Shared} {R:Result -> Shared -> Prop}
theorem Rl {d l : Addr} {xs : Array Value} {k : Nat} {sl : Array (Option Value)} {Q : PySem.Fin -> Shared -> Prop} (hA : A.handled = none) (hd : s.TypeIs (.ref d) "dict") (hl : s.heap.get? l = some { cls := .type "list", dict := none, data := .seq xs k, slots := sl })
  (h:∀ (h':Heap) (tk:Nat),(∀ b o,s.heap.get? b = some o -> h'.get? b = some o) -> Q (.again (.builtin "dict.update.loop" ⟨[.ref d,.ref h'.objs.size,.int 0 0,.none],[]⟩)) { s with heap:=h'.push { cls := .type "list_iterator",data := .fields #[.ref l,.int 0 0] },toks:=tk }) :
  wpAny (model P w) A (Builtin.«dict.__init__» ⟨[.ref d,.ref l],[]⟩) Q E s:=by
 unfold Builtin.«dict.__init__» Builtin.Dict.selfAndRest
 refine wpAny_bind (wpAny_bind (wpAny_notOrdered_dict hd ?_))
 refine wpAny_bind ?_
 show wpAny _ _ (pure d) _ _ _
 refine wpAny_pure (wpAny_pure ?_)
 show wpAny _ _ (Builtin.Dict.updateFrom "dict.__init__" d (.ref l) [] .none) _ _ _
 unfold Builtin.Dict.updateFrom
 refine wpAny_bind (wpAny_typeOf (T := "list") ⟨_,hl,rfl⟩ ?_)
 rw [if_pos (by decide)]
 refine wpAny_bind (bq hl hA fun h1 gX k1=>?_)
 rw [if_pos (show (none:Option Value).isNone = true from rfl)]
 refine wpAny_bind (wpAny_rule ?_)
 refine wpAny_bind (wpAny_pyIter_list (s:={ s with heap:=h1,toks:=gX }) (items:=xs) ⟨_,k1 _ _ hl,rfl,k,rfl⟩ ?_)
 exact wpAny_pure (h h1 gX k1)
theorem Rs {K : Type} [DecidableEq K] {knd : HeapKind P w K} {l : Addr} {xs : Array Value} {k : Nat} {sl : Array (Option Value)} {ps : Nat -> K × Addr × Value} {Q : Value -> Shared -> Prop} (hA : A.handled = none) (hu : knd.room A.in1.in1) (hz : xs.size <= sizeLine)
  (hl:s.heap.get? l = some { cls := .type "list",dict:=none,data := .seq xs k,slots:=sl })
  (hit:∀ j v,xs[j]? = some v -> ∃ t o n,v = .ref t /\ s.heap.get? t = some o /\ o.cls = .type "tuple" /\ o.data = .seq #[.ref (ps j).2.1,(ps j).2.2] n)
  (gW:∀ j,j < xs.size -> ∀ h:Heap,(∀ b o,s.heap.get? b = some o -> h.get? b = some o) -> knd.is h (ps j).1 (ps j).2.1)
  (MZ:∀ d I (h h':Heap) (j:Nat) xs,h.IsListIter I l j -> h.DictOfH knd d xs -> (∀ b o,b ≠ I -> h.get? b = some o -> h'.get? b = some o) -> h'.DictOfH knd d xs)
  (hem:∀ (h:Heap) d,h.get? d = some { cls := .type "dict",data := .dict #[] } -> h.DictOfH knd d [])
  (q:∀ h' tk,h'.DictOfH knd s.heap.objs.size (Fl ps [] 0 xs.size) -> (∀ b o,s.heap.get? b = some o -> h'.get? b = some o) -> Q (.ref s.heap.objs.size) { s with heap:=h',toks:=tk }) :
  wpAny (model P w) A (call (.type "dict") [.ref l]) Q E s:=by
 refine callType_codes (Q₁:=fun obj s₁=>obj = .ref s.heap.objs.size /\ s₁ = { s with heap:=s.heap.push { cls := .type "dict",data := .dict #[] } }) Ox (Kt _) PySem.F.entry_dict_init (Kz _ ⟨rfl,rfl⟩) fun obj s1 k1=>?_
 obtain ⟨rfl,rfl⟩ := k1
 have hD:(s.heap.push { cls := .type "dict",data := .dict #[] }).get? s.heap.objs.size = some { cls := .type "dict",data := .dict #[] }:=Heap.get?_push_size _ rfl
 refine ⟨⟨_,hD,rfl⟩,Jo _ _,?_⟩
 refine Rl (s:={ s with heap:=s.heap.push { cls := .type "dict",data := .dict #[] } }) hA ⟨_,hD,rfl⟩ (Heap.get?_push_of_some _ hl) fun h1 gX k1=>?_
 refine ⟨plainId_quiet Oj _,?_⟩
 have ks:∀ b o,s.heap.get? b = some o -> h1.get? b = some o:=fun b o e=>k1 b o (Heap.get?_push_of_some _ e)
 have hDl:s.heap.objs.size < h1.objs.size:=Heap.lt_size (k1 _ _ hD)
 have dY:∀ b o,s.heap.get? b = some o -> b ≠ s.heap.objs.size /\ b ≠ h1.objs.size:=fun b o e=>⟨Nat.ne_of_lt (Heap.lt_size e),Nat.ne_of_lt (Heap.lt_size (ks b o e))⟩
 have kp:∀ b o,h1.get? b = some o -> (h1.push { cls := .type "list_iterator",data := .fields #[.ref l,.int 0 0] }).get? b = some o:=fun b o e=>Heap.get?_push_of_some _ e
 have hI:(h1.push { cls := .type "list_iterator",data := .fields #[.ref l,.int 0 0] }).get? h1.objs.size = some { cls := .type "list_iterator",data := .fields #[.ref l,.int 0 0] }:=Heap.get?_push_size _ rfl
 obtain ⟨nl1,nl2⟩ := dY _ _ hl
 refine ff (knd:=knd) (A:=A.in1) (l:=l) (I:=h1.objs.size) (d:=s.heap.objs.size) (items:=xs) (ps:=ps) (h0:=s.heap) hA hu nl2 (Nat.ne_of_lt hDl) nl1.symm ?_ ?_ (MZ _ _) xs.size 0 _ [] 0 (by omega) ⟨⟨_,hI,rfl,rfl⟩,⟨_,kp _ _ (ks _ _ hl),rfl,k,rfl⟩⟩ (hem _ _ (kp _ _ (k1 _ _ hD))) (fun b o _ _ e=>kp _ _ (ks b o e)) (by simpa using hz) fun h' mJ fX dQ=>?_
 ·intro j v hv
  obtain ⟨t,o,n,rfl,ht,hc,hd⟩ := hit j v hv
  exact ⟨t,o,n,rfl,(dY _ _ ht).2,(dY _ _ ht).1,ht,hc,hd⟩
 ·intro j hj h2 hf
  exact gW j hj h2 fun b o e=>hf b o (dY _ _ e).2 (dY _ _ e).1 e
 ·exact ⟨rfl,q h' mJ fX fun b o e=>dQ b o (dY _ _ e).2 (dY _ _ e).1 (kp _ _ (ks b o e))⟩
end
theorem Bo.frame {prog:Program} {w:World} {h h':Heap} {k:List Int × Int} {a I l:Addr} {j:Nat} (x:Bo prog w h k a) (hI:h.IsListIter I l j) (hk:∀ b o,b ≠ I -> h.get? b = some o -> h'.get? b = some o):Bo prog w h' k a:=by
 obtain ⟨o,n,u,t,ho,hc,hd,o2,aC,n2,iJ,jC,hd2,hi⟩ := x
 obtain ⟨oi,NA,QH,_⟩ := hI
 have n1:a ≠ I:=by
  rintro rfl
  rw [NA] at ho
  cases ho
  rw [QH] at hc
  exact absurd hc (by decide)
 have QI:u ≠ I:=by
  rintro rfl
  rw [NA] at iJ
  cases iJ
  rw [QH] at jC
  exact absurd jC (by decide)
 exact ⟨o,n,u,t,hk _ _ n1 ho,hc,hd,o2,aC,n2,hk _ _ QI iJ,jC,hd2,hi⟩
theorem Bo.ext {prog:Program} {w:World} {h h':Heap} {k:List Int × Int} {a:Addr} (x:Bo prog w h k a) (hk:∀ b o,h.get? b = some o -> h'.get? b = some o):Bo prog w h' k a:=by
 obtain ⟨o,n,u,t,ho,hc,hd,o2,aC,n2,iJ,jC,hd2,hi⟩ := x
 exact ⟨o,n,u,t,hk _ _ ho,hc,hd,o2,aC,n2,hk _ _ iJ,jC,hd2,hi⟩
theorem Tg {prog:Program} {w:World} {d I l:Addr} {h h':Heap} {j:Nat} {xs:List ((List Int × Int) × Addr × Value)} (hI:h.IsListIter I l j) (hm:h.DictOfH (Bv prog w) d xs) (hk:∀ b o,b ≠ I -> h.get? b = some o -> h'.get? b = some o):h'.DictOfH (Bv prog w) d xs:=by
 obtain ⟨o,es,ep,ho,hc,hd,he,NB,hn⟩ := hm
 have n1:d ≠ I:=by
  rintro rfl
  obtain ⟨oi,NA,QH,hdi⟩ := hI
  rw [NA] at ho
  cases ho
  rw [hdi] at hd
  exact nomatch hd
 exact ⟨o,es,ep,hk _ _ n1 ho,hc,hd,he,fun x hx=>Bo.frame (NB x hx) hI hk,hn⟩
def D6 (kvs:List ((List Int × Int) × V)) (ps:List ((List Int × Int) × V)):List ((List Int × Int) × V):=ps.foldl (fun acc p=>Bl acc p.1 p.2) kvs
theorem K4:∀ (ps kvs:List ((List Int × Int) × V)),(D6 kvs ps).length <= kvs.length + ps.length
 | [],kvs=>Nat.le_refl _
 | p :: ps,kvs=>by
  have h1:=K4 ps (Bl kvs p.1 p.2)
  have h2:=D1 kvs p.1 p.2
  show (D6 (Bl kvs p.1 p.2) ps).length <= _
  rw [List.length_cons]
  omega
theorem Yv {H : Hp} {ps : List ((List Int × Int) × V)} {f : Nat -> (List Int × Int) × Addr × Value} (hf : ∀ (j : Nat) q, ps[j]? = some q -> (f j).1 = q.1 /\ Dx H (f j).2.1 q.1 /\ Ap q.2 (f j).2.2) :
  ∀ (k i:Nat) (kvs:List ((List Int × Int) × V)) (xs:List ((List Int × Int) × Addr × Value)),i + k = ps.length -> KT H kvs xs -> KT H (D6 kvs (ps.drop i)) (Fl f xs i k)
 | 0,i,kvs,xs,e,r=>by
  rw [List.drop_of_length_le (by omega)]
  exact r
 | k + 1,i,kvs,xs,e,r=>by
  have hi:i < ps.length:=by omega
  obtain ⟨e1,e2,e3⟩ := hf i ps[i] (List.getElem?_eq_getElem hi)
  rw [List.drop_eq_getElem_cons hi]
  show KT H (D6 (Bl kvs ps[i].1 ps[i].2) (ps.drop (i + 1))) (Fl f (storedH xs (f i).1 (f i).2.1 (f i).2.2) (i + 1) k)
  rw [e1]
  exact Yv hf k (i + 1) _ _ (by omega) (r.put _ e2 e3)
section
variable {X:Cx}
def gl (K:PySem.W.Frag):List V -> Hp -> VK -> Prop:=fun xs H Q=>∃ (p:Addr) (us:List V) (ps:List ((List Int × Int) × V)),xs = [.ref p] /\ B6 K H p us /\ us.length = ps.length /\
 (∀ (j:Nat) u q,us[j]? = some u -> ps[j]? = some q -> ∃ t b,u = .ref t /\ H t = some (.tup [.ref b,q.2]) /\ Dx H b q.1) /\ ∀ d,H d = none -> Q (.ref d) (upd H d (.dT (D6 [] ps)))
theorem Ki (K:PySem.W.Frag) (hu:X.A.units + 24 < cLine) (hc:X.calm = true) (hK:X.K = K:=by rfl):Di X (.type "dict") (gl K):=by
 subst hK
 intro pins s σ H xs QJ Q I r h
 obtain ⟨p,us,ps,rfl,hq,hlen,fG,q⟩ := h
 obtain ⟨u0,rfl,ru⟩ := As.one r
 cases ru
 obtain ⟨aC,rv,pl,hz⟩ := I.list hq
 obtain ⟨⟨ocls,od,odata,gK⟩,n,e,jF,tL,tM⟩ := pl
 simp only at jF tL tM
 subst jF tL tM
 have qP:=As.length rv
 have ex:∀ j:Nat,∃ x:(List Int × Int) × Addr × Value,∀ q,ps[j]? = some q -> (x.1 = q.1 /\ Dx H x.2.1 q.1 /\ Ap q.2 x.2.2) /\ ∀ v,aC[j]? = some v -> ∃ t o n,v = .ref t /\ s.heap.get? t = some o /\ o.cls = .type "tuple" /\ o.data = .seq #[.ref x.2.1,x.2.2] n:=by
  intro j
  cases hj:ps[j]? with
  | none=>exact ⟨(([],0),0,.none),fun q z=>nomatch z⟩
  | some q =>
   have QK:=(List.getElem?_eq_some_iff.mp hj).1
   have hju:us[j]? = some us[j]:=List.getElem?_eq_getElem (by omega)
   obtain ⟨t,b,eu,ht,hb⟩ := fG j _ q hju hj
   obtain ⟨_,gT,r2,o,h1,h2,m,h3⟩ := I.aH t _ ht
   obtain ⟨v1,v2,rfl,rv1,rv2⟩ := As.two r2
   cases rv1
   refine ⟨(q.1,b,v2),fun q' z=>?_⟩
   cases z
   refine ⟨⟨rfl,hb,rv2⟩,fun v hv=>?_⟩
   obtain ⟨w',ew,fA⟩ := rv.get hju
   rw [ew] at hv
   cases hv
   rw [eu] at fA
   cases fA
   exact ⟨t,o,m,rfl,h1,h2,h3⟩
 obtain ⟨f,hf⟩ := Classical.axiomOfChoice ex
 have hA:=I.ok.hd hc
 refine Rs (knd:=Bv X.prog X.w) (ps:=f) hA (D0 (A:=X.A.in1) (by show X.A.units + 1 + 20 < cLine; omega)) (by rw [List.size_toArray]; omega) e ?_ ?_ (fun d I' h h' j xs hI hm hk=>Tg hI hm hk) ?_ fun h' tk hm hk=>?_
 ·intro j v hv
  rw [List.getElem?_toArray] at hv
  have QK:=(List.getElem?_eq_some_iff.mp hv).1
  exact (hf j _ (List.getElem?_eq_getElem (show j < ps.length by omega))).2 v hv
 ·intro j hj h2 rM
  rw [List.size_toArray] at hj
  obtain ⟨⟨e1,e2,_⟩,_⟩ := hf j _ (List.getElem?_eq_getElem (show j < ps.length by omega))
  rw [e1]
  exact Bo.ext (Fp I.aH e2) rM
 ·intro h2 d hd
  exact ⟨_,#[],0,hd,⟨rfl,rfl,rfl⟩,rfl,rfl,(fun x hx=>nomatch hx),List.nodup_nil⟩
 ·have fB:H s.heap.objs.size = none:=I.aH.fresh (Nat.le_refl _)
  rw [List.size_toArray] at hm
  have kt:KT H (D6 [] (ps.drop 0)) (Fl f [] 0 aC.length):=Yv (fun j q z=>(hf j q z).1) aC.length 0 [] [] (by omega) .nil
  rw [List.drop_zero] at kt
  obtain ⟨o,es,ep,ho,hex,hd,he,_,hn⟩ := hm
  have hlp:(D6 [] ps).length <= sizeLine:=by
   have z1:=K4 ps []
   rw [List.length_nil] at z1
   omega
  have EH:Bh X.prog X.w (upd H s.heap.objs.size (.dT (D6 [] ps))) h' s.heap.objs.size (.dT (D6 [] ps)) :=
   ⟨hlp,beq_eq_false_iff_ne.mpr (Ne.symm (Nat.ne_of_lt I.big)),_,kt.keeps (fun b ys eb=>by rw [Aa (Ad eb fB)]; exact eb),o,es,ep,ho,hex,hd,he,hn⟩
  exact ⟨.ref s.heap.objs.size,_,I.laid (t':=tk) hk (Nat.le_refl _) EH,rfl,q _ fB⟩
end
section
variable {X:Cx} {pins:List (Addr × Obj)} {σ:St} {H:Hp} {s:Shared} {k:Nat}
theorem Fx (I:Ag X pins σ H s) {d:PyData} {v:V} {u:Value} (h:Rp H d v) (r:Ap v u):∃ as,Reads s.heap u d as:=Cp I d v u h r
noncomputable def Hm (h:Heap) (d:PyData) (w:Value):Bool:=open Classical in if z:∃ e as,Reads h w e as /\ e.canLay0 = true then PyData.eqv z.choose d else false
theorem K9 {h:Heap} {d e:PyData} {w:Value} {as:List Addr} (r:Reads h w e as) (hc:e.canLay0 = true):Hm h d w = PyData.eqv e d:=by
 have z:∃ e as,Reads h w e as /\ e.canLay0 = true:=⟨e,as,r,hc⟩
 unfold Hm
 rw [dif_pos z]
 obtain ⟨bs,r',eZ⟩ := z.choose_spec
 rw [(PySem.SeqAt.Reads.unique e _ w as bs hc r r')]
theorem Ps (I:Ag X pins σ H s) {d:PyData}:∀ {ds:List PyData} {vs:List V} {us:List Value},aD H ds vs -> As vs us -> us.any (Hm s.heap d) = ds.any fun e=>PyData.eqv e d
 | [],vs,us,h,r=>by
  unfold aD at h
  subst h
  cases r
  rfl
 | e :: ds,vs,us,h,r=>by
  unfold aD at h
  obtain ⟨x,xs,rfl,h1,h2⟩ := h
  cases r with
  | cons r1 r2 =>
   obtain ⟨as,q⟩ := Fx I h1 r1
   rw [List.any_cons,List.any_cons,K9 q (Cl e x h1),Ps I h2 r2]
theorem K7 (I:Ag X pins σ H s) {A:Around} {d:PyData} {x:V} {v:Value} (hx:Rp H d x) (rx:Ap x v) (hu:A.units + d.depth < cLine):∀ {ds:List PyData} {vs:List V} {us:List Value},aD H ds vs -> As vs us -> ∀ w ∈ us,SeqAt.EqAt A s w v (Hm s.heap d w)
 | [],vs,us,h,r,w,hw=>by
  unfold aD at h
  subst h
  cases r
  cases hw
 | e :: ds,vs,us,h,r,w,hw=>by
  unfold aD at h
  obtain ⟨y,ys,rfl,h1,h2⟩ := h
  cases r with
  | cons r1 r2 =>
   rcases List.mem_cons.mp hw with z | z
   ·subst z
    obtain ⟨as,q⟩ := Fx I h1 r1
    obtain ⟨bs,q2⟩ := Fx I hx rx
    rw [K9 q (Cl e y h1)]
    exact PySem.SeqAt.eqAt_reads e d A s _ _ _ _ q q2 (Cl e y h1) (Cl d x hx) (by omega)
   ·exact K7 I hx rx hu h2 r2 w z
end
section
variable {X:Cx} {k:Nat}
def qk (K:PySem.W.Frag) (neg:Bool):R2:=fun x y H Q=>∃ (p:Addr) (us:List V) (d:PyData) (ds:List PyData),y = .ref p /\ B6 K H p us /\ Rp H d x /\ aD H ds us /\ d.depth <= 50 /\ Q (.bl (if neg then !(ds.any fun e=>PyData.eqv e d) else ds.any fun e=>PyData.eqv e d)) H
theorem N7 (K:PySem.W.Frag) (hr:Cm k X.A) (hK:X.K = K:=by rfl):J5 X (compareOp .NotIn) (qk K true):=by
 subst hK
 intro pins s σ H x y v u Q I rx ry h
 obtain ⟨p,us,d,ds,rfl,hq,hx,hall,hd,q⟩ := h
 cases ry
 obtain ⟨aC,r,pl,hz⟩ := I.list hq
 have hu:=hr.units
 refine SeqAt.notIn_listAt (Hm s.heap d) pl.isList (fun w hw=>K7 I hx rx (by show X.A.units + 1 + d.depth < cLine; omega) hall r w (by simpa using hw)) ⟨.bl _,H,I,rfl,?_⟩
 rw [show aC.toArray.any (Hm s.heap d) = aC.any (Hm s.heap d) by simp,Ps I hall r]
 exact q
end
abbrev pe (K:PySem.W.Frag):TG:=Zh K 3 (N5 (Fn 0) (N5 (Fn 1) (N5 (Fn 2) iw)))
theorem Fo {k:Nat} {A:Around} (hr:Cm k A):A.units + 20 < cLine:=by have:=hr.units; omega
theorem lh {k:Nat} {A:Around} (hr:Cm k A):A.units + 24 < cLine:=by have:=hr.units; omega
section
variable {X:Cx}
theorem Zj {e:Expr} {t:TE} (h:PE X e t):PE X e (fun σ H Q=>∃ N:VK,t σ H N /\ ∀ v H',N v H' -> Q v H'):=by
 intro pins s σ H Q I z
 obtain ⟨N,z,m⟩ := z
 refine C6 (h pins s σ H N I z) fun v s1 z1=>?_
 obtain ⟨x,H1,I1,r1,q1⟩ := z1
 exact ⟨x,H1,I1,r1,m _ _ q1⟩
end
def K6:HO -> Prop
 | .dK _=>True
 | .dT _=>True
 | _=>False
section
variable {X:Cx} {pins:List (Addr × Obj)} {σ:St} {H:Hp} {s:Shared} {d:Addr}
theorem Ag.swap {v u:HO} (I:Ag X pins σ H s) (e:H d = some v) (n1:∀ xs,v ≠ .tup xs) (n2:∀ ps,v ≠ .qM ps) (n3:∀ y,v ≠ .own y) (n4:∀ o u,X.H₀ d ≠ some (.bG o u)) (ok:Bh X.prog X.w (upd H d u) s.heap d u):Ag X pins σ (upd H d u) s:=by
 have ht:∀ b xs,H b = some (.tup xs) -> (upd H d u) b = some (.tup xs):=fun b xs z=>by
  rw [Aa (fun y=>by rw [y,e] at z; exact n1 _ (Option.some.inj z))]
  exact z
 have hn:∀ b,H b = none -> (upd H d u) b = none:=fun b z=>by
  rw [Aa (fun y=>by rw [y,e] at z; cases z)]
  exact z
 refine ⟨I.ok,I.os,I.bare,⟨I.base.keep,I.base.slot,fun b o q n hx=>hn b (I.base.free b o q n hx),I.base.there,fun b xs q=>ht b xs (I.base.aQ b xs q),fun b o x q=>?_,fun b ps q=>?_⟩,I.loc,I.cell,hn _ I.free,fun x c z=>hn c (I.aY x c z),fun p hp=>?_,fun b o q=>?_,I.len⟩
 ·have hb : b ≠ d := fun y => by
   rw [y] at q
   exact n4 o x q
  rw [Aa hb]
  exact I.base.cU b o x q
 ·obtain ⟨m,z⟩ := I.base.dU b ps q
  refine ⟨m,?_⟩
  rw [Aa (fun y=>by rw [y,e] at z; exact n2 _ (Option.some.inj z))]
  exact z
 ·obtain ⟨a,b,c⟩ := I.pin p hp
  exact ⟨a,hn _ b,c⟩
 ·by_cases hb:b = d
  ·subst hb
   rw [A5] at q
   cases q
   exact ok
  ·rw [Aa hb] at q
   refine (I.aH b o q).eP (fun _ _ _ z=>z) (fun c z=>?_) ht
   rw [Aa (fun y=>by rw [y,e] at z; exact n3 _ (Option.some.inj z))]
   exact z
theorem Ag.EI {v:HO} (I:Ag X pins σ H s) (e:H d = some v) (hv:K6 v):∀ o u,X.H₀ d ≠ some (.bG o u):=fun o u z=>by
 have y:=I.base.cU d o u z
 rw [e] at y
 cases y
 exact hv
theorem Ag.bG {v:HO} (I:Ag X pins σ H s) (e:H d = some v) (hv:K6 v):∃ o,s.heap.get? d = some o /\ Ag X pins σ (upd H d (.bG o v)) s:=by
 have aH:=I.aH d v e
 obtain ⟨o,ho⟩ : ∃ o,s.heap.get? d = some o:=by
  cases v with
  | dK kvs=>obtain ⟨_,_,_,_,o,_,_,z,_⟩ := aH; exact ⟨o,z⟩
  | dT kvs=>obtain ⟨_,_,_,_,o,_,_,z,_⟩ := aH; exact ⟨o,z⟩
  | _=>exact hv.elim
 have n1:∀ xs,v ≠ .tup xs:=fun xs z=>by rw [z] at hv; exact hv
 have n2:∀ ps,v ≠ .qM ps:=fun ps z=>by rw [z] at hv; exact hv
 have n3:∀ y,v ≠ .own y:=fun y z=>by rw [z] at hv; exact hv
 refine ⟨o,ho,I.swap e n1 n2 n3 (I.EI e hv) ⟨ho,aH.eP (fun _ _ _ z=>z) (fun c z=>?_) (fun b xs z=>?_)⟩⟩
 ·rw [Aa (fun y=>by rw [y,e] at z; exact n3 _ (Option.some.inj z))]
  exact z
 ·rw [Aa (fun y=>by rw [y,e] at z; exact n1 _ (Option.some.inj z))]
  exact z
theorem Ag.QL {v:HO} {o:Obj} (I:Ag X pins σ H s) (e:H d = some (.bG o v)) (n4:∀ o u,X.H₀ d ≠ some (.bG o u)):Ag X pins σ (upd H d v) s:=by
 refine I.swap e (fun _ z=>nomatch z) (fun _ z=>nomatch z) (fun _ z=>nomatch z) n4 ((I.aH d _ e).2.eP (fun _ _ _ z=>z) (fun c z=>?_) (fun b xs z=>?_))
 ·rw [Aa (fun y=>by rw [y,e] at z; cases z)]
  exact z
 ·rw [Aa (fun y=>by rw [y,e] at z; cases z)]
  exact z
end
def jz (t:TS):TS:=fun D σ H=>∃ d u,K6 u /\ H d = some u /\ t { D with nx:=fun σ' H'=>∃ o,H' d = some (.bG o u) /\ D.nx σ' (upd H' d u) } σ H
def rn (t:TE):TE:=fun σ H Q=>∃ d u,K6 u /\ H d = some u /\ t σ H fun v H'=>∃ o,H' d = some (.bG o u) /\ Q v (upd H' d u)
section
variable {X:Cx}
theorem Oe {st:Stmt} {t:TS} (h:PS X st t):PS X st (jz t):=by
 intro pins s σ H D I z
 obtain ⟨d,u,hu,e,z⟩ := z
 have n4:=I.EI e hu
 refine C6 (h pins s σ H _ I z) fun f s1 q=>?_
 cases f with
 | next =>
  obtain ⟨σ',H',I',o,e',q'⟩ := q
  exact ⟨σ',_,I'.QL e' n4,q'⟩
 | brk=>exact q
 | cont=>exact q
 | ret v=>exact q
end
section
variable {P:Program} {w:World} {A:Around} {E:Value -> Shared -> Prop} {s:Shared}
theorem Qz {d : Addr} {o : Obj} {Q : Value -> Shared -> Prop} (hs : (d == sysModules) = false) (ho : s.heap.get? d = some o) (hx : o.ExactDict)
  (h:Q (.ref s.heap.objs.size) { s with heap:=s.heap.push { cls := .type "dict_items",data := .fields #[.ref d] } }):wpAny (model P w) A (call (.builtin "dict.items") [.ref d]) Q E s:=by
 have hT:s.TypeIs (.ref d) "dict" := ⟨o,ho,hx.1⟩
 refine wpAny_call_entry F.slot_dict_items hT F.entry_dict_items ?_ (F.args_dict_items_1 _)
 unfold Builtin.«dict.items» Builtin.Dict.noArgs
 refine wpAny_bind (wpAny_bind (wpAny_notOrdered_dict hT ?_))
 refine wpAny_bind (wpAny_of_eq (a:=()) rfl ?_)
 refine wpAny_bind (wpAny_of_eq (a:=Value.ref d) rfl ?_)
 refine wpAny_of_eq (a:=d) rfl ?_
 refine wpAny_bind ?_
 unfold Builtin.Dict.showsAll
 rw [hs,if_neg Bool.false_ne_true]
 refine wpAny_pure ?_
 refine wpAny_bind ?_
 unfold newFields
 exact wpAny_newObj_type (wpAny_pure ⟨_,rfl,h⟩)
theorem Uy {v d : Addr} {o : Obj} {es : Array DictEntry} {ep : Nat} {Q : Value -> Shared -> Prop} (hv : s.heap.IsItemsView v d) (ho : s.heap.get? d = some o) (cZ : o.data = .dict es ep)
  (h:Q (.ref s.heap.objs.size) { s with heap:=s.heap.push { cls := .type "dict_itemiterator",data := .fields #[.none,.bool false,.ref d,.int 0 0,.int es.size 0,.int ep 0,.none,.none] } }):wpAny (model P w) A (pyIter (.ref v)) Q E s:=by
 obtain ⟨ov,NC,hc,hd⟩ := hv
 have hT:s.TypeIs (.ref v) "dict_items" := ⟨ov,NC,hc⟩
 refine wpAny_pyIter_slot hT F.slot_dict_items_iter (wpAny_call_entry F.slot_dict_items_iter hT F.entry_dict_items_iter ?_ (F.args_dict_items_iter_1 _))
 unfold Builtin.«dict_items.__iter__» Builtin.Dict_items.slot0 Builtin.Dict_items.dictOf Builtin.Dict_items.newIterator
 refine wpAny_bind (wpAny_bind (wpAny_of_eq (a:=(Value.ref v,[])) rfl (wpAny_pure ?_)))
 refine wpAny_bind (wpAny_bind (wpAny_field NC hd (x := .ref d) rfl (wpAny_of_eq (a:=d) rfl ?_)))
 refine wpAny_bind (wpAny_bind (wpAny_dictEntries ho cZ (wpAny_bind (wpAny_dictEpoch ho cZ ?_))))
 show wpAny (model P w) _ (newObj (.type "dict_itemiterator") (.fields #[.none,.bool false,.ref d,.int 0 0,.int es.size 0,.int ep 0,.none,.none]) none) _ _ _
 refine wpAny_newObj_type (wpAny_pure ⟨_,rfl,"dict_itemiterator",_,⟨_,Heap.get?_push_size _ rfl,rfl⟩,F.slot_dict_itemiterator_next.lookup,h⟩)
theorem Z0 {it d : Addr} {i ep : Nat} {es : Array DictEntry} {ok ov : Value} {o : Obj} {Q : Option Value -> Shared -> Prop} (hh : A.handled = none) (hit : IsItemIter s.heap it d i es.size ep ok ov) (fY : s.heap.get? d = some o) (cZ : o.data = .dict es ep)
  (he:es[i]? = none) (hQ:∀ h',Heap.ExtBut it s.heap h' -> Q none { s with heap:=h' }):wpAny (model P w) A (pyNext (.ref it)) Q E s:=by
 have hT:s.TypeIs (.ref it) "dict_itemiterator" := ⟨_,hit,rfl⟩
 have own:Builtin.Dict_items.ownsTuple "dict_itemiterator" = true:=by decide
 unfold pyNext; refine wpAny_bind (wpAny_attempt (wpAny_callSpecial?_slot (name:=Str.ofString "__next__") hT F.slot_dict_itemiterator_next (wpAny_call_entry F.slot_dict_itemiterator_next hT F.entry_dict_itemiterator_next ?_ (F.args_dict_itemiterator_next_1 _))))
 refine wpAny_bind (wpAny_pure (wpAny_bind (wpAny_bind (wpAny_bind (wpAny_typeNameOfWhole_itemiter hT (wpAny_pure (wpAny_bind (wpAny_fieldsOf hit rfl ?_))))))))
 simp only [own,if_true]; show wpAny _ _ (if (Value.ref d == Value.none) = true then _ else _) _ _ s
 rw [if_neg (show ¬ (Value.ref d == Value.none) = true from Bool.false_ne_true)]; refine wpAny_bind (wpAny_pure (wpAny_bind (wpAny_dictEntries fY cZ ?_)))
 rw [if_neg (show ¬ ((es.size:Int) != (es.size:Int)) = true by simp)]; refine wpAny_bind (wpAny_pure (wpAny_bind (wpAny_dictEpoch fY cZ ?_)))
 rw [if_neg (show ¬ ((ep:Int) != (ep:Int)) = true by simp)]; refine wpAny_pure ?_
 simp only [show ¬ ((i:Int) < 0) by omega,if_false,Int.toNat_natCast,he]
 refine wpAny_bind (wpAny_bind (wpAny_typeNameOfWhole_itemiter hT (wpAny_pure ?_)))
 show wpAny _ _ (setField (.ref it) 2 Value.none >>= _) _ _ s
 refine wpAny_bind (wpAny_setField hit rfl (by simp) ?_)
 generalize hg:Heap.update s.heap it (Obj.mapFields (·.setIfInBounds 2 Value.none)) = h2
 have eb:Heap.ExtBut it s.heap h2:=by
  rw [<- hg]
  exact fun b ob hb e=>(Heap.get?_update_other _ _ (Ne.symm hb)).trans e
 show wpAny (model P w) _ (newExc (.type "StopIteration") [] >>= _) _ _ { s with heap:=h2 }
 refine wpAny_bind ?_; simp only [newExc,newTuple]
 refine wpAny_bind (wpAny_newObj_type (T := "tuple") ?_ (by size_fits))
 refine wpAny_bind (m:=firstArgMember _ _) (wpAny_of_eq (a:=Value.none) (by first | rfl | simp only [firstArgMember]) ?_)
 refine wpAny_newObj_type (T := "StopIteration") ?_ (by size_fits)
 simp only [raiseNew]; refine wpAny_bind (wpAny_handled ?_)
 first | rw [show A.in1.handled = Option.none from hh] | rw [hh]
 refine wpAny_bind (wpAny_pure (wpAny_throw ?_)); refine wpAny_bind (wpAny_isInstance (T := "StopIteration") (b:=true) ⟨_,Heap.get?_push_size _ rfl,rfl⟩ isSubtype_stop ?_)
 exact wpAny_pure (hQ _ ((eb.push _).push _))
end
theorem Wr:entryFor table "dict_itemiterator.__iter__" = some Builtin.«dict_keyiterator.__iter__» :=
 entryFor_alias (id' := "dict_keyiterator.__iter__") (by kernel_rfl) (by first | rfl | decide +kernel | (unfold String.splitOn; simp +decide [String.splitOnAux])) (by decide +kernel) (by kernel_rfl)
def o8:HO -> Hp -> Nat -> V -> V -> Prop
 | .dT kvs,H,i,x,y=>∃ k b,kvs[i]? = some (k,y) /\ x = .ref b /\ Dx H b k
 | .dK kvs,_,i,x,y=>∃ k,kvs[i]? = some (k,y) /\ x = kV k
 | _,_,_,_,_=>False
def D7:HO -> Nat
 | .dT kvs=>kvs.length
 | .dK kvs=>kvs.length
 | _=>0
def j7 (d:Addr) (o:Obj) (u:HO):It :=
 ⟨fun i H=>H d = some (.bG o u) /\ i < D7 u,fun i H v H'=>∃ T x y,v = .ref T /\ H T = none /\ H' = upd H T (.tup [x,y]) /\ o8 u H i x y,fun i H=>H d = some (.bG o u) /\ D7 u <= i⟩
theorem Zy {P:Program} {w:World} {k:Dh} {u:Value} (h:(D5 P w).is k u = true):Ap (kV k) u:=by
 have h':Ho k u = true:=h
 cases k with
 | inl i =>
  cases u <;> simp [Ho,Value.isInt] at h'
  subst h'
  exact ⟨_,rfl⟩
 | inr x =>
  cases u <;> simp [Ho,Value.isStrOf] at h'
  subst h'
  exact ⟨_,rfl⟩
theorem F0 {α β:Type} {F:α -> β -> Prop}:∀ {xs:List α} {ys:List β} {i:Nat},Paired F xs ys -> i < xs.length -> ∃ x y,xs[i]? = some x /\ ys[i]? = some y /\ F x y
 | _,_,i,.nil,h=>absurd h (by simp)
 | _,_,0,.cons r _,_=>⟨_,_,rfl,rfl,r⟩
 | _,_,i + 1,.cons _ t,h=>by
  obtain ⟨x,y,e1,e2,e3⟩ := F0 (i:=i) t (by simpa using h)
  exact ⟨x,y,by simpa using e1,by simpa using e2,e3⟩
theorem Tb {α β:Type} {F:α -> β -> Prop} {xs:List α} {ys:List β} (h:Paired F xs ys):xs.length = ys.length:=by
 induction h with
 | nil=>rfl
 | cons r t ih=>rw [List.length_cons,List.length_cons,ih]
theorem Mn {P:Program} {w:World} {K:Type} [DecidableEq K] {knd:PySem.KeyKind P w K}:∀ {es:List DictEntry} {vs:List (K × Value)} {i:Nat} {kv:K × Value},Pairs knd es vs -> vs[i]? = some kv -> ∃ e,es[i]? = some e /\ knd.is kv.1 e.key = true /\ e.val = kv.2
 | _,_,i,kv,.nil,h=>by simp at h
 | _,_,0,kv,.cons h1 h2 _,h=>by
  cases (show some _ = some _ from h)
  exact ⟨_,rfl,h1,h2⟩
 | _,_,i + 1,kv,.cons _ _ t,h=>by
  obtain ⟨e,e1,e2⟩ := Mn t (i:=i) (by simpa using h)
  exact ⟨e,by simpa using e1,e2⟩
theorem W8 {P:Program} {w:World} {K:Type} [DecidableEq K] {knd:PySem.KeyKind P w K} {es:List DictEntry} {vs:List (K × Value)} (h:Pairs knd es vs):es.length = vs.length:=by
 induction h with
 | nil=>rfl
 | cons r q t ih=>rw [List.length_cons,List.length_cons,ih]
theorem Z6 {P : Program} {w : World} {H : Hp} {h : Heap} {d : Addr} {o : Obj} {u : HO} {es : Array DictEntry} {ep : Nat} (ok : Bh P w H h d u) (hu : K6 u) (ho : h.get? d = some o) (hd : o.data = .dict es ep) :
  es.size = D7 u /\ ∀ i,i < D7 u -> ∃ e x y,es[i]? = some e /\ Ap x e.key /\ Ap y e.val /\ o8 u H i x y:=by
 cases u with
 | dT kvs =>
  obtain ⟨_,_,xs,r,o',rB,rC,h1,h2,h3,h4,h5⟩ := ok
  rw [ho] at h1
  cases h1
  rw [hd] at h3
  cases h3
  have hl:=Tb r
  refine ⟨?_,fun i hi=>?_⟩
  ·show es.size = kvs.length
   rw [<- Array.length_toList,h4,List.length_map,hl]
  ·obtain ⟨p,q,e1,e2,e3,e4,e5⟩ := F0 r hi
   refine ⟨entryOfKey (Bv P w) q,.ref q.2.1,p.2,?_,rfl,e5,p.1,q.2.1,e1,rfl,e4⟩
   rw [<- Array.getElem?_toList,h4,List.getElem?_map,e2]
   rfl
 | dK kvs =>
  obtain ⟨_,_,vs,r,o',rB,rC,h1,h2,h3,h4,h5,h6⟩ := ok
  rw [ho] at h1
  cases h1
  rw [hd] at h3
  cases h3
  have hl:kvs.length = vs.length:=r.length
  refine ⟨?_,fun i hi=>?_⟩
  ·show es.size = kvs.length
   rw [<- Array.length_toList,W8 h5,hl]
  ·obtain ⟨p,q,e1,e2,e3⟩ := F0 r hi
   obtain ⟨e,f1,f2,f3⟩ := Mn h5 e2
   refine ⟨e,kV p.1,p.2,by rw [<- Array.getElem?_toList]; exact f1,?_,?_,p.1,e1,rfl⟩
   ·rw [e3.1]
    exact Zy f2
   ·rw [f3]
    exact e3.2
 | _=>exact hu.elim
theorem Sk {P : Program} {w : World} {K : PySem.W.Frag} {elts : List Expr} {kk : Nat} {pos : Pos} {it d : Addr} {o : Obj} {u : HO} {es : Array DictEntry} {ep : Nat} (hu : K6 u) (hd : o.data = .dict es ep) (bN : d ≠ it) :
  Sg P w K (.Tuple elts kk pos) (j7 d o u) [it] it (fun i h=>∃ ok ov,IsItemIter h it d i es.size ep ok ov) where
 mem:=by simp
 obj:=fun i h ⟨ok,ov,st⟩ b hb=>by
  have e:b = it:=by simpa using hb
  subst e
  exact ⟨_,st,fun v z=>by cases z⟩
 keep:=fun i h h' ⟨ok,ov,st⟩ k=>⟨ok,ov,k it (by simp) _ st⟩
 item:=by
  intro X hP hw hK hc i pins s σ H E I hf ⟨ok,ov,st⟩ ⟨jG,hg2⟩
  subst hP hw hK
  obtain ⟨ho,aH⟩ := I.aH d _ jG
  obtain ⟨hsz,kJ⟩ := Z6 aH hu ho hd
  obtain ⟨e,x,y,e1,rx,ry,hi⟩ := kJ i hg2
  have aM:it < s.heap.objs.size:=Heap.lt_size st
  refine Ql st ho hd e1 fun h' a1 a2 a3=>⟨_,rfl,?_⟩
  refine wpAny_letOwnedTupleGo_items (s:={ s with heap:=h' }) a1 fun PY b1 b2=>?_
  have EC:PY.get? s.heap.objs.size = some { cls := .type "tuple",data := .seq #[e.key,e.val] }:=b2.extBut _ _ (Nat.ne_of_gt aM) a2
  refine ⟨.ref s.heap.objs.size,upd H s.heap.objs.size (.tup [x,y]),I.iO (t':=s.toks) (ch:=[it]) hf (fun c ob hc e=>?_) (Nat.le_refl _) ?_,rfl,⟨_,x,y,rfl,I.fresh,rfl,hi⟩,⟨_,_,b1⟩,fun c hc=>?_⟩
  ·have eZ:c ≠ it:=by simpa using hc
   exact b2.extBut _ _ eZ (a3 c ob eZ e)
  ·exact ⟨⟨Nat.le_trans (by decide:2 <= 1000) (Pf (Nat.le_refl _)),_,EC,rfl⟩,[e.key,e.val],.cons rx (.cons ry .nil),⟨_,EC,rfl,0,rfl⟩⟩
  ·have eZ:c = it:=by simpa using hc
   subst eZ
   rw [Aa (Nat.ne_of_lt aM)]
   exact (hf c hc).1
 done:=by
  intro X hP hw hK hc i pins s σ H E I hf ⟨ok,ov,st⟩ ⟨jG,hg2⟩
  subst hP hw hK
  obtain ⟨ho,aH⟩ := I.aH d _ jG
  obtain ⟨hsz,kJ⟩ := Z6 aH hu ho hd
  refine Z0 (I.ok.hd hc) st ho hd (Array.getElem?_eq_none (by omega)) fun h' eb=>⟨rfl,I.iP (t':=s.toks) (ch:=[it]) hf fun c ob hc e=>?_⟩
  have eZ:c ≠ it:=by simpa using hc
  exact eb c ob eZ e
 self:=fun A i s Q E ⟨ok,ov,st⟩ hQ=>by
  have hT:s.TypeIs (.ref it) "dict_itemiterator" := ⟨_,st,rfl⟩
  refine wpAny_pyIter_slot hT F.slot_dict_itemiterator_iter (wpAny_call_entry F.slot_dict_itemiterator_iter hT Wr ?_ (F.args_dict_itemiterator_iter_1 _))
  exact wpAny_pure ⟨_,rfl,"dict_itemiterator",_,hT,F.slot_dict_itemiterator_next.lookup,hQ⟩
section
variable {X:Cx}
def dz (td:TE):TI:=fun σ H R=>td σ H fun x H1=>∃ d u,x = .ref d /\ K6 u /\ H1 d = some u /\ ∀ o,R (j7 d o u) (upd H1 d (.bG o u))
theorem L3 {elts : List Expr} {kk : Nat} {kQ apos pos : Pos} {e : Expr} {td : TE} (he : PE X e td) (iL : attributeBase e "items" X.env (eval e X.env) = eval e X.env := by rfl) (iM : (apos.endLine == pos.line) = true := by rfl) :
  PI X (.Tuple elts kk kQ) (.Call (.Attribute e "items" apos) [] [] pos) (dz td):=by
 intro pins s σ H R I h
 refine wpAny_Call_method0_late iL iM (C6 (he pins s σ H _ I h) fun v s1 aO=>?_)
 obtain ⟨x,H1,I1,r1,d,u,ex,hu,hd,q⟩ := aO
 subst ex
 obtain rfl:v = Value.ref d:=r1
 obtain ⟨o,ho,I2⟩ := I1.bG hd hu
 obtain ⟨es,ep,hx,cZ,QM⟩ : ∃ es ep,o.ExactDict /\ o.data = .dict es ep /\ (d == sysModules) = false:=by
  have aH:=I1.aH d u hd
  cases u with
  | dT kvs =>
   obtain ⟨_,y,xs,r,o',rB,rC,h1,h2,h3,_⟩ := aH
   rw [ho] at h1
   cases h1
   exact ⟨rB,rC,h2,h3,y⟩
  | dK kvs =>
   obtain ⟨_,y,vs,r,o',rB,rC,h1,h2,h3,_⟩ := aH
   rw [ho] at h1
   cases h1
   exact ⟨rB,rC,h2,h3,y⟩
  | _=>exact hu.elim
 have hT:s1.TypeIs (.ref d) "dict" := ⟨o,ho,hx.1⟩
 refine ⟨"dict","dict.items",PySem.F.plainAttrs_dict,PySem.F.slot_dict_items,PySem.F.type_dict_items,hT,?_,Calls.callWith_builtin rfl (PySem.evalArgs_none (Qz QM ho hx ?_))⟩
 ·intro a z
  cases z
  exact ⟨o,ho,hx.2.1⟩
 have NC:(s1.heap.push { cls := .type "dict_items",data := .fields #[.ref d] }).get? d = some o:=Heap.get?_push_of_some _ ho
 refine Uy (s:={ s1 with heap:=s1.heap.push { cls := .type "dict_items",data := .fields #[.ref d] } }) ⟨_,Heap.get?_push_size _ rfl,rfl,rfl⟩ NC cZ ?_
 have hk:∀ b ob,s1.heap.get? b = some ob -> ((s1.heap.push { cls := .type "dict_items",data := .fields #[.ref d] }).push { cls := .type "dict_itemiterator",data := .fields #[.none,.bool false,.ref d,.int 0 0,.int es.size 0,.int ep 0,.none,.none] }).get? b = some ob:=fun b ob z=>Heap.get?_push_of_some _ (Heap.get?_push_of_some _ z)
 have hsz:(s1.heap.push { cls := .type "dict_items",data := .fields #[.ref d] }).objs.size = s1.heap.objs.size + 1:=by simp [Heap.push]
 have CL:d < s1.heap.objs.size:=Heap.lt_size ho
 refine ⟨_,[_],_,j7 d o u,upd H1 d (.bG o u),rfl,I2.kept (t':=s1.toks) hk,Sk (es:=es) (ep:=ep) hu cZ ?_,⟨.none,.none,Heap.get?_push_size _ rfl⟩,fun c hc=>?_,q o⟩
 ·rw [hsz]
  exact Nat.ne_of_lt (Nat.lt_succ_of_lt CL)
 ·have hle : s1.heap.objs.size <= c := by
   have:c = (s1.heap.push { cls := .type "dict_items",data := .fields #[.ref d] }).objs.size:=by simpa using hc
   rw [this,hsz]
   omega
  exact I2.kP hle (I2.aH.fresh hle)
end
theorem Ms {o : Obj} {u : HO} {d : Addr} {g : TG} {tb : TS} {D : Gp} {σ : St} {H : Hp} (Pv : Nat -> St -> Hp -> Prop) (h0 : Pv 0 σ H) (hl : ∀ i σ H, i <= D7 u -> Pv i σ H -> H d = some (.bG o u))
  (hs:∀ i x y T σ H,i < D7 u -> o8 u H i x y -> Pv i σ H -> H T = none -> g (.ref T) σ (upd H T (.tup [x,y])) fun σ2 H2=>tb { D with nx:=Pv (i + 1),ct:=Pv (i + 1),bk:=D.nx } σ2 H2) (hd:∀ σ H,Pv (D7 u) σ H -> D.nx σ H) :
  ∃ W:Nat -> Nat -> St -> Hp -> Prop,(∃ m,W 0 m σ H) /\ ∀ i m σ H,W i m σ H ->
   ((j7 d o u).stop i H /\ D.nx σ H) \/ ((j7 d o u).go i H /\ ∃ N:St -> Hp -> Prop,(∀ σ' H',N σ' H' -> ∃ m',m' < m /\ W (i + 1) m' σ' H') /\ ∀ x H',(j7 d o u).vX i H x H' -> g x σ H' fun σ2 H2=>tb { D with nx:=N,ct:=N,bk:=D.nx } σ2 H2):=by
 refine ⟨fun i m σ H=>m = D7 u - i /\ i <= D7 u /\ Pv i σ H,⟨D7 u,by simp,Nat.zero_le _,h0⟩,?_⟩
 rintro i m σ H ⟨rfl,hi,p⟩
 have q1:=hl i σ H hi p
 by_cases aM:i < D7 u
 ·refine .inr ⟨⟨q1,aM⟩,Pv (i + 1),fun σ' H' p'=>⟨D7 u - (i + 1),by omega,rfl,aM,p'⟩,fun v H' y=>?_⟩
  obtain ⟨T,x,z,rfl,hT,rfl,e1⟩ := y
  exact hs i x z T σ H aM e1 p hT
 ·have e:i = D7 u:=by omega
  subst e
  exact .inl ⟨⟨q1,Nat.le_refl _⟩,hd σ H p⟩
theorem Tk {K : PySem.W.Frag} {o : Obj} {u : HO} {d : Addr} {fr : List Nat} {tt : TT} {te : TE} {σ : St} {D : Addr} {H1 : Hp} {Q : Hp -> Prop} (Pv : Nat -> List V -> Hp -> Prop) (h0 : Pv 0 [] (upd H1 D (.lst [])))
  (hl:∀ i zs H,i <= D7 u -> Pv i zs H -> H d = some (.bG o u))
  (hs:∀ i x y T zs H,i < D7 u -> o8 u H i x y -> Pv i zs H -> H T = none -> tt (some x :: some y :: Dn fr σ) (upd H T (.tup [x,y])) fun b H4 =>
   if b = true then te (some x :: some y :: Dn fr σ) H4 fun v H5=>H5 D = some (.lst zs) /\ zs.length < sizeLine /\ Pv (i + 1) (zs ++ [v]) (upd H5 D (.lst (zs ++ [v]))) else Pv (i + 1) zs H4)
  (mt:∀ σ H Q Q',(∀ b H',Q b H' -> Q' b H') -> tt σ H Q -> tt σ H Q') (me:∀ σ H Q Q',(∀ v H',Q v H' -> Q' v H') -> te σ H Q -> te σ H Q')
  (hd:∀ zs H,Pv (D7 u) zs H -> Q H):E9 2 fr (j7 d o u) (nn K) tt te σ D H1 Q:=by
 refine ⟨fun i m zs H=>m = D7 u - i /\ i <= D7 u /\ Pv i zs H,⟨D7 u,by simp,Nat.zero_le _,h0⟩,?_⟩
 rintro i m zs H' ⟨rfl,hi,p⟩
 have q1:=hl i zs H' hi p
 by_cases aM:i < D7 u
 ·refine .inr ⟨⟨q1,aM⟩,fun v H2 y=>?_⟩
  obtain ⟨T,x,z,rfl,hT,rfl,e1⟩ := y
  refine ⟨T,_,rfl,C0.of A5,rfl,x,_,rfl,z,_,rfl,rfl,⟨[some x,some z],rfl,rfl⟩,?_⟩
  refine mt _ _ _ _ ?_ (hs i x z T zs H' aM e1 p hT)
  intro b H4 q
  cases b with
  | false=>exact ⟨D7 u - (i + 1),by omega,rfl,aM,q⟩
  | true=>exact me _ _ _ _ (fun v H5 ⟨r1,r2,r3⟩=>⟨r1,r2,D7 u - (i + 1),by omega,rfl,aM,r3⟩) q
 ·have e:i = D7 u:=by omega
  subst e
  exact .inl ⟨⟨q1,Nat.le_refl _⟩,hd zs H' p⟩
section
variable {prog:Program} {w:World} {K:Type} [DecidableEq K] {knd:HeapKind prog w K} {A:Around} {E:Value -> Shared -> Prop} {s:Shared} {d a:Addr} {k:K} {xs:List (K × Addr × Value)}
theorem V8 {v:Value} (hn:(xs.map (·.1)).Nodup) (wy:k ∉ xs.map (·.1)):((xs ++ [(k,a,v)]).map (·.1)).Nodup:=by
 rw [List.map_append,List.nodup_append]
 refine ⟨hn,by simp,fun x hx y hy=>?_⟩
 have e:y = k:=by simpa using hy
 rw [e]
 exact fun e=>wy (e ▸ hx)
theorem Ya {dflt : Value} {Q : Value -> Shared -> Prop} (hu : knd.room A) (eX : knd.is s.heap k a) (hm : s.heap.DictOfH knd d xs) (hsz : xs.length <= sizeLine)
  (h1:∀ p,atKey xs k = some p -> Q p.2 { s with toks:=s.toks + knd.draws k })
  (h2:atKey xs k = none -> ∀ h',h'.DictOfH knd d (xs ++ [(k,a,dflt)]) -> Heap.SameBut d s.heap h' -> Q dflt { s with heap:=h',toks:=s.toks + knd.draws k }) :
  wpAny (model prog w) A (dictSetDefault d (.ref a) dflt) Q E s:=by
 obtain ⟨o,es,ep,ho,hc,hd,he,NB,hn⟩ := hm
 unfold dictSetDefault
 try with_reducible refine wpAny_holding ?_
 refine wpAny_bind (knd.pyHash hu eX ?_)
 refine wpAny_bind (wpAny_dictFind_heap (s:={ s with toks:=s.toks + knd.draws k }) hu eX ho hd he NB hn ?_ ?_)
 ·intro lR
  have wy:k ∉ xs.map (·.1):=not_mem_keys_of_get lR
  have kJ:=atKey_none_of_get lR
  have hz:es.size <= sizeLine:=by
   have e:=size_of_entries he
   omega
  refine wpAny_bind (wpAny_rule (wpAny_bind (wpAny_updateDictKeys (hz:=hz) (s:={ s with toks:=s.toks + knd.draws k }) ho hd (wpAny_pure (h2 kJ _
   ⟨_,_,ep + 1,Heap.get?_update_self _ ho (Obj.isFreed_of_dict (Obj.data_mapDictKeys hd _)),hc.mapDictKeys _,Obj.data_mapDictKeys hd _,?_,?_,V8 hn wy⟩ (Heap.SameBut.update ..))))))
  ·simp [he,entryOfKey]
  ·intro x hx
   rcases List.mem_append.mp hx with hx | hx
   ·exact knd.keeps (NB x hx) ho hd (Heap.SameBut.update ..)
   ·cases List.mem_singleton.mp hx
    exact knd.keeps eX ho hd (Heap.SameBut.update ..)
 ·intro j p hj
  have kJ:=atKey_of_get hn hj
  refine wpAny_bind (wpAny_dictEntries (s:={ s with toks:=s.toks + knd.draws k }) ho hd ?_)
  rw [entry_at he j,hj]
  exact wpAny_bind (wpAny_rule (wpAny_pure (h1 p kJ)))
theorem S8 (hd : (d == sysModules) = false) (dflt : Value) :
  MeetsIn prog w (Builtin.«dict.setdefault» ⟨[.ref d,.ref a,dflt],[]⟩) (fun A R s=>knd.room A.in1 /\ ∃ k xs,knd.is s.heap k a /\ s.heap.DictOfH knd d xs /\ xs.length <= sizeLine /\
   (∀ p,atKey xs k = some p -> R (.ok (.ret p.2)) { s with toks:=s.toks + knd.draws k }) /\
   (atKey xs k = none -> ∀ h',h'.DictOfH knd d (xs ++ [(k,a,dflt)]) -> Heap.SameBut d s.heap h' -> R (.ok (.ret dflt)) { s with heap:=h',toks:=s.toks + knd.draws k })) :=
 .of_wp fun A R s ⟨hu,k,xs,eX,hm,hz,h1,h2⟩=>by
  unfold Builtin.«dict.setdefault» Builtin.Dict.keyAndDefault
  refine wpAny_bind (wpAny_bind (wpAny_notOrdered_dict hm.typeIs ?_))
  show wpAny _ _ (pure (d,Value.ref a,some dflt)) _ _ s
  refine wpAny_pure ?_
  show wpAny _ _ (if (d == sysModules) = true then _ else (dictSetDefault d (.ref a) dflt >>= _)) _ _ s
  rw [if_neg (by rw [hd]; exact Bool.false_ne_true)]
  exact wpAny_bind (Ya hu eX hm hz (fun p hp=>wpAny_pure ⟨p.2,rfl,h1 p hp⟩) fun hn h' fX DY=>wpAny_pure ⟨dflt,rfl,h2 hn h' fX DY⟩)
end
section
variable {X:Cx} {pins:List (Addr × Obj)} {σ:St} {H:Hp} {s:Shared} {a b:Addr} {kvs:List ((List Int × Int) × V)} {k:List Int × Int} {z:V} {r:Value} {A:Around} {E:Value -> Shared -> Prop}
theorem nj {Q : Value -> Shared -> Prop} (hu : A.units + 20 < cLine) (I : Ag X pins σ H s) (e : H a = some (.dT kvs)) (eb : Dx H b k) (hl : kvs.length < sizeLine) (rz : Ap z r)
  (h1:∀ v w' s',Af kvs k = some v -> Ag X pins σ H s' -> Ap v w' -> Q w' s') (h2:Af kvs k = none -> ∀ s',Ag X pins σ (upd H a (.dT (Bl kvs k z))) s' -> Q r s') :
  wpAny (model X.prog X.w) A (call (.builtin "dict.setdefault") [.ref a,.ref b,r]) Q E s:=by
 obtain ⟨z0,hd,xs,rel,dd⟩ := d6 I.aH e
 have hz:xs.length <= sizeLine:=by rw [<- Paired.length rel]; exact z0
 have hv:=rel.val k
 refine call_meetsIn PySem.F.slot_dict_setdefault dd.typeIs PySem.F.entry_dict_setdefault (PySem.F.args_dict_setdefault_3 _ _ _) (S8 (knd:=Bv X.prog X.w) hd r) ⟨D0 hu,k,xs,Fp I.aH eb,dd,hz,fun p hp=>?_,fun hn h' rO hs=>?_⟩
 ·rw [hp] at hv
  cases e2:Af kvs k with
  | none=>rw [e2] at hv; exact hv.elim
  | some v =>
   rw [e2] at hv
   exact h1 v p.2 _ e2 (I.tok _) hv
 ·rw [hn] at hv
  cases e2:Af kvs k with
  | some v=>rw [e2] at hv; exact hv.elim
  | none =>
   have hp:Bl kvs k z = kvs ++ [(k,z)]:=Dk z e2
   refine h2 e2 _ ?_
   rw [hp]
   obtain ⟨q,es,ep,hq,g2,g3,g4,_,g5⟩ := rO
   refine K1 I (by rw [e]; exact True.intro) hs ⟨q,hq⟩ ⟨by rw [List.length_append,List.length_singleton]; omega,hd,_,KT.keeps (Paired.snoc rel ⟨rfl,eb,rz⟩) (fun c ys ec=>?_),q,es,ep,hq,g2,g3,g4,g5⟩
   rw [Aa (Br ec e (fun z=>nomatch z))]
   exact ec
end
def mz (td ty tx:TE):TE:=fun σ H Q=>td σ H fun x H1=>∃ a,x = .ref a /\ jk H1 a /\ ty σ H1 fun y H2=>tx σ H2 fun z H3=>∃ kvs k b,y = .ref b /\ Dx H3 b k /\ H3 a = some (.dT kvs) /\ kvs.length < sizeLine /\
 (∀ v,Af kvs k = some v -> Q v H3) /\ (Af kvs k = none -> Q z (upd H3 a (.dT (Bl kvs k z))))
section
variable {X:Cx} {o e f:Expr} {apos aW:Pos} {td ty tx:TE}
theorem bh (hu:X.A.units + 20 < cLine) (ho:PE X o td) (he:PE X e ty) (hf:PE X f tx) (m:M2 X o "setdefault" apos e f aW):PE X (.Call (.Attribute o "setdefault" apos) [e,f] [] aW) (mz td ty tx):=by
 intro pins s σ H Q I h
 refine wpAny_Call_method m.base m.MY m.line PySem.F.plainAttrs_dict PySem.F.slot_dict_setdefault PySem.F.type_dict_setdefault (C6 (ho pins s σ H _ I h) fun u s1 aO=>?_)
 obtain ⟨x,H1,I1,rx,a,ex,d,q1⟩ := aO
 subst ex
 obtain rfl:u = Value.ref a:=rx
 obtain ⟨t1,t2,_⟩ := S7 I1 d
 refine ⟨t1,t2,?_⟩
 rw [m.trees]
 refine Calls.callWith_builtin rfl (Calls.evalArgs_plain (Calls.spliced_cons (C6 (he pins s1 σ H1 _ I1 q1) fun iv s2 ⟨y,H2,I2,ry,q2⟩ =>
  Calls.spliced_cons (C6 (hf pins s2 σ H2 _ I2 q2) fun fv s3 ⟨z,H3,I3,rz,kvs,k,b,ey,eb,ea,hl,q3,q4⟩=>Calls.spliced_nil ?_))))
 subst ey
 obtain rfl:iv = Value.ref b:=ry
 exact nj hu I3 ea eb hl rz (fun v w' s4 hv I4 fA=>⟨v,H3,I4,fA,q3 v hv⟩) fun hn s4 I4=>⟨z,_,I4,rz,q4 hn⟩
theorem Uk {a : Expr} {ta : TE} (ha : PE X a ta) (he : ∀ whole, isTrue a X.env whole = (do let v <- whole; standAt a.pos; holding [v] (truthy v)) := by intro _; rfl) :
  PT X a (fun σ H Q=>ta σ H fun x H'=>∃ d kvs,x = .ref d /\ Rd H' d (.dK kvs) /\ Q (!kvs.isEmpty) H'):=by
 intro pins s σ H Q I h
 refine isTrue_plain (C6 (ha pins s σ H _ I h) fun v s1 ⟨x,H1,I1,r1,d,kvs,ex,hd,q1⟩=>?_) (he _)
 subst ex
 obtain rfl:v = Value.ref d:=r1
 obtain ⟨z,hs,vs,rel,dd⟩ := Jh I1.aH hd
 have hl:kvs.length = vs.length:=rel.length
 have h24:sizeLine < 2 ^ 30:=by decide
 refine wpAny_truthy_dict hs dd (by omega) ⟨H1,I1.tok _,?_⟩
 have e:kvs.isEmpty = vs.isEmpty:=by
  cases kvs <;> cases vs <;> simp at hl <;> rfl
 rw [<- e]
 exact q1
end
open PySem PySem.Spec PyProof.Rows PySem.SeqAt
def fo (A:Around) (s:Shared) (x y:Value) (b:Bool):Prop := ∀ (prog:Program) (w:World) (E:Value -> Shared -> Prop) (Q:Value -> Shared -> Prop),Q (.bool b) s -> wpAny (model prog w) A (richCompare .Gt x y) Q E s
theorem ik (l b : Addr) (xs ys : Array Value) (n n2 : Nat) (dd CC : Option Addr) (sl CD : Array (Option Value)) (e : Nat -> Bool) (r : Bool) :
  Meets (Builtin.«tuple.__gt__» ⟨[.ref l,.ref b],[]⟩)
   (fun A R s=>s.heap.get? l = some { cls := .type "tuple",dict:=dd,data := .seq xs n,slots:=sl } /\ s.heap.get? b = some { cls := .type "tuple",dict:=CC,data := .seq ys n2,slots:=CD } /\
    (∀ j (h1:j < xs.size) (h2:j < ys.size),EqAt A.in1 s xs[j] ys[j] (e j)) /\ (∀ j (h1:j < xs.size) (h2:j < ys.size),(∀ i,i < j -> e i = true) -> e j = false -> fo A.in1 s xs[j] ys[j] r) /\
    ((∀ j,j < min xs.size ys.size -> e j = true) -> r = decide (xs.size > ys.size)) /\ R (.ok (.ret (.bool r))) s) :=
 .of_wp fun prog w A R s h=>by
  obtain ⟨hp,g,d,tk,os⟩ := s
  obtain ⟨hl,hb,he,hf,hz,h⟩ := h
  have f2:=AutoSeq1.sub_tuple_tuple
  have hZ:(xs.toList.zip ys.toList).length = min xs.size ys.size:=by simp
  wp_walk using wpAny_loadPart' hl,wpAny_loadPart' hb,wpAny_forIn_list _ (fun rest b s'=>b.1 = none /\ s' = ⟨hp,g,d,tk,os⟩ /\ ∃ i,rest = (xs.toList.zip ys.toList).drop i /\ ∀ k,k < i -> k < min xs.size ys.size -> e k = true) _
  case turn =>
   rintro ⟨y,x⟩ rest b s' ⟨fF,rfl,i,hq,hR⟩
   have aM:i < (xs.toList.zip ys.toList).length:=by
    apply Classical.byContradiction
    intro z
    rw [List.drop_of_length_le (by omega)] at hq
    cases hq
   have h1:i < xs.size:=by omega
   have h2:i < ys.size:=by omega
   rw [List.drop_eq_getElem_cons aM] at hq
   injection hq with ED mI
   have hy:y = xs[i]:=by simpa using congrArg Prod.fst ED
   have hx:x = ys[i]:=by simpa using congrArg Prod.snd ED
   subst hy hx
   refine wpAny_bind (he i h1 h2 prog w _ _ ?_)
   cases hy:e i with
   | true =>
    wp_walk
    refine ⟨rfl,rfl,i + 1,mI,fun k hk rM=>?_⟩
    by_cases z:k = i
    ·rw [z]
     exact hy
    ·exact hR k (by omega) rM
   | false =>
    have qP:=hf i h1 h2 (fun k hk=>hR k hk (by omega)) hy prog w
    wp_walk using qP _ _
    exact ⟨_,rfl,h⟩
  case fin =>
   rintro ⟨b1,b2⟩ s' ⟨fF,rfl,i,hq,hR⟩
   simp only at fF
   subst fF
   have MW:min xs.size ys.size <= i:=by
    apply Classical.byContradiction
    intro z
    rw [List.drop_eq_getElem_cons (by omega)] at hq
    cases hq
   have hr:=hz fun j hj=>hR j (by omega) hj
   wp_walk
   refine ⟨_,rfl,?_⟩
   rw [hr] at h
   simpa [Builtin.Tuple.tupleCompareSizes] using h
  case h =>
   exact ⟨rfl,rfl,0,rfl,fun k hk=>absurd hk (Nat.not_lt_zero k)⟩
mutual
def Va:PyData -> PyData -> Bool
 | .int a,.int b=>decide (a > b)
 | .tuple xs,.tuple ys=>aS xs ys
 | _,_=>false
def aS:List PyData -> List PyData -> Bool
 | [],[]=>false
 | [],_ :: _=>false
 | _ :: _,[]=>true
 | x :: xs,y :: ys=>if PyData.eqv x y then aS xs ys else Va x y
end
theorem Mv:∀ (xs ys:List PyData),(∀ j,j < min xs.length ys.length -> pairEq xs ys j = true) -> aS xs ys = decide (xs.length > ys.length)
 | [],[],_=>rfl
 | [],y :: ys,_=>by simp [aS]
 | x :: xs,[],_=>by simp [aS]
 | x :: xs,y :: ys,h=>by
  have h0:PyData.eqv x y = true:=h 0 (by simp only [List.length_cons]; omega)
  have ih:=Mv xs ys fun j hj=>h (j + 1) (by simp only [List.length_cons]; omega)
  rw [aS,if_pos h0,ih]
  simp
mutual
theorem Pq : ∀ (da db : PyData) (A : Around) (s : Shared) (a b : Value) (as bs : List Addr), Reads s.heap a da as -> Reads s.heap b db bs -> da.canLay0 = true -> db.canLay0 = true -> Gf da db ->
  A.units + min da.depth db.depth < cLine -> fo A s a b (Va da db)
 | .int x,db,A,s,_,_,_,_,ra,rb,_,_,hc,hu=>by
  cases db with
  | int y =>
   cases ra with
   | int _ t =>
    cases rb with
    | int _ u =>
     intro prog w E Q h
     exact richCompare_gives (op := .Gt) (typeIs_int s _ t) (typeIs_int s _ u) F.slot_int_gt F.entry_int_gt (F.args_int_gt_2 _ _) (gives_int_gt _ _ t u) (fun z=>nomatch z) h
  | none=>exact hc.elim
  | bool _=>exact hc.elim
  | str _=>exact hc.elim
  | list _=>exact hc.elim
  | tuple _=>exact hc.elim
  | dict _=>exact hc.elim
 | .tuple xs,db,A,s,_,_,_,_,ra,rb,ha,hb,hc,hu=>by
  cases db with
  | tuple ys =>
   cases ra with
   | @tuple l o vs n _ as₁ h1 h2 h3 h4 =>
    cases rb with
    | @tuple l' o' rN n' _ bs₁ k1 k2 k3 k4 =>
     obtain ⟨oc,od,MX,gK⟩ := o
     obtain ⟨oc',QB,QC,wq⟩ := o'
     simp only at h2 h3 k2 k3
     subst h2 h3 k2 k3
     have n1:vs.size = xs.length:=by simpa using ReadsAll.length _ _ _ h4
     have n2:rN.size = ys.length:=by simpa using ReadsAll.length _ _ _ k4
     intro prog w E Q h
     refine richCompare_meets_room (op := .Gt) ⟨_,h1,rfl⟩ ⟨_,k1,rfl⟩ F.slot_tuple_gt F.entry_tuple_gt (F.args_tuple_gt_2 _ _) (ik l l' vs rN n n' od QB gK wq (pairEq xs ys) (aS xs ys)) ⟨h1,k1,fun j j1 j2=>?_,fun j j1 j2 f1 f2=>?_,fun f=>?_,(fun z=>nomatch z),h⟩ (room_here hu)
     ·have:=eqAt_readsAll xs ys A.in1 s vs.toList rN.toList _ _ h4 k4 ha hb (room_in hu) j (by simpa using j1) (by simpa using j2)
      simpa using this
     ·have:=eF xs ys A.in1 s vs.toList rN.toList _ _ h4 k4 ha hb hc (room_in hu) j (by simpa using j1) (by simpa using j2) f1 f2
      simpa using this
     ·rw [n1,n2] at f ⊢
      exact Mv xs ys f
  | none=>exact hc.elim
  | bool _=>exact hc.elim
  | str _=>exact hc.elim
  | list _=>exact hc.elim
  | int _=>exact hc.elim
  | dict _=>exact hc.elim
 | .none,_,_,_,_,_,_,_,_,_,_,_,hc,_=>hc.elim
 | .bool _,_,_,_,_,_,_,_,_,_,_,_,hc,_=>hc.elim
 | .str _,_,_,_,_,_,_,_,_,_,_,_,hc,_=>hc.elim
 | .list _,_,_,_,_,_,_,_,_,_,_,_,hc,_=>hc.elim
 | .dict _,_,_,_,_,_,_,_,_,_,_,_,hc,_=>hc.elim
theorem eF : ∀ (xs ys : List PyData) (A : Around) (s : Shared) (vs ws : List Value) (as bs : List Addr), ReadsAll s.heap vs xs as -> ReadsAll s.heap ws ys bs -> PyData.canLayAll0 xs = true -> PyData.canLayAll0 ys = true -> bA xs ys ->
  A.units + min (PyData.depthAll xs) (PyData.depthAll ys) < cLine -> ∀ j (h1:j < vs.length) (h2:j < ws.length),(∀ i,i < j -> pairEq xs ys i = true) -> pairEq xs ys j = false -> fo A s vs[j] ws[j] (aS xs ys)
 | [],_,_,_,_,_,_,_,ra,_,_,_,_,_,j,h1,_,_,_=>by cases ra; exact absurd h1 (Nat.not_lt_zero _)
 | _ :: _,[],_,_,_,_,_,_,_,rb,_,_,_,_,j,_,h2,_,_=>by cases rb; exact absurd h2 (Nat.not_lt_zero _)
 | x :: xs,y :: ys,A,s,_,_,_,_,ra,rb,ca,cb,hc,hu,j,h1,h2,f1,f2=>by
  cases ra with
  | cons r1 r2 =>
   cases rb with
   | cons q1 q2 =>
    have tJ:x.canLay0 = true /\ PyData.canLayAll0 xs = true:=by simpa [PyData.canLayAll0] using ca
    have tK:y.canLay0 = true /\ PyData.canLayAll0 ys = true:=by simpa [PyData.canLayAll0] using cb
    have hd:A.units + min x.depth y.depth < cLine /\ A.units + min (PyData.depthAll xs) (PyData.depthAll ys) < cLine:=by
     simp only [PyData.depthAll] at hu
     omega
    cases j with
    | zero =>
     have e:aS (x :: xs) (y :: ys) = Va x y:=by
      have f3:PyData.eqv x y = false:=f2
      rw [aS,f3]
      rfl
     rw [e]
     exact Pq x y A s _ _ _ _ r1 q1 tJ.1 tK.1 hc.1 hd.1
    | succ j =>
     have e:aS (x :: xs) (y :: ys) = aS xs ys:=by
      have f3:PyData.eqv x y = true:=f1 0 (Nat.succ_pos _)
      rw [aS,f3]
      rfl
     rw [e]
     exact eF xs ys A s _ _ _ _ r2 q2 tJ.2 tK.2 hc.2 hd.2 j (Nat.lt_of_succ_lt_succ h1) (Nat.lt_of_succ_lt_succ h2) (fun i hi=>f1 (i + 1) (Nat.succ_lt_succ hi)) f2
end
section
variable {X:Cx} {k:Nat}
def ud:R2:=fun x y H Q=>∃ d e:PyData,Rp H d x /\ Rp H e y /\ Gf d e /\ d.depth <= 60 /\ Q (.bl (Va d e)) H
end
open PySem PySem.Spec PyProof.Rows PySem.SeqAt
theorem Ds (bt:Nat -> Nat -> Bool) (j:Nat):argBest bt (j + 1) = if bt (j + 1) (argBest bt j) = true then j + 1 else argBest bt j:=by
 first
  | rfl
  | (show (if bt (j + 1) (argBest bt j) then j + 1 else argBest bt j) = _; rfl)
section
variable {prog:Program} {w:World} {A:Around} {R:Result -> Shared -> Prop} {I S:Addr} {fp wr:List Addr} {St:Nat -> Heap -> Prop} {aC:Array Value} {bt:Nat -> Nat -> Bool} {Good:Heap -> Prop}
theorem Oh {a : Args} {s : Shared} (h : wpAny (model prog w) A.in1 (Builtin.«min.loop» a) (fun fin s' => match fin with
   | .done f=>R (.ok f) s'
   | .again c'=>c'.quiet = true /\ codeAny (model prog w) A c' R s') (fun e s'=>R (.error e) s') s):codeAny (model prog w) A (.builtin "min.loop" a) R s:=by
 refine codeAny_builtin F.entry_min_loop ?_; rw [Around.under_plainId F.plain_min_loop _]
 exact h
theorem av (W : Walks prog w A.in1 I fp wr aC.size (fun i v => aC[i]? = some v) St) (hG : ∀ h h', Good h -> (∀ b o, b ∉ wr -> b ≠ S -> h.get? b = some o -> h'.get? b = some o) -> Good h')
  (hc:∀ i j vi vj (s:Shared),Good s.heap -> aC[i]? = some vi -> aC[j]? = some vj -> ∀ E Q,Q (.bool (bt i j)) s -> wpAny (model prog w) A.in1 (richCompare .Lt vi vj) Q E s) (kX:S ∉ fp) :
  ∀ (k j:Nat) (s:Shared) (vb:Value) (c:Nat),aC.size = j + 1 + k -> St (j + 1) s.heap -> Good s.heap -> aC[argBest bt j]? = some vb ->
  s.heap.get? S = some { cls := .type "list",dict:=none,data := .seq #[vb,vb] c,slots := #[] } ->
  (∀ v h' tk,aC[argBest bt (aC.size - 1)]? = some v -> (∀ b o,b ∉ wr -> b ≠ S -> s.heap.get? b = some o -> h'.get? b = some o) -> R (.ok (.ret v)) { s with heap:=h',toks:=tk }) ->
  codeAny (model prog w) A (.builtin "min.loop" ⟨[.ref I,.none,.ref S],[]⟩) R s:=by
 have rP:S ∉ wr:=fun z=>kX (W.sub _ z)
 have nm:(toString "min" ++ toString ".loop" : String) = "min.loop" := by decide
 intro k
 induction k with
 | zero =>
  intro j s vb c hk bS hg mK hS hR
  refine Oh ?_
  refine wpAny_bind ( wpAny_seqItems hS rfl ?_)
  show wpAny (model prog w) A.in1 (tryCatch (pyNext (.ref I)) _ >>= _) _ _ s
  have ej:j + 1 = aC.size:=by omega
  refine wpAny_bind (wpAny_tryCatch (W.done s _ _ (ej ▸ bS) fun h1 gX k1=>?_))
  have gY:=k1 S _ rP hS
  show wpAny (model prog w) A.in1 (updateSeq S (fun _=>#[]) >>= _) _ _ _
  refine wpAny_bind ?_
  refine wpAny_updateSeq gY rfl (wpAny_bind (wpAny_letGo (wpAny_pure ?_)))
  have e2:aC.size - 1 = j:=by omega
  exact hR vb _ gX (by rw [e2]; exact mK) fun b o z1 z2 e=>(Heap.get?_update_other _ _ (Ne.symm z2)).trans (k1 b o z1 e)
 | succ k ih =>
  intro j s vb c hk bS hg mK hS hR
  refine Oh ?_
  refine wpAny_bind ( wpAny_seqItems hS rfl ?_)
  show wpAny (model prog w) A.in1 (tryCatch (pyNext (.ref I)) _ >>= _) _ _ s
  refine wpAny_bind (wpAny_tryCatch (W.item (j + 1) s _ _ (by omega) bS fun v h1 gX hP bE k1=>?_))
  have gY:=k1 S _ rP hS
  have jG:Good h1:=hG _ _ hg fun b o z1 _ e=>k1 b o z1 e
  refine wpAny_bind (wpAny_pure ?_)
  refine wpAny_bind (wpAny_tryCatch (wpAny_holding (wpAny_bind ?_)))
  refine hc (j + 1) (argBest bt j) v vb { s with heap:=h1,toks:=gX } jG hP mK _ _ ?_
  refine wpAny_bind (wpAny_holding (wpAny_truthy_bool ?_))
  refine wpAny_bind (wpAny_letGo (wpAny_pure ?_))
  have eb:=Ds bt j
  cases hb:bt (j + 1) (argBest bt j) with
  | true =>
   rw [hb,if_pos rfl] at eb
   simp only [if_true]
   refine wpAny_bind ?_
   refine wpAny_updateSeq gY rfl (wpAny_bind (wpAny_letGo ?_))
   rw [nm]
   refine wpAny_pure ⟨plainId_quiet F.plain_min_loop _,ih (j + 1) _ v _ (by omega) (W.frame _ _ _ bE fun b z o e=>?_) (hG _ _ jG fun b o z1 z2 e=>(Heap.get?_update_other _ _ (Ne.symm z2)).trans e) (by rw [eb]; exact hP) (Heap.get?_update_self _ gY rfl) fun v2 h2 mL top2 k2=>?_⟩
   ·exact (Heap.get?_update_other _ _ (fun y:S = b=>kX (by rw [y]; exact z))).trans e
   ·exact hR v2 h2 mL top2 fun b o z1 z2 e=>k2 b o z1 z2 ((Heap.get?_update_other _ _ (Ne.symm z2)).trans (k1 b o z1 e))
  | false =>
   rw [hb,if_neg Bool.false_ne_true] at eb
   simp only [Bool.false_eq_true,if_false]
   refine wpAny_bind (wpAny_letGo ?_)
   rw [nm]
   refine wpAny_pure ⟨plainId_quiet F.plain_min_loop _,ih (j + 1) _ vb c (by omega) bE jG (by rw [eb]; exact mK) gY fun v2 h2 mL top2 k2=>?_⟩
   exact hR v2 h2 mL top2 fun b o z1 z2 e=>k2 b o z1 z2 (k1 b o z1 e)
theorem S6 (W : Walks prog w A.in1 I fp wr aC.size (fun i v => aC[i]? = some v) St) (hG : ∀ h h', Good h -> (∀ b o, b ∉ wr -> b ≠ S -> h.get? b = some o -> h'.get? b = some o) -> Good h')
  (hc:∀ i j vi vj (s:Shared),Good s.heap -> aC[i]? = some vi -> aC[j]? = some vj -> ∀ E Q,Q (.bool (bt i j)) s -> wpAny (model prog w) A.in1 (richCompare .Lt vi vj) Q E s) (kX:S ∉ fp) {s:Shared} {c:Nat} (bS:St 0 s.heap) (hg:Good s.heap)
  (hS:s.heap.get? S = some { cls := .type "list",dict:=none,data := .seq #[] c,slots := #[] }) (hn:0 < aC.size)
  (hR:∀ v h' tk,aC[argBest bt (aC.size - 1)]? = some v -> (∀ b o,b ∉ wr -> b ≠ S -> s.heap.get? b = some o -> h'.get? b = some o) -> R (.ok (.ret v)) { s with heap:=h',toks:=tk }) :
  codeAny (model prog w) A (.builtin "min.loop" ⟨[.ref I,.none,.ref S],[]⟩) R s:=by
 have rP:S ∉ wr:=fun z=>kX (W.sub _ z)
 have nm:(toString "min" ++ toString ".loop" : String) = "min.loop" := by decide
 refine Oh ?_
 refine wpAny_bind ( wpAny_seqItems hS rfl ?_)
 show wpAny (model prog w) A.in1 (tryCatch (pyNext (.ref I)) _ >>= _) _ _ s
 refine wpAny_bind (wpAny_tryCatch (W.item 0 s _ _ hn bS fun v h1 gX hP bE k1=>?_))
 have gY:=k1 S _ rP hS
 have jG:Good h1:=hG _ _ hg fun b o z1 _ e=>k1 b o z1 e
 show wpAny (model prog w) A.in1 (updateSeq S (fun _=>#[v,v]) >>= _) _ _ _
 refine wpAny_bind ?_
 refine wpAny_updateSeq gY rfl ?_
 rw [nm]
 refine wpAny_pure ⟨plainId_quiet F.plain_min_loop _,av W hG hc kX (aC.size - 1) 0 _ v _ (by omega) (W.frame _ _ _ bE fun b z o e=>?_) (hG _ _ jG fun b o z1 z2 e=>(Heap.get?_update_other _ _ (Ne.symm z2)).trans e) hP (Heap.get?_update_self _ gY rfl) fun v2 h2 mL top2 k2=>?_⟩
 ·exact (Heap.get?_update_other _ _ (fun y:S = b=>kX (by rw [y]; exact z))).trans e
 ·exact hR v2 h2 mL top2 fun b o z1 z2 e=>k2 b o z1 z2 ((Heap.get?_update_other _ _ (Ne.symm z2)).trans (k1 b o z1 e))
end
section
variable {prog:Program} {w:World} {A:Around} {R:Result -> Shared -> Prop} {I S:Addr} {fp wr:List Addr} {St:Nat -> Heap -> Prop} {aC:Array Value} {bt:Nat -> Nat -> Bool} {Good:Heap -> Prop}
theorem Oo {a : Args} {s : Shared} (h : wpAny (model prog w) A.in1 (Builtin.«max.loop» a) (fun fin s' => match fin with
   | .done f=>R (.ok f) s'
   | .again c'=>c'.quiet = true /\ codeAny (model prog w) A c' R s') (fun e s'=>R (.error e) s') s):codeAny (model prog w) A (.builtin "max.loop" a) R s:=by
 refine codeAny_builtin F.entry_max_loop ?_; rw [Around.under_plainId F.plain_max_loop _]
 exact h
theorem Zk (W : Walks prog w A.in1 I fp wr aC.size (fun i v => aC[i]? = some v) St) (hG : ∀ h h', Good h -> (∀ b o, b ∉ wr -> b ≠ S -> h.get? b = some o -> h'.get? b = some o) -> Good h')
  (hc:∀ i j vi vj (s:Shared),Good s.heap -> aC[i]? = some vi -> aC[j]? = some vj -> ∀ E Q,Q (.bool (bt i j)) s -> wpAny (model prog w) A.in1 (richCompare .Gt vi vj) Q E s) (kX:S ∉ fp) :
  ∀ (k j:Nat) (s:Shared) (vb:Value) (c:Nat),aC.size = j + 1 + k -> St (j + 1) s.heap -> Good s.heap -> aC[argBest bt j]? = some vb ->
  s.heap.get? S = some { cls := .type "list",dict:=none,data := .seq #[vb,vb] c,slots := #[] } ->
  (∀ v h' tk,aC[argBest bt (aC.size - 1)]? = some v -> (∀ b o,b ∉ wr -> b ≠ S -> s.heap.get? b = some o -> h'.get? b = some o) -> R (.ok (.ret v)) { s with heap:=h',toks:=tk }) ->
  codeAny (model prog w) A (.builtin "max.loop" ⟨[.ref I,.none,.ref S],[]⟩) R s:=by
 have rP:S ∉ wr:=fun z=>kX (W.sub _ z)
 have nm:(toString "max" ++ toString ".loop" : String) = "max.loop" := by decide
 intro k
 induction k with
 | zero =>
  intro j s vb c hk bS hg mK hS hR
  refine Oo ?_
  refine wpAny_bind ( wpAny_seqItems hS rfl ?_)
  show wpAny (model prog w) A.in1 (tryCatch (pyNext (.ref I)) _ >>= _) _ _ s
  have ej:j + 1 = aC.size:=by omega
  refine wpAny_bind (wpAny_tryCatch (W.done s _ _ (ej ▸ bS) fun h1 gX k1=>?_))
  have gY:=k1 S _ rP hS
  show wpAny (model prog w) A.in1 (updateSeq S (fun _=>#[]) >>= _) _ _ _
  refine wpAny_bind ?_
  refine wpAny_updateSeq gY rfl (wpAny_bind (wpAny_letGo (wpAny_pure ?_)))
  have e2:aC.size - 1 = j:=by omega
  exact hR vb _ gX (by rw [e2]; exact mK) fun b o z1 z2 e=>(Heap.get?_update_other _ _ (Ne.symm z2)).trans (k1 b o z1 e)
 | succ k ih =>
  intro j s vb c hk bS hg mK hS hR
  refine Oo ?_
  refine wpAny_bind ( wpAny_seqItems hS rfl ?_)
  show wpAny (model prog w) A.in1 (tryCatch (pyNext (.ref I)) _ >>= _) _ _ s
  refine wpAny_bind (wpAny_tryCatch (W.item (j + 1) s _ _ (by omega) bS fun v h1 gX hP bE k1=>?_))
  have gY:=k1 S _ rP hS
  have jG:Good h1:=hG _ _ hg fun b o z1 _ e=>k1 b o z1 e
  refine wpAny_bind (wpAny_pure ?_)
  refine wpAny_bind (wpAny_tryCatch (wpAny_holding (wpAny_bind ?_)))
  refine hc (j + 1) (argBest bt j) v vb { s with heap:=h1,toks:=gX } jG hP mK _ _ ?_
  refine wpAny_bind (wpAny_holding (wpAny_truthy_bool ?_))
  refine wpAny_bind (wpAny_letGo (wpAny_pure ?_))
  have eb:=Ds bt j
  cases hb:bt (j + 1) (argBest bt j) with
  | true =>
   rw [hb,if_pos rfl] at eb
   simp only [if_true]
   refine wpAny_bind ?_
   refine wpAny_updateSeq gY rfl (wpAny_bind (wpAny_letGo ?_))
   rw [nm]
   refine wpAny_pure ⟨plainId_quiet F.plain_max_loop _,ih (j + 1) _ v _ (by omega) (W.frame _ _ _ bE fun b z o e=>?_) (hG _ _ jG fun b o z1 z2 e=>(Heap.get?_update_other _ _ (Ne.symm z2)).trans e) (by rw [eb]; exact hP) (Heap.get?_update_self _ gY rfl) fun v2 h2 mL top2 k2=>?_⟩
   ·exact (Heap.get?_update_other _ _ (fun y:S = b=>kX (by rw [y]; exact z))).trans e
   ·exact hR v2 h2 mL top2 fun b o z1 z2 e=>k2 b o z1 z2 ((Heap.get?_update_other _ _ (Ne.symm z2)).trans (k1 b o z1 e))
  | false =>
   rw [hb,if_neg Bool.false_ne_true] at eb
   simp only [Bool.false_eq_true,if_false]
   refine wpAny_bind (wpAny_letGo ?_)
   rw [nm]
   refine wpAny_pure ⟨plainId_quiet F.plain_max_loop _,ih (j + 1) _ vb c (by omega) bE jG (by rw [eb]; exact mK) gY fun v2 h2 mL top2 k2=>?_⟩
   exact hR v2 h2 mL top2 fun b o z1 z2 e=>k2 b o z1 z2 (k1 b o z1 e)
theorem U0 (W : Walks prog w A.in1 I fp wr aC.size (fun i v => aC[i]? = some v) St) (hG : ∀ h h', Good h -> (∀ b o, b ∉ wr -> b ≠ S -> h.get? b = some o -> h'.get? b = some o) -> Good h')
  (hc:∀ i j vi vj (s:Shared),Good s.heap -> aC[i]? = some vi -> aC[j]? = some vj -> ∀ E Q,Q (.bool (bt i j)) s -> wpAny (model prog w) A.in1 (richCompare .Gt vi vj) Q E s) (kX:S ∉ fp) {s:Shared} {c:Nat} (bS:St 0 s.heap) (hg:Good s.heap)
  (hS:s.heap.get? S = some { cls := .type "list",dict:=none,data := .seq #[] c,slots := #[] }) (hn:0 < aC.size)
  (hR:∀ v h' tk,aC[argBest bt (aC.size - 1)]? = some v -> (∀ b o,b ∉ wr -> b ≠ S -> s.heap.get? b = some o -> h'.get? b = some o) -> R (.ok (.ret v)) { s with heap:=h',toks:=tk }) :
  codeAny (model prog w) A (.builtin "max.loop" ⟨[.ref I,.none,.ref S],[]⟩) R s:=by
 have rP:S ∉ wr:=fun z=>kX (W.sub _ z)
 have nm:(toString "max" ++ toString ".loop" : String) = "max.loop" := by decide
 refine Oo ?_
 refine wpAny_bind ( wpAny_seqItems hS rfl ?_)
 show wpAny (model prog w) A.in1 (tryCatch (pyNext (.ref I)) _ >>= _) _ _ s
 refine wpAny_bind (wpAny_tryCatch (W.item 0 s _ _ hn bS fun v h1 gX hP bE k1=>?_))
 have gY:=k1 S _ rP hS
 have jG:Good h1:=hG _ _ hg fun b o z1 _ e=>k1 b o z1 e
 show wpAny (model prog w) A.in1 (updateSeq S (fun _=>#[v,v]) >>= _) _ _ _
 refine wpAny_bind ?_
 refine wpAny_updateSeq gY rfl ?_
 rw [nm]
 refine wpAny_pure ⟨plainId_quiet F.plain_max_loop _,Zk W hG hc kX (aC.size - 1) 0 _ v _ (by omega) (W.frame _ _ _ bE fun b z o e=>?_) (hG _ _ jG fun b o z1 z2 e=>(Heap.get?_update_other _ _ (Ne.symm z2)).trans e) hP (Heap.get?_update_self _ gY rfl) fun v2 h2 mL top2 k2=>?_⟩
 ·exact (Heap.get?_update_other _ _ (fun y:S = b=>kX (by rw [y]; exact z))).trans e
 ·exact hR v2 h2 mL top2 fun b o z1 z2 e=>k2 b o z1 z2 ((Heap.get?_update_other _ _ (Ne.symm z2)).trans (k1 b o z1 e))
end
open PySem PySem.Spec PyProof.Rows PySem.SeqAt
theorem Ii {H:Hp}:∀ {ds:List PyData} {us:List V} {i:Nat} {d:PyData},aD H ds us -> ds[i]? = some d -> ∃ u,us[i]? = some u /\ Rp H d u
 | [],_,i,d,_,e=>by simp at e
 | x :: ds,us,0,d,h,e=>by
  unfold aD at h
  obtain ⟨u,iQ,rfl,h1,_⟩ := h
  cases e
  exact ⟨u,rfl,h1⟩
 | x :: ds,us,i + 1,d,h,e=>by
  unfold aD at h
  obtain ⟨u,iQ,rfl,_,h2⟩ := h
  obtain ⟨u2,e1,e2⟩ := Ii (i:=i) h2 (by simpa using e)
  exact ⟨u2,by simpa using e1,e2⟩
theorem Eo {H:Hp}:∀ {ds:List PyData} {us:List V},aD H ds us -> us.length = ds.length
 | [],us,h=>by
  unfold aD at h
  rw [h]
  rfl
 | x :: ds,us,h=>by
  unfold aD at h
  obtain ⟨u,iQ,rfl,_,h2⟩ := h
  rw [List.length_cons,List.length_cons,Eo h2]
theorem Hw {xs:List V} {us:List Value} {i:Nat} {u:Value} (r:As xs us) (h:us[i]? = some u):∃ x,xs[i]? = some x /\ Ap x u:=by
 have hi:=(List.getElem?_eq_some_iff.mp h).1
 have hl:=r.length
 obtain ⟨u2,e1,e2⟩ := r.get (List.getElem?_eq_getElem (show i < xs.length by omega))
 rw [h] at e1
 cases e1
 exact ⟨_,List.getElem?_eq_getElem (by omega),e2⟩
section
variable {X:Cx} {k:Nat}
theorem Vz (a:Value):argsOk "min" ⟨[a],[]⟩ := by
 unfold argsOk
 kernel_rfl
def Jt (ds:List PyData):Nat:=argBest (fun i j=>Jf (ds.getD i .none) (ds.getD j .none)) (ds.length - 1)
theorem j8 {pins : List (Addr × Obj)} {s : Shared} {σ : St} {H : Hp} {us : List V} {aC : List Value} {ds : List PyData} (hr : Cm k X.A) (I : Ag X pins σ H s) (rv : As us aC) (hd : aD H ds us) (qR : ∀ d ∈ ds, ∀ e ∈ ds, Gf d e) (wz : ∀ d ∈ ds, d.depth <= 50) (i j : Nat) (vi vj : Value) (s' : Shared)
  (hk:∀ b o,s.heap.get? b = some o -> s'.heap.get? b = some o) (h1:aC.toArray[i]? = some vi) (h2:aC.toArray[j]? = some vj) (E Q:Value -> Shared -> Prop) (q:Q (.bool (Jf (ds.getD i .none) (ds.getD j .none))) s'):wpAny (model X.prog X.w) X.A.in1 (richCompare .Lt vi vj) Q E s':=by
 have hl:=Eo hd
 have get:∀ (m:Nat) (vm:Value),aC.toArray[m]? = some vm -> ∃ x,Ap x vm /\ Rp H (ds.getD m .none) x /\ ds.getD m .none ∈ ds:=fun m vm h=>by
  obtain ⟨x,e1,e2⟩ := Hw rv (by simpa using h)
  have hm:m < ds.length:=by
   have:=(List.getElem?_eq_some_iff.mp e1).1
   omega
  have e3:ds[m]? = some (ds.getD m .none):=by
   rw [List.getD_eq_getElem?_getD,List.getElem?_eq_getElem hm]
   rfl
  obtain ⟨x2,f1,f2⟩ := Ii hd e3
  rw [e1] at f1
  cases f1
  exact ⟨x,e2,f2,List.mem_of_getElem? e3⟩
 obtain ⟨x,rx,px,mx⟩ := get i vi h1
 obtain ⟨y,ry,py,my⟩ := get j vj h2
 have I':Ag X pins σ H { s with heap:=s'.heap,toks:=s'.toks }:=I.kept (t':=s'.toks) hk
 obtain ⟨as,q1⟩ := Cp I' _ x vi px rx
 obtain ⟨bs,q2⟩ := Cp I' _ y vj py ry
 have hu:=hr.units
 have d1:=wz _ mx
 exact Kl _ _ X.A.in1 s' vi vj as bs q1 q2 (Cl _ x px) (Cl _ y py) (qR _ mx _ my) (by show X.A.units + 1 + _ < _; omega) _ _ _ _ q
def lq (K:PySem.W.Frag):List V -> Hp -> VK -> Prop:=fun xs H Q=>∃ (p:Addr) (us:List V) (ds:List PyData),xs = [.ref p] /\ B6 K H p us /\ aD H ds us /\ 0 < us.length /\ (∀ d ∈ ds,∀ e ∈ ds,Gf d e) /\ (∀ d ∈ ds,d.depth <= 50) /\ ∀ v,us[Jt ds]? = some v -> Q v H
theorem Wf (K:PySem.W.Frag) (hr:Cm k X.A) (hc:X.calm = true) (hK:X.K = K:=by rfl):Di X (.builtin "min") (lq K):=by
 subst hK
 intro pins s σ H xs QJ Q I r h
 obtain ⟨p,us,ds,rfl,hq,hd,bN,qR,wz,q⟩ := h
 obtain ⟨u,rfl,rx⟩ := Ji r
 cases rx
 obtain ⟨aC,rv,pl,hz⟩ := I.list hq
 have hl:=Eo hd
 have hil:=rv.length
 have nm:(toString "min" ++ toString ".loop" : String) = "min.loop" := by decide
 refine N4 (args:=⟨[.ref p],[]⟩) F.kind_min F.plain_min F.entry_min (Vz _) ?_
 show wpAny (model X.prog X.w) X.A.in1 (Builtin.Builtins.bindParams "min" ["key","default"] 0 ⟨[],[]⟩ >>= _) _ _ s
 refine wpAny_bind (wpAny_of_eq (show Builtin.Builtins.bindParams "min" ["key","default"] 0 ⟨[],[]⟩ = pure [none,none] from ?_) ?_)
 ·kernel_rfl
 refine wpAny_bind (wpAny_pure ?_)
 refine wpAny_bind (wpAny_pyIter_list pl.isList ?_)
 refine wpAny_bind (wpAny_newObj_type ?_)
 rw [nm]
 refine wpAny_pure ⟨plainId_quiet F.plain_min_loop _,?_⟩
 have mM:p < s.heap.objs.size:=pl.lt
 have W:=Walks.list (prog:=X.prog) (w:=X.w) (A:=X.A.in1) (I.ok.hd hc) s.heap.objs.size p (Nat.ne_of_lt mM) aC.toArray
 have hsz:(s.heap.push { cls := .type "list_iterator",data := .fields #[.ref p,.int 0 0] }).objs.size = s.heap.objs.size + 1:=by simp [Heap.push]
 refine S6 (S:=(s.heap.push { cls := .type "list_iterator",data := .fields #[.ref p,.int 0 0] }).objs.size) (bt:=fun i j=>Jf (ds.getD i .none) (ds.getD j .none)) (Good:=fun h=>∀ b o,s.heap.get? b = some o -> h.get? b = some o) W (fun h h' g kk b o e=>kk b o ?_ ?_ (g b o e)) (fun i j vi vj s' g h1 h2 E Q' q'=>j8 hr I rv hd qR wz i j vi vj s' g h1 h2 E Q' q') ?_ ⟨⟨_,Heap.get?_push_of_some _ (Heap.get?_push_size _ rfl),rfl,rfl⟩,?_⟩ (fun b o e=>Heap.get?_push_of_some _ (Heap.get?_push_of_some _ e)) (Heap.get?_push_size _ rfl) (by simp; omega) (fun v h' tk e kk=>?_)
 ·exact fun z=>Nat.ne_of_lt (Heap.lt_size e) (by simpa using z)
 ·rw [hsz]
  exact Nat.ne_of_lt (Nat.lt_succ_of_lt (Heap.lt_size e))
 ·rw [hsz]
  intro z
  have z':s.heap.objs.size + 1 = s.heap.objs.size \/ s.heap.objs.size + 1 = p:=by simpa using z
  rcases z' with z' | z'
  ·exact Nat.succ_ne_self _ z'
  ·exact Nat.lt_irrefl _ (Nat.lt_trans (Nat.lt_succ_self _) (z'.symm ▸ mM:s.heap.objs.size + 1 < s.heap.objs.size))
 ·obtain ⟨o,ho,r1⟩ := pl.isList
  exact ⟨o,Heap.get?_push_of_some _ (Heap.get?_push_of_some _ ho),r1⟩
 ·have QN : aC.toArray.size - 1 = ds.length - 1 := by
   simp
   omega
  rw [QN] at e
  obtain ⟨x,e1,e2⟩ := Hw rv (by simpa using e)
  refine ⟨x,H,I.kept (t':=tk) (fun b o z=>kk b o ?_ ?_ (Heap.get?_push_of_some _ (Heap.get?_push_of_some _ z))),e2,q x e1⟩
  ·exact fun y=>Nat.ne_of_lt (Heap.lt_size z) (by simpa using y)
  ·rw [hsz]
   exact Nat.ne_of_lt (Nat.lt_succ_of_lt (Heap.lt_size z))
def su:List V -> Hp -> VK -> Prop:=fun xs H Q=>∃ (x y:V) (d e:PyData),xs = [x,y] /\ Rp H d x /\ Rp H e y /\ (∀ a ∈ [d,e],∀ b ∈ [d,e],Gf a b) /\ d.depth <= 50 /\ e.depth <= 50 /\ Q (if Jf e d = true then y else x) H
end
section
variable {X:Cx} {k:Nat}
theorem Vg (a:Value):argsOk "max" ⟨[a],[]⟩ := by
 unfold argsOk
 kernel_rfl
def Dg (ds:List PyData):Nat:=argBest (fun i j=>Va (ds.getD i .none) (ds.getD j .none)) (ds.length - 1)
theorem im {pins : List (Addr × Obj)} {s : Shared} {σ : St} {H : Hp} {us : List V} {aC : List Value} {ds : List PyData} (hr : Cm k X.A) (I : Ag X pins σ H s) (rv : As us aC) (hd : aD H ds us) (qR : ∀ d ∈ ds, ∀ e ∈ ds, Gf d e) (wz : ∀ d ∈ ds, d.depth <= 50) (i j : Nat) (vi vj : Value) (s' : Shared)
  (hk:∀ b o,s.heap.get? b = some o -> s'.heap.get? b = some o) (h1:aC.toArray[i]? = some vi) (h2:aC.toArray[j]? = some vj) (E Q:Value -> Shared -> Prop) (q:Q (.bool (Va (ds.getD i .none) (ds.getD j .none))) s'):wpAny (model X.prog X.w) X.A.in1 (richCompare .Gt vi vj) Q E s':=by
 have hl:=Eo hd
 have get:∀ (m:Nat) (vm:Value),aC.toArray[m]? = some vm -> ∃ x,Ap x vm /\ Rp H (ds.getD m .none) x /\ ds.getD m .none ∈ ds:=fun m vm h=>by
  obtain ⟨x,e1,e2⟩ := Hw rv (by simpa using h)
  have hm:m < ds.length:=by
   have:=(List.getElem?_eq_some_iff.mp e1).1
   omega
  have e3:ds[m]? = some (ds.getD m .none):=by
   rw [List.getD_eq_getElem?_getD,List.getElem?_eq_getElem hm]
   rfl
  obtain ⟨x2,f1,f2⟩ := Ii hd e3
  rw [e1] at f1
  cases f1
  exact ⟨x,e2,f2,List.mem_of_getElem? e3⟩
 obtain ⟨x,rx,px,mx⟩ := get i vi h1
 obtain ⟨y,ry,py,my⟩ := get j vj h2
 have I':Ag X pins σ H { s with heap:=s'.heap,toks:=s'.toks }:=I.kept (t':=s'.toks) hk
 obtain ⟨as,q1⟩ := Cp I' _ x vi px rx
 obtain ⟨bs,q2⟩ := Cp I' _ y vj py ry
 have hu:=hr.units
 have d1:=wz _ mx
 exact Pq _ _ X.A.in1 s' vi vj as bs q1 q2 (Cl _ x px) (Cl _ y py) (qR _ mx _ my) (by show X.A.units + 1 + _ < _; omega) _ _ _ _ q
def jt (K:PySem.W.Frag):List V -> Hp -> VK -> Prop:=fun xs H Q=>∃ (p:Addr) (us:List V) (ds:List PyData),xs = [.ref p] /\ B6 K H p us /\ aD H ds us /\ 0 < us.length /\ (∀ d ∈ ds,∀ e ∈ ds,Gf d e) /\ (∀ d ∈ ds,d.depth <= 50) /\ ∀ v,us[Dg ds]? = some v -> Q v H
theorem Wm (K:PySem.W.Frag) (hr:Cm k X.A) (hc:X.calm = true) (hK:X.K = K:=by rfl):Di X (.builtin "max") (jt K):=by
 subst hK
 intro pins s σ H xs QJ Q I r h
 obtain ⟨p,us,ds,rfl,hq,hd,bN,qR,wz,q⟩ := h
 obtain ⟨u,rfl,rx⟩ := Ji r
 cases rx
 obtain ⟨aC,rv,pl,hz⟩ := I.list hq
 have hl:=Eo hd
 have hil:=rv.length
 have nm:(toString "max" ++ toString ".loop" : String) = "max.loop" := by decide
 refine N4 (args:=⟨[.ref p],[]⟩) F.kind_max F.plain_max F.entry_max (Vg _) ?_
 show wpAny (model X.prog X.w) X.A.in1 (Builtin.Builtins.bindParams "max" ["key","default"] 0 ⟨[],[]⟩ >>= _) _ _ s
 refine wpAny_bind (wpAny_of_eq (show Builtin.Builtins.bindParams "max" ["key","default"] 0 ⟨[],[]⟩ = pure [none,none] from ?_) ?_)
 ·kernel_rfl
 refine wpAny_bind (wpAny_pure ?_)
 refine wpAny_bind (wpAny_pyIter_list pl.isList ?_)
 refine wpAny_bind (wpAny_newObj_type ?_)
 rw [nm]
 refine wpAny_pure ⟨plainId_quiet F.plain_max_loop _,?_⟩
 have mM:p < s.heap.objs.size:=pl.lt
 have W:=Walks.list (prog:=X.prog) (w:=X.w) (A:=X.A.in1) (I.ok.hd hc) s.heap.objs.size p (Nat.ne_of_lt mM) aC.toArray
 have hsz:(s.heap.push { cls := .type "list_iterator",data := .fields #[.ref p,.int 0 0] }).objs.size = s.heap.objs.size + 1:=by simp [Heap.push]
 refine U0 (S:=(s.heap.push { cls := .type "list_iterator",data := .fields #[.ref p,.int 0 0] }).objs.size) (bt:=fun i j=>Va (ds.getD i .none) (ds.getD j .none)) (Good:=fun h=>∀ b o,s.heap.get? b = some o -> h.get? b = some o) W (fun h h' g kk b o e=>kk b o ?_ ?_ (g b o e)) (fun i j vi vj s' g h1 h2 E Q' q'=>im hr I rv hd qR wz i j vi vj s' g h1 h2 E Q' q') ?_ ⟨⟨_,Heap.get?_push_of_some _ (Heap.get?_push_size _ rfl),rfl,rfl⟩,?_⟩ (fun b o e=>Heap.get?_push_of_some _ (Heap.get?_push_of_some _ e)) (Heap.get?_push_size _ rfl) (by simp; omega) (fun v h' tk e kk=>?_)
 ·exact fun z=>Nat.ne_of_lt (Heap.lt_size e) (by simpa using z)
 ·rw [hsz]
  exact Nat.ne_of_lt (Nat.lt_succ_of_lt (Heap.lt_size e))
 ·rw [hsz]
  intro z
  have z':s.heap.objs.size + 1 = s.heap.objs.size \/ s.heap.objs.size + 1 = p:=by simpa using z
  rcases z' with z' | z'
  ·exact Nat.succ_ne_self _ z'
  ·exact Nat.lt_irrefl _ (Nat.lt_trans (Nat.lt_succ_self _) (z'.symm ▸ mM:s.heap.objs.size + 1 < s.heap.objs.size))
 ·obtain ⟨o,ho,r1⟩ := pl.isList
  exact ⟨o,Heap.get?_push_of_some _ (Heap.get?_push_of_some _ ho),r1⟩
 ·have QN : aC.toArray.size - 1 = ds.length - 1 := by
   simp
   omega
  rw [QN] at e
  obtain ⟨x,e1,e2⟩ := Hw rv (by simpa using e)
  refine ⟨x,H,I.kept (t':=tk) (fun b o z=>kk b o ?_ ?_ (Heap.get?_push_of_some _ (Heap.get?_push_of_some _ z))),e2,q x e1⟩
  ·exact fun y=>Nat.ne_of_lt (Heap.lt_size z) (by simpa using y)
  ·rw [hsz]
   exact Nat.ne_of_lt (Nat.lt_succ_of_lt (Heap.lt_size z))
def u4:List V -> Hp -> VK -> Prop:=fun xs H Q=>∃ (x y:V) (d e:PyData),xs = [x,y] /\ Rp H d x /\ Rp H e y /\ (∀ a ∈ [d,e],∀ b ∈ [d,e],Gf a b) /\ d.depth <= 50 /\ e.depth <= 50 /\ Q (if Va e d = true then y else x) H
end
section
variable {prog:Program} {w:World} {K:Type} [DecidableEq K] {knd:HeapKind prog w K} {A:Around} {E:Value -> Shared -> Prop} {s:Shared} {d:Addr} {xs:List (K × Addr × Value)}
end
section
variable {X:Cx}
end
section
variable {X:Cx} {pos:Pos} {ke ve:Expr} {tk tv:TE}
def qy (tk tv:TE):TE:=fun σ H Q=>∀ p,H p = none -> P8 [(tk,tv)] σ (upd H p (.dT [])) fun ps H2=>H2 p = some (.dT []) /\ ∃ b k y,ps = [(.ref b,y)] /\ Dx H2 b k /\ Q (.ref p) (upd H2 p (.dT [(k,y)]))
end
section
variable {P:Program} {w:World} {A:Around} {E:Value -> Shared -> Prop} {s:Shared}
end
section
variable {X:Cx}
def re (P:Program) (w:World):List V -> Hp -> VK -> Prop:=fun xs H Q=>∃ (D:Addr) (kvs:List ((List Int × Int) × V)),xs = [.ref D] /\ H D = some (.dT kvs) /\ (kvs.map fun kv=>G8 P w kv.1).Nodup /\ ∀ d,H d = none -> Q (.ref d) (upd H d (.dT kvs))
end
section
variable {X:Cx} {pins:List (Addr × Obj)} {σ:St} {H:Hp} {s:Shared} {k:Nat}
theorem Qv (I:Ag X pins σ H s) {d:PyData}:∀ {ds:List PyData} {vs:List V} {us:List Value},aD H ds vs -> As vs us -> ds.length = us.length /\ ∀ (m:Nat) (w:Value) (e:PyData),us[m]? = some w -> ds[m]? = some e -> Hm s.heap d w = PyData.eqv e d
 | [],vs,us,h,r=>by
  unfold aD at h
  subst h
  cases r
  exact ⟨rfl,fun m w e z=>by simp at z⟩
 | e :: ds,vs,us,h,r=>by
  unfold aD at h
  obtain ⟨x,xs,rfl,h1,h2⟩ := h
  cases r with
  | cons r1 r2 =>
   obtain ⟨as,q⟩ := Fx I h1 r1
   obtain ⟨l,ih⟩ := Qv I h2 r2
   refine ⟨by rw [List.length_cons,List.length_cons,l],fun m w e' z1 z2=>?_⟩
   cases m with
   | zero =>
    rw [List.getElem?_cons_zero] at z1 z2
    cases z1
    cases z2
    exact K9 q (Cl e x h1)
   | succ m =>
    rw [List.getElem?_cons_succ] at z1 z2
    exact ih m w e' z1 z2
def b8 (K:PySem.W.Frag):V -> List V -> Hp -> VK -> Prop:=fun x vs H Q=>∃ (l:Addr) (us:List V) (y:V) (d:PyData) (ds:List PyData) (j:Nat),x = .ref l /\ vs = [y] /\ B6 K H l us /\ Rp H d y /\ aD H ds us /\ d.depth <= 50 /\ (∃ e,ds[j]? = some e /\ PyData.eqv e d = true) /\ (∀ m e,m < j -> ds[m]? = some e -> PyData.eqv e d = false) /\ Q (.int (j:Nat)) H
theorem W9 (hr:Cm k X.A):em X "list.index" (b8 X.K):=by
 intro pins s σ H x vs v us Q I rx rv h
 obtain ⟨l,ys,y,d,ds,j,rfl,rfl,hq,hy,hall,hdep,⟨e0,hj,QO⟩,lR,q⟩ := h
 cases rx
 obtain ⟨u,rfl,ru⟩ := rv.one
 obtain ⟨aC,r,pl,hz⟩ := I.list hq
 obtain ⟨⟨oc,od,MX,gK⟩,n,e,hc,hd,hs⟩ := pl
 obtain rfl:oc = .type "list" := hc
 obtain rfl:MX = .seq aC.toArray n:=hs
 have hlen:=r.length
 have hu:=hr.units
 obtain ⟨qP,kJ⟩ := Qv (d:=d) I hall r
 have hjn:j < ds.length:=(List.getElem?_eq_some_iff.mp hj).1
 have h63:=Ha
 refine call_meets F.slot_list_index ⟨_,e,rfl⟩ F.entry_list_index (F.args_list_index_2 _ _) (PySem.SeqAt.list_indexAt l aC.toArray n od gK u (Hm s.heap d) j (by rw [List.size_toArray]; omega) ?_ ?_ ?_) ⟨e,fun z QE=>?_,?_⟩
 ·omega
 ·have hj2:j < aC.length:=by omega
  have e1:aC.toArray[j]'(by rw [List.size_toArray]; omega) = aC[j]:=by simp
  rw [e1,kJ j aC[j] e0 (List.getElem?_eq_getElem hj2) hj]
  exact QO
 ·intro m hm QF
  rw [List.size_toArray] at hm
  have e1:aC.toArray[m]'(by rw [List.size_toArray]; omega) = aC[m]:=by simp
  rw [e1,kJ m aC[m] ds[m] (List.getElem?_eq_getElem hm) (List.getElem?_eq_getElem (by omega))]
  exact lR m _ QF (List.getElem?_eq_getElem (by omega))
 ·exact K7 I hy ru (by show X.A.units + 1 + d.depth < cLine; omega) hall r z (by simpa using QE)
 ·exact ⟨.int (j:Nat),H,I.tok _,⟨_,rfl⟩,q⟩
end
def o0:Expr -> Bool
 | .Starred _ _=>false
 | _=>true
section
variable {X:Cx} {e:Expr} {es:List Expr} {te:TE} {t:TA}
theorem Dm {u u':TE} (h:PE X e u) (hu:u = u':=by rfl):PE X e u':=hu ▸ h
theorem D9 {tg:Expr} {w w':TI} (h:PI X tg e w) (hw:w = w':=by rfl):PI X tg e w':=hw ▸ h
def m7 (K:PySem.W.Frag):List V -> Hp -> VK -> Prop:=fun xs H Q=>∃ p ys,xs = [.ref p] /\ ((B6 K H p ys /\ ∀ l,H l = none -> Q (.ref l) (upd H l (.tup ys))) \/ (C0 K H p ys /\ Q (.ref p) H))
theorem Gb (K:PySem.W.Frag) (hK:X.K = K:=by rfl):Di X (.type "tuple") (m7 K):=by
 subst hK
 exact Lw
end
def Hz:Bool -> Keyed -> Array Keyed -> Nat -> Nat -> Nat -> StateT SortSt Sem (Option Nat):=sortPriv% PySem.Builtin.gallop
def Za:Array Keyed -> Array Keyed -> StateT SortSt Sem (Array Keyed):=sortPriv% PySem.Builtin.mergeLo
def Y9:Array Keyed -> Array Keyed -> StateT SortSt Sem (Array Keyed):=sortPriv% PySem.Builtin.mergeHi
def fa (f:Keyed -> Nat) (a:Array Keyed) (i:Nat):Nat:=match a[i]? with
 | some p=>f p
 | none=>0
theorem Aq {f:Keyed -> Nat} {a:Array Keyed} {i:Nat} {p:Keyed} (h:a[i]? = some p):fa f a i = f p:=by unfold fa; rw [h]
theorem Dv {f:Keyed -> Nat} {a b:Array Keyed} {i j:Nat} (h:a[i]? = b[j]?):fa f a i = fa f b j:=by unfold fa; rw [h]
def Hb (f:Keyed -> Nat) (a:Array Keyed) (lo hi:Nat):Prop := ∀ i j,lo <= i -> i <= j -> j < hi -> fa f a i <= fa f a j
section
variable {prog:Program} {w:World} {A:Around} {E:Value -> Shared -> Prop} {s:Shared} {κ:SortKind} {f:Keyed -> Nat} {a₀:Array Keyed} {st:SortSt}
def Hq (prog:Program) (w:World) (A:Around) (s:Shared) (κ:SortKind) (f:Keyed -> Nat) (a₀:Array Keyed):Prop := ∀ x y,x ∈ a₀ -> y ∈ a₀ -> ∀ (Q:Bool -> Shared -> Prop) (E:Value -> Shared -> Prop),Q (decide (f x < f y)) s -> wpAny (model prog w) A (keyLt' κ x.1 y.1) Q E s
structure Bs (κ:SortKind) (a₀:Array Keyed) (st:SortSt):Prop where
 perm:(arrOf st).Perm a₀
 kind:kindOf st = κ
 failed:failedOf st = none
theorem Bs.size (h:Bs κ a₀ st):(arrOf st).size = a₀.size:=h.perm.size_eq
theorem Bs.mem (h:Bs κ a₀ st) {i:Nat} {p:Keyed} (e:(arrOf st)[i]? = some p):p ∈ a₀:=h.perm.mem_iff.mp (Array.mem_of_getElem? e)
theorem Kg (hA:Hq prog w A s κ f a₀) (hk:kindOf st = κ) {x y:Keyed} (hx:x ∈ a₀) (hy:y ∈ a₀) {Q:Option Bool -> SortSt -> Prop} (h:Q (some (decide (f x < f y))) st):wpS (model prog w) A E s (lt' x y) Q st:=by
 rw [lt'_eq]
 refine wpS_bind (wpS_get ?_)
 rw [hk]
 refine wpS_bind (wpS_lift (wpAny_attempt (hA x y hx hy _ _ ⟨rfl,?_⟩)))
 exact wpS_pure h
theorem B7 {a:Array Keyed} {i:Nat} {p:Keyed} (e:a[i]? = some p) {Q:Keyed -> SortSt -> Prop} (h:Q p st):wpS (model prog w) A E s (elem' a i) Q st:=by
 rw [elem'_eq,e]
 exact wpS_pure h
theorem Bt {a:Array Keyed} {i:Nat} (h:i < a.size):∃ p,a[i]? = some p:=⟨a[i],getElem?_pos a i h⟩
theorem G3 (hA:Hq prog w A s κ f a₀) (hB:Bs κ a₀ st) {i j:Nat} (hi:i < a₀.size) (hj:j < a₀.size) {Q:Option Bool -> SortSt -> Prop} (h:Q (some (decide (fa f (arrOf st) i < fa f (arrOf st) j))) st):wpS (model prog w) A E s (ltAt' i j) Q st:=by
 obtain ⟨p,ep⟩ := Bt (a:=arrOf st) (i:=i) (by rw [hB.size]; exact hi)
 obtain ⟨q,eq⟩ := Bt (a:=arrOf st) (i:=j) (by rw [hB.size]; exact hj)
 rw [Aq ep,Aq eq] at h
 rw [ltAt'_eq]
 refine wpS_bind (wpS_get ?_)
 exact wpS_bind (B7 ep (wpS_bind (B7 eq (Kg hA hB.kind (hB.mem ep) (hB.mem eq) h))))
theorem Sr (hA : Hq prog w A s κ f a₀) (hk : kindOf st = κ) {left : Bool} {key : Keyed} {arr : Array Keyed} {i : Nat} (eX : key ∈ a₀) (kY : ∀ p, p ∈ arr -> p ∈ a₀) (hi : i < arr.size) {Q : Option Bool -> SortSt -> Prop}
  (h:Q (some (if left = true then decide (fa f arr i < f key) else !decide (f key < fa f arr i))) st):wpS (model prog w) A E s (elem' arr i >>= fun x=>if left = true then lt' x key else lt' key x >>= fun r=>pure (r.map fun b=>!b)) Q st:=by
 obtain ⟨p,ep⟩ := Bt hi
 rw [Aq ep] at h
 refine wpS_bind (B7 ep ?_)
 have hp:=kY p (Array.mem_of_getElem? ep)
 cases left with
 | true=>exact Kg hA hk hp eX h
 | false=>exact wpS_bind (Kg hA hk eX hp (wpS_pure h))
theorem Dc (hA : Hq prog w A s κ f a₀) (hk : kindOf st = κ) {left : Bool} {key : Keyed} {arr : Array Keyed} {base n hint : Nat} (eX : key ∈ a₀) (kY : ∀ p, p ∈ arr -> p ∈ a₀) (hn : base + n <= arr.size) (hh : hint < n) (hs : Hb f arr base (base + n)) {Q : Option Nat -> SortSt -> Prop}
  (h:∀ k,k <= n -> (∀ i,i < k -> if left = true then fa f arr (base + i) < f key else fa f arr (base + i) <= f key) -> (∀ i,k <= i -> i < n -> if left = true then f key <= fa f arr (base + i) else f key < fa f arr (base + i)) -> Q (some k) st):wpS (model prog w) A E s (Hz left key arr base n hint) Q st:=by
 obtain ⟨P,hP⟩ : ∃ P:Nat -> Bool,∀ i,P i = if left = true then decide (fa f arr (base + i) < f key) else !decide (f key < fa f arr (base + i)):=⟨_,fun _=>rfl⟩
 have mono:∀ i j,i <= j -> j < n -> P j = true -> P i = true:=fun i j h1 h2 h3=>by
  have h4:=hs (base + i) (base + j) (by omega) (by omega) (by omega)
  rw [hP] at h3 ⊢
  cases left <;> simp at h3 ⊢ <;> omega
 have rQ:∀ i j,i <= j -> j < n -> P i = false -> P j = false:=fun i j h1 h2 h3=>by
  cases e:P j with
  | false=>rfl
  | true=>rw [mono i j h1 h2 e] at h3; cases h3
 have ask:∀ i,i < n -> ∀ {Q':Option Bool -> SortSt -> Prop},Q' (some (P i)) st -> wpS (model prog w) A E s (elem' arr (base + i) >>= fun x=>if left = true then lt' x key else lt' key x >>= fun r=>pure (r.map fun b=>!b)) Q' st:=fun i hi Q' hq=>by
  rw [hP] at hq
  exact Sr hA hk eX kY (by omega) hq
 have out:∀ k,k <= n -> (∀ i,i < k -> P i = true) -> (∀ i,k <= i -> i < n -> P i = false) -> Q (some k) st:=fun k h1 h2 h3=>by
  refine h k h1 (fun i hi=>?_) (fun i hi kZ=>?_)
  ·have:=h2 i hi
   rw [hP] at this
   cases left <;> simp at this ⊢ <;> omega
  ·have:=h3 i hi kZ
   rw [hP] at this
   cases left <;> simp at this ⊢ <;> omega
 refine wpS_bind (ask hint hh ?_)
 dsimp only
 cases hr:P hint with
 | true =>
  rw [if_pos rfl]
  refine wpS_bind (wpS_mono (wpS_forRange (I:=fun x c aE=>aE = st /\ ∃ l o,c = (none,l,o) /\ l < o /\ P (hint + l) = true /\ hint + l < n /\ x + 1 <= o) (Q:=fun c aE=>aE = st /\ ∃ l o,c = (none,l,o) /\ l < o /\ P (hint + l) = true /\ hint + l < n /\ (n - hint <= o \/ P (hint + o) = false)) ?_ ?_ ⟨rfl,0,1,rfl,by omega,hr,hh,by omega⟩) ?_)
  ·rintro x c aE _ hx ⟨rfl,l,o,rfl,h1,h2,h3,h4⟩
   dsimp only
   by_cases ho:o >= n - hint
   ·rw [if_pos ho]
    exact wpS_pure ⟨rfl,l,o,rfl,h1,h2,h3,.inl ho⟩
   ·rw [if_neg ho]
    refine wpS_bind (ask (hint + o) (by omega) ?_)
    dsimp only
    cases e:P (hint + o) with
    | false=>exact wpS_pure ⟨rfl,l,o,rfl,h1,h2,h3,.inr e⟩
    | true=>exact wpS_pure ⟨rfl,o,2 * o + 1,rfl,by omega,e,by omega,by omega⟩
  ·rintro c aE ⟨rfl,l,o,rfl,h1,h2,h3,h4⟩
   exact ⟨rfl,l,o,rfl,h1,h2,h3,.inl (by omega)⟩
  rintro c aE ⟨rfl,l,o,rfl,h1,h2,h3,h4⟩
  dsimp only
  refine wpS_bind (wpS_mono (wpS_forRange (I:=fun x c aK=>aK = aE /\ ∃ lo hi,c = (none,lo,hi) /\ lo <= hi /\ hi <= n /\ (∀ i,i < lo -> P i = true) /\ (∀ i,hi <= i -> i < n -> P i = false) /\ hi + x <= lo + n) (Q:=fun c aK=>aK = aE /\ ∃ k,c = (none,k,k) /\ k <= n /\ (∀ i,i < k -> P i = true) /\ (∀ i,k <= i -> i < n -> P i = false)) ?_ ?_ ⟨rfl,_,_,rfl,by omega,by omega,fun i hi=>?_,fun i hi kZ=>?_,by omega⟩) ?_)
  ·rintro x c aK _ hx ⟨rfl,lo,hi,rfl,g1,g2,g3,g4,g5⟩
   dsimp only
   by_cases ho:lo >= hi
   ·rw [if_pos ho]
    obtain rfl:lo = hi:=by omega
    exact wpS_pure ⟨rfl,lo,rfl,g2,g3,g4⟩
   ·rw [if_neg ho]
    refine wpS_bind (ask (lo + (hi - lo) / 2) (by omega) ?_)
    dsimp only
    cases e:P (lo + (hi - lo) / 2) with
    | false =>
     refine wpS_pure ⟨rfl,lo,_,rfl,by omega,by omega,g3,fun i EJ kZ=>rQ _ i EJ kZ e,by omega⟩
    | true =>
     refine wpS_pure ⟨rfl,_,hi,rfl,by omega,g2,fun i EJ=>mono i _ (by omega) (by omega) e,g4,by omega⟩
  ·rintro c aK ⟨rfl,lo,hi,rfl,g1,g2,g3,g4,g5⟩
   obtain rfl:lo = hi:=by omega
   exact ⟨rfl,lo,rfl,g2,g3,g4⟩
  ·exact mono i (hint + l) (by omega) h3 h2
  ·rcases h4 with h4 | h4
   ·omega
   ·by_cases z:n - hint <= o
    ·omega
    ·exact rQ (hint + o) i (by omega) kZ h4
  rintro c aK ⟨rfl,k,rfl,g1,g2,g3⟩
  dsimp only
  exact wpS_pure (out k g1 g2 g3)
 | false =>
  rw [if_neg (by decide)]
  refine wpS_bind (wpS_mono (wpS_forRange (I:=fun x c aE=>aE = st /\ ∃ l o,c = (none,l,o) /\ l < o /\ P (hint - l) = false /\ l <= hint /\ x + 1 <= o) (Q:=fun c aE=>aE = st /\ ∃ l o,c = (none,l,o) /\ l < o /\ P (hint - l) = false /\ l <= hint /\ (hint + 1 <= o \/ P (hint - o) = true)) ?_ ?_ ⟨rfl,0,1,rfl,by omega,hr,by omega,by omega⟩) ?_)
  ·rintro x c aE _ hx ⟨rfl,l,o,rfl,h1,h2,h3,h4⟩
   dsimp only
   by_cases ho:o >= hint + 1
   ·rw [if_pos ho]
    exact wpS_pure ⟨rfl,l,o,rfl,h1,h2,h3,.inl ho⟩
   ·rw [if_neg ho]
    refine wpS_bind (ask (hint - o) (by omega) ?_)
    dsimp only
    cases e:P (hint - o) with
    | true=>exact wpS_pure ⟨rfl,l,o,rfl,h1,h2,h3,.inr e⟩
    | false=>exact wpS_pure ⟨rfl,o,2 * o + 1,rfl,by omega,e,by omega,by omega⟩
  ·rintro c aE ⟨rfl,l,o,rfl,h1,h2,h3,h4⟩
   exact ⟨rfl,l,o,rfl,h1,h2,h3,.inl (by omega)⟩
  rintro c aE ⟨rfl,l,o,rfl,h1,h2,h3,h4⟩
  dsimp only
  refine wpS_bind (wpS_mono (wpS_forRange (I:=fun x c aK=>aK = aE /\ ∃ lo hi,c = (none,lo,hi) /\ lo <= hi /\ hi <= n /\ (∀ i,i < lo -> P i = true) /\ (∀ i,hi <= i -> i < n -> P i = false) /\ hi + x <= lo + n) (Q:=fun c aK=>aK = aE /\ ∃ k,c = (none,k,k) /\ k <= n /\ (∀ i,i < k -> P i = true) /\ (∀ i,k <= i -> i < n -> P i = false)) ?_ ?_ ⟨rfl,_,_,rfl,by omega,by omega,fun i hi=>?_,fun i hi kZ=>?_,by omega⟩) ?_)
  ·rintro x c aK _ hx ⟨rfl,lo,hi,rfl,g1,g2,g3,g4,g5⟩
   dsimp only
   by_cases ho:lo >= hi
   ·rw [if_pos ho]
    obtain rfl:lo = hi:=by omega
    exact wpS_pure ⟨rfl,lo,rfl,g2,g3,g4⟩
   ·rw [if_neg ho]
    refine wpS_bind (ask (lo + (hi - lo) / 2) (by omega) ?_)
    dsimp only
    cases e:P (lo + (hi - lo) / 2) with
    | false =>
     refine wpS_pure ⟨rfl,lo,_,rfl,by omega,by omega,g3,fun i EJ kZ=>rQ _ i EJ kZ e,by omega⟩
    | true =>
     refine wpS_pure ⟨rfl,_,hi,rfl,by omega,g2,fun i EJ=>mono i _ (by omega) (by omega) e,g4,by omega⟩
  ·rintro c aK ⟨rfl,lo,hi,rfl,g1,g2,g3,g4,g5⟩
   obtain rfl:lo = hi:=by omega
   exact ⟨rfl,lo,rfl,g2,g3,g4⟩
  ·rcases h4 with h4 | h4
   ·omega
   ·by_cases z:hint + 1 <= o
    ·omega
    ·exact mono i (hint - o) (by omega) (by omega) h4
  ·exact rQ (hint - l) i (by omega) kZ h2
  rintro c aK ⟨rfl,k,rfl,g1,g2,g3⟩
  dsimp only
  exact wpS_pure (out k g1 g2 g3)
end
section
variable {f:Keyed -> Nat}
def D2 (f:Keyed -> Nat) (l:List Keyed):Prop:=l.Pairwise fun p q=>f p <= f q
def Gi (f:Keyed -> Nat) (l m:List Keyed):Prop := ∀ p ∈ l,∀ q ∈ m,f p <= f q
theorem Fz {l m:List Keyed} (h1:D2 f l) (h2:D2 f m) (h3:Gi f l m):D2 f (l ++ m):=List.pairwise_append.mpr ⟨h1,h2,h3⟩
theorem Fq {l:List Keyed} (h:D2 f l) (n:Nat):D2 f (l.drop n):=h.sublist (List.drop_sublist n l)
theorem Ft {l:List Keyed} (h:D2 f l) (n:Nat):D2 f (l.take n):=h.sublist (List.take_sublist n l)
theorem La {l:List Keyed} (h:D2 f l) {i j:Nat} {p q:Keyed} (hi:l[i]? = some p) (hj:l[j]? = some q) (wu:i <= j):f p <= f q:=by
 obtain ⟨h1,e1⟩ := List.getElem?_eq_some_iff.mp hi
 obtain ⟨h2,e2⟩ := List.getElem?_eq_some_iff.mp hj
 rcases Nat.lt_or_ge i j with z | z
 ·have:=List.pairwise_iff_getElem.mp h i j h1 h2 z
  rw [e1,e2] at this
  exact this
 ·obtain rfl:i = j:=by omega
  rw [e1] at e2
  rw [e2]
  exact Nat.le_refl _
theorem Ec {l:List Keyed} {i:Nat} {p:Keyed} (h:p ∈ l.drop i):∃ j,l[i + j]? = some p:=by
 obtain ⟨j,hj⟩ := List.mem_iff_getElem?.mp h
 rw [List.getElem?_drop] at hj
 exact ⟨j,hj⟩
theorem Du {l:List Keyed} {i k:Nat} {p:Keyed} (h:p ∈ (l.drop i).take k):∃ j,j < k /\ l[i + j]? = some p:=by
 obtain ⟨j,hj⟩ := List.mem_iff_getElem?.mp h
 have hjk:j < k:=by
  have:=(List.getElem?_eq_some_iff.mp hj).1
  rw [List.length_take] at this
  omega
 rw [List.getElem?_take_of_lt hjk,List.getElem?_drop] at hj
 exact ⟨j,hjk,hj⟩
def MI (f:Keyed -> Nat) (x y:List Keyed) (i j:Nat) (o:List Keyed):Prop:=o.Perm (x.take i ++ y.take j) /\ D2 f o /\ Gi f o (x.drop i ++ y.drop j)
theorem N2 (l:List Keyed) (i k:Nat):l.take (i + k) = l.take i ++ (l.drop i).take k:=by rw [List.take_add]
theorem Gq (l:List Keyed) (i k:Nat):l.drop i = (l.drop i).take k ++ l.drop (i + k):=by
 have:=(List.take_append_drop k (l.drop i)).symm
 rw [List.drop_drop] at this
 exact this
theorem MI.iR {x y o:List Keyed} {i j k:Nat} (h:MI f x y i j o) (hx:D2 f x) (hle:Gi f ((x.drop i).take k) (y.drop j)):MI f x y (i + k) j (o ++ (x.drop i).take k):=by
 obtain ⟨h1,h2,h3⟩ := h
 have hd:=Gq x i k
 refine ⟨?_,?_,?_⟩
 ·rw [N2]
  refine (h1.append_right _).trans ?_
  rw [List.append_assoc,List.append_assoc]
  exact List.Perm.append_left _ List.perm_append_comm
 ·refine Fz h2 (Ft (Fq hx i) k) fun p hp q hq=>h3 p hp q (List.mem_append_left _ (List.mem_of_mem_take hq))
 ·intro p hp q hq
  rcases List.mem_append.mp hp with z | z
  ·rcases List.mem_append.mp hq with y' | y'
   ·refine h3 p z q (List.mem_append_left _ ?_)
    rw [hd]
    exact List.mem_append_right _ y'
   ·exact h3 p z q (List.mem_append_right _ y')
  ·rcases List.mem_append.mp hq with y' | y'
   ·have hs:=Fq hx i
    rw [hd] at hs
    exact (List.pairwise_append.mp hs).2.2 p z q y'
   ·exact hle p z q y'
theorem MI.swap {x y o:List Keyed} {i j:Nat} (h:MI f x y i j o):MI f y x j i o:=⟨h.1.trans List.perm_append_comm,h.2.1,fun p hp q hq=>h.2.2 p hp q (List.perm_append_comm.mem_iff.mp hq)⟩
theorem MI.EK {x y o:List Keyed} {i j k:Nat} (h:MI f x y i j o) (hy:D2 f y) (hle:Gi f ((y.drop j).take k) (x.drop i)):MI f x y i (j + k) (o ++ (y.drop j).take k):=(h.swap.iR hy hle).swap
def Co (f:Keyed -> Nat) (x y r:List Keyed):Prop:=r.Perm (x ++ y) /\ D2 f r
theorem MI.done {x y o:List Keyed} {i j:Nat} (h:MI f x y i j o) (hx:D2 f x) (hy:D2 f y) (hle:Gi f (x.drop i) (y.drop j)):Co f x y (o ++ x.drop i ++ y.drop j):=by
 obtain ⟨h1,h2,h3⟩ := h
 refine ⟨?_,?_⟩
 ·rw [List.append_assoc]
  refine (h1.append_right _).trans ?_
  have e:x ++ y = (x.take i ++ x.drop i) ++ (y.take j ++ y.drop j):=by rw [List.take_append_drop,List.take_append_drop]
  rw [e,List.append_assoc,List.append_assoc]
  refine List.Perm.append_left _ ?_
  rw [<- List.append_assoc,<- List.append_assoc]
  exact List.Perm.append_right _ List.perm_append_comm
 ·rw [List.append_assoc]
  exact Fz h2 (Fz (Fq hx i) (Fq hy j) hle) h3
theorem MI.mN {x y o:List Keyed} {i j:Nat} (h:MI f x y i j o) (hx:D2 f x) (hy:D2 f y) (hle:Gi f (y.drop j) (x.drop i)):Co f x y (o ++ y.drop j ++ x.drop i):=by
 obtain ⟨g1,g2⟩ := h.swap.done hy hx hle
 exact ⟨g1.trans List.perm_append_comm,g2⟩
theorem Oa {l:List Keyed} {i:Nat} {p:Keyed} (h:l[i]? = some p):(l.drop i).take 1 = [p]:=by
 obtain ⟨h1,e⟩ := List.getElem?_eq_some_iff.mp h
 rw [List.drop_eq_getElem_cons h1,e]
 rfl
theorem MI.tO {x y o:List Keyed} {i j:Nat} {p q:Keyed} (h:MI f x y i j o) (hx:D2 f x) (hy:D2 f y) (hp:x[i]? = some p) (hq:y[j]? = some q) (hle:f p <= f q):MI f x y (i + 1) j (o ++ [p]):=by
 rw [<- Oa hp]
 refine h.iR hx fun a ha b hb=>?_
 rw [Oa hp] at ha
 cases List.mem_singleton.mp ha
 obtain ⟨k,hk⟩ := Ec hb
 exact Nat.le_trans hle (La hy hq hk (by omega))
theorem MI.EL {x y o:List Keyed} {i j:Nat} {p q:Keyed} (h:MI f x y i j o) (hx:D2 f x) (hy:D2 f y) (hp:x[i]? = some p) (hq:y[j]? = some q) (hle:f q <= f p):MI f x y i (j + 1) (o ++ [q]):=(h.swap.tO hy hx hq hp hle).swap
end
section
variable {f:Keyed -> Nat} {a b o:Array Keyed} {i j k:Nat}
theorem Jy (a:Array Keyed) (i:Nat):(a.extract i).toList = a.toList.drop i:=by
 rw [Array.toList_extract]
 show (a.toList.drop i).take (a.size - i) = _
 rw [List.take_of_length_le (by rw [List.length_drop,Array.length_toList]; omega)]
theorem G6 (a:Array Keyed) (i k:Nat):(a.extract i (i + k)).toList = (a.toList.drop i).take k:=by
 simp [List.extract]
theorem O8 (a:Array Keyed) (k:Nat):(a.extract 0 k).toList = a.toList.take k:=by simp
theorem MI.aU (h:MI f a.toList b.toList i j o.toList) (hx:D2 f a.toList) (hy:D2 f b.toList) (e:j = b.size \/ i = a.size):Co f a.toList b.toList (o ++ a.extract i ++ b.extract j).toList:=by
 rw [Array.toList_append,Array.toList_append,Jy,Jy]
 refine h.done hx hy ?_
 rcases e with e | e
 ·rw [List.drop_of_length_le (l:=b.toList) (by rw [Array.length_toList]; omega)]
  intro p _ q hq
  cases hq
 ·rw [List.drop_of_length_le (l:=a.toList) (by rw [Array.length_toList]; omega)]
  intro p hp
  cases hp
theorem MI.fD (h:MI f a.toList b.toList i j o.toList) (hx:D2 f a.toList) (hy:D2 f b.toList) (e:i + 1 = a.size) (hl:∀ q ∈ b.toList,f q <= fa f a i):Co f a.toList b.toList (o ++ b.extract j ++ a.extract i).toList:=by
 rw [Array.toList_append,Array.toList_append,Jy,Jy]
 refine h.mN hx hy fun p hp q hq=>?_
 obtain ⟨m,hm⟩ := Ec hq
 have aM:=(List.getElem?_eq_some_iff.mp hm).1
 rw [Array.length_toList] at aM
 obtain rfl:m = 0:=by omega
 have h1:=hl p (List.mem_of_mem_drop hp)
 rw [Nat.add_zero,Array.getElem?_toList] at hm
 rw [Aq hm] at h1
 exact h1
theorem MI.fH (h:MI f a.toList b.toList i j o.toList) (hx:D2 f a.toList) (hy:D2 f b.toList) {p:Keyed} (hp:a[i]? = some p) (hj:j < b.size) (hle:f p <= fa f b j):MI f a.toList b.toList (i + 1) j (o.push p).toList:=by
 obtain ⟨q,hq⟩ := Bt hj
 rw [Aq hq] at hle
 rw [Array.toList_push]
 exact h.tO hx hy (by rw [Array.getElem?_toList]; exact hp) (by rw [Array.getElem?_toList]; exact hq) hle
theorem MI.gM (h:MI f a.toList b.toList i j o.toList) (hx:D2 f a.toList) (hy:D2 f b.toList) {q:Keyed} (hq:b[j]? = some q) (hi:i < a.size) (hle:f q <= fa f a i):MI f a.toList b.toList i (j + 1) (o.push q).toList:=by
 obtain ⟨p,hp⟩ := Bt hi
 rw [Aq hp] at hle
 rw [Array.toList_push]
 exact h.EL hx hy (by rw [Array.getElem?_toList]; exact hp) (by rw [Array.getElem?_toList]; exact hq) hle
theorem MI.mO (h:MI f a.toList b.toList i j o.toList) (hx:D2 f a.toList) (hy:D2 f b.toList) {q:Keyed} (hq:b[j]? = some q) (hle:∀ m,m < k -> fa f a (i + m) <= f q):MI f a.toList b.toList (i + k) j (o ++ a.extract i (i + k)).toList:=by
 rw [Array.toList_append,G6]
 refine h.iR hx fun x lQ y mD=>?_
 obtain ⟨m,hm,e⟩ := Du lQ
 obtain ⟨m2,e2⟩ := Ec mD
 have h1:=hle m hm
 rw [Array.getElem?_toList] at e
 rw [Aq e] at h1
 exact Nat.le_trans h1 (La hy (by rw [Array.getElem?_toList]; exact hq) e2 (by omega))
theorem MI.wA (h:MI f a.toList b.toList i j o.toList) (hx:D2 f a.toList) (hy:D2 f b.toList) {p:Keyed} (hp:a[i]? = some p) (hle:∀ m,m < k -> fa f b (j + m) <= f p):MI f a.toList b.toList i (j + k) (o ++ b.extract j (j + k)).toList:=by
 rw [Array.toList_append,G6]
 refine h.EK hy fun x lQ y mD=>?_
 obtain ⟨m,hm,e⟩ := Du lQ
 obtain ⟨m2,e2⟩ := Ec mD
 have h1:=hle m hm
 rw [Array.getElem?_toList] at e
 rw [Aq e] at h1
 exact Nat.le_trans h1 (La hx (by rw [Array.getElem?_toList]; exact hp) e2 (by omega))
theorem Jv (h:D2 f a.toList) {lo hi:Nat} (hh:hi <= a.size):Hb f a lo hi:=fun i j h1 h2 h3=>by
 obtain ⟨p,hp⟩ := Bt (a:=a) (i:=i) (by omega)
 obtain ⟨q,hq⟩ := Bt (a:=a) (i:=j) (by omega)
 rw [Aq hp,Aq hq]
 exact La h (by rw [Array.getElem?_toList]; exact hp) (by rw [Array.getElem?_toList]; exact hq) h2
theorem Eg {m n:Nat} (h:m = n):(m == n) = true:=by simp [h]
theorem Ef {m n:Nat} (h:¬ m = n):¬ (m == n) = true:=by simp [h]
end
section
variable {prog:Program} {w:World} {A:Around} {E:Value -> Shared -> Prop} {s:Shared} {κ:SortKind} {f:Keyed -> Nat} {a₀:Array Keyed} {st:SortSt}
def Gs (st aE:SortSt):Prop := ∃ g,aE = SortSt.mk' (kindOf st) (arrOf st) (pendingOf st) g (failedOf st)
theorem Gs.refl:Gs st st:=⟨gallopOf st,rfl⟩
theorem Z8 {σ β:Type} {M:Model} {c:Prop} [Decidable c] {Q:β -> σ -> Prop} {st:σ} {g:Nat -> StateT σ Sem β} {X Y:StateT σ Sem β} (y x:Nat) (ey:Y = g y) (ex:X = g x) (h:∀ z,wpS M A E s (g z) Q st):wpS M A E s (if c then X else Y) Q st:=by
 subst ey ex
 split
 ·exact h x
 ·exact h y
theorem K0 {σ β:Type} {M:Model} {c:Prop} [Decidable c] {Q:β -> σ -> Prop} {st:σ} {g:Array Keyed -> Nat -> StateT σ Sem β} {X Y:StateT σ Sem β} (P:Array Keyed -> Nat -> Prop) (o:Array Keyed) (i:Nat) (ey:Y = g o i) (hy:¬ c -> P o i) (hx:c -> (∀ o i,P o i -> wpS M A E s (g o i) Q st) -> wpS M A E s X Q st) (h:∀ o i,P o i -> wpS M A E s (g o i) Q st):wpS M A E s (if c then X else Y) Q st:=by
 subst ey
 split
 ·rename_i z
  exact hx z h
 ·rename_i z
  exact h o i (hy z)
theorem R7 (hA : Hq prog w A s κ f a₀) (hk : kindOf st = κ) {a b : Array Keyed} (ha : ∀ p, p ∈ a -> p ∈ a₀) (hb : ∀ p, p ∈ b -> p ∈ a₀) (hx : D2 f a.toList) (hy : D2 f b.toList) (ha0 : 0 < a.size) (ND : 0 < b.size)
  (cV:fa f b 0 <= fa f a 0) (mP:∀ q ∈ b.toList,f q <= fa f a (a.size - 1)) {Q:Array Keyed -> SortSt -> Prop} (h:∀ r aE,Gs st aE -> Co f a.toList b.toList r.toList -> Q r aE):wpS (model prog w) A E s (Za a b) Q st:=by
 have last:∀ i,i + 1 = a.size -> ∀ q ∈ b.toList,f q <= fa f a i:=fun i hi q hq=>by
  have:=mP q hq
  rwa [show a.size - 1 = i by omega] at this
 have dQ:∀ g,kindOf (SortSt.mk' (kindOf st) (arrOf st) (pendingOf st) g (failedOf st)) = κ:=fun g=>hk
 obtain ⟨q0,QP⟩ := Bt ND
 refine wpS_bind (wpS_lift (wpAny_rule ⟨rfl,?_⟩))
 refine wpS_bind (B7 QP ?_)
 have M0:MI f a.toList b.toList 0 0 (#[]:Array Keyed).toList:=⟨by simp,List.Pairwise.nil,fun p hp=>by cases hp⟩
 have M1:=M0.gM hx hy QP ha0 (by rw [Aq QP] at cV; exact cV)
 rw [show (#[]:Array Keyed).push q0 = #[q0] from rfl] at M1
 dsimp -zeta only
 by_cases e1:0 + 1 = b.size
 ·rw [if_pos (Eg e1)]
  exact wpS_pure (h _ _ Gs.refl (M1.aU hx hy (.inl e1)))
 rw [if_neg (Ef e1)]
 by_cases e2:0 + 1 = a.size
 ·rw [if_pos (Eg e2)]
  exact wpS_pure (h _ _ Gs.refl (M1.fD hx hy e2 (last 0 e2)))
 rw [if_neg (Ef e2)]
 refine wpS_bind (wpS_get ?_)
 refine wpS_bind (wpS_mono (wpS_forRange (I:=fun x c aE=>Gs st aE /\ ∃ o ia ib g,c = (none,o,ia,ib,g) /\ MI f a.toList b.toList ia ib o.toList /\ ia + 1 < a.size /\ ib < b.size /\ x + 1 <= ia + ib)
  (Q:=fun c aE=>Gs st aE /\ ∃ r z,c = (some r,z) /\ Co f a.toList b.toList r.toList) ?_ ?_ ⟨Gs.refl,_,_,_,_,rfl,M1,by omega,by omega,by omega⟩) ?_)
 ·rintro x c bE _ lQ ⟨G1,o,ia,ib,g,rfl,M,h1,h2,h3⟩
  dsimp -zeta only
  refine wpS_bind (wpS_mono (wpS_forRange (I:=fun y c aE=>Gs st aE /\ ∃ o ia ib ac bc,c = (none,o,ia,ib,ac,bc) /\ MI f a.toList b.toList ia ib o.toList /\ ia + 1 < a.size /\ ib < b.size /\ x + 1 + y <= ia + ib)
   (Q:=fun c aE=>Gs st aE /\ ((∃ r z,c = (some r,z) /\ Co f a.toList b.toList r.toList) \/ ∃ o ia ib ac bc,c = (none,o,ia,ib,ac,bc) /\ MI f a.toList b.toList ia ib o.toList /\ ia + 1 < a.size /\ ib < b.size /\ x + 2 <= ia + ib)) ?_ ?_ ⟨G1,_,_,_,_,_,rfl,M,h1,h2,by omega⟩) ?_)
  ·clear M h1 h2 h3 G1
   rintro y c bE _ mD ⟨G1,o,ia,ib,ac,bc,rfl,M,h1,h2,h3⟩
   obtain ⟨gx,rfl⟩ := G1
   obtain ⟨q,hq⟩ := Bt h2
   obtain ⟨p,hp⟩ := Bt (a:=a) (i:=ia) (by omega)
   dsimp -zeta only
   refine wpS_bind (B7 hq (wpS_bind (B7 hp (wpS_bind (Kg hA (dQ gx) (hb q (Array.mem_of_getElem? hq)) (ha p (Array.mem_of_getElem? hp)) ?_)))))
   dsimp -zeta only
   by_cases z:f q < f p
   ·rw [if_pos (decide_eq_true z)]
    have M2:=M.gM hx hy hq (by omega) (by rw [Aq hp]; omega)
    refine wpS_bind (B7 hq ?_)
    by_cases e:ib + 1 = b.size
    ·rw [if_pos (Eg e)]
     exact wpS_pure ⟨⟨_,rfl⟩,.inl ⟨_,_,rfl,M2.aU hx hy (.inl e)⟩⟩
    rw [if_neg (Ef e)]
    split
    ·exact wpS_pure ⟨⟨_,rfl⟩,.inr ⟨_,_,_,_,_,rfl,M2,h1,by omega,by omega⟩⟩
    ·exact wpS_pure ⟨⟨_,rfl⟩,_,_,_,_,_,rfl,M2,h1,by omega,by omega⟩
   ·rw [if_neg (by rw [decide_eq_true_eq]; exact z)]
    have M2:=M.fH hx hy hp h2 (by rw [Aq hq]; omega)
    refine wpS_bind (B7 hp ?_)
    by_cases e:ia + 1 + 1 = a.size
    ·rw [if_pos (Eg e)]
     exact wpS_pure ⟨⟨_,rfl⟩,.inl ⟨_,_,rfl,M2.fD hx hy e (last _ e)⟩⟩
    rw [if_neg (Ef e)]
    split
    ·exact wpS_pure ⟨⟨_,rfl⟩,.inr ⟨_,_,_,_,_,rfl,M2,by omega,h2,by omega⟩⟩
    ·exact wpS_pure ⟨⟨_,rfl⟩,_,_,_,_,_,rfl,M2,by omega,h2,by omega⟩
  ·rintro c aE ⟨G1,o,ia,ib,ac,bc,rfl,M,h1,h2,h3⟩
   exact ⟨G1,.inr ⟨o,ia,ib,ac,bc,rfl,M,h1,h2,by omega⟩⟩
  clear M h1 h2 h3 G1
  rintro c aK ⟨G2,⟨r,z,rfl,J⟩ | ⟨o,ia,ib,ac,bc,rfl,M,h1,h2,h3⟩⟩
  ·dsimp -zeta only
   exact wpS_pure ⟨G2,r,_,rfl,J⟩
  dsimp -zeta only
  refine wpS_bind (wpS_lift (wpAny_rule ⟨rfl,?_⟩))
  refine wpS_bind (wpS_mono (wpS_forRange (I:=fun y c aE=>Gs st aE /\ ∃ o ia ib mg ac bc,c = (none,o,ia,ib,mg,ac,bc) /\ MI f a.toList b.toList ia ib o.toList /\ ia + 1 < a.size /\ ib < b.size /\ x + 2 <= ia + ib)
   (Q:=fun c aE=>Gs st aE /\ ((∃ r z,c = (some r,z) /\ Co f a.toList b.toList r.toList) \/ ∃ o ia ib mg ac bc,c = (none,o,ia,ib,mg,ac,bc) /\ MI f a.toList b.toList ia ib o.toList /\ ia + 1 < a.size /\ ib < b.size /\ x + 2 <= ia + ib)) ?_ ?_ ⟨G2,_,_,_,_,_,_,rfl,M,h1,h2,h3⟩) ?_)
  ·clear M h1 h2 h3 G2
   rintro y c bE _ mD ⟨G1,o,ia,ib,mg,ac,bc,rfl,M,h1,h2,h3⟩
   obtain ⟨gx,rfl⟩ := G1
   obtain ⟨q,hq⟩ := Bt h2
   dsimp -zeta only
   have ga : ∀ {Q' : Option Nat -> SortSt -> Prop} {mg}, (∀ k, ia + k <= a.size -> (∀ m, m < k -> fa f a (ia + m) <= f q) -> (∀ m, k <= m -> ia + m < a.size -> f q < fa f a (ia + m)) -> Q' (some k) (SortSt.mk' (kindOf st) (arrOf st) (pendingOf st) mg (failedOf st))) ->
     wpS (model prog w) A E s (Hz false q a ia (a.size - ia) 0) Q' (SortSt.mk' (kindOf st) (arrOf st) (pendingOf st) mg (failedOf st)):=fun {Q'} {mg} kS=>by
    refine Dc hA (dQ mg) (hb q (Array.mem_of_getElem? hq)) ha (by omega) (by omega) (Jv hx (by omega)) fun k g1 g2 g3=>kS k (by omega) (fun m hm=>?_) (fun m lS CM=>?_)
    ·have:=g2 m hm
     simpa using this
    ·have:=g3 m lS (by omega)
     simpa using this
   have gb : ∀ {Q' : Option Nat -> SortSt -> Prop} {mg i j p}, a[i]? = some p -> j < b.size -> (∀ k, j + k <= b.size -> (∀ m, m < k -> fa f b (j + m) <= f p) -> (∀ m, k <= m -> j + m < b.size -> f p <= fa f b (j + m)) -> Q' (some k) (SortSt.mk' (kindOf st) (arrOf st) (pendingOf st) mg (failedOf st))) ->
     wpS (model prog w) A E s (Hz true p b j (b.size - j) 0) Q' (SortSt.mk' (kindOf st) (arrOf st) (pendingOf st) mg (failedOf st)):=fun {Q'} {mg i j p} hp hj kS=>by
    refine Dc hA (dQ mg) (ha p (Array.mem_of_getElem? hp)) hb (by omega) (by omega) (Jv hy (by omega)) fun k g1 g2 g3=>kS k (by omega) (fun m hm=>?_) (fun m lS CM=>?_)
    ·have:=g2 m hm
     simp at this
     omega
    ·have:=g3 m lS (by omega)
     simpa using this
   dsimp only
   apply Z8 mg (mg - 1) (Eq.refl _) (Eq.refl _)
   intro mg
   refine wpS_bind (wpS_modify ?_)
   refine wpS_bind (B7 hq (wpS_bind (ga fun k g1 g2 g3=>?_)))
   dsimp only
   apply K0 (fun o2 i2=>MI f a.toList b.toList i2 ib o2.toList /\ i2 + 1 < a.size /\ f q < fa f a i2 /\ ia <= i2) o ia (Eq.refl _) (fun z=>⟨M,h1,g3 0 (by omega) (by omega),Nat.le_refl _⟩)
   ·intro z K
    have M2:=M.mO hx hy hq g2
    by_cases e:ia + k + 1 = a.size
    ·rw [if_pos (Eg e)]
     exact wpS_pure ⟨⟨_,rfl⟩,.inl ⟨_,_,rfl,M2.fD hx hy e (last _ e)⟩⟩
    rw [if_neg (Ef e)]
    by_cases e':ia + k = a.size
    ·rw [if_pos (Eg e')]
     exact wpS_pure ⟨⟨_,rfl⟩,.inl ⟨_,_,rfl,M2.aU hx hy (.inr e')⟩⟩
    rw [if_neg (Ef e')]
    exact K _ _ ⟨M2,by omega,g3 k (Nat.le_refl _) (by omega),by omega⟩
   rintro o2 i2 ⟨M2,kZ,g3',hle⟩
   clear g1 g2 g3 M h1
   refine wpS_bind (B7 hq ?_)
   have M3:=M2.gM hx hy hq (by omega) (Nat.le_of_lt g3')
   generalize hib:ib + 1 = QQ at M3 ⊢
   generalize o2.push q = o3 at M3 ⊢
   by_cases e:QQ = b.size
   ·rw [if_pos (Eg e)]
    exact wpS_pure ⟨⟨_,rfl⟩,.inl ⟨_,_,rfl,M3.aU hx hy (.inl e)⟩⟩
   rw [if_neg (Ef e)]
   obtain ⟨p,hp⟩ := Bt (a:=a) (i:=i2) (by omega)
   refine wpS_bind (B7 hp (wpS_bind (gb hp (by omega) fun k2 c1 c2 c3=>?_)))
   dsimp only
   apply K0 (fun o3 j3=>MI f a.toList b.toList i2 j3 o3.toList /\ j3 < b.size /\ f p <= fa f b j3 /\ ib < j3) o3 QQ (Eq.refl _) (fun z=>⟨M3,by omega,c3 0 (by omega) (by omega),by omega⟩)
   ·intro z K
    have M4:=M3.wA hx hy hp c2
    by_cases e4:QQ + k2 = b.size
    ·rw [if_pos (Eg e4)]
     exact wpS_pure ⟨⟨_,rfl⟩,.inl ⟨_,_,rfl,M4.aU hx hy (.inl e4)⟩⟩
    rw [if_neg (Ef e4)]
    exact K _ _ ⟨M4,by omega,c3 k2 (Nat.le_refl _) (by omega),by omega⟩
   rintro o4 j3 ⟨M4,hj,c4,aM⟩
   clear c1 c2 c3 M3 M2
   refine wpS_bind (B7 hp ?_)
   have M5:=M4.fH hx hy hp hj c4
   by_cases e5:i2 + 1 + 1 = a.size
   ·rw [if_pos (Eg e5)]
    exact wpS_pure ⟨⟨_,rfl⟩,.inl ⟨_,_,rfl,M5.fD hx hy e5 (last _ e5)⟩⟩
   rw [if_neg (Ef e5)]
   split
   ·exact wpS_pure ⟨⟨_,rfl⟩,.inr ⟨_,_,_,_,_,_,rfl,M5,by omega,hj,by omega⟩⟩
   ·exact wpS_pure ⟨⟨_,rfl⟩,_,_,_,_,_,_,rfl,M5,by omega,hj,by omega⟩
  ·rintro c aE ⟨G1,o,ia,ib,mg,ac,bc,rfl,M,h1,h2,h3⟩
   exact ⟨G1,.inr ⟨o,ia,ib,mg,ac,bc,rfl,M,h1,h2,h3⟩⟩
  clear M h1 h2 h3 G2
  rintro c aK ⟨G2,⟨r,z,rfl,J⟩ | ⟨o,ia,ib,mg,ac,bc,rfl,M,h1,h2,h3⟩⟩
  ·dsimp -zeta only
   exact wpS_pure ⟨G2,r,_,rfl,J⟩
  dsimp -zeta only
  obtain ⟨gx,rfl⟩ := G2
  refine wpS_bind (wpS_modify ?_)
  exact wpS_pure ⟨⟨_,rfl⟩,_,_,_,_,rfl,M,h1,h2,by omega⟩
 ·rintro c aE ⟨G1,o,ia,ib,g,rfl,M,h1,h2,h3⟩
  exfalso
  omega
 rintro c aE ⟨G1,r,z,rfl,J⟩
 dsimp -zeta only
 exact wpS_pure (h _ _ G1 J)
end
section
variable {f:Keyed -> Nat}
def MH (f:Keyed -> Nat) (x y:List Keyed) (i j:Nat) (o:List Keyed):Prop:=o.reverse.Perm (x.drop i ++ y.drop j) /\ D2 f o.reverse /\ Gi f (x.take i ++ y.take j) o.reverse
theorem MH.swap {x y o:List Keyed} {i j:Nat} (h:MH f x y i j o):MH f y x j i o:=⟨h.1.trans List.perm_append_comm,h.2.1,fun p hp=>h.2.2 p (List.perm_append_comm.mem_iff.mp hp)⟩
theorem MH.iR {x y o:List Keyed} {i j k:Nat} (h:MH f x y (i + k) j o) (hx:D2 f x) (hle:Gi f (y.take j) ((x.drop i).take k)):MH f x y i j (o ++ ((x.drop i).take k).reverse):=by
 obtain ⟨h1,h2,h3⟩ := h
 have hd:=Gq x i k
 have ht:=N2 x i k
 have e:(o ++ ((x.drop i).take k).reverse).reverse = (x.drop i).take k ++ o.reverse:=by rw [List.reverse_append,List.reverse_reverse]
 have hsx:D2 f (x.take (i + k)):=Ft hx _
 rw [ht] at hsx
 unfold MH
 rw [e]
 refine ⟨?_,?_,?_⟩
 ·refine (List.Perm.append_left _ h1).trans ?_
  rw [<- List.append_assoc,<- hd]
 ·refine Fz (Ft (Fq hx i) k) h2 fun p hp q hq=>h3 p (List.mem_append_left _ ?_) q hq
  rw [ht]
  exact List.mem_append_right _ hp
 ·intro p hp q hq
  rcases List.mem_append.mp hp with z | z
  ·rcases List.mem_append.mp hq with y' | y'
   ·exact (List.pairwise_append.mp hsx).2.2 p z q y'
   ·refine h3 p (List.mem_append_left _ ?_) q y'
    rw [ht]
    exact List.mem_append_left _ z
  ·rcases List.mem_append.mp hq with y' | y'
   ·exact hle p z q y'
   ·exact h3 p (List.mem_append_right _ z) q y'
theorem MH.done {x y o:List Keyed} {i j:Nat} (h:MH f x y i j o) (hx:D2 f x) (hy:D2 f y) (hle:Gi f (x.take i) (y.take j)):Co f x y (x.take i ++ y.take j ++ o.reverse):=by
 obtain ⟨h1,h2,h3⟩ := h
 refine ⟨?_,Fz (Fz (Ft hx i) (Ft hy j) hle) h2 h3⟩
 refine (List.Perm.append_left _ h1).trans ?_
 have e:x ++ y = (x.take i ++ x.drop i) ++ (y.take j ++ y.drop j):=by rw [List.take_append_drop,List.take_append_drop]
 rw [e,List.append_assoc,List.append_assoc]
 refine List.Perm.append_left _ ?_
 rw [<- List.append_assoc,<- List.append_assoc]
 exact List.Perm.append_right _ List.perm_append_comm
theorem MH.mN {x y o:List Keyed} {i j:Nat} (h:MH f x y i j o) (hx:D2 f x) (hy:D2 f y) (hle:Gi f (y.take j) (x.take i)):Co f x y (y.take j ++ x.take i ++ o.reverse):=by
 obtain ⟨g1,g2⟩ := h.swap.done hy hx hle
 exact ⟨g1.trans List.perm_append_comm,g2⟩
variable {a b o:Array Keyed} {i j k:Nat}
theorem Jb {l:List Keyed} {i:Nat} {p:Keyed} (h:p ∈ l.take i):∃ m,m < i /\ l[m]? = some p:=by
 have h':p ∈ (l.drop 0).take i:=h
 obtain ⟨m,h1,h2⟩ := Du h'
 exact ⟨m,h1,by rw [Nat.zero_add] at h2; exact h2⟩
theorem MH.aU (h:MH f a.toList b.toList i j o.toList) (hx:D2 f a.toList) (hy:D2 f b.toList) (e:i = 0 \/ j = 0):Co f a.toList b.toList (a.extract 0 i ++ b.extract 0 j ++ o.reverse).toList:=by
 rw [Array.toList_append,Array.toList_append,O8,O8,Array.toList_reverse]
 refine h.done hx hy ?_
 rcases e with e | e <;> subst e
 ·intro p hp
  simp at hp
 ·intro p _ q hq
  simp at hq
theorem MH.dA (h:MH f a.toList b.toList i j o.toList) (hx:D2 f a.toList) (hy:D2 f b.toList) (e:j = 1) (hf:∀ p ∈ a.toList,fa f b 0 <= f p):Co f a.toList b.toList (b.extract 0 j ++ a.extract 0 i ++ o.reverse).toList:=by
 rw [Array.toList_append,Array.toList_append,O8,O8,Array.toList_reverse]
 refine h.mN hx hy fun p hp q hq=>?_
 obtain ⟨m,hm,e2⟩ := Jb hp
 obtain rfl:m = 0:=by omega
 rw [Array.getElem?_toList] at e2
 have:=hf q (List.mem_of_mem_take hq)
 rw [Aq e2] at this
 exact this
theorem MH.mO (h:MH f a.toList b.toList i j o.toList) (hx:D2 f a.toList) (hy:D2 f b.toList) {m:Nat} (hm:m <= i) (hle:∀ n,m <= n -> n < i -> ∀ l,l < j -> fa f b l <= fa f a n):MH f a.toList b.toList m j (o ++ (a.extract m i).reverse).toList:=by
 obtain ⟨k,rfl⟩ : ∃ k,i = m + k:=⟨i - m,by omega⟩
 rw [Array.toList_append,Array.toList_reverse,G6]
 refine h.iR hx fun x lQ y mD=>?_
 obtain ⟨l,hl,e⟩ := Jb lQ
 obtain ⟨n,hn,e2⟩ := Du mD
 rw [Array.getElem?_toList] at e e2
 have:=hle (m + n) (by omega) (by omega) l hl
 rw [Aq e,Aq e2] at this
 exact this
theorem MH.wA (h:MH f a.toList b.toList i j o.toList) (hx:D2 f a.toList) (hy:D2 f b.toList) {m:Nat} (hm:m <= j) (hle:∀ n,m <= n -> n < j -> ∀ l,l < i -> fa f a l <= fa f b n):MH f a.toList b.toList i m (o ++ (b.extract m j).reverse).toList:=(h.swap.mO hy hx hm hle).swap
theorem bm {a:Array Keyed} {i:Nat} {p:Keyed} (hp:a[i]? = some p):(a.extract i (i + 1)).toList = [p]:=by
 rw [G6]
 exact Oa (by rw [Array.getElem?_toList]; exact hp)
theorem MH.fH (h:MH f a.toList b.toList (i + 1) j o.toList) (hx:D2 f a.toList) (hy:D2 f b.toList) {p:Keyed} (hp:a[i]? = some p) (hle:∀ l,l < j -> fa f b l <= f p):MH f a.toList b.toList i j (o.push p).toList:=by
 have:=h.mO hx hy (m:=i) (by omega) fun n h1 h2 l hl=>by
  obtain rfl:n = i:=by omega
  rw [Aq hp]
  exact hle l hl
 rw [Array.toList_append,Array.toList_reverse,bm hp] at this
 rw [Array.toList_push]
 exact this
theorem MH.gM (h:MH f a.toList b.toList i (j + 1) o.toList) (hx:D2 f a.toList) (hy:D2 f b.toList) {q:Keyed} (hq:b[j]? = some q) (hle:∀ l,l < i -> fa f a l <= f q):MH f a.toList b.toList i j (o.push q).toList:=(h.swap.fH hy hx hq hle).swap
end
section
variable {prog:Program} {w:World} {A:Around} {E:Value -> Shared -> Prop} {s:Shared} {κ:SortKind} {f:Keyed -> Nat} {a₀:Array Keyed} {st:SortSt}
theorem Q9 (hA : Hq prog w A s κ f a₀) (hk : kindOf st = κ) {a b : Array Keyed} (ha : ∀ p, p ∈ a -> p ∈ a₀) (hb : ∀ p, p ∈ b -> p ∈ a₀) (hx : D2 f a.toList) (hy : D2 f b.toList) (ha0 : 0 < a.size) (ND : 0 < b.size)
  (cV:∀ p ∈ a.toList,fa f b 0 <= f p) (mP:∀ j,j < b.size -> fa f b j <= fa f a (a.size - 1)) {Q:Array Keyed -> SortSt -> Prop} (h:∀ r aE,Gs st aE -> Co f a.toList b.toList r.toList -> Q r aE):wpS (model prog w) A E s (Y9 a b) Q st:=by
 have dQ:∀ g,kindOf (SortSt.mk' (kindOf st) (arrOf st) (pendingOf st) g (failedOf st)) = κ:=fun g=>hk
 have QR:∀ {lo hi},hi <= a.size -> Hb f a lo hi:=fun h=>Jv hx h
 have QS:∀ {lo hi},hi <= b.size -> Hb f b lo hi:=fun h=>Jv hy h
 obtain ⟨p0,QT⟩ := Bt (a:=a) (i:=a.size - 1) (by omega)
 refine wpS_bind (wpS_lift (wpAny_rule ⟨rfl,?_⟩))
 refine wpS_bind (B7 QT ?_)
 have M0:MH f a.toList b.toList (a.size - 1 + 1) b.size (#[]:Array Keyed).toList:=by
  refine ⟨?_,List.Pairwise.nil,fun p _ q hq=>by cases hq⟩
  rw [List.drop_of_length_le (l:=a.toList) (by rw [Array.length_toList]; omega),List.drop_of_length_le (l:=b.toList) (by rw [Array.length_toList]; omega)]
  exact List.Perm.refl _
 have M1:=M0.fH hx hy QT (fun l hl=>by have:=mP l hl; rw [Aq QT] at this; exact this)
 rw [show (#[]:Array Keyed).push p0 = #[p0] from rfl] at M1
 dsimp -zeta only
 by_cases e1:a.size - 1 = 0
 ·rw [if_pos (Eg e1)]
  exact wpS_pure (h _ _ Gs.refl (M1.aU hx hy (.inl e1)))
 rw [if_neg (Ef e1)]
 by_cases e2:b.size = 1
 ·rw [if_pos (Eg e2)]
  exact wpS_pure (h _ _ Gs.refl (M1.dA hx hy e2 cV))
 rw [if_neg (Ef e2)]
 refine wpS_bind (wpS_get ?_)
 refine wpS_bind (wpS_mono (wpS_forRange (I:=fun x c aE=>Gs st aE /\ ∃ o na nb g,c = (none,na,nb,o,g) /\ MH f a.toList b.toList na nb o.toList /\ 0 < na /\ na <= a.size /\ 1 < nb /\ nb <= b.size /\ na + nb + x + 1 <= a.size + b.size)
  (Q:=fun c aE=>Gs st aE /\ ∃ r z,c = (some r,z) /\ Co f a.toList b.toList r.toList) ?_ ?_ ⟨Gs.refl,_,_,_,_,rfl,M1,by omega,by omega,by omega,by omega,by omega⟩) ?_)
 ·rintro x c bE _ lQ ⟨G1,o,na,nb,g,rfl,M,h1,fE,h2,iE,h3⟩
  dsimp -zeta only
  refine wpS_bind (wpS_mono (wpS_forRange (I:=fun y c aE=>Gs st aE /\ ∃ o na nb ac bc,c = (none,na,nb,o,ac,bc) /\ MH f a.toList b.toList na nb o.toList /\ 0 < na /\ na <= a.size /\ 1 < nb /\ nb <= b.size /\ na + nb + x + 1 + y <= a.size + b.size)
   (Q:=fun c aE=>Gs st aE /\ ((∃ r z,c = (some r,z) /\ Co f a.toList b.toList r.toList) \/ ∃ o na nb ac bc,c = (none,na,nb,o,ac,bc) /\ MH f a.toList b.toList na nb o.toList /\ 0 < na /\ na <= a.size /\ 1 < nb /\ nb <= b.size /\ na + nb + x + 2 <= a.size + b.size)) ?_ ?_ ⟨G1,_,_,_,_,_,rfl,M,h1,fE,h2,iE,by omega⟩) ?_)
  ·clear M h1 h2 h3 G1 fE iE
   rintro y c bE _ mD ⟨G1,o,na,nb,ac,bc,rfl,M,h1,fE,h2,iE,h3⟩
   obtain ⟨gx,rfl⟩ := G1
   obtain ⟨q,hq⟩ := Bt (a:=b) (i:=nb - 1) (by omega)
   obtain ⟨p,hp⟩ := Bt (a:=a) (i:=na - 1) (by omega)
   dsimp -zeta only
   refine wpS_bind (B7 hq (wpS_bind (B7 hp (wpS_bind (Kg hA (dQ gx) (hb q (Array.mem_of_getElem? hq)) (ha p (Array.mem_of_getElem? hp)) ?_)))))
   dsimp -zeta only
   by_cases z:f q < f p
   ·rw [if_pos (decide_eq_true z)]
    have M2:=MH.fH (i:=na - 1) (by rw [show na - 1 + 1 = na by omega]; exact M) hx hy hp (fun l hl=>by have:=QS (lo:=0) (hi:=b.size) (Nat.le_refl _) l (nb - 1) (by omega) (by omega) (by omega); rw [Aq hq] at this; omega)
    refine wpS_bind (B7 hp ?_)
    by_cases e:na - 1 = 0
    ·rw [if_pos (Eg e)]
     exact wpS_pure ⟨⟨_,rfl⟩,.inl ⟨_,_,rfl,M2.aU hx hy (.inl e)⟩⟩
    rw [if_neg (Ef e)]
    split
    ·exact wpS_pure ⟨⟨_,rfl⟩,.inr ⟨_,_,_,_,_,rfl,M2,by omega,by omega,h2,iE,by omega⟩⟩
    ·exact wpS_pure ⟨⟨_,rfl⟩,_,_,_,_,_,rfl,M2,by omega,by omega,h2,iE,by omega⟩
   ·rw [if_neg (by rw [decide_eq_true_eq]; exact z)]
    have M2:=MH.gM (j:=nb - 1) (by rw [show nb - 1 + 1 = nb by omega]; exact M) hx hy hq (fun l hl=>by have:=QR (lo:=0) (hi:=a.size) (Nat.le_refl _) l (na - 1) (by omega) (by omega) (by omega); rw [Aq hp] at this; omega)
    refine wpS_bind (B7 hq ?_)
    by_cases e:nb - 1 = 1
    ·rw [if_pos (Eg e)]
     exact wpS_pure ⟨⟨_,rfl⟩,.inl ⟨_,_,rfl,M2.dA hx hy e cV⟩⟩
    rw [if_neg (Ef e)]
    split
    ·exact wpS_pure ⟨⟨_,rfl⟩,.inr ⟨_,_,_,_,_,rfl,M2,h1,fE,by omega,by omega,by omega⟩⟩
    ·exact wpS_pure ⟨⟨_,rfl⟩,_,_,_,_,_,rfl,M2,h1,fE,by omega,by omega,by omega⟩
  ·rintro c aE ⟨G1,o,na,nb,ac,bc,rfl,M,h1,fE,h2,iE,h3⟩
   exact ⟨G1,.inr ⟨o,na,nb,ac,bc,rfl,M,h1,fE,h2,iE,by omega⟩⟩
  clear M h1 h2 h3 G1 fE iE
  rintro c aK ⟨G2,⟨r,z,rfl,J⟩ | ⟨o,na,nb,ac,bc,rfl,M,h1,fE,h2,iE,h3⟩⟩
  ·dsimp -zeta only
   exact wpS_pure ⟨G2,r,_,rfl,J⟩
  dsimp -zeta only
  refine wpS_bind (wpS_lift (wpAny_rule ⟨rfl,?_⟩))
  refine wpS_bind (wpS_mono (wpS_forRange (I:=fun y c aE=>Gs st aE /\ ∃ o na nb mg ac bc,c = (none,na,nb,o,mg,ac,bc) /\ MH f a.toList b.toList na nb o.toList /\ 0 < na /\ na <= a.size /\ 1 < nb /\ nb <= b.size /\ na + nb + x + 2 <= a.size + b.size)
   (Q:=fun c aE=>Gs st aE /\ ((∃ r z,c = (some r,z) /\ Co f a.toList b.toList r.toList) \/ ∃ o na nb mg ac bc,c = (none,na,nb,o,mg,ac,bc) /\ MH f a.toList b.toList na nb o.toList /\ 0 < na /\ na <= a.size /\ 1 < nb /\ nb <= b.size /\ na + nb + x + 2 <= a.size + b.size)) ?_ ?_ ⟨G2,_,_,_,_,_,_,rfl,M,h1,fE,h2,iE,h3⟩) ?_)
  ·clear M h1 h2 h3 G2 fE iE
   rintro y c bE _ mD ⟨G1,o,na,nb,mg,ac,bc,rfl,M,h1,fE,h2,iE,h3⟩
   obtain ⟨gx,rfl⟩ := G1
   obtain ⟨q,hq⟩ := Bt (a:=b) (i:=nb - 1) (by omega)
   dsimp -zeta only
   have ga : ∀ {Q' : Option Nat -> SortSt -> Prop} {mg}, (∀ k, k <= na -> (∀ m, m < k -> fa f a m <= f q) -> (∀ m, k <= m -> m < na -> f q <= fa f a m) -> Q' (some k) (SortSt.mk' (kindOf st) (arrOf st) (pendingOf st) mg (failedOf st))) ->
     wpS (model prog w) A E s (Hz false q a 0 na (na - 1)) Q' (SortSt.mk' (kindOf st) (arrOf st) (pendingOf st) mg (failedOf st)):=fun {Q'} {mg} kS=>by
    refine Dc hA (dQ mg) (hb q (Array.mem_of_getElem? hq)) ha (by omega) (by omega) (QR (by omega)) fun k g1 g2 g3=>kS k (by omega) (fun m hm=>?_) (fun m lS CM=>?_)
    ·have:=g2 m hm
     simpa using this
    ·have:=g3 m lS (by omega)
     simp at this
     omega
   have gb : ∀ {Q' : Option Nat -> SortSt -> Prop} {mg i j p}, a[i]? = some p -> 0 < j -> j <= b.size -> (∀ k, k <= j -> (∀ m, m < k -> fa f b m <= f p) -> (∀ m, k <= m -> m < j -> f p <= fa f b m) -> Q' (some k) (SortSt.mk' (kindOf st) (arrOf st) (pendingOf st) mg (failedOf st))) ->
     wpS (model prog w) A E s (Hz true p b 0 j (j - 1)) Q' (SortSt.mk' (kindOf st) (arrOf st) (pendingOf st) mg (failedOf st)):=fun {Q'} {mg i j p} hp hj hj2 kS=>by
    refine Dc hA (dQ mg) (ha p (Array.mem_of_getElem? hp)) hb (by omega) (by omega) (QS (by omega)) fun k g1 g2 g3=>kS k (by omega) (fun m hm=>?_) (fun m lS CM=>?_)
    ·have:=g2 m hm
     simp at this
     omega
    ·have:=g3 m lS (by omega)
     simpa using this
   dsimp only
   apply Z8 mg (mg - 1) (Eq.refl _) (Eq.refl _)
   intro mg
   refine wpS_bind (wpS_modify ?_)
   refine wpS_bind (B7 hq (wpS_bind (ga fun k g1 g2 g3=>?_)))
   dsimp only
   have tP:∀ l,l < nb -> fa f b l <= f q:=fun l hl=>by
    have:=QS (lo:=0) (hi:=b.size) (Nat.le_refl _) l (nb - 1) (by omega) (by omega) (by omega)
    rw [Aq hq] at this
    exact this
   generalize hac:na - k = ac2
   apply K0 (fun o2 n2=>MH f a.toList b.toList n2 nb o2.toList /\ 0 < n2 /\ n2 <= na /\ ∀ l,l < n2 -> fa f a l <= f q) o na (Eq.refl _) (fun z=>⟨M,h1,Nat.le_refl _,fun l hl=>g2 l (by omega)⟩)
   ·intro z K
    have M2:=M.mO hx hy g1 (fun n tQ rD l hl=>Nat.le_trans (tP l hl) (g3 n tQ rD))
    by_cases e:k = 0
    ·rw [if_pos (Eg e)]
     exact wpS_pure ⟨⟨_,rfl⟩,.inl ⟨_,_,rfl,M2.aU hx hy (.inl e)⟩⟩
    rw [if_neg (Ef e)]
    exact K _ _ ⟨M2,by omega,g1,g2⟩
   rintro o2 n2 ⟨M2,rD,hn2',g2'⟩
   clear g2 g3 M tP
   refine wpS_bind (B7 hq ?_)
   have M3:=MH.gM (j:=nb - 1) (by rw [show nb - 1 + 1 = nb by omega]; exact M2) hx hy hq g2'
   generalize hnb:nb - 1 = NF at M3 hq ⊢
   generalize o2.push q = o3 at M3 ⊢
   by_cases e':NF = 1
   ·rw [if_pos (Eg e')]
    exact wpS_pure ⟨⟨_,rfl⟩,.inl ⟨_,_,rfl,M3.dA hx hy e' cV⟩⟩
   rw [if_neg (Ef e')]
   obtain ⟨p,hp⟩ := Bt (a:=a) (i:=n2 - 1) (by omega)
   refine wpS_bind (B7 hp (wpS_bind (gb hp (by omega) (by omega) fun k2 c1 c2 c3=>?_)))
   dsimp only
   generalize hbc:NF - k2 = bc2
   apply K0 (fun o4 j4=>MH f a.toList b.toList n2 j4 o4.toList /\ 1 < j4 /\ j4 <= NF /\ ∀ l,l < j4 -> fa f b l <= f p) o3 NF (Eq.refl _) (fun z=>⟨M3,by omega,Nat.le_refl _,fun l hl=>c2 l (by omega)⟩)
   ·intro z K
    have M4:=M3.wA hx hy c1 (fun n tQ rD l hl=>Nat.le_trans (by
     have:=QR (lo:=0) (hi:=a.size) (Nat.le_refl _) l (n2 - 1) (by omega) (by omega) (by omega)
     rw [Aq hp] at this
     exact this) (c3 n tQ rD))
    by_cases e4:k2 = 1
    ·rw [if_pos (Eg e4)]
     exact wpS_pure ⟨⟨_,rfl⟩,.inl ⟨_,_,rfl,M4.dA hx hy e4 cV⟩⟩
    rw [if_neg (Ef e4)]
    by_cases e5:k2 = 0
    ·rw [if_pos (Eg e5)]
     exact wpS_pure ⟨⟨_,rfl⟩,.inl ⟨_,_,rfl,M4.aU hx hy (.inr e5)⟩⟩
    rw [if_neg (Ef e5)]
    exact K _ _ ⟨M4,by omega,c1,c2⟩
   rintro o4 j4 ⟨M4,hj4,hj4',c2'⟩
   clear c1 c2 c3 M3 M2
   refine wpS_bind (B7 hp ?_)
   have M5:=MH.fH (i:=n2 - 1) (by rw [show n2 - 1 + 1 = n2 by omega]; exact M4) hx hy hp c2'
   by_cases e6:n2 - 1 = 0
   ·rw [if_pos (Eg e6)]
    exact wpS_pure ⟨⟨_,rfl⟩,.inl ⟨_,_,rfl,M5.aU hx hy (.inl e6)⟩⟩
   rw [if_neg (Ef e6)]
   split
   ·exact wpS_pure ⟨⟨_,rfl⟩,.inr ⟨_,_,_,_,_,_,rfl,M5,by omega,by omega,hj4,by omega,by omega⟩⟩
   ·exact wpS_pure ⟨⟨_,rfl⟩,_,_,_,_,_,_,rfl,M5,by omega,by omega,hj4,by omega,by omega⟩
  ·rintro c aE ⟨G1,o,na,nb,mg,ac,bc,rfl,M,h1,fE,h2,iE,h3⟩
   exact ⟨G1,.inr ⟨o,na,nb,mg,ac,bc,rfl,M,h1,fE,h2,iE,h3⟩⟩
  clear M h1 h2 h3 G2 fE iE
  rintro c aK ⟨G2,⟨r,z,rfl,J⟩ | ⟨o,na,nb,mg,ac,bc,rfl,M,h1,fE,h2,iE,h3⟩⟩
  ·dsimp -zeta only
   exact wpS_pure ⟨G2,r,_,rfl,J⟩
  dsimp -zeta only
  obtain ⟨gx,rfl⟩ := G2
  refine wpS_bind (wpS_modify ?_)
  exact wpS_pure ⟨⟨_,rfl⟩,_,_,_,_,rfl,M,h1,fE,h2,iE,by omega⟩
 ·rintro c aE ⟨G1,o,na,nb,g,rfl,M,h1,fE,h2,iE,h3⟩
  exfalso
  omega
 rintro c aE ⟨G1,r,z,rfl,J⟩
 dsimp -zeta only
 exact wpS_pure (h _ _ G1 J)
end
section
variable {f:Keyed -> Nat}
theorem Eu {xs:Array Keyed} {i j:Nat} (hj:j <= xs.size) (k:Nat):fa f (mirror xs i j ((j - i) / 2)) k = if i <= k /\ k < j then fa f xs (i + j - 1 - k) else fa f xs k:=by
 have e:=getElem?_mirror_all (i:=i) hj k
 by_cases h:i <= k /\ k < j
 ·rw [if_pos h] at e ⊢
  exact Dv e
 ·rw [if_neg h] at e ⊢
  exact Dv e
theorem Hs {xs:Array Keyed} {i j:Nat} (hj:j <= xs.size) (h:∀ k l,i <= k -> k < j -> i <= l -> l < j -> fa f xs k = fa f xs l) (k:Nat):fa f (mirror xs i j ((j - i) / 2)) k = fa f xs k:=by
 rw [Eu hj]
 split
 ·exact h _ _ (by omega) (by omega) (by omega) (by omega)
 ·rfl
theorem Vr {xs:Array Keyed} {src d:Nat} (hs:src < xs.size) (hd:d <= src) (k:Nat):fa f (bubble xs src d) k = if k = src - d then fa f xs src else if src - d < k /\ k <= src then fa f xs (k - 1) else fa f xs k:=by
 have e:=getElem?_bubble hs d hd k
 by_cases h1:k = src - d
 ·rw [if_pos h1] at e ⊢
  exact Dv e
 ·rw [if_neg h1] at e ⊢
  by_cases h2:src - d < k /\ k <= src
  ·rw [if_pos h2] at e ⊢
   exact Dv e
  ·rw [if_neg h2] at e ⊢
   exact Dv e
theorem Yd:∀ (m:List Keyed) (n base:Nat) (a:Array Keyed),base + n + m.length <= a.size -> ∀ k:Nat,(List.foldl (fun (a:Array Keyed) (x:Keyed × Nat)=>a.setIfInBounds (base + x.snd) x.fst) a (m.zipIdx n))[k]? = if base + n <= k /\ k < base + n + m.length then m[k - (base + n)]? else a[k]?
 | [],n,base,a,h,k=>by
  rw [if_neg (by rw [List.length_nil]; omega)]
  rfl
 | p :: m,n,base,a,h,k=>by
  rw [List.length_cons] at h
  rw [List.zipIdx_cons,List.foldl_cons,Yd m (n + 1) base _ (by rw [Array.size_setIfInBounds]; omega) k,List.length_cons]
  by_cases z:k = base + n
  ·subst z
   rw [if_neg (by omega),if_pos (by omega),Nat.sub_self,List.getElem?_cons_zero]
   show (a.setIfInBounds (base + n) p)[base + n]? = some p
   rw [Array.getElem?_setIfInBounds_self_of_lt (by omega)]
  ·by_cases y:base + n <= k /\ k < base + n + (m.length + 1)
   ·rw [if_pos (by omega),if_pos y,show k - (base + n) = (k - (base + (n + 1))) + 1 by omega,List.getElem?_cons_succ]
   ·rw [if_neg (by omega),if_neg y]
    show (a.setIfInBounds (base + n) p)[k]? = _
    rw [Array.getElem?_setIfInBounds_ne (by omega)]
theorem bv {a:Array Keyed} {m:List Keyed} {base:Nat} (h:base + m.length <= a.size) (hp:m.Perm ((a.toList.drop base).take m.length)):(List.foldl (fun (a:Array Keyed) (x:Keyed × Nat)=>a.setIfInBounds (base + x.snd) x.fst) a m.zipIdx).Perm a:=by
 generalize hr:List.foldl (fun (a:Array Keyed) (x:Keyed × Nat)=>a.setIfInBounds (base + x.snd) x.fst) a m.zipIdx = r
 have e:∀ k:Nat,r[k]? = if base <= k /\ k < base + m.length then m[k - base]? else a[k]?:=fun k=>by
  rw [<- hr]
  exact Yd m 0 base a (by omega) k
 have el:r.toList = a.toList.take base ++ (m ++ a.toList.drop (base + m.length)):=by
  apply List.ext_getElem?
  intro k
  rw [Array.getElem?_toList,e k]
  have aM:(a.toList.take base).length = base:=by rw [List.length_take,Array.length_toList]; omega
  by_cases z:k < base
  ·rw [if_neg (by omega),List.getElem?_append_left (by omega),List.getElem?_take_of_lt z,Array.getElem?_toList]
  ·rw [List.getElem?_append_right (by omega),aM]
   by_cases y:k < base + m.length
   ·rw [if_pos (by omega),List.getElem?_append_left (by omega)]
   ·rw [if_neg (by omega),List.getElem?_append_right (by omega),List.getElem?_drop,Array.getElem?_toList]
    congr 1
    omega
 have ea:a.toList = a.toList.take base ++ ((a.toList.drop base).take m.length ++ a.toList.drop (base + m.length)):=by
  rw [<- Gq,List.take_append_drop]
 refine Array.perm_iff_toList_perm.mpr ?_
 rw [el]
 refine (List.Perm.append_left _ (hp.append_right _)).trans ?_
 rw [<- ea]
end
section
variable {prog:Program} {w:World} {A:Around} {E:Value -> Shared -> Prop} {s:Shared} {κ:SortKind} {f:Keyed -> Nat} {a₀:Array Keyed} {st:SortSt}
theorem Pp (a:Array Keyed) {i j:Nat} (h:i <= j):(a.extract i j).toList = (a.toList.drop i).take (j - i):=by
 obtain ⟨k,rfl⟩ : ∃ k,j = i + k:=⟨j - i,by omega⟩
 rw [G6]
 congr 1
 omega
theorem G7 {a:Array Keyed} {i j:Nat} {p:Keyed} (h:p ∈ (a.extract i j).toList) (wu:i <= j):∃ k,i <= k /\ k < j /\ a[k]? = some p:=by
 rw [Pp a wu] at h
 obtain ⟨m,h1,h2⟩ := Du h
 rw [Array.getElem?_toList] at h2
 exact ⟨i + m,by omega,by omega,h2⟩
theorem Ut {a:Array Keyed} {i j k:Nat} (hj:j <= a.size) (h:i + k < j):(a.extract i j)[k]? = a[i + k]?:=by
 rw [Array.getElem?_extract]
 split
 ·rfl
 ·omega
theorem Um {a:Array Keyed} {i j:Nat} (h:Hb f a i j) (hj:j <= a.size) (wu:i <= j):D2 f (a.extract i j).toList:=by
 refine List.pairwise_iff_getElem.mpr fun m n hm hn hmn=>?_
 have hl:(a.extract i j).toList.length = j - i:=by rw [Array.length_toList,Array.size_extract]; omega
 rw [hl] at hm hn
 have e1:(a.extract i j)[m]? = some (a.extract i j).toList[m]:=by rw [<- Array.getElem?_toList]; exact List.getElem?_eq_getElem _
 have e2:(a.extract i j)[n]? = some (a.extract i j).toList[n]:=by rw [<- Array.getElem?_toList]; exact List.getElem?_eq_getElem _
 rw [Ut hj (by omega)] at e1 e2
 have:=h (i + m) (i + n) (by omega) (by omega) (by omega)
 rw [Aq e1,Aq e2] at this
 exact this
theorem Yc {a:Array Keyed} {i j k:Nat} (hj:j <= a.size) (h:i + k < j):fa f (a.extract i j) k = fa f a (i + k):=Dv (Ut hj h)
theorem au {σ:Type} {s' st:σ} {Q:PUnit -> σ -> Prop} {M:Model} (h:Q ⟨⟩ s'):wpS M A E s (set s':StateT σ Sem PUnit) Q st:=by
 unfold wpS
 rw [StateT.run_set]
 exact wpAny_pure ⟨rfl,h⟩
theorem Qg (hA : Hq prog w A s κ f a₀) (hB : Bs κ a₀ st) {i sa na pw sb nb pb : Nat} (hi : (pendingOf st)[i]? = some (sa, na, pw)) (hj : (pendingOf st)[i + 1]? = some (sb, nb, pb)) (hs : sb = sa + na) (hna : 0 < na) (hnb : 0 < nb) (hsz : sb + nb <= a₀.size)
  (tS:Hb f (arrOf st) sa sb) (tT:Hb f (arrOf st) sb (sb + nb)) {Q:Bool -> SortSt -> Prop}
  (h:∀ aE,Bs κ a₀ aE -> pendingOf aE = ((pendingOf st).setIfInBounds i (sa,na + nb,pw)).eraseIdxIfInBounds (i + 1) -> Hb f (arrOf aE) sa (sb + nb) -> (∀ k,k < sa \/ sb + nb <= k -> fa f (arrOf aE) k = fa f (arrOf st) k) -> Q true aE):wpS (model prog w) A E s (mergeAt' i) Q st:=by
 have hsize:=hB.size
 have kY:∀ p,p ∈ arrOf st -> p ∈ a₀:=fun p hp=>hB.perm.mem_iff.mp hp
 refine wpS_bind (wpS_get ?_)
 dsimp only
 rw [hi,hj]
 dsimp only
 obtain ⟨q,hq⟩ := Bt (a:=arrOf st) (i:=sb) (by omega)
 have tU:∀ P g,kindOf (SortSt.mk' (kindOf st) (arrOf st) P g (failedOf st)) = κ:=fun _ _=>hB.kind
 refine wpS_bind (au ?_)
 refine wpS_bind (B7 hq (wpS_bind (Dc hA (tU _ _) (hB.mem hq) kY (base:=sa) (n:=na) (by omega) (by omega) (by rw [<- hs]; exact tS) fun k k1 k2 k3=>?_)))
 dsimp only
 have k2':∀ m,sa <= m -> m < sa + k -> fa f (arrOf st) m <= fa f (arrOf st) sb:=fun m m1 m2=>by
  have:=k2 (m - sa) (by omega)
  rw [show sa + (m - sa) = m by omega] at this
  rw [Aq hq]
  simpa using this
 have k3':∀ m,sa + k <= m -> m < sb -> fa f (arrOf st) sb <= fa f (arrOf st) m:=fun m m1 m2=>by
  have:=k3 (m - sa) (by omega) (by omega)
  rw [show sa + (m - sa) = m by omega] at this
  rw [Aq hq]
  simp at this
  omega
 by_cases e1:na - k = 0
 ·rw [if_pos (Eg e1)]
  refine wpS_pure (h _ ⟨hB.perm,hB.kind,hB.failed⟩ rfl (fun m n h1 h2 h3=>?_) fun _ _=>rfl)
  by_cases z:n < sb
  ·exact tS m n h1 h2 z
  ·by_cases y:m < sb
   ·exact Nat.le_trans (k2' m h1 (by omega)) (tT sb n (Nat.le_refl _) (by omega) h3)
   ·exact tT m n (by omega) h2 h3
 rw [if_neg (Ef e1)]
 obtain ⟨p,hp⟩ := Bt (a:=arrOf st) (i:=sa + k + (na - k) - 1) (by omega)
 have hp':(arrOf st)[sb - 1]? = some p:=by rw [<- hp]; congr 1; omega
 refine wpS_bind (B7 hp (wpS_bind (Dc hA (tU _ _) (hB.mem hp) kY (base:=sb) (n:=nb) (by omega) (by omega) tT fun l l1 l2 l3=>?_)))
 dsimp only
 have l2':∀ m,sb <= m -> m < sb + l -> fa f (arrOf st) m <= fa f (arrOf st) (sb - 1):=fun m m1 m2=>by
  have:=l2 (m - sb) (by omega)
  rw [show sb + (m - sb) = m by omega] at this
  rw [Aq hp']
  simp at this
  omega
 have QU:∀ m,sb + l <= m -> m < sb + nb -> fa f (arrOf st) (sb - 1) <= fa f (arrOf st) m:=fun m m1 m2=>by
  have:=l3 (m - sb) (by omega) (by omega)
  rw [show sb + (m - sb) = m by omega] at this
  rw [Aq hp']
  simpa using this
 by_cases e2:l = 0
 ·rw [if_pos (Eg e2)]
  refine wpS_pure (h _ ⟨hB.perm,hB.kind,hB.failed⟩ rfl (fun m n h1 h2 h3=>?_) fun _ _=>rfl)
  by_cases z:n < sb
  ·exact tS m n h1 h2 z
  ·by_cases y:m < sb
   ·exact Nat.le_trans (tS m (sb - 1) h1 (by omega) (by omega)) (QU n (by omega) h3)
   ·exact tT m n (by omega) h2 h3
 rw [if_neg (Ef e2)]
 have hx:D2 f ((arrOf st).extract (sa + k) sb).toList:=Um (fun m n h1 h2 h3=>tS m n (by omega) h2 h3) (by omega) (by omega)
 have hy:D2 f ((arrOf st).extract sb (sb + l)).toList:=Um (fun m n h1 h2 h3=>tT m n h1 h2 (by omega)) (by omega) (by omega)
 have ax:∀ p,p ∈ (arrOf st).extract (sa + k) sb -> p ∈ a₀:=fun p hp=>by
  obtain ⟨m,_,_,e⟩ := G7 (Array.mem_toList_iff.mpr hp) (by omega)
  exact hB.mem e
 have ay:∀ p,p ∈ (arrOf st).extract sb (sb + l) -> p ∈ a₀:=fun p hp=>by
  obtain ⟨m,_,_,e⟩ := G7 (Array.mem_toList_iff.mpr hp) (by omega)
  exact hB.mem e
 have sx:((arrOf st).extract (sa + k) sb).size = na - k:=by rw [Array.size_extract]; omega
 have sy:((arrOf st).extract sb (sb + l)).size = l:=by rw [Array.size_extract]; omega
 have fx:∀ m,m < na - k -> fa f ((arrOf st).extract (sa + k) sb) m = fa f (arrOf st) (sa + k + m):=fun m hm=>Yc (by omega) (by omega)
 have fy:∀ m,m < l -> fa f ((arrOf st).extract sb (sb + l)) m = fa f (arrOf st) (sb + m):=fun m hm=>Yc (by omega) (by omega)
 have fin : ∀ (r : Array Keyed) (bE : SortSt), Co f ((arrOf st).extract (sa + k) sb).toList ((arrOf st).extract sb (sb + l)).toList r.toList -> kindOf bE = κ -> failedOf bE = none -> arrOf bE = arrOf st -> pendingOf bE = ((pendingOf st).setIfInBounds i (sa, na + nb, pw)).eraseIdxIfInBounds (i + 1) ->
   Q true (setArr bE (List.foldl (fun (a:Array Keyed) (x:Keyed × Nat)=>a.setIfInBounds (sa + k + x.snd) x.fst) (arrOf bE) r.toList.zipIdx)):=fun r bE J g1 g2 g3 g4=>by
  have hlen:r.toList.length = na - k + l:=by
   rw [J.1.length_eq,List.length_append,Array.length_toList,Array.length_toList,sx,sy]
  have QV:((arrOf st).extract (sa + k) sb).toList ++ ((arrOf st).extract sb (sb + l)).toList = ((arrOf st).toList.drop (sa + k)).take r.toList.length:=by
   rw [hlen,Pp _ (by omega),G6,show sb - (sa + k) = na - k by omega,List.take_add,List.drop_drop,show sa + k + (na - k) = sb by omega]
  have QW:∀ m:Nat,(List.foldl (fun (a:Array Keyed) (x:Keyed × Nat)=>a.setIfInBounds (sa + k + x.snd) x.fst) (arrOf bE) r.toList.zipIdx)[m]? = if sa + k <= m /\ m < sa + k + r.toList.length then r.toList[m - (sa + k)]? else (arrOf st)[m]?:=fun m=>by
   rw [g3]
   exact Yd r.toList 0 (sa + k) (arrOf st) (by omega) m
  have fI:(List.foldl (fun (a:Array Keyed) (x:Keyed × Nat)=>a.setIfInBounds (sa + k + x.snd) x.fst) (arrOf bE) r.toList.zipIdx).Perm (arrOf st):=by
   rw [g3]
   refine bv (by omega) ?_
   rw [<- QV]
   exact J.1
  generalize List.foldl (fun (a:Array Keyed) (x:Keyed × Nat)=>a.setIfInBounds (sa + k + x.snd) x.fst) (arrOf bE) r.toList.zipIdx = a' at QW fI ⊢
  have lA:∀ m,m < sa + k \/ sb + l <= m -> fa f a' m = fa f (arrOf st) m:=fun m hm=>by
   refine Dv ?_
   rw [QW m,if_neg (by omega)]
  have fin2:∀ m,sa + k <= m -> m < sb + l -> ∃ p,r.toList[m - (sa + k)]? = some p /\ fa f a' m = f p /\ ∃ n,sa + k <= n /\ n < sb + l /\ (arrOf st)[n]? = some p:=fun m h1 h2=>by
   have hm:m - (sa + k) < r.toList.length:=by omega
   refine ⟨r.toList[m - (sa + k)],List.getElem?_eq_getElem hm,?_,?_⟩
   ·refine Aq ?_
    rw [QW m,if_pos (by omega)]
    exact List.getElem?_eq_getElem hm
   ·have bL:=J.1.mem_iff.mp (List.getElem_mem hm)
    rcases List.mem_append.mp bL with z | z
    ·obtain ⟨n,n1,n2,n3⟩ := G7 z (by omega)
     exact ⟨n,n1,by omega,n3⟩
    ·obtain ⟨n,n1,n2,n3⟩ := G7 z (by omega)
     exact ⟨n,by omega,n2,n3⟩
  have lowP:∀ m,sa <= m -> m < sa + k -> ∀ n,sa + k <= n -> n < sb + l -> fa f (arrOf st) m <= fa f (arrOf st) n:=fun m m1 m2 n n1 n2=>by
   by_cases z:n < sb
   ·exact tS m n m1 (by omega) z
   ·exact Nat.le_trans (k2' m m1 m2) (tT sb n (Nat.le_refl _) (by omega) (by omega))
  have EM:∀ m,sb + l <= m -> m < sb + nb -> ∀ n,sa + k <= n -> n < sb + l -> fa f (arrOf st) n <= fa f (arrOf st) m:=fun m m1 m2 n n1 n2=>by
   by_cases z:n < sb
   ·exact Nat.le_trans (tS n (sb - 1) (by omega) (by omega) (by omega)) (QU m m1 m2)
   ·exact tT n m (by omega) (by omega) m2
  refine h _ ⟨fI.trans hB.perm,g1,g2⟩ g4 (fun m n h1 h2 h3=>?_) (fun m hm=>lA m (by omega))
  by_cases c1:m < sa + k
  ·rw [lA m (.inl c1)]
   by_cases c2:n < sa + k
   ·rw [lA n (.inl c2)]
    exact tS m n h1 h2 (by omega)
   ·by_cases c3:n < sb + l
    ·obtain ⟨p,_,e,n',n1,n2,n3⟩ := fin2 n (by omega) c3
     rw [e,<- Aq (f:=f) n3]
     exact lowP m h1 c1 n' n1 n2
    ·rw [lA n (.inr (by omega))]
     exact Nat.le_trans (lowP m h1 c1 (sb - 1) (by omega) (by omega)) (QU n (by omega) h3)
  ·by_cases c3:n < sb + l
   ·obtain ⟨p,e1,e2,_⟩ := fin2 m (by omega) (by omega)
    obtain ⟨q,e3,e4,_⟩ := fin2 n (by omega) c3
    rw [e2,e4]
    exact La J.2 e1 e3 (by omega)
   ·rw [lA n (.inr (by omega))]
    by_cases c4:m < sb + l
    ·obtain ⟨p,_,e,n',n1,n2,n3⟩ := fin2 m (by omega) c4
     rw [e,<- Aq (f:=f) n3]
     exact EM n (by omega) h3 n' n1 n2
    ·rw [lA m (.inr (by omega))]
     exact tT m n (by omega) h2 h3
 by_cases e3:na - k <= l
 ·rw [if_pos e3]
  refine wpS_bind (R7 hA (tU _ _) ax ay hx hy (by omega) (by omega) ?_ ?_ fun r bE G J=>?_)
  ·rw [fx 0 (by omega),fy 0 (by omega)]
   exact k3' _ (by omega) (by omega)
  ·intro q hq
   obtain ⟨m,m1,m2,m3⟩ := G7 hq (by omega)
   rw [sx,fx _ (by omega),show sa + k + (na - k - 1) = sb - 1 by omega,<- Aq (f:=f) m3]
   exact l2' m m1 m2
  ·obtain ⟨g,rfl⟩ := G
   refine wpS_bind (wpS_modify ?_)
   refine wpS_bind (wpS_get (wpS_pure ?_))
   have e:(failedOf st).isNone = true:=by rw [hB.failed]; rfl
   have:=fin r (SortSt.mk' (kindOf st) (arrOf st) (((pendingOf st).setIfInBounds i (sa,na + nb,pw)).eraseIdxIfInBounds (i + 1)) g (failedOf st)) J hB.kind hB.failed rfl rfl
   rw [<- e] at this
   exact this
 ·rw [if_neg e3]
  refine wpS_bind (Q9 hA (tU _ _) ax ay hx hy (by omega) (by omega) ?_ ?_ fun r bE G J=>?_)
  ·intro p hp
   obtain ⟨m,m1,m2,m3⟩ := G7 hp (by omega)
   rw [fy 0 (by omega),<- Aq (f:=f) m3]
   exact k3' m m1 m2
  ·intro j hj
   rw [sx,fx _ (by omega),fy j (by omega),show sa + k + (na - k - 1) = sb - 1 by omega]
   exact l2' _ (by omega) (by omega)
  ·obtain ⟨g,rfl⟩ := G
   refine wpS_bind (wpS_modify ?_)
   refine wpS_bind (wpS_get (wpS_pure ?_))
   have e:(failedOf st).isNone = true:=by rw [hB.failed]; rfl
   have:=fin r (SortSt.mk' (kindOf st) (arrOf st) (((pendingOf st).setIfInBounds i (sa,na + nb,pw)).eraseIdxIfInBounds (i + 1)) g (failedOf st)) J hB.kind hB.failed rfl rfl
   rw [<- e] at this
   exact this
end
section
variable {prog:Program} {w:World} {A:Around} {E:Value -> Shared -> Prop} {s:Shared} {κ:SortKind} {f:Keyed -> Nat} {a₀:Array Keyed} {st:SortSt}
def Ch (f:Keyed -> Nat) (lo:Nat) (st aE:SortSt):Prop:=pendingOf aE = pendingOf st /\ ∀ k,k < lo -> fa f (arrOf aE) k = fa f (arrOf st) k
theorem Ch.refl {lo:Nat}:Ch f lo st st:=⟨rfl,fun _ _=>rfl⟩
theorem Ch.trans {lo:Nat} {bE aK eU:SortSt} (h:Ch f lo bE aK) (g:Ch f lo aK eU):Ch f lo bE eU:=⟨g.1.trans h.1,fun k hk=>(g.2 k hk).trans (h.2 k hk)⟩
theorem Hf {i j:Nat} {Q:Unit -> SortSt -> Prop} (h:Q () (setArr st (mirror (arrOf st) i j ((j - i) / 2)))):wpS (model prog w) A E s (reverseSlice' i j) Q st:=by
 rw [reverseSlice'_eq]
 exact wpS_modify h
theorem Bs.rev (hB:Bs κ a₀ st) (i j:Nat):Bs κ a₀ (setArr st (mirror (arrOf st) i j ((j - i) / 2))):=⟨(mirror_perm _ _ _ _).trans hB.perm,hB.kind,hB.failed⟩
theorem Zu {a:Array Keyed} {lo:Nat}:Hb f a lo (lo + 1):=fun i j h1 h2 h3=>by
 obtain rfl:i = j:=by omega
 exact Nat.le_refl _
theorem Qa {a:Array Keyed} {lo n:Nat} (h:Hb f a lo (lo + n)) (hn:0 < n) (e:fa f a (lo + n - 1) <= fa f a (lo + n)):Hb f a lo (lo + (n + 1)):=fun i j h1 h2 h3=>by
 by_cases z:j < lo + n
 ·exact h i j h1 h2 z
 ·obtain rfl:j = lo + n:=by omega
  by_cases y:i < lo + n
  ·exact Nat.le_trans (h i (lo + n - 1) h1 (by omega) (by omega)) e
  ·obtain rfl:i = lo + n:=by omega
   exact Nat.le_refl _
def cf (f:Keyed -> Nat) (a:Array Keyed) (lo n q:Nat):Prop:=(∀ i j,lo <= i -> i <= j -> j < lo + n -> fa f a j <= fa f a i) /\ q < n /\ ∀ i,lo + n - (q + 1) <= i -> i < lo + n -> fa f a i = fa f a (lo + n - 1)
theorem cf.flat {a:Array Keyed} {lo n q:Nat} (h:cf f a lo n q) (hs:lo + n <= a.size) (k:Nat):fa f (mirror a (lo + n - (q + 1)) (lo + n) ((lo + n - (lo + n - (q + 1))) / 2)) k = fa f a k:=Hs hs (fun k l h1 h2 h3 h4=>(h.2.2 k h1 h2).trans (h.2.2 l h3 h4).symm) k
theorem cf.asc {a b:Array Keyed} {lo n q:Nat} (h:cf f a lo n q) (hs:lo + n <= b.size) (e:∀ k,fa f b k = fa f a k):Hb f (mirror b lo (lo + n) ((lo + n - lo) / 2)) lo (lo + n):=fun i j h1 h2 h3=>by
 rw [Eu hs,Eu hs,if_pos (by omega),if_pos (by omega),e,e]
 exact h.1 _ _ (by omega) (by omega) (by omega)
theorem Sl (hA : Hq prog w A s κ f a₀) (hB : Bs κ a₀ st) {lo nr : Nat} (wB : 0 < nr) (hsz : lo + nr <= a₀.size) {Q : Option Nat -> SortSt -> Prop}
  (h:∀ m aE,0 < m -> m <= nr -> Bs κ a₀ aE -> Ch f lo st aE -> Hb f (arrOf aE) lo (lo + m) -> Q (some m) aE):wpS (model prog w) A E s (countRun' lo nr) Q st:=by
 refine wpS_bind (wpS_mono (wpS_forRange (I:=fun x c aE=>aE = st /\ c = (none,x) /\ Hb f (arrOf st) lo (lo + x)) (Q:=fun c aE=>aE = st /\ ∃ n,c = (none,n) /\ 0 < n /\ n <= nr /\ Hb f (arrOf st) lo (lo + n) /\ (n < nr -> fa f (arrOf st) (lo + n) < fa f (arrOf st) (lo + n - 1))) ?_ ?_ ⟨rfl,rfl,Zu⟩) ?_)
 ·rintro x c aE h1 h2 ⟨rfl,rfl,h3⟩
  dsimp only
  refine wpS_bind (G3 hA hB (by omega) (by omega) ?_)
  dsimp only
  by_cases z:fa f (arrOf aE) (lo + x) < fa f (arrOf aE) (lo + x - 1)
  ·rw [if_pos (decide_eq_true z)]
   exact wpS_pure ⟨rfl,x,rfl,by omega,by omega,h3,fun _=>z⟩
  ·rw [if_neg (by rw [decide_eq_true_eq]; exact z)]
   exact wpS_pure ⟨rfl,rfl,Qa h3 (by omega) (by omega)⟩
 ·rintro c aE ⟨rfl,rfl,h3⟩
  have e:max 1 nr = nr:=by omega
  rw [e] at h3 ⊢
  exact ⟨rfl,nr,rfl,wB,Nat.le_refl _,h3,fun z=>absurd z (Nat.lt_irrefl _)⟩
 rintro c aE ⟨rfl,n,rfl,h1,h2,h3,h4⟩
 dsimp only
 by_cases e1:n = nr
 ·rw [if_pos (Eg e1)]
  exact wpS_pure (h _ _ h1 h2 hB Ch.refl h3)
 rw [if_neg (Ef e1)]
 have h4':=h4 (by omega)
 have part:∀ bE,Bs κ a₀ bE -> pendingOf bE = pendingOf aE -> (∀ k,fa f (arrOf bE) k = fa f (arrOf aE) k) -> (∀ i,lo <= i -> i < lo + n -> fa f (arrOf aE) i = fa f (arrOf aE) (lo + n - 1)) -> cf f (arrOf bE) lo (n + 1) 0:=fun bE B1 p1 f1 eq=>by
  refine ⟨fun i j i1 i2 i3=>?_,by omega,fun i i1 i2=>?_⟩
  ·rw [f1,f1]
   by_cases z:j < lo + n
   ·rw [eq i i1 (by omega),eq j (by omega) z]
    exact Nat.le_refl _
   ·obtain rfl:j = lo + n:=by omega
    by_cases y:i < lo + n
    ·rw [eq i i1 y]
     omega
    ·obtain rfl:i = lo + n:=by omega
     exact Nat.le_refl _
  ·obtain rfl:i = lo + n:=by omega
   rfl
 by_cases e2:n > 1
 case' pos =>
  rw [if_pos e2]
  refine wpS_bind (G3 hA hB (by omega) (by omega) ?_)
  dsimp only
  by_cases z:fa f (arrOf aE) lo < fa f (arrOf aE) (lo + n - 1)
  ·rw [if_pos (decide_eq_true z)]
   exact wpS_pure (h _ _ h1 h2 hB Ch.refl h3)
  rw [if_neg (by rw [decide_eq_true_eq]; exact z)]
  have eq:∀ i,lo <= i -> i < lo + n -> fa f (arrOf aE) i = fa f (arrOf aE) (lo + n - 1):=fun i i1 i2=>by
   have a1:=h3 lo i (Nat.le_refl _) i1 i2
   have a2:=h3 i (lo + n - 1) i1 (by omega) (by omega)
   omega
  refine wpS_bind (Hf ?_)
  have B1:=hB.rev lo (lo + n)
  have f1:∀ k,fa f (arrOf (setArr aE (mirror (arrOf aE) lo (lo + n) ((lo + n - lo) / 2)))) k = fa f (arrOf aE) k:=Hs (by rw [hB.size]; omega) fun k l k1 k2 l1 l2=>(eq k k1 k2).trans (eq l l1 l2).symm
  have F1:=part _ B1 rfl f1 eq
  have C1:Ch f lo aE (setArr aE (mirror (arrOf aE) lo (lo + n) ((lo + n - lo) / 2))):=⟨rfl,fun k _=>f1 k⟩
  generalize setArr aE (mirror (arrOf aE) lo (lo + n) ((lo + n - lo) / 2)) = bE at B1 F1 C1 ⊢
 case' neg =>
  rw [if_neg e2]
  obtain rfl:n = 1:=by omega
  have F1:=part aE hB rfl (fun _=>rfl) fun i i1 i2=>by
   obtain rfl:i = lo:=by omega
   rfl
  have C1:Ch f lo aE aE:=Ch.refl
  have B1:=hB
 all_goals
  refine wpS_bind (wpS_lift (wpAny_rule ⟨rfl,?_⟩))
  refine wpS_bind (wpS_mono (wpS_forRange (I:=fun x c aK=>∃ q,c = (none,x,q) /\ x <= nr /\ Bs κ a₀ aK /\ Ch f lo aE aK /\ cf f (arrOf aK) lo x q) (Q:=fun c aK=>∃ n q,c = (none,n,q) /\ n <= nr /\ Bs κ a₀ aK /\ Ch f lo aE aK /\ cf f (arrOf aK) lo n q) ?_ ?_ ⟨0,rfl,by omega,B1,C1,F1⟩) ?_)
  ·rintro x c aK x1 x2 ⟨q,rfl,_,B2,C2,F2⟩
   dsimp only
   have sz:=B2.size
   refine wpS_bind (G3 hA B2 (by omega) (by omega) ?_)
   dsimp only
   by_cases z:fa f (arrOf aK) (lo + x) < fa f (arrOf aK) (lo + x - 1)
   ·rw [if_pos (decide_eq_true z)]
    have F3:∀ eU,(∀ k,fa f (arrOf eU) k = fa f (arrOf aK) k) -> cf f (arrOf eU) lo (x + 1) 0:=fun eU e3=>by
     have q1:=F2.2.1
     refine ⟨fun i j i1 i2 i3=>?_,by omega,fun i i1 i2=>?_⟩
     ·rw [e3,e3]
      by_cases y:j < lo + x
      ·exact F2.1 i j i1 i2 y
      ·obtain rfl:j = lo + x:=by omega
       by_cases v:i < lo + x
       ·exact Nat.le_trans (Nat.le_of_lt z) (F2.1 i (lo + x - 1) i1 (by omega) (by omega))
       ·obtain rfl:i = lo + x:=by omega
        exact Nat.le_refl _
     ·obtain rfl:i = lo + x:=by omega
      rfl
    by_cases e:q > 0
    ·rw [if_pos e]
     exact wpS_bind (Hf (wpS_pure ⟨0,rfl,by omega,B2.rev _ _,C2.trans ⟨rfl,fun k _=>F2.flat (by omega) k⟩,F3 _ fun k=>F2.flat (by omega) k⟩))
    ·rw [if_neg e]
     exact wpS_pure ⟨0,rfl,by omega,B2,C2,F3 _ fun _=>rfl⟩
   ·rw [if_neg (by rw [decide_eq_true_eq]; exact z)]
    refine wpS_bind (G3 hA B2 (by omega) (by omega) ?_)
    dsimp only
    by_cases y:fa f (arrOf aK) (lo + x - 1) < fa f (arrOf aK) (lo + x)
    ·rw [if_pos (decide_eq_true y)]
     exact wpS_pure ⟨x,q,rfl,by omega,B2,C2,F2⟩
    ·rw [if_neg (by rw [decide_eq_true_eq]; exact y)]
     have q1:=F2.2.1
     refine wpS_pure ⟨q + 1,rfl,by omega,B2,C2,fun i j i1 i2 i3=>?_,by omega,fun i i1 i2=>?_⟩
     ·by_cases v:j < lo + x
      ·exact F2.1 i j i1 i2 v
      ·obtain rfl:j = lo + x:=by omega
       by_cases u:i < lo + x
       ·have:=F2.1 i (lo + x - 1) i1 (by omega) (by omega)
        omega
       ·obtain rfl:i = lo + x:=by omega
        exact Nat.le_refl _
     ·rw [show lo + (x + 1) - 1 = lo + x by omega]
      by_cases v:i < lo + x
      ·have:=F2.2.2 i (by omega) v
       omega
      ·obtain rfl:i = lo + x:=by omega
       rfl
  ·rintro c aK ⟨q,rfl,a1,B2,C2,F2⟩
   exact ⟨_,q,rfl,a1,B2,C2,F2⟩
  rintro c aK ⟨m,q,rfl,a1,B2,C2,F2⟩
  dsimp only
  have sz:=B2.size
  have q1:=F2.2.1
  by_cases e:q > 0
  case' pos =>
   rw [if_pos e]
   refine wpS_bind (Hf (wpS_bind (Hf ?_)))
   have B3:=(B2.rev (lo + m - (q + 1)) (lo + m)).rev lo (lo + m)
   have A3:Hb f (arrOf (setArr (setArr aK (mirror (arrOf aK) (lo + m - (q + 1)) (lo + m) ((lo + m - (lo + m - (q + 1))) / 2))) (mirror (mirror (arrOf aK) (lo + m - (q + 1)) (lo + m) ((lo + m - (lo + m - (q + 1))) / 2)) lo (lo + m) ((lo + m - lo) / 2)))) lo (lo + m):=F2.asc (b:=mirror (arrOf aK) (lo + m - (q + 1)) (lo + m) ((lo + m - (lo + m - (q + 1))) / 2)) (by rw [mirror_size]; omega) (fun k=>F2.flat (by omega) k)
   have C3:Ch f lo aE (setArr (setArr aK (mirror (arrOf aK) (lo + m - (q + 1)) (lo + m) ((lo + m - (lo + m - (q + 1))) / 2))) (mirror (mirror (arrOf aK) (lo + m - (q + 1)) (lo + m) ((lo + m - (lo + m - (q + 1))) / 2)) lo (lo + m) ((lo + m - lo) / 2))):=C2.trans ⟨rfl,fun k hk=>by
    show fa f (mirror (mirror (arrOf aK) (lo + m - (q + 1)) (lo + m) ((lo + m - (lo + m - (q + 1))) / 2)) lo (lo + m) ((lo + m - lo) / 2)) k = _
    rw [Eu (by rw [mirror_size]; omega),if_neg (by omega)]
    exact F2.flat (by omega) k⟩
   generalize setArr (setArr aK (mirror (arrOf aK) (lo + m - (q + 1)) (lo + m) ((lo + m - (lo + m - (q + 1))) / 2))) (mirror (mirror (arrOf aK) (lo + m - (q + 1)) (lo + m) ((lo + m - (lo + m - (q + 1))) / 2)) lo (lo + m) ((lo + m - lo) / 2)) = eU at B3 C3 A3 ⊢
  case' neg =>
   rw [if_neg e]
   refine wpS_bind (Hf ?_)
   have B3:=B2.rev lo (lo + m)
   have A3:Hb f (arrOf (setArr aK (mirror (arrOf aK) lo (lo + m) ((lo + m - lo) / 2)))) lo (lo + m):=F2.asc (b:=arrOf aK) (by omega) (fun k=>rfl)
   have C3:Ch f lo aE (setArr aK (mirror (arrOf aK) lo (lo + m) ((lo + m - lo) / 2))):=C2.trans ⟨rfl,fun k hk=>by
    show fa f (mirror (arrOf aK) lo (lo + m) ((lo + m - lo) / 2)) k = _
    rw [Eu (by omega),if_neg (by omega)]⟩
   generalize setArr aK (mirror (arrOf aK) lo (lo + m) ((lo + m - lo) / 2)) = eU at B3 C3 A3 ⊢
  all_goals
   refine wpS_bind (wpS_mono (wpS_forRange (I:=fun x c bD=>bD = eU /\ c = (none,x) /\ Hb f (arrOf eU) lo (lo + x)) (Q:=fun c bD=>bD = eU /\ ∃ n,c = (none,n) /\ 0 < n /\ n <= nr /\ Hb f (arrOf eU) lo (lo + n)) ?_ ?_ ⟨rfl,rfl,A3⟩) ?_)
   ·rintro x c bD y1 y2 ⟨rfl,rfl,y3⟩
    dsimp only
    refine wpS_bind (G3 hA B3 (by omega) (by omega) ?_)
    dsimp only
    by_cases z:fa f (arrOf bD) (lo + x) < fa f (arrOf bD) (lo + x - 1)
    ·rw [if_pos (decide_eq_true z)]
     exact wpS_pure ⟨rfl,x,rfl,by omega,by omega,y3⟩
    ·rw [if_neg (by rw [decide_eq_true_eq]; exact z)]
     exact wpS_pure ⟨rfl,rfl,Qa y3 (by omega) (by omega)⟩
   ·rintro c bD ⟨rfl,rfl,y3⟩
    have e:max m nr = nr:=by omega
    rw [e] at y3 ⊢
    exact ⟨rfl,nr,rfl,wB,Nat.le_refl _,y3⟩
   rintro c bD ⟨rfl,n,rfl,n1,n2,n3⟩
   dsimp only
   exact wpS_pure (h _ _ n1 n2 B3 C3 n3)
end
section
variable {f:Keyed -> Nat}
def Cs (f:Keyed -> Nat) (a:Array Keyed):Nat -> List (Nat × Nat × Nat) -> Nat -> Prop
 | s0,[],hi=>s0 = hi
 | s0,x :: r,hi=>x.1 = s0 /\ 0 < x.2.1 /\ Hb f a s0 (s0 + x.2.1) /\ Cs f a (s0 + x.2.1) r hi
theorem Cs.len {a:Array Keyed}:∀ {l:List (Nat × Nat × Nat)} {s0 hi:Nat},Cs f a s0 l hi -> s0 + l.length <= hi
 | [],s0,hi,h=>Nat.le_of_eq h
 | x :: r,s0,hi,h=>by
  have:=h.2.2.2.len
  have h2:=h.2.1
  rw [List.length_cons]
  omega
theorem Cs.congr {a a':Array Keyed}:∀ {l:List (Nat × Nat × Nat)} {s0 hi:Nat},Cs f a s0 l hi -> (∀ k,s0 <= k -> k < hi -> fa f a' k = fa f a k) -> Cs f a' s0 l hi
 | [],s0,hi,h,e=>h
 | x :: r,s0,hi,h,e=>by
  obtain ⟨h1,h2,h3,h4⟩ := h
  have hl:=h4.len
  refine ⟨h1,h2,fun i j i1 i2 i3=>?_,h4.congr fun k k1 k2=>e k (by omega) k2⟩
  rw [e i i1 (by omega),e j (by omega) (by omega)]
  exact h3 i j i1 i2 i3
theorem Cs.app {a:Array Keyed}:∀ {l m:List (Nat × Nat × Nat)} {s0 hi:Nat},Cs f a s0 (l ++ m) hi ↔ ∃ mid,Cs f a s0 l mid /\ Cs f a mid m hi
 | [],m,s0,hi=>⟨fun h=>⟨s0,rfl,h⟩,fun ⟨mid,h1,h2⟩=>by rw [show s0 = mid from h1]; exact h2⟩
 | x :: r,m,s0,hi=>by
  constructor
  ·rintro ⟨h1,h2,h3,h4⟩
   obtain ⟨mid,g1,g2⟩ := Cs.app.mp h4
   exact ⟨mid,⟨h1,h2,h3,g1⟩,g2⟩
  ·rintro ⟨mid,⟨h1,h2,h3,g1⟩,g2⟩
   exact ⟨h1,h2,h3,Cs.app.mpr ⟨mid,g1,g2⟩⟩
theorem Cs.mod {a:Array Keyed} {pw:Nat}:∀ {l:List (Nat × Nat × Nat)} {i s0 hi:Nat},Cs f a s0 l hi -> Cs f a s0 (l.modify i fun x=>(x.fst,x.2.fst,pw)) hi
 | [],i,s0,hi,h=>by rw [List.modify_nil]; exact h
 | x :: r,0,s0,hi,h=>by rw [List.modify_zero_cons]; exact h
 | x :: r,i + 1,s0,hi,h=>by
  rw [List.modify_succ_cons]
  exact ⟨h.1,h.2.1,h.2.2.1,Cs.mod h.2.2.2⟩
theorem Uz (p:Array (Nat × Nat × Nat)) (i:Nat) (x:Nat × Nat × Nat) (h:i + 1 < p.size):((p.setIfInBounds i x).eraseIdxIfInBounds (i + 1)).toList = p.toList.take i ++ x :: p.toList.drop (i + 2):=by
 have e:((p.setIfInBounds i x).eraseIdxIfInBounds (i + 1)).toList = (p.toList.set i x).eraseIdx (i + 1):=by
  unfold Array.eraseIdxIfInBounds
  rw [dif_pos (by rw [Array.size_setIfInBounds]; exact h),Array.toList_eraseIdx,Array.toList_setIfInBounds]
 rw [e,List.eraseIdx_eq_take_drop_succ]
 have hl:i < p.toList.length:=by rw [Array.length_toList]; omega
 rw [List.drop_set_of_lt (by omega),List.take_set,List.take_add_one,List.getElem?_eq_getElem hl]
 have ht:(p.toList.take i).length = i:=by rw [List.length_take]; omega
 rw [List.set_append_right _ _ (by omega),ht,Nat.sub_self,List.append_assoc]
 rfl
end
section
variable {prog:Program} {w:World} {A:Around} {E:Value -> Shared -> Prop} {s:Shared} {κ:SortKind} {f:Keyed -> Nat} {a₀:Array Keyed} {st:SortSt}
theorem Yp (hA : Hq prog w A s κ f a₀) (hB : Bs κ a₀ st) {lo n ok : Nat} (aH : 0 < ok) (hn : ok <= n) (hsz : lo + n <= a₀.size) (hs : Hb f (arrOf st) lo (lo + ok)) {Q : Bool -> SortSt -> Prop}
  (h:∀ aE,Bs κ a₀ aE -> Ch f lo st aE -> Hb f (arrOf aE) lo (lo + n) -> Q true aE):wpS (model prog w) A E s (binarySort' lo n ok) Q st:=by
 refine wpS_bind (wpS_mono (wpS_forRange (I:=fun k c aE=>c = (none,()) /\ Bs κ a₀ aE /\ Ch f lo st aE /\ Hb f (arrOf aE) lo (lo + k)) (Q:=fun c aE=>c = (none,()) /\ Bs κ a₀ aE /\ Ch f lo st aE /\ Hb f (arrOf aE) lo (lo + n)) ?_ ?_ ⟨rfl,hB,Ch.refl,by rw [show max ok 1 = ok by omega]; exact hs⟩) ?_)
 ·rintro k c aE k1 k2 ⟨rfl,B1,C1,A1⟩
  dsimp only
  have sz:=B1.size
  refine wpS_bind (wpS_mono (wpS_forRange (I:=fun x c aK=>aK = aE /\ ∃ l r,c = (none,l,r) /\ l <= r /\ r <= k /\ r + x <= l + k /\ (∀ i,i < l -> fa f (arrOf aE) (lo + i) <= fa f (arrOf aE) (lo + k)) /\ (∀ i,r <= i -> i < k -> fa f (arrOf aE) (lo + k) <= fa f (arrOf aE) (lo + i)))
   (Q:=fun c aK=>aK = aE /\ ∃ l,c = (none,l,l) /\ l <= k /\ (∀ i,i < l -> fa f (arrOf aE) (lo + i) <= fa f (arrOf aE) (lo + k)) /\ (∀ i,l <= i -> i < k -> fa f (arrOf aE) (lo + k) <= fa f (arrOf aE) (lo + i))) ?_ ?_ ⟨rfl,0,k,rfl,by omega,by omega,by omega,fun i hi=>by omega,fun i h1 h2=>by omega⟩) ?_)
  ·rintro x c aK _ hx ⟨rfl,l,r,rfl,g1,g2,g3,g4,g5⟩
   dsimp only
   by_cases e:l >= r
   ·rw [if_pos e]
    obtain rfl:l = r:=by omega
    exact wpS_pure ⟨rfl,l,rfl,g2,g4,g5⟩
   ·rw [if_neg e]
    refine wpS_bind (G3 hA B1 (by omega) (by omega) ?_)
    dsimp only
    by_cases z:fa f (arrOf aK) (lo + k) < fa f (arrOf aK) (lo + (l + r) / 2)
    ·rw [if_pos (decide_eq_true z)]
     refine wpS_pure ⟨rfl,l,_,rfl,by omega,by omega,by omega,g4,fun i i1 i2=>?_⟩
     have:=A1 (lo + (l + r) / 2) (lo + i) (by omega) (by omega) (by omega)
     omega
    ·rw [if_neg (by rw [decide_eq_true_eq]; exact z)]
     refine wpS_pure ⟨rfl,_,r,rfl,by omega,by omega,by omega,fun i i1=>?_,g5⟩
     have:=A1 (lo + i) (lo + (l + r) / 2) (by omega) (by omega) (by omega)
     omega
  ·rintro c aK ⟨rfl,l,r,rfl,g1,g2,g3,g4,g5⟩
   obtain rfl:l = r:=by omega
   exact ⟨rfl,l,rfl,g2,g4,g5⟩
  rintro c aK ⟨rfl,l,rfl,g2,g4,g5⟩
  dsimp only
  have eb:∀ m,fa f (bubble (arrOf aK) (lo + k) (lo + k - (lo + l))) m = if m = lo + l then fa f (arrOf aK) (lo + k) else if lo + l < m /\ m <= lo + k then fa f (arrOf aK) (m - 1) else fa f (arrOf aK) m:=fun m=>by
   rw [Vr (by omega) (by omega),show lo + k - (lo + k - (lo + l)) = lo + l by omega]
  refine wpS_bind (m:=moveDown' (lo + k) (lo + l)) ?_
  rw [moveDown'_eq]
  refine wpS_modify (wpS_pure ⟨rfl,⟨(bubble_perm _ _ _).trans B1.perm,B1.kind,B1.failed⟩,C1.trans ⟨rfl,fun m hm=>?_⟩,fun i j i1 i2 i3=>?_⟩)
  ·show fa f (bubble (arrOf aK) (lo + k) (lo + k - (lo + l))) m = _
   rw [eb m,if_neg (by omega),if_neg (by omega)]
  ·show fa f (bubble (arrOf aK) (lo + k) (lo + k - (lo + l))) i <= fa f (bubble (arrOf aK) (lo + k) (lo + k - (lo + l))) j
   rw [eb i,eb j]
   have G4:∀ i,lo <= i -> i < lo + l -> fa f (arrOf aK) i <= fa f (arrOf aK) (lo + k):=fun i i1 i2=>by
    have:=g4 (i - lo) (by omega)
    rwa [show lo + (i - lo) = i by omega] at this
   have G5:∀ i,lo + l <= i -> i < lo + k -> fa f (arrOf aK) (lo + k) <= fa f (arrOf aK) i:=fun i i1 i2=>by
    have:=g5 (i - lo) (by omega) (by omega)
    rwa [show lo + (i - lo) = i by omega] at this
   by_cases c1:i = lo + l
   ·rw [if_pos c1]
    by_cases c2:j = lo + l
    ·rw [if_pos c2]
     exact Nat.le_refl _
    ·rw [if_neg c2,if_pos (by omega)]
     exact G5 (j - 1) (by omega) (by omega)
   ·rw [if_neg c1]
    by_cases c3:lo + l < i /\ i <= lo + k
    ·rw [if_pos c3,if_neg (by omega),if_pos (by omega)]
     exact A1 (i - 1) (j - 1) (by omega) (by omega) (by omega)
    ·rw [if_neg c3]
     by_cases c2:j = lo + l
     ·rw [if_pos c2]
      exact G4 i i1 (by omega)
     ·rw [if_neg c2]
      by_cases c4:lo + l < j /\ j <= lo + k
      ·rw [if_pos c4]
       exact Nat.le_trans (G4 i i1 (by omega)) (G5 (j - 1) (by omega) (by omega))
      ·rw [if_neg c4]
       exact A1 i j i1 i2 (by omega)
 ·rintro c aE ⟨rfl,B1,C1,A1⟩
  rw [show max (max ok 1) n = n by omega] at A1
  exact ⟨rfl,B1,C1,A1⟩
 rintro c aE ⟨rfl,B1,C1,A1⟩
 exact wpS_pure (h _ B1 C1 A1)
theorem L5 (hA : Hq prog w A s κ f a₀) (hB : Bs κ a₀ st) {i hi : Nat} (hR : Cs f (arrOf st) 0 (pendingOf st).toList hi) (hh : hi <= a₀.size) (aM : i + 1 < (pendingOf st).size) {Q : Bool -> SortSt -> Prop}
  (h:∀ aE,Bs κ a₀ aE -> Cs f (arrOf aE) 0 (pendingOf aE).toList hi -> (pendingOf aE).size + 1 = (pendingOf st).size -> (∀ k,hi <= k -> fa f (arrOf aE) k = fa f (arrOf st) k) -> Q true aE):wpS (model prog w) A E s (mergeAt' i) Q st:=by
 have hl:i + 1 < (pendingOf st).toList.length:=by rw [Array.length_toList]; exact aM
 obtain ⟨sa,na,pw,ea⟩ : ∃ sa na pw,(pendingOf st).toList[i]? = some (sa,na,pw):=⟨_,_,_,List.getElem?_eq_getElem (by omega)⟩
 obtain ⟨sb,nb,pb,eb⟩ : ∃ sb nb pb,(pendingOf st).toList[i + 1]? = some (sb,nb,pb):=⟨_,_,_,List.getElem?_eq_getElem (by omega)⟩
 have ed:(pendingOf st).toList = (pendingOf st).toList.take i ++ (sa,na,pw) :: (sb,nb,pb) :: (pendingOf st).toList.drop (i + 2):=by
  have h1:=(List.take_append_drop i (pendingOf st).toList).symm
  rw [List.drop_eq_getElem_cons (by omega),(List.getElem?_eq_some_iff.mp ea).2,List.drop_eq_getElem_cons hl,(List.getElem?_eq_some_iff.mp eb).2] at h1
  exact h1
 have hR2:=hR
 rw [ed] at hR2
 obtain ⟨mid,r1,r2⟩ := Cs.app.mp hR2
 obtain ⟨a1,a2,a3,b1,b2,b3,r3⟩ := r2
 dsimp only at a1 a2 a3 b1 b2 b3 r3
 subst a1 b1
 have l1:=r1.len
 have l3:=r3.len
 refine Qg hA hB (by rw [<- Array.getElem?_toList]; exact ea) (by rw [<- Array.getElem?_toList]; exact eb) rfl a2 b2 (by omega) a3 b3 fun aE B' p' A' f'=>?_
 refine h aE B' ?_ ?_ fun k hk=>f' k (by omega)
 ·rw [p',Uz _ _ _ aM]
  refine Cs.app.mpr ⟨sa,r1.congr fun k k1 k2=>f' k (by omega),rfl,by show 0 < na + nb; omega,?_,?_⟩
  ·show Hb f (arrOf aE) sa (sa + (na + nb))
   rw [<- Nat.add_assoc]
   exact A'
  ·show Cs f (arrOf aE) (sa + (na + nb)) _ _
   rw [<- Nat.add_assoc]
   exact r3.congr fun k k1 k2=>f' k (by omega)
 ·rw [p',<- Array.length_toList,Uz _ _ _ aM,<- Array.length_toList (xs:=pendingOf st)]
  rw [List.length_append,List.length_cons,List.length_take,List.length_drop]
  omega
end
section
variable {prog:Program} {w:World} {A:Around} {E:Value -> Shared -> Prop} {s:Shared} {κ:SortKind} {f:Keyed -> Nat} {a₀:Array Keyed} {st:SortSt}
theorem Cs.push {a a':Array Keyed} {p:Array (Nat × Nat × Nat)} {lo n pw:Nat} (h:Cs f a 0 p.toList lo) (e:∀ k,k < lo -> fa f a' k = fa f a k) (hn:0 < n) (hs:Hb f a' lo (lo + n)):Cs f a' 0 (p.push (lo,n,pw)).toList (lo + n):=by
 rw [Array.toList_push]
 exact Cs.app.mpr ⟨lo,h.congr fun k _ hk=>e k hk,rfl,hn,hs,rfl⟩
theorem Qm (hA:Hq prog w A s κ f a₀) (hB:Bs κ a₀ st) (hp:pendingOf st = #[]) {Q:Unit -> SortSt -> Prop} (h:∀ aE,Bs κ a₀ aE -> Hb f (arrOf aE) 0 a₀.size -> Q () aE):wpS (model prog w) A E s sortRuns' Q st:=by
 have sz0:=hB.size
 rw [sortRuns'_eq]
 refine wpS_bind (wpS_get ?_)
 refine wpS_bind (wpS_mono (wpS_forRange (I:=fun x c aE=>∃ lo,c = (none,lo) /\ Bs κ a₀ aE /\ Cs f (arrOf aE) 0 (pendingOf aE).toList lo /\ lo <= a₀.size /\ (lo < a₀.size -> x <= lo)) (Q:=fun c aE=>c = (none,a₀.size) /\ Bs κ a₀ aE /\ Cs f (arrOf aE) 0 (pendingOf aE).toList a₀.size) ?_ ?_ ⟨0,rfl,hB,by rw [hp]; rfl,by omega,fun _=>Nat.le_refl _⟩) ?_)
 ·rintro x c bE _ x2 ⟨lo,rfl,B1,R1,l1,l2⟩
  dsimp only
  rw [show (arrOf st).size = a₀.size from sz0]
  by_cases e1:lo >= a₀.size
  ·rw [if_pos e1]
   obtain rfl:lo = a₀.size:=by omega
   exact wpS_pure ⟨rfl,B1,R1⟩
  rw [if_neg e1]
  refine wpS_bind (Sl hA B1 (by omega) (by omega) fun m aK m1 m2 B2 C2 A2=>?_)
  dsimp only
  have R2:Cs f (arrOf aK) 0 (pendingOf aK).toList lo:=by
   rw [C2.1]
   exact R1.congr fun k _ hk=>C2.2 k hk
  by_cases e2:m < minRun' a₀.size a₀.size 0
  case' pos =>
   rw [if_pos e2]
   refine wpS_bind (wpS_lift (wpAny_rule ⟨rfl,?_⟩))
   generalize hn:min (a₀.size - lo) (minRun' a₀.size a₀.size 0) = n
   have tQ:0 < n /\ n <= a₀.size - lo /\ m <= n:=by omega
   refine wpS_bind (Yp hA B2 m1 tQ.2.2 (by omega) A2 fun eU B3 C3 A3=>?_)
   rw [if_neg (by decide)]
   have R3:Cs f (arrOf eU) 0 (pendingOf eU).toList lo:=by
    rw [C3.1]
    exact R2.congr fun k _ hk=>C3.2 k hk
  case' neg =>
   rw [if_neg e2]
   obtain ⟨n,rfl⟩ : ∃ n,n = m:=⟨m,rfl⟩
   have tQ:0 < n /\ n <= a₀.size - lo:=⟨m1,m2⟩
   have B3:=B2
   have A3:=A2
   have R3:=R2
   obtain ⟨eU,rfl⟩ : ∃ eU,eU = aK:=⟨aK,rfl⟩
  all_goals
   refine wpS_bind (wpS_get ?_)
   cases hb:(pendingOf eU).back? with
   | none =>
    dsimp only
    refine wpS_bind (wpS_modify (wpS_pure ⟨lo + n,rfl,⟨B3.perm,B3.kind,B3.failed⟩,R3.push (fun _ _=>rfl) tQ.1 A3,by omega,fun _=>by omega⟩))
   | some v =>
    obtain ⟨s1,n1,v1⟩ := v
    dsimp only
    refine wpS_bind (wpS_mono (wpS_forRange (I:=fun y c bD=>c = (none,()) /\ Bs κ a₀ bD /\ Cs f (arrOf bD) 0 (pendingOf bD).toList lo /\ Hb f (arrOf bD) lo (lo + n)) (Q:=fun c bD=>c = (none,()) /\ Bs κ a₀ bD /\ Cs f (arrOf bD) 0 (pendingOf bD).toList lo /\ Hb f (arrOf bD) lo (lo + n)) ?_ (fun c bD h4=>h4) ⟨rfl,B3,R3,A3⟩) ?_)
    ·rintro y c bD _ y2 ⟨rfl,B4,R4,A4⟩
     refine wpS_bind (wpS_get ?_)
     by_cases e3:(pendingOf bD).size > 1
     ·rw [if_pos e3]
      obtain ⟨⟨u1,u2,u3⟩,hu⟩ : ∃ u,(pendingOf bD)[(pendingOf bD).size - 2]? = some u:=⟨_,getElem?_pos (pendingOf bD) _ (by omega)⟩
      rw [hu]
      dsimp only
      split
      ·exact wpS_pure ⟨rfl,B4,R4,A4⟩
      ·refine wpS_bind (L5 hA B4 R4 l1 (by omega) fun vY B5 R5 _ f5=>?_)
       rw [if_neg (by decide)]
       refine wpS_pure ⟨rfl,B5,R5,fun i j i1 i2 i3=>?_⟩
       rw [f5 i i1,f5 j (by omega)]
       exact A4 i j i1 i2 i3
     ·rw [if_neg e3]
      exact wpS_pure ⟨rfl,B4,R4,A4⟩
    ·rintro c bD ⟨rfl,B4,R4,A4⟩
     dsimp only
     refine wpS_bind (wpS_modify (wpS_bind (wpS_modify (wpS_pure ⟨lo + n,rfl,⟨B4.perm,B4.kind,B4.failed⟩,?_,by omega,fun _=>by omega⟩))))
     refine Cs.push (a:=arrOf bD) ?_ (fun _ _=>rfl) tQ.1 A4
     show Cs f (arrOf bD) 0 ((pendingOf bD).modify ((pendingOf bD).size - 1) _).toList lo
     rw [Array.toList_modify]
     exact R4.mod
 ·rintro c bE ⟨lo,rfl,B1,R1,l1,l2⟩
  obtain rfl:lo = a₀.size:=by omega
  exact ⟨rfl,B1,R1⟩
 rintro c bE ⟨rfl,B1,R1⟩
 dsimp only
 have n1:(pendingOf bE).size <= a₀.size:=by
  have:=R1.len
  rw [Array.length_toList] at this
  omega
 refine wpS_bind (wpS_mono (wpS_forRange (I:=fun y c bD=>c = (none,()) /\ Bs κ a₀ bD /\ Cs f (arrOf bD) 0 (pendingOf bD).toList a₀.size /\ (pendingOf bD).size + y <= a₀.size + 1) (Q:=fun c bD=>c = (none,()) /\ Bs κ a₀ bD /\ Cs f (arrOf bD) 0 (pendingOf bD).toList a₀.size /\ (pendingOf bD).size <= 1) ?_ ?_ ⟨rfl,B1,R1,by omega⟩) ?_)
 ·rintro y c bD _ y2 ⟨rfl,B4,R4,n4⟩
  refine wpS_bind (wpS_get ?_)
  by_cases e3:(pendingOf bD).size <= 1
  ·rw [if_pos e3]
   exact wpS_pure ⟨rfl,B4,R4,e3⟩
  rw [if_neg e3]
  refine wpS_bind (L5 hA B4 R4 (Nat.le_refl _) ?_ fun vY B5 R5 n5 f5=>?_)
  ·(repeat' split) <;> omega
  rw [if_neg (by decide)]
  exact wpS_pure ⟨rfl,B5,R5,by omega⟩
 ·rintro c bD ⟨rfl,B4,R4,n4⟩
  exact ⟨rfl,B4,R4,by omega⟩
 rintro c bD ⟨rfl,B4,R4,n4⟩
 dsimp only
 refine wpS_pure (h _ B4 ?_)
 rw [<- Array.length_toList] at n4
 match hl:(pendingOf bD).toList with
 | [] =>
  rw [hl] at R4
  have e:0 = a₀.size:=R4
  rw [<- e]
  exact fun i j _ _ h3=>absurd h3 (Nat.not_lt_zero _)
 | [x] =>
  rw [hl] at R4
  obtain ⟨_,_,r3,r4⟩ := R4
  rw [show 0 + x.2.1 = a₀.size from r4] at r3
  exact r3
 | x :: y :: r =>
  rw [hl,List.length_cons,List.length_cons] at n4
  omega
end
open PySem PySem.Spec PySem.SeqAt PyProof.Rows
section
variable {prog:Program} {w:World} {E:Value -> Shared -> Prop}
def Lx:List PyData -> List PyData -> Prop
 | x :: xs,y :: ys=>if PyData.eqv x y = true then Lx xs ys else Gf x y
 | _,_=>True
def ai:PyData -> PyData -> Prop
 | .tuple xs,.tuple ys=>Lx xs ys
 | _,_=>False
theorem Ud:∀ {xs ys:List PyData},bA xs ys -> Lx xs ys
 | [],_,_=>by unfold Lx; trivial
 | _ :: _,[],_=>by unfold Lx; trivial
 | x :: xs,y :: ys,h=>by
  unfold Lx
  split
  ·exact Ud h.2
  ·exact h.1
theorem Qi {A : Around} {s : Shared} {b : Bool} {Q : Bool -> Shared -> Prop} : ∀ (xs ys : List PyData) (vs ws : List Value) (as bs : List Addr) (i : Nat), ReadsAll s.heap vs xs as -> ReadsAll s.heap ws ys bs -> PyData.canLayAll0 xs = true -> PyData.canLayAll0 ys = true -> Lx xs ys ->
  A.units + min (PyData.depthAll xs) (PyData.depthAll ys) < cLine -> (b = true -> i = 0 -> ∀ x xs' y DX,xs = x :: xs' -> ys = y :: DX -> ∃ m n,x = .int m /\ y = .int n) -> Q (aF xs ys) s -> PySem.W.KatLex prog w A b (decide (xs.length < ys.length)) Q (vs.zip ws) i s
 | [],ys,_,ws,_,_,i,ra,rb,_,_,_,_,_,h=>by
  cases ra
  rw [List.zip_nil_left]
  refine PySem.W.kat_nil ?_
  cases ys <;> exact h
 | x :: xs,[],_,_,_,_,i,ra,rb,_,_,_,_,_,h=>by
  cases rb
  rw [List.zip_nil_right]
  exact PySem.W.kat_nil h
 | x :: xs,y :: ys,_,_,_,_,i,ra,rb,ca,cb,hc,hu,hb,h=>by
  have e0:=eqAt_readsAll (x :: xs) (y :: ys) A s _ _ _ _ ra rb ca cb hu 0
  cases ra with
  | @cons v vs _ _ a1 a2 r1 r2 =>
   cases rb with
   | @cons u us _ _ b1 b2 q1 q2 =>
    have tJ:x.canLay0 = true /\ PyData.canLayAll0 xs = true:=by simpa [PyData.canLayAll0] using ca
    have tK:y.canLay0 = true /\ PyData.canLayAll0 ys = true:=by simpa [PyData.canLayAll0] using cb
    have hd:A.units + min x.depth y.depth < cLine /\ A.units + min (PyData.depthAll xs) (PyData.depthAll ys) < cLine:=by
     simp only [PyData.depthAll] at hu
     omega
    have e1:SeqAt.EqAt A s v u (PyData.eqv x y):=e0 (by simp) (by simp)
    have el:decide ((x :: xs).length < (y :: ys).length) = decide (xs.length < ys.length):=by simp
    rw [List.zip_cons_cons,el]
    refine PySem.W.kat_cons (e1 prog w _ _ ?_)
    cases e:PyData.eqv x y with
    | true =>
     unfold Lx at hc
     rw [if_pos e] at hc
     refine PySem.W.kat_yes (Qi xs ys _ _ _ _ (i + 1) r2 q2 tJ.2 tK.2 hc hd.2 (fun _ z=>by omega) ?_)
     rw [aF,if_pos e] at h
     exact h
    | false =>
     unfold Lx at hc
     rw [if_neg (by rw [e]; decide)] at hc
     rw [aF,if_neg (by rw [e]; decide)] at h
     refine PySem.W.kat_no ?_
     by_cases z:(b && i == 0) = true
     ·have z2:b = true /\ i = 0:=by simpa using z
      obtain ⟨m,n,rfl,rfl⟩ := hb z2.1 z2.2 x xs y ys rfl rfl
      cases r1
      cases q1
      rw [z]
      exact oneLt_int h
     ·rw [show (b && i == 0) = false from Bool.eq_false_iff.mpr z]
      refine PySem.W.kat_one _ _ ?_
      exact Kl x y A s _ _ _ _ r1 q1 tJ.1 tK.1 hc hd.1 prog w _ _ (show PySem.W.BoolBack Q (.bool (Jf x y)) s from h)
def Ir (b:Bool) (d:PyData):Prop := ∃ x r,d = .tuple (x :: r) /\ if b = true then ∃ m,x = .int m else ∃ l,x = .tuple l
theorem X8 {A : Around} {s : Shared} {b : Bool} {Q : Bool -> Shared -> Prop} {v u : Value} {d e : PyData} {as bs : List Addr} (rv : Reads s.heap v d as) (ru : Reads s.heap u e bs) (fd : Ir b d) (fe : Ir b e) (cd : d.canLay0 = true) (ce : e.canLay0 = true) (hc : ai d e) (hu : A.units + d.depth < cLine) (h : Q (Jf d e) s) :
  wpAny (model prog w) A (keyLt' (PyProof.Rows.tuples' b) v u) Q E s:=by
 obtain ⟨x,r,rfl,hx⟩ := fd
 obtain ⟨y,r2,rfl,hy⟩ := fe
 cases rv with
 | @tuple l1 o1 vs n1 _ as1 h1 h2 h3 h4 =>
  cases ru with
  | @tuple l2 o2 ws n2 _ as2 k1 k2 k3 k4 =>
   have n1':vs.size = (x :: r).length:=by simpa using ReadsAll.length _ _ _ h4
   have QI:ws.size = (y :: r2).length:=by simpa using ReadsAll.length _ _ _ k4
   refine PySem.W.kat_lt h1 h3 k1 k3 ?_
   rw [n1',QI]
   refine Qi (x :: r) (y :: r2) _ _ _ _ 0 h4 k4 cd ce hc ?_ (fun hb _ x' _ y' _ e1 e2=>?_) h
   ·have e:(PyData.tuple (x :: r)).depth = PyData.depthAll (x :: r) + 1:=by simp [PyData.depth]
    omega
   ·cases e1
    cases e2
    rw [if_pos hb] at hx hy
    obtain ⟨m,rfl⟩ := hx
    obtain ⟨n,rfl⟩ := hy
    exact ⟨m,n,rfl,rfl⟩
theorem Vh {A:Around} {s:Shared} {b:Bool} {Q:SortKind -> Shared -> Prop}:∀ {vs:List Value} ,vs ≠ [] -> (∀ v ∈ vs,∃ d as,Reads s.heap v d as /\ Ir b d) -> Q (PyProof.Rows.tuples' b) s -> wpAny (model prog w) A (keyKind' vs.toArray) Q E s:=by
 intro vs bN hall h
 have key:∀ vs:List Value,(∀ v ∈ vs,∃ d as,Reads s.heap v d as /\ Ir b d) -> ∃ fs,PySem.W.KatTups s.heap vs fs /\ fs.length = vs.length /\ ∀ f ∈ fs,PySem.W.Looks (model prog w) s.heap (typeOf f) (.type (if b = true then "int" else "tuple")):=by
  intro vs
  induction vs with
  | nil=>exact fun _=>⟨[],PySem.W.KatTups.nil,rfl,fun f hf=>by cases hf⟩
  | cons v vs ih =>
   intro hall
   obtain ⟨fs,t1,t2,t3⟩ := ih fun v hv=>hall v (List.mem_cons_of_mem _ hv)
   obtain ⟨d,as,rv,x,r,rfl,hx⟩ := hall v List.mem_cons_self
   cases rv with
   | tuple h1 h2 h3 h4 =>
    rename_i a o us n
    obtain ⟨u,ur,eu⟩ : ∃ u ur,us.toList = u :: ur:=by
     cases fW:us.toList with
     | nil=>rw [fW] at h4; cases h4
     | cons u ur=>exact ⟨u,ur,rfl⟩
    have e0:us[0]? = some u:=by rw [<- Array.getElem?_toList,eu]; rfl
    refine ⟨u :: fs,PySem.W.KatTups.cons h1 h2 h3 e0 t1,by simp [t2],fun f hf=>?_⟩
    rcases List.mem_cons.mp hf with z | z
    ·subst z
     rw [eu] at h4
     cases h4 with
     | cons r1 r2 =>
      cases b with
      | true =>
       obtain ⟨m,rfl⟩ := hx
       cases r1
       exact PySem.W.Looks.now
      | false =>
       obtain ⟨l,rfl⟩ := hx
       cases r1 with
       | tuple g1 g2 g3 g4 =>
        show PySem.W.Looks (model prog w) s.heap _ (Value.type "tuple")
        rw [<- g2]
        exact (PySem.W.Looks.ld g1).andThen .now
    ·exact t3 f z
 obtain ⟨fs,t1,t2,t3⟩ := key vs hall
 refine PySem.W.kat_kind t1 ?_ t3 (by cases b <;> rfl) ?_
 ·rw [t2]
  exact List.length_pos_iff.mpr bN
 ·have e:(Value.type (if b = true then "int" else "tuple") != Value.type "tuple") = b:=by cases b <;> decide
  rw [e]
  exact h
theorem Fv (vs:List Value):vs.toArray.zip vs.toArray = (vs.map fun v=>(v,v)).toArray:=by
 apply Array.toList_inj.mp
 rw [Array.toList_zip,List.toList_toArray]
 induction vs with
 | nil=>rfl
 | cons v r ih=>rw [List.zip_cons_cons,ih,List.map_cons]
theorem Us (vs:List Value):(vs.map fun v=>(v,v)).map (fun x:Value × Value=>x.2) = vs:=by
 rw [List.map_map]
 exact List.map_id'' (fun _=>rfl) vs
theorem Z1 {A : Around} {s : Shared} {a : Addr} {vs : List Value} {n : Nat} {κ : SortKind} {g : Value -> Nat} {P : PySem.Fin -> Shared -> Prop} (ho : s.heap.get? a = some (seqObj "list" vs.toArray n)) (hsz : vs.length <= sizeLine)
  (wC:∀ h6:Heap,(∀ b o,b ≠ a -> s.heap.get? b = some o -> h6.get? b = some o) -> 2 <= vs.length -> (∀ Q,Q κ { s with heap:=h6 } -> wpAny (model prog w) A (keyKind' vs.toArray) Q E { s with heap:=h6 }) /\ Hq prog w A { s with heap:=h6 } κ (fun p=>g p.1) (vs.toArray.zip vs.toArray))
  (h:∀ out:Array Value,out.toList.Perm vs -> out.toList.Pairwise (fun x y=>g x <= g y) -> P (.done (.ret .none)) { s with heap:=sortedHeap s.heap a vs out }) :
  wpAny (model prog w) A (Builtin.«list.sort» ⟨[.ref a],[]⟩) P E s:=by
 rw [list_sort_plain]
 have ha:a < s.heap.objs.size:=Heap.lt_size ho
 refine wpAny_bind (listItems_at ho rfl (wpAny_bind (listUpdate_at ho rfl ?_ (by rw [List.size_toArray]; exact hsz) (Nat.zero_le _))))
 obtain ⟨e1,ho1⟩ : ∃ e1,(s.heap.update a (Obj.mapSeq fun _=>(#[]:Array Value))).get? a = some (seqObj "list" #[] e1):=⟨_,get?_update_seq ho (fun _=>#[])⟩
 refine wpAny_bind (seqEpoch_at ho1 rfl (wpAny_bind (wpAny_newTuple (wpAny_bind (wpAny_newList (wpAny_holding ?_))))))
 have EN:(((s.heap.update a (Obj.mapSeq fun _=>(#[]:Array Value))).push (seqObj "tuple" vs.toArray 0)).push (seqObj "list" #[] 0)).get? a = some (seqObj "list" #[] e1):=Heap.get?_push_of_some _ (Heap.get?_push_of_some _ ho1)
 have kp:∀ b o,b ≠ a -> s.heap.get? b = some o -> (((s.heap.update a (Obj.mapSeq fun _=>(#[]:Array Value))).push (seqObj "tuple" vs.toArray 0)).push (seqObj "list" #[] 0)).get? b = some o:=fun b o hb e=>Heap.get?_push_of_some _ (Heap.get?_push_of_some _ ((Heap.get?_update_other _ _ (Ne.symm hb)).trans e))
 have hk:=wC _ kp
 have fin:=h
 unfold sortedHeap at fin
 generalize ((s.heap.update a (Obj.mapSeq fun _=>(#[]:Array Value))).push (seqObj "tuple" vs.toArray 0)).push (seqObj "list" #[] 0) = h6 at EN kp hk fin
 show wpAny (model prog w) A _ P E { s with heap:=h6 }
 dsimp only
 have lP:vs.toArray.size = vs.length:=by simp
 by_cases h2:vs.toArray.size < 2
 ·rw [if_pos h2,if_pos h2]
  refine wpAny_bind (wpAny_pure ?_)
  rw [StateT.run_pure]
  refine wpAny_bind (wpAny_pure ?_)
  dsimp only
  have eo:Array.map (fun x=>x.snd) (vs.toArray.zip vs.toArray) = vs.toArray:=by
   rw [Fv]
   apply Array.toList_inj.mp
   rw [Array.toList_map]
   exact Us vs
  refine wpAny_bind (seqEpoch_at EN rfl (wpAny_bind (listUpdate_at EN rfl ?_ (Nat.zero_le _) (by rw [eo,lP]; omega))))
  simp only [bne_self_eq_false,Bool.false_eq_true,if_false]
  rw [show Array.map (fun x=>x.snd) (arrOf (SortSt.mk' general' (vs.toArray.zip vs.toArray) #[] 7 none)) = vs.toArray from eo]
  refine wpAny_pure (fin vs.toArray (by simp) ?_)
  match vs,lP,h2 with
  | [],_,_=>exact List.Pairwise.nil
  | [x],_,_=>exact List.pairwise_singleton _ _
  | x :: y :: r,lP,h2=>exact absurd h2 (by rw [lP,List.length_cons,List.length_cons]; omega)
 ·rw [if_neg h2,if_neg h2]
  obtain ⟨tU,rM⟩ := hk (by omega)
  refine wpAny_bind (tU _ ?_)
  have hz:(vs.toArray.zip vs.toArray).size = vs.length:=by rw [Fv]; simp
  refine wpAny_bind (wpAny_mono (Qm (st:=SortSt.mk' κ (vs.toArray.zip vs.toArray) #[] 7 none) rM ⟨Array.Perm.refl _,rfl,rfl⟩ rfl (Q:=fun _ aE=>Bs κ (vs.toArray.zip vs.toArray) aE /\ Hb (fun p=>g p.1) (arrOf aE) 0 (vs.toArray.zip vs.toArray).size) fun aE b1 b2=>⟨b1,b2⟩) ?_ fun _ _ e=>e)
  rintro ⟨⟨⟩,aE⟩ s' ⟨rfl,hB,hS⟩
  dsimp only at hB hS ⊢
  have bL:∀ p ∈ arrOf aE,p.1 = p.2 /\ p.1 ∈ vs:=fun p hp=>by
   have:=hB.perm.mem_iff.mp hp
   rw [Fv] at this
   have h3:p ∈ vs.map fun v=>(v,v):=by simpa using this
   obtain ⟨v,hv,rfl⟩ := List.mem_map.mp h3
   exact ⟨rfl,hv⟩
  have fI:((arrOf aE).map (·.2)).toList.Perm vs:=by
   rw [Array.toList_map]
   have:=(Array.perm_iff_toList_perm.mp hB.perm).map (·.2)
   rw [Fv,Us] at this
   exact this
  have mQ:((arrOf aE).map (·.2)).toList.Pairwise (fun x y=>g x <= g y):=by
   rw [Array.toList_map]
   refine List.pairwise_iff_getElem.mpr fun i j hi hj wu=>?_
   rw [List.length_map,Array.length_toList] at hi hj
   have ei:(arrOf aE)[i]? = some (arrOf aE)[i]:=getElem?_pos (arrOf aE) i hi
   have ej:(arrOf aE)[j]? = some (arrOf aE)[j]:=getElem?_pos (arrOf aE) j hj
   have h4:=hS i j (Nat.zero_le _) (Nat.le_of_lt wu) (by rw [<- hB.size]; exact hj)
   rw [Aq ei,Aq ej] at h4
   have e1:=(bL _ (Array.mem_of_getElem? ei)).1
   have e2:=(bL _ (Array.mem_of_getElem? ej)).1
   rw [e1,e2] at h4
   simpa using h4
  refine wpAny_bind (seqEpoch_at EN rfl (wpAny_bind (listUpdate_at EN rfl ?_ (Nat.zero_le _) (by
   have:=fI.length_eq
   rw [Array.length_toList] at this
   rw [this]
   omega))))
  rw [show failedOf aE = none from hB.failed]
  simp only [bne_self_eq_false,Bool.false_eq_true,if_false]
  exact wpAny_pure (fin _ fI mQ)
end
open PySem PySem.Spec PySem.SeqAt PyProof.Rows
section
variable {prog:Program} {w:World} {E:Value -> Shared -> Prop}
end
section
variable {X:Cx} {k:Nat}
def Og:Value -> Addr
 | .ref a=>a
 | _=>0
def Nr (H:Hp) (b:Bool) (D:V -> PyData) (g:V -> Nat) (us:List V):Prop:=(∀ u ∈ us,Rp H (D u) u /\ Ir b (D u) /\ (D u).depth <= 50) /\ ∀ u ∈ us,∀ v ∈ us,ai (D u) (D v) /\ Jf (D u) (D v) = decide (g u < g v)
theorem Nr.ref {H:Hp} {b:Bool} {D:V -> PyData} {g:V -> Nat} {us:List V} (h:Nr H b D g us):∃ as:List Addr,us = as.map V.ref:=by
 have key:∀ us:List V,(∀ u ∈ us,Rp H (D u) u /\ Ir b (D u)) -> ∃ as:List Addr,us = as.map V.ref:=by
  intro us
  induction us with
  | nil=>exact fun _=>⟨[],rfl⟩
  | cons u us ih =>
   intro hall
   obtain ⟨as,rfl⟩ := ih fun v hv=>hall v (List.mem_cons_of_mem _ hv)
   obtain ⟨h1,x,r,e,_⟩ := hall u List.mem_cons_self
   rw [e] at h1
   unfold Rp at h1
   obtain ⟨a,QJ,ea,_⟩ := h1
   exact ⟨a :: as,by rw [ea]; rfl⟩
 exact key us fun u hu=>⟨(h.1 u hu).1,(h.1 u hu).2.1⟩
theorem Nr.asks {P : Program} {w : World} {pins : List (Addr × Obj)} {σ : St} {H : Hp} {s : Shared} {b : Bool} {D : V -> PyData} {g : V -> Nat} {as : List Addr} {A' : Around} {E : Value -> Shared -> Prop} (I : Ag X pins σ H s) (hP : X.prog = P) (hw : X.w = w) (h : Nr H b D g (as.map V.ref)) (hu : A'.units + 50 < cLine) (h2 : 2 <= as.length) :
  (∀ Q E,Q (PyProof.Rows.tuples' b) s -> wpAny (model P w) A' (keyKind' (as.map Value.ref).toArray) Q E s) /\ Hq P w A' s (PyProof.Rows.tuples' b) (fun p=>g (.ref (Og p.1))) ((as.map Value.ref).toArray.zip (as.map Value.ref).toArray):=by
 subst hP hw
 have rd:∀ a ∈ as,∃ xs,Reads s.heap (.ref a) (D (.ref a)) xs:=fun a ha=>Cp I _ _ _ (h.1 _ (List.mem_map_of_mem ha)).1 rfl
 refine ⟨fun Q E hq=>Vh (b:=b) ?_ (fun v hv=>?_) hq,fun x y hx hy Q E hq=>?_⟩
 ·intro e
  have:=congrArg List.length e
  rw [List.length_map,List.length_nil] at this
  omega
 ·obtain ⟨a,ha,rfl⟩ := List.mem_map.mp hv
  obtain ⟨xs,r⟩ := rd a ha
  exact ⟨_,xs,r,(h.1 _ (List.mem_map_of_mem ha)).2.1⟩
 ·have mem : ∀ z, z ∈ (as.map Value.ref).toArray.zip (as.map Value.ref).toArray -> ∃ a ∈ as, z.1 = Value.ref a := fun z hz => by
   rw [Fv] at hz
   have h3:z ∈ (as.map Value.ref).map fun v=>(v,v):=by simpa using hz
   obtain ⟨v,hv,rfl⟩ := List.mem_map.mp h3
   obtain ⟨a,ha,rfl⟩ := List.mem_map.mp hv
   exact ⟨a,ha,rfl⟩
  obtain ⟨a,ha,ea⟩ := mem x hx
  obtain ⟨c,hc,ec⟩ := mem y hy
  have CN:=List.mem_map_of_mem (f:=V.ref) ha
  have eZ:=List.mem_map_of_mem (f:=V.ref) hc
  obtain ⟨xs,r1⟩ := rd a ha
  obtain ⟨ys,r2⟩ := rd c hc
  obtain ⟨c1,c2⟩ := h.2 _ CN _ eZ
  obtain ⟨x1,x2⟩ := x
  obtain ⟨y1,y2⟩ := y
  obtain rfl:x1 = Value.ref a:=ea
  obtain rfl:y1 = Value.ref c:=ec
  refine X8 r1 r2 (h.1 _ CN).2.1 (h.1 _ eZ).2.1 (Cl _ _ (h.1 _ CN).1) (Cl _ _ (h.1 _ eZ).1) c1 ?_ ?_
  ·have:=(h.1 _ CN).2.2
   omega
  ·rw [c2]
   exact hq
theorem Vo {g:V -> Nat} {as:List Addr} {out:List Value} (hp:out.Perm (as.map Value.ref)) (hs:out.Pairwise (fun x y=>g (.ref (Og x)) <= g (.ref (Og y)))):∃ iQ:List V,As iQ out /\ iQ.Perm (as.map V.ref) /\ iQ.Pairwise (fun x y=>g x <= g y):=by
 have hr:∀ v ∈ out,v = .ref (Og v):=fun v hv=>by
  obtain ⟨a,_,rfl⟩ := List.mem_map.mp (hp.mem_iff.mp hv)
  rfl
 refine ⟨out.map fun v=>.ref (Og v),?_,?_,?_⟩
 ·have key : ∀ l : List Value, (∀ v ∈ l, v = .ref (Og v)) -> As (l.map fun v => V.ref (Og v)) l := by
   intro l
   induction l with
   | nil=>exact fun _=>.nil
   | cons v l ih=>exact fun h=>.cons (h v List.mem_cons_self) (ih fun v hv=>h v (List.mem_cons_of_mem _ hv))
  exact key out hr
 ·have:=hp.map fun v=>V.ref (Og v)
  rw [List.map_map] at this
  exact this
 ·rw [List.pairwise_map]
  exact hs
def nv (K:PySem.W.Frag):List V -> Hp -> VK -> Prop:=fun xs H Q=>∃ (l:Addr) (us:List V) (b:Bool) (D:V -> PyData) (g:V -> Nat),xs = [.ref l] /\ B6 K H l us /\ us.length <= 20000 /\ Nr H b D g us /\ ∀ (p:Addr) (iQ:List V),H p = none -> iQ.Perm us -> iQ.Pairwise (fun x y=>g x <= g y) -> Q (.ref p) (upd H p (.lst iQ))
end
open PySem.W (KdxIt)
section
variable {P:Program} {w:World} {A:Around} {E:Value -> Shared -> Prop} {s:Shared}
theorem fq {it d a : Addr} {f : Bool} {oa od : Obj} {i ep : Nat} {es : Array DictEntry} {en : DictEntry} {ok ov : Value} {Q : Option Value -> Shared -> Prop} (hit : KdxIt s.heap it d i es.size ep ok ov a f) (ha : s.heap.get? a = some oa) (wD : a ≠ it) (fY : s.heap.get? d = some od) (cZ : od.data = .dict es ep) (he : es[i]? = some en)
  (hQ:∀ h',KdxIt h' it d (i + 1) es.size ep ok ov a true -> h'.get? s.heap.objs.size = some { cls := .type "tuple",data := .seq #[en.key,en.val] } -> (∀ b o,b ≠ it -> s.heap.get? b = some o -> h'.get? b = some o) -> Q (some (.ref s.heap.objs.size)) { s with heap:=h' }):wpAny (model P w) A (pyNext (.ref it)) Q E s:=by
 have hT:s.TypeIs (.ref it) "dict_itemiterator" := ⟨_,hit,rfl⟩
 have own:Builtin.Dict_items.ownsTuple "dict_itemiterator" = true:=by decide
 unfold pyNext; refine wpAny_bind (wpAny_attempt (wpAny_callSpecial?_slot (name:=Str.ofString "__next__") hT F.slot_dict_itemiterator_next (wpAny_call_entry F.slot_dict_itemiterator_next hT F.entry_dict_itemiterator_next ?_ (F.args_dict_itemiterator_next_1 _))))
 refine wpAny_bind (wpAny_pure (wpAny_bind (wpAny_bind (wpAny_bind (wpAny_typeNameOfWhole_itemiter hT (wpAny_pure (wpAny_bind (wpAny_fieldsOf hit rfl ?_))))))))
 simp only [own,if_true]; show wpAny _ _ (if (Value.ref d == Value.none) = true then _ else _) _ _ s
 rw [if_neg (show ¬ (Value.ref d == Value.none) = true from Bool.false_ne_true)]; refine wpAny_bind (wpAny_pure (wpAny_bind (wpAny_dictEntries fY cZ ?_)))
 rw [if_neg (show ¬ ((es.size:Int) != (es.size:Int)) = true by simp)]; refine wpAny_bind (wpAny_pure (wpAny_bind (wpAny_dictEpoch fY cZ ?_)))
 rw [if_neg (show ¬ ((ep:Int) != (ep:Int)) = true by simp)]; refine wpAny_pure ?_
 simp only [show ¬ ((i:Int) < 0) by omega,if_false,Int.toNat_natCast,he]
 refine wpAny_bind (wpAny_bind (wpAny_typeNameOfWhole_itemiter hT (wpAny_pure (wpAny_bind (wpAny_isOneOf_itemiter hT ?_)))))
 show wpAny _ _ (setField (.ref it) 3 (rawInt ((i:Int) + 1)) >>= _) _ _ s; refine wpAny_bind (wpAny_setField_rec hit (by simp) fun h1 b1 c1=>?_)
 have EF:KdxIt h1 it d (i + 1) es.size ep ok ov a f:=by
  have e:((i + 1:Nat):Int) = (i:Int) + 1:=by omega
  unfold KdxIt; rw [e]; simpa [rawInt] using b1
 have EG:Shared.TypeIs { s with heap:=h1 } (.ref it) "dict_itemiterator" := ⟨_,EF,rfl⟩
 refine wpAny_bind (wpAny_holding (wpAny_bind (wpAny_isOneOf_itemiter EG (wpAny_bind (wpAny_isOneOf_itemiter EG ?_)))))
 have z1:h1.objs.size = s.heap.objs.size:=c1.1
 show wpAny _ _ (Builtin.Dict_items.pairFromOwner (.ref it) 6 en.key en.val) _ _ { s with heap:=h1 }
 unfold Builtin.Dict_items.pairFromOwner; refine wpAny_bind (wpAny_newTuple ?_)
 have il:it < s.heap.objs.size:=Heap.lt_size hit
 have e2:KdxIt (h1.push { cls := .type "tuple",data := .seq #[en.key,en.val] }) it d (i + 1) es.size ep ok ov a f:=Heap.get?_push_of_some _ EF
 have t2:(h1.push { cls := .type "tuple",data := .seq #[en.key,en.val] }).get? s.heap.objs.size = some { cls := .type "tuple",data := .seq #[en.key,en.val] }:=by rw [<- z1]; exact Heap.get?_push_size _ rfl
 have k2:∀ b o,b ≠ it -> s.heap.get? b = some o -> (h1.push { cls := .type "tuple",data := .seq #[en.key,en.val] }).get? b = some o:=fun b o hb e=>Heap.get?_push_of_some _ (c1.extBut b o hb e)
 show wpAny _ _ (Builtin.Dict_items.ownedTupleIsFree (.ref it) >>= _) _ _ { s with heap:=h1.push { cls := .type "tuple",data := .seq #[en.key,en.val] } }
 rw [show (Shared.heap { s with heap:=h1 }).objs.size = s.heap.objs.size from z1]
 generalize h1.push { cls := .type "tuple",data := .seq #[en.key,en.val] } = h2 at e2 t2 k2
 unfold Builtin.Dict_items.ownedTupleIsFree; refine wpAny_bind (wpAny_bind (wpAny_field e2 rfl (x:=rawInt a) rfl ?_))
 show wpAny _ _ (loadIfAlive ((a:Int).toNat) >>= _) _ _ _; rw [Int.toNat_natCast]
 refine wpAny_bind (PySem.W.kdx_alive (k2 a oa wD ha) ?_)
 simp only [Option.isNone_some,Bool.false_eq_true,if_false]; refine wpAny_bind (wpAny_field e2 rfl (x := .bool f) rfl ?_)
 cases f with
 | true =>
  rw [if_neg (show ¬ (Value.bool true != Value.bool true) = true from Bool.false_ne_true)]; refine wpAny_pure ?_
  simp only [Bool.false_eq_true,if_false]; exact wpAny_pure (wpAny_pure ⟨_,rfl,wpAny_pure (hQ h2 e2 t2 k2)⟩)
 | false =>
  rw [if_pos (show (Value.bool false != Value.bool true) = true from rfl)]; refine wpAny_bind (wpAny_setField_rec e2 (by simp) fun h3 e3 s3=>wpAny_pure ?_)
  simp only [Bool.false_eq_true,if_false]; exact wpAny_pure (wpAny_pure ⟨_,rfl,wpAny_pure (hQ h3 e3 (s3.extBut _ _ (Nat.ne_of_gt il) t2) fun b o hb e=>s3.extBut b o hb (k2 b o hb e))⟩)
theorem gn {it d a : Addr} {f : Bool} {od : Obj} {i ep : Nat} {es : Array DictEntry} {ok ov : Value} {Q : Option Value -> Shared -> Prop} (hh : A.handled = none) (hit : KdxIt s.heap it d i es.size ep ok ov a f) (fY : s.heap.get? d = some od) (cZ : od.data = .dict es ep) (he : es[i]? = none)
  (hQ:∀ h',Heap.ExtBut it s.heap h' -> Q none { s with heap:=h' }):wpAny (model P w) A (pyNext (.ref it)) Q E s:=by
 have hT:s.TypeIs (.ref it) "dict_itemiterator" := ⟨_,hit,rfl⟩
 have own:Builtin.Dict_items.ownsTuple "dict_itemiterator" = true:=by decide
 unfold pyNext; refine wpAny_bind (wpAny_attempt (wpAny_callSpecial?_slot (name:=Str.ofString "__next__") hT F.slot_dict_itemiterator_next (wpAny_call_entry F.slot_dict_itemiterator_next hT F.entry_dict_itemiterator_next ?_ (F.args_dict_itemiterator_next_1 _))))
 refine wpAny_bind (wpAny_pure (wpAny_bind (wpAny_bind (wpAny_bind (wpAny_typeNameOfWhole_itemiter hT (wpAny_pure (wpAny_bind (wpAny_fieldsOf hit rfl ?_))))))))
 simp only [own,if_true]; show wpAny _ _ (if (Value.ref d == Value.none) = true then _ else _) _ _ s
 rw [if_neg (show ¬ (Value.ref d == Value.none) = true from Bool.false_ne_true)]; refine wpAny_bind (wpAny_pure (wpAny_bind (wpAny_dictEntries fY cZ ?_)))
 rw [if_neg (show ¬ ((es.size:Int) != (es.size:Int)) = true by simp)]; refine wpAny_bind (wpAny_pure (wpAny_bind (wpAny_dictEpoch fY cZ ?_)))
 rw [if_neg (show ¬ ((ep:Int) != (ep:Int)) = true by simp)]; refine wpAny_pure ?_
 simp only [show ¬ ((i:Int) < 0) by omega,if_false,Int.toNat_natCast,he]
 refine wpAny_bind (wpAny_bind (wpAny_typeNameOfWhole_itemiter hT (wpAny_pure ?_)))
 show wpAny _ _ (setField (.ref it) 2 Value.none >>= _) _ _ s
 refine wpAny_bind (wpAny_setField hit rfl (by simp) ?_)
 generalize hg:Heap.update s.heap it (Obj.mapFields (·.setIfInBounds 2 Value.none)) = h2
 have eb:Heap.ExtBut it s.heap h2:=by
  rw [<- hg]
  exact fun b ob hb e=>(Heap.get?_update_other _ _ (Ne.symm hb)).trans e
 show wpAny (model P w) _ (newExc (.type "StopIteration") [] >>= _) _ _ { s with heap:=h2 }
 refine wpAny_bind ?_; simp only [newExc,newTuple]
 refine wpAny_bind (wpAny_newObj_type (T := "tuple") ?_ (by size_fits))
 refine wpAny_bind (m:=firstArgMember _ _) (wpAny_of_eq (a:=Value.none) (by first | rfl | simp only [firstArgMember]) ?_)
 refine wpAny_newObj_type (T := "StopIteration") ?_ (by size_fits)
 simp only [raiseNew]; refine wpAny_bind (wpAny_handled ?_)
 first | rw [show A.in1.handled = Option.none from hh] | rw [hh]
 refine wpAny_bind (wpAny_pure (wpAny_throw ?_)); refine wpAny_bind (wpAny_isInstance (T := "StopIteration") (b:=true) ⟨_,Heap.get?_push_size _ rfl,rfl⟩ isSubtype_stop ?_)
 exact wpAny_pure (hQ _ ((eb.push _).push _))
def Tq (h:Heap) (it d S:Addr) (i n ep:Nat):Prop:=(i = 0 /\ ∃ ok ov,IsItemIter h it d 0 n ep ok ov) \/ ∃ ok ov a f oa,KdxIt h it d i n ep ok ov a f /\ h.get? a = some oa /\ a ≠ it /\ a ≠ S
structure bw (es:Array DictEntry) (lo:Addr) (h:Heap) (as:List Addr):Prop where
 rise:as.Pairwise (· < ·)
 above:∀ a ∈ as,lo < a
 at_:∀ (j:Nat) (a:Addr),as[j]? = some a -> ∃ en,es[j]? = some en /\ h.get? a = some { cls := .type "tuple",data := .seq #[en.key,en.val] }
theorem bw.lt {es:Array DictEntry} {lo:Addr} {h:Heap} {as:List Addr} (g:bw es lo h as) {a:Addr} (ha:a ∈ as):a < h.objs.size:=by
 obtain ⟨j,hj⟩ := List.mem_iff_getElem?.mp ha
 obtain ⟨_,_,e⟩ := g.at_ j a hj
 exact Heap.lt_size e
theorem Zs {it d S : Addr} {od : Obj} {i ep : Nat} {es : Array DictEntry} {en : DictEntry} {Q : Option Value -> Shared -> Prop} (st : Tq s.heap it d S i es.size ep) (hS : S < s.heap.objs.size) (fY : s.heap.get? d = some od) (cZ : od.data = .dict es ep) (he : es[i]? = some en)
  (hQ:∀ h',Tq h' it d S (i + 1) es.size ep -> h'.get? s.heap.objs.size = some { cls := .type "tuple",data := .seq #[en.key,en.val] } -> (∀ b o,b ≠ it -> s.heap.get? b = some o -> h'.get? b = some o) -> Q (some (.ref s.heap.objs.size)) { s with heap:=h' }):wpAny (model P w) A (pyNext (.ref it)) Q E s:=by
 rcases st with ⟨rfl,ok,ov,hit⟩ | ⟨ok,ov,a,f,oa,hit,ha,wD,NG⟩
 ·exact Ql hit fY cZ he fun h' a1 a2 a3=>hQ h' (.inr ⟨en.key,en.val,_,false,_,a1,a2,Nat.ne_of_gt (Heap.lt_size hit),Nat.ne_of_gt hS⟩) a2 a3
 ·exact fq hit ha wD fY cZ he fun h' a1 a2 a3=>hQ h' (.inr ⟨ok,ov,a,true,oa,a1,a3 a oa wD ha,wD,NG⟩) a2 a3
theorem Zi {it d S : Addr} {od : Obj} {i ep : Nat} {es : Array DictEntry} {Q : Option Value -> Shared -> Prop} (hh : A.handled = none) (st : Tq s.heap it d S i es.size ep) (fY : s.heap.get? d = some od) (cZ : od.data = .dict es ep) (he : es[i]? = none)
  (hQ:∀ h',Heap.ExtBut it s.heap h' -> Q none { s with heap:=h' }):wpAny (model P w) A (pyNext (.ref it)) Q E s:=by
 rcases st with ⟨rfl,ok,ov,hit⟩ | ⟨ok,ov,a,f,oa,hit,_,_,_⟩
 ·exact Z0 hh hit fY cZ he hQ
 ·exact gn hh hit fY cZ he hQ
theorem Tq.keep {h h':Heap} {it d S:Addr} {i n ep:Nat} (x:Tq h it d S i n ep) (hk:∀ b o,b ≠ S -> h.get? b = some o -> h'.get? b = some o) (hI:it ≠ S):Tq h' it d S i n ep:=by
 rcases x with ⟨e,ok,ov,hit⟩ | ⟨ok,ov,a,f,oa,hit,ha,wD,NG⟩
 ·exact .inl ⟨e,ok,ov,hk it _ hI hit⟩
 ·exact .inr ⟨ok,ov,a,f,oa,hk it _ hI hit,hk a _ NG ha,wD,NG⟩
theorem ak {S I d : Addr} {es : Array DictEntry} {ep : Nat} {od : Obj} {R : Result -> Shared -> Prop} (hh : A.handled = none) (hSI : S < I) (hSd : d ≠ S) (hId : d ≠ I) (hn : es.size <= sizeLine) (res : Value) (cZ : od.data = .dict es ep) {h0 : Heap}
  (hR:∀ h' tk acc c as,(∀ b o,b ≠ S -> b ≠ I -> h0.get? b = some o -> h'.get? b = some o) -> h'.get? S = some { cls := .type "list",dict:=none,data := .seq acc c,slots := #[] } -> as.length = es.size -> bw es I h' as -> acc.toList = as.map Value.ref -> R (.ok (.ret res)) { s with heap:=h',toks:=tk }) :
  ∀ (k i:Nat) (h:Heap) (tk c:Nat) (acc:Array Value) (as:List Addr),es.size - i = k -> i <= es.size -> Tq h I d S i es.size ep -> h.get? d = some od -> (∀ b o,b ≠ S -> b ≠ I -> h0.get? b = some o -> h.get? b = some o) ->
   h.get? S = some { cls := .type "list",dict:=none,data := .seq acc c,slots := #[] } -> acc.toList = as.map Value.ref -> as.length = i -> bw es I h as -> I < h.objs.size ->
   codeAny (model P w) A (.builtin "list.extend.loop" ⟨[.ref S,.ref I,res],[]⟩) R { s with heap:=h,toks:=tk }:=by
 have bN:S ≠ I:=Nat.ne_of_lt hSI
 intro k
 induction k with
 | zero =>
  intro i h tk c acc as hk hi st hD kp hS rR NH hG QX
  refine codeAny_builtin F.entry_extend_loop ?_; rw [Around.under_plainId F.plain_extend_loop _]
  show wpAny _ A.in1 (pyNext (.ref I) >>= _) _ _ _
  refine wpAny_bind (Zi (s:={ s with heap:=h,toks:=tk }) (A:=A.in1) hh st hD cZ (Array.getElem?_eq_none (by omega)) fun h' he=>wpAny_pure (hR h' tk acc c as (fun b o h1 h2 e=>he b o h2 (kp b o h1 h2 e)) (he S _ bN hS) (by omega) ⟨hG.rise,hG.above,fun j a hj=>?_⟩ rR))
  obtain ⟨en,e1,e2⟩ := hG.at_ j a hj
  exact ⟨en,e1,he a _ (Nat.ne_of_gt (hG.above a (List.mem_of_getElem? hj))) e2⟩
 | succ k ih =>
  intro i h tk c acc as hk hi st hD kp hS rR NH hG QX
  have aM:i < es.size:=by omega
  have hx:es[i]? = some es[i]:=getElem?_pos es i aM
  have hsz:acc.size = i:=by rw [<- Array.length_toList,rR,List.length_map,NH]
  refine codeAny_builtin F.entry_extend_loop ?_; rw [Around.under_plainId F.plain_extend_loop _]
  show wpAny _ A.in1 (pyNext (.ref I) >>= _) _ _ _
  refine wpAny_bind (Zs (s:={ s with heap:=h,toks:=tk }) (S:=S) st (Heap.lt_size hS) hD cZ hx fun h' aE ht jH=>?_)
  dsimp only at ht jH ⊢
  have hS':=jH S _ bN hS
  have up:∀ b o,b ≠ S -> h'.get? b = some o -> (h'.update S (Obj.mapSeq (·.push (Value.ref h.objs.size)))).get? b = some o:=fun b o hb e=>(Heap.get?_update_other _ _ (Ne.symm hb)).trans e
  have hSl:S < h.objs.size:=Heap.lt_size hS
  have hI':h'.get? I ≠ none:=by
   rcases aE with ⟨_,_,_,z⟩ | ⟨_,_,_,_,_,z,_⟩ <;> rw [z] <;> exact Option.some_ne_none _
  show wpAny _ A.in1 (updateSeq S (·.push (Value.ref h.objs.size)) >>= _) _ _ _
  refine wpAny_bind (wpAny_updateSeq hS' rfl (wpAny_pure ⟨plainId_quiet F.plain_extend_loop _,ih (i + 1) _ tk _ (acc.push (Value.ref h.objs.size)) (as ++ [h.objs.size]) (by omega) aM (aE.keep up (Ne.symm bN)) (up d _ hSd (jH d _ hId hD))
   (fun b o h1 h2 e=>up b o h1 (jH b o h2 (kp b o h1 h2 e))) (Heap.get?_update_self _ hS' rfl) (by rw [Array.toList_push,rR,List.map_append]; rfl) (by rw [List.length_append,NH]; rfl) ⟨?_,fun a ha=>?_,fun j b hj=>?_⟩ ?_⟩) (by rw [hsz]; omega) (by show (acc.push (Value.ref h.objs.size)).size <= sizeLine + 1; rw [Array.size_push,hsz]; omega))
  ·exact List.pairwise_append.mpr ⟨hG.rise,List.pairwise_singleton _ _,fun a ha b hb=>by rw [List.mem_singleton.mp hb]; exact hG.lt ha⟩
  ·rcases List.mem_append.mp ha with z | z
   ·exact hG.above a z
   ·rw [List.mem_singleton.mp z]
    exact QX
  ·by_cases z:j < as.length
   ·rw [List.getElem?_append_left z] at hj
    obtain ⟨en,e1,e2⟩ := hG.at_ j b hj
    have hb:=hG.above b (List.mem_of_getElem? hj)
    exact ⟨en,e1,up b _ (Nat.ne_of_gt (Nat.lt_trans hSI hb)) (jH b _ (Nat.ne_of_gt hb) e2)⟩
   ·rw [List.getElem?_append_right (by omega)] at hj
    have hj0:j = i:=by
     have:=(List.getElem?_eq_some_iff.mp hj).1
     rw [List.length_singleton] at this
     omega
    subst hj0
    rw [NH,Nat.sub_self] at hj
    cases hj
    exact ⟨_,hx,up _ _ (Nat.ne_of_gt hSl) ht⟩
  ·exact Nat.lt_trans QX (Heap.lt_size (up _ _ (Nat.ne_of_gt hSl) ht))
theorem Tt {r d : Addr} {od : Obj} {es : Array DictEntry} {ep : Nat} {R : List Value -> Shared -> Prop} (hh : A.handled = none) (hv : s.heap.IsItemsView r d) (fY : s.heap.get? d = some od) (cZ : od.data = .dict es ep) (hn : es.size <= sizeLine)
  (h:∀ (h':Heap) (tk:Nat) (as:List Addr),(∀ b o,s.heap.get? b = some o -> h'.get? b = some o) -> as.length = es.size -> bw es s.heap.objs.size h' as -> R (as.map Value.ref) { s with heap:=h',toks:=tk }):wpAny (model P w) A (collect (.ref r)) R E s:=by
 have hr:r < s.heap.objs.size:=let ⟨_,ho,_⟩ := hv; Heap.lt_size ho
 have hd:d < s.heap.objs.size:=Heap.lt_size fY
 unfold collect; refine wpAny_bind (wpAny_runValue (codeAny_builtin entry_proto_collect' ?_)); rw [Around.under_plainId F.plain_proto_collect _]
 show wpAny _ A.in1 (newList [] >>= fun l=>again (.builtin "list.__iadd__" ⟨[l,.ref r],[]⟩)) _ _ s
 refine wpAny_bind (wpAny_newObj_type (wpAny_pure ⟨plainId_quiet F.plain_list_iadd _,codeAny_builtin entry_list_iadd' ?_⟩)); rw [Around.under_plainId F.plain_list_iadd _]
 generalize tV:({ s with heap:=s.heap.push { cls := .type "list",data := .seq ([]:List Value).toArray } }:Shared) = s1
 have z1:s1.heap.objs.size = s.heap.objs.size + 1:=by rw [<- tV]; exact Heap.size_push ..
 have aM:s.heap.objs.size < s1.heap.objs.size:=by rw [z1]; exact Nat.lt_succ_self _
 have NI:∀ b o,s.heap.get? b = some o -> s1.heap.get? b = some o:=fun b o e=>by rw [<- tV]; exact Heap.get?_push_of_some _ e
 have hS:s1.heap.get? s.heap.objs.size = some { cls := .type "list",data := .seq #[] }:=by rw [<- tV]; exact Heap.get?_push_size _ rfl
 have QY:s1.heap.IsItemsView r d:=let ⟨o,ho,x⟩ := hv; ⟨o,NI _ _ ho,x⟩
 have es1:∀ (h':Heap) (tk:Nat),({ s1 with heap:=h',toks:=tk }:Shared) = { s with heap:=h',toks:=tk }:=fun _ _=>by rw [<- tV]
 show wpAny _ A.in1 (Builtin.List.listExtendWith (.ref s.heap.objs.size) (.ref r) (.ref s.heap.objs.size)) _ _ s1
 have fin : ∀ (h' : Heap) (tk : Nat) (acc : Array Value) (c : Nat) (as : List Addr), (∀ b o, s.heap.get? b = some o -> h'.get? b = some o) -> h'.get? s.heap.objs.size = some { cls := .type "list", dict := none, data := .seq acc c, slots := #[] } -> as.length = es.size -> bw es s.heap.objs.size h' as -> acc.toList = as.map Value.ref ->
   wpAny (model P w) A (load s.heap.objs.size >>= fun o=>match o.data with | .seq xs _=>pure xs.toList | _=>unsupported "internal:collect") R E { s with heap:=h',toks:=tk }:=fun h' tk acc c as k1 k2 k3 k4 k5=>by
  refine wpAny_bind (wpAny_load k2 (wpAny_pure ?_))
  show R acc.toList _
  rw [k5]
  exact h h' tk as k1 k3 k4
 have key : ∀ (h : Heap) (c₁ tk : Nat) (R' : Result -> Shared -> Prop), (∀ b o, b ≠ s.heap.objs.size -> (s1.heap.push { cls := .type "dict_itemiterator", data := .fields #[.none, .bool false, .ref d, .int 0 0, .int es.size 0, .int ep 0, .none, .none] }).get? b = some o -> h.get? b = some o) ->
   h.get? s.heap.objs.size = some { cls := .type "list",data := .seq #[] c₁ } ->
   (∀ (h':Heap) (tk:Nat) (acc:Array Value) (c:Nat) (as:List Addr),(∀ b o,s.heap.get? b = some o -> h'.get? b = some o) -> h'.get? s.heap.objs.size = some { cls := .type "list",dict:=none,data := .seq acc c,slots := #[] } -> as.length = es.size -> bw es s.heap.objs.size h' as -> acc.toList = as.map Value.ref -> R' (.ok (.ret (.ref s.heap.objs.size))) { s1 with heap:=h',toks:=tk }) ->
   codeAny (model P w) A (.builtin "list.extend.loop" ⟨[.ref s.heap.objs.size,.ref s1.heap.objs.size,.ref s.heap.objs.size],[]⟩) R' { s1 with heap:=h,toks:=tk }:=fun h c₁ tk R' hk gY lB=>by
  have hI:=hk s1.heap.objs.size _ (by omega) (Heap.get?_push_size _ rfl)
  refine ak (s:=s1) (S:=s.heap.objs.size) (I:=s1.heap.objs.size) (h0:=s1.heap) hh aM (Nat.ne_of_lt hd) (Nat.ne_of_lt (Nat.lt_trans hd aM)) hn (.ref s.heap.objs.size) cZ (fun h' mJ acc c as k1 k2 k3 k4 k5=>lB h' mJ acc c as (fun b o e=>?_) k2 k3 ⟨k4.rise,fun a ha=>?_,k4.at_⟩ k5)
   es.size 0 h tk c₁ #[] [] (Nat.sub_zero _) (Nat.zero_le _) (.inl ⟨rfl,.none,.none,hI⟩) (hk d od (Nat.ne_of_lt hd) (Heap.get?_push_of_some _ (NI d od fY))) (fun b o h1 _ e=>hk b o h1 (Heap.get?_push_of_some _ e)) gY rfl rfl ⟨List.Pairwise.nil,(fun _ ha=>nomatch ha),(fun j a hj=>by simp at hj)⟩ (Heap.lt_size hI)
  ·have hb:=Heap.lt_size e
   exact k1 b o (Nat.ne_of_lt hb) (Nat.ne_of_lt (Nat.lt_trans hb aM)) (NI b o e)
  ·exact Nat.lt_trans aM (k4.above a ha)
 unfold Builtin.List.listExtendWith
 refine wpAny_bind (wpAny_typeOf (T := "dict_items") QY.typeIs ?_)
 have q1:Builtin.List.listSameRef (.ref s.heap.objs.size) (.ref r) = false:=by simp [Builtin.List.listSameRef,Nat.ne_of_gt hr]
 have q2:(Value.type "dict_items" == Value.type "list") = false:=by decide
 have q3:(Value.type "dict_items" == Value.type "tuple") = false:=by decide
 simp only [q1,q2,q3,Bool.or_false,Bool.false_eq_true,if_false]
 refine wpAny_bind (Uy QY (NI d od fY) cZ ?_)
 have QZ:=Heap.get?_push_of_some { cls := .type "dict_itemiterator",data := .fields #[.none,.bool false,.ref d,.int 0 0,.int es.size 0,.int ep 0,.none,.none] } hS
 refine wpAny_bind (wpAny_holding (PySem.W.kdx_hint (let ⟨o,ho,hc,_⟩ := QY; ⟨o,Heap.get?_push_of_some _ ho,hc⟩) ?_))
 refine wpAny_ite_split (fun _=>?_) (fun _=>wpAny_pure ⟨plainId_quiet F.plain_extend_loop _,key _ 0 s1.toks _ (fun b o _ e=>e) QZ fun h' tk acc c as k1 k2 k3 k4 k5=>?_⟩)
 ·refine wpAny_bind (wpAny_rule (wpAny_bind ?_))
  show wpAny _ _ (updateSeq s.heap.objs.size (·.push .none) >>= fun _=>updateSeq s.heap.objs.size (·.pop)) _ _ _
  refine wpAny_bind (wpAny_updateSeq QZ rfl ?_)
  have hS3:=Heap.get?_update_self (Obj.mapSeq (·.push Value.none)) QZ rfl
  refine wpAny_updateSeq (hz:=by seq_fits) hS3 rfl ?_
  have hS4:=Heap.get?_update_self (Obj.mapSeq (·.pop)) hS3 rfl
  refine wpAny_pure ⟨plainId_quiet F.plain_extend_loop _,key _ _ s1.toks _ (fun b o hb e=>(Heap.get?_update_other _ _ (Ne.symm hb)).trans ((Heap.get?_update_other _ _ (Ne.symm hb)).trans e)) hS4 fun h' tk acc c as k1 k2 k3 k4 k5=>?_⟩
  rw [es1]
  exact fin h' tk acc c as k1 k2 k3 k4 k5
 ·rw [es1]
  exact fin h' tk acc c as k1 k2 k3 k4 k5
end
section
variable {prog:Program} {w:World} {E:Value -> Shared -> Prop}
theorem Sn {A : Around} {s : Shared} {r : Value} {Q : Value -> Shared -> Prop} {C : List Value -> Heap -> Nat -> Prop} (RA : ∀ R : List Value -> Shared -> Prop, (∀ vs h1 t1, C vs h1 t1 -> R vs { s with heap := h1, toks := t1 }) -> wpAny (model prog w) A.in1 (collect r) R E s)
  (hC:∀ vs h1 t1,C vs h1 t1 -> vs.length <= sizeLine /\ ∃ (κ:SortKind) (g:Value -> Nat),
   (∀ (h6:Heap) (A':Around),A'.units <= A.units + 4 -> (∀ b o,h1.get? b = some o -> h6.get? b = some o) -> 2 <= vs.length -> (∀ Q E,Q κ { s with heap:=h6,toks:=t1 } -> wpAny (model prog w) A' (keyKind' vs.toArray) Q E { s with heap:=h6,toks:=t1 }) /\ Hq prog w A' { s with heap:=h6,toks:=t1 } κ (fun p=>g p.1) (vs.toArray.zip vs.toArray)) /\
   (∀ (out:Array Value) (h':Heap) (c:Nat),out.toList.Perm vs -> out.toList.Pairwise (fun x y=>g x <= g y) -> (∀ b o,h1.get? b = some o -> h'.get? b = some o) -> h'.get? h1.objs.size = some (seqObj "list" out c) -> Q (.ref h1.objs.size) { s with heap:=h',toks:=t1 })) :
  wpAny (model prog w) A (call (.builtin "sorted") [r]) Q E s:=by
 refine Calls.call_function_entry kind_sorted plain_sorted entry_sorted (args_sorted1 _) ?_
 unfold Builtin.«sorted»
 refine wpAny_bind (m:=checkCount "sorted" 1 1 _) (wpAny_pure (wpAny_bind (RA _ fun vs h1 t1 hc=>wpAny_bind (wpAny_newList ?_ (hC vs h1 t1 hc).1))))
 obtain ⟨hsz,κ,g,wC,h⟩ := hC vs h1 t1 hc
 have DJ:(h1.push (seqObj "list" vs.toArray 0)).get? h1.objs.size = some (seqObj "list" vs.toArray 0):=Heap.get?_push_size _ rfl
 show wpAny _ _ _ _ _ { s with heap:=h1.push (seqObj "list" vs.toArray 0),toks:=t1 }
 refine wpAny_bind (wpAny_holding (wpAny_call_entry slot_list_sort ⟨_,DJ,rfl⟩ entry_list_sort (Z1 (κ:=κ) (g:=g) (s:={ s with heap:=h1.push (seqObj "list" vs.toArray 0),toks:=t1 }) DJ hsz (fun h6 kp h2=>?_) fun out p1 p2=>⟨_,rfl,?_⟩) (args_list_sort _)))
 ·obtain ⟨k1,k2⟩ := wC h6 A.in1.in1 (show A.units + 1 + 1 <= A.units + 4 by omega) (fun b o e=>kp b o (Nat.ne_of_lt (Heap.lt_size e)) (Heap.get?_push_of_some _ e)) h2
  exact ⟨fun Q hq=>k1 Q _ hq,k2⟩
 ·obtain ⟨c,hc⟩ : ∃ c,(sortedHeap (h1.push (seqObj "list" vs.toArray 0)) h1.objs.size vs out).get? h1.objs.size = some (seqObj "list" out c):=sortedHeap_at DJ
  refine wpAny_pure ⟨_,rfl,h out _ c p1 p2 (fun b o e=>?_) hc⟩
  rw [sortedHeap_old (Nat.ne_of_lt (Heap.lt_size e)) (by rw [size_push']; exact Nat.lt_succ_of_lt (Heap.lt_size e))]
  exact Heap.get?_push_of_some _ e
end
section
variable {X:Cx} {k:Nat} {pins:List (Addr × Obj)} {σ:St} {H H':Hp} {s:Shared} {h':Heap}
theorem Ag.mR {t':Nat} (I:Ag X pins σ H s) (kp:∀ b u,s.heap.get? b = some u -> h'.get? b = some u) (old:∀ b,b < s.heap.objs.size -> H' b = H b) (new:∀ b o,s.heap.objs.size <= b -> H' b = some o -> Bh X.prog X.w H' h' b o):Ag X pins σ H' { s with heap:=h',toks:=t' }:=by
 have up:∀ b o,H b = some o -> H' b = some o:=fun b o e=>by rw [old b (I.aH.lt e)]; exact e
 refine I.un ⟨fun b u q _ _ _=>kp b u q,fun b u q _ _ _=>⟨u.slots,kp b u q⟩,fun b u q n _=>by rw [old b (Heap.lt_size q)]; exact n,fun b u q _=>⟨u,kp b u q⟩,fun b xs q=>up b _ q,fun b u xs q=>up b _ q,fun b ps q=>⟨#[],by rw [up b _ q]; simp⟩⟩ fun b u e=>?_
 by_cases hb:b < s.heap.objs.size
 ·rw [old b hb] at e
  exact (I.aH b u e).eP (fun c v _ q=>kp c v q) (fun c q=>up c _ q) fun c xs q=>up c _ q
 ·exact new b u (Nat.le_of_not_lt hb) e
def Ra (v D:Addr):HO := .ext fun h=>h.IsItemsView v D
def aw:V -> List V -> Hp -> VK -> Prop:=fun x vs H Q=>∃ D kvs,x = .ref D /\ vs = [] /\ H D = some (.dT kvs) /\ ∀ v,H v = none -> Q (.ref v) (upd H v (Ra v D))
theorem Vl:em X "dict.items" aw:=by
 intro pins s σ H x vs v us Q I rx rv h
 obtain ⟨D,kvs,rfl,rfl,hD,q⟩ := h
 cases rx
 have fW:=rv.zero
 subst fW
 obtain ⟨hz,EO,ys,pr,o,es,ep,ho,hex,hd,he,ER⟩ := (show Bh X.prog X.w H s.heap D (.dT kvs) from I.aH D _ hD)
 have fB:H s.heap.objs.size = none:=I.aH.fresh (Nat.le_refl _)
 have hv:(s.heap.push { cls := .type "dict_items",data := .fields #[.ref D] }).get? s.heap.objs.size = some { cls := .type "dict_items",data := .fields #[.ref D] }:=Heap.get?_push_size _ rfl
 have new:Bh X.prog X.w (upd H s.heap.objs.size (Ra s.heap.objs.size D)) (s.heap.push { cls := .type "dict_items",data := .fields #[.ref D] }) s.heap.objs.size (Ra s.heap.objs.size D):=⟨⟨_,hv,rfl,rfl⟩,⟨_,hv⟩,fun h1 h2 ⟨o,a1,a2⟩ k=>⟨o,k _ a1,a2⟩⟩
 exact Qz EO ho hex ⟨.ref s.heap.objs.size,_,I.laid (t':=s.toks) (fun b u z=>Heap.get?_push_of_some _ z) (Nat.le_refl _) new,rfl,q _ fB⟩
def jm (k:(List Int × Int)):PyData := .tuple [.tuple (k.1.map PyData.int),.int k.2]
mutual
theorem d9 {H H':Hp} (sm:Ab H H'):∀ (d:PyData) (v:V),Rp H d v -> Rp H' d v
 | .none,v,h=>h
 | .bool _,v,h=>h
 | .int _,v,h=>h
 | .str _,v,h=>h
 | .dict _,v,h=>h
 | .tuple ds,v,h=>by
  unfold Rp at h ⊢
  obtain ⟨a,xs,e,h1,h2⟩ := h
  exact ⟨a,xs,e,sm _ _ h1,jI sm ds xs h2⟩
 | .list ds,v,h=>by
  unfold Rp at h ⊢
  obtain ⟨a,xs,e,h1,h2⟩ := h
  exact ⟨a,xs,e,sm _ _ h1,jI sm ds xs h2⟩
theorem jI {H H':Hp} (sm:Ab H H'):∀ (ds:List PyData) (vs:List V),aD H ds vs -> aD H' ds vs
 | [],vs,h=>by
  unfold aD at h ⊢
  exact h
 | d :: ds,vs,h=>by
  unfold aD at h ⊢
  obtain ⟨x,xs,e,h1,h2⟩ := h
  exact ⟨x,xs,e,d9 sm d x h1,jI sm ds xs h2⟩
end
theorem Mx {H:Hp}:∀ xs:List Int,aD H (xs.map PyData.int) (xs.map V.int)
 | []=>by unfold aD; rfl
 | x :: xs=>by
  show aD H (PyData.int x :: xs.map PyData.int) (V.int x :: xs.map V.int)
  unfold aD
  exact ⟨_,_,rfl,by unfold Rp; rfl,Mx xs⟩
theorem f8 {H:Hp} {b:Addr} {k:(List Int × Int)} (h:Dx H b k):Rp H (jm k) (.ref b):=by
 obtain ⟨u,h1,h2⟩ := h
 unfold jm Rp
 refine ⟨b,_,rfl,h1,?_⟩
 unfold aD
 refine ⟨_,_,rfl,?_,?_⟩
 ·unfold Rp
  exact ⟨u,_,rfl,h2,Mx _⟩
 ·unfold aD
  refine ⟨_,_,rfl,by unfold Rp; rfl,?_⟩
  unfold aD
  rfl
def ms (H:Hp) (kv:(List Int × Int) × V) (u:V):Prop := ∃ a b,u = .ref a /\ H a = some (.tup [.ref b,kv.2]) /\ Dx H b kv.1
def Gj (dv:(List Int × Int) × V -> PyData) (kv:(List Int × Int) × V):PyData := .tuple [jm kv.1,dv kv]
def io:List V -> Hp -> VK -> Prop:=fun xs H Q=>∃ (v D:Addr) (kvs:List ((List Int × Int) × V)) (dv:(List Int × Int) × V -> PyData) (g:(List Int × Int) × V -> Nat),xs = [.ref v] /\ H v = some (Ra v D) /\ H D = some (.dT kvs) /\ (∀ kv ∈ kvs,Rp H (dv kv) kv.2 /\ (dv kv).depth <= 40) /\
 (∀ a ∈ kvs,∀ b ∈ kvs,ai (Gj dv a) (Gj dv b) /\ Jf (Gj dv a) (Gj dv b) = decide (g a < g b)) /\
 ∀ (p:Addr) (us:List V) (ps:List ((List Int × Int) × V)) (H':Hp),Ab H H' -> H p = none -> H' p = some (.lst us) -> ps.Perm kvs -> ps.Pairwise (fun x y=>g x <= g y) -> Paired (ms H') ps us -> Q (.ref p) H'
theorem Y2 {as:List Addr} (h:as.Nodup) {j:Nat} {a:Addr} (e:as[j]? = some a):as.idxOf a = j:=by
 obtain ⟨h1,e1⟩ := List.getElem?_eq_some_iff.mp e
 rw [<- e1]
 exact List.Nodup.idxOf_getElem h j h1
theorem Rt (hr:Cm k X.A) (hc:X.calm = true):Di X (.builtin "sorted") io:=by
 intro pins s σ H xs us Q I r h
 obtain ⟨v,D,kvs,dv,g,rfl,hv,hD,hdv,RB,q⟩ := h
 obtain ⟨u,rfl,ru⟩ := r.one
 cases ru
 obtain ⟨ES,_⟩ := I.aH v _ hv
 obtain ⟨hz,EO,ys,pr,o,es,ep,ho,hex,hd,wF,ER⟩ := (show Bh X.prog X.w H s.heap D (.dT kvs) from I.aH D _ hD)
 have rS:kvs.length = ys.length:=pr.length
 have qP:es.size = ys.length:=size_of_entries wF
 have hu:=hr.un
 refine Sn (C:=fun vs h1 t1=>∃ as:List Addr,vs = as.map Value.ref /\ (∀ b o,s.heap.get? b = some o -> h1.get? b = some o) /\ as.length = es.size /\ bw es s.heap.objs.size h1 as) (fun R hR=>Tt (I.ok.hd hc) ES ho hd (by omega) fun h1 t1 as k1 k2 k3=>hR _ h1 t1 ⟨as,rfl,k1,k2,k3⟩) ?_
 rintro vs h1 t1 ⟨as,rfl,k1,k2,k3⟩
 have ET:as.Nodup:=k3.rise.imp fun h=>Nat.ne_of_lt h
 have DC:∀ a ∈ as,s.heap.objs.size <= a:=fun a ha=>Nat.le_of_lt (k3.above a ha)
 have kJ:∀ a ∈ as,∃ (j:Nat) (kv:(List Int × Int) × V) (y:(List Int × Int) × Addr × Value),as.idxOf a = j /\ kvs[j]? = some kv /\ ys[j]? = some y /\ kv.1 = y.1 /\ Dx H y.2.1 kv.1 /\ Ap kv.2 y.2.2 /\ h1.get? a = some { cls := .type "tuple",data := .seq #[.ref y.2.1,y.2.2] }:=fun a ha=>by
  obtain ⟨j,hj⟩ := List.mem_iff_getElem?.mp ha
  obtain ⟨en,e1,e2⟩ := k3.at_ j a hj
  have QK:=(List.getElem?_eq_some_iff.mp hj).1
  obtain ⟨kv,y,f1,f2,f3,f4,f5⟩ := F0 pr (i:=j) (by omega)
  have e3:=entry_at wF j
  rw [f2,e1] at e3
  have e4:en = entryOfKey (Bv X.prog X.w) y:=Option.some.inj e3
  rw [e4] at e2
  exact ⟨j,kv,y,Y2 ET hj,f1,f2,f3,f4,f5,e2⟩
 let iG:V -> (List Int × Int) × V:=fun u=>match u with
  | .ref a=>kvs.getD (as.idxOf a) (([],0),.aL)
  | _=>(([],0),.aL)
 let CO:Addr -> Addr:=fun a=>match ys[as.idxOf a]? with
  | some y=>y.2.1
  | none=>0
 have aJ:∀ a ∈ as,∃ y:(List Int × Int) × Addr × Value,iG (.ref a) ∈ kvs /\ CO a = y.2.1 /\ Dx H y.2.1 (iG (.ref a)).1 /\ Ap (iG (.ref a)).2 y.2.2 /\ h1.get? a = some { cls := .type "tuple",data := .seq #[.ref y.2.1,y.2.2] }:=fun a ha=>by
  obtain ⟨j,kv,y,f0,f1,f2,f3,f4,f5,f6⟩ := kJ a ha
  have e1:iG (.ref a) = kv:=by
   show kvs.getD (as.idxOf a) _ = kv
   rw [f0,List.getD_eq_getElem?_getD,f1]
   rfl
  have e2:CO a = y.2.1:=by
   show (match ys[as.idxOf a]? with | some y=>y.2.1 | none=>0) = _
   rw [f0,f2]
  rw [e1]
  exact ⟨y,List.mem_of_getElem? f1,e2,f4,f5,f6⟩
 let H1:Hp:=fun b=>if b ∈ as then some (.tup [.ref (CO b),(iG (.ref b)).2]) else H b
 have H1n:∀ b,b ∉ as -> H1 b = H b:=fun b hb=>by show (if b ∈ as then _ else H b) = _; rw [if_neg hb]
 have RC:∀ a,a ∈ as -> H1 a = some (.tup [.ref (CO a),(iG (.ref a)).2]):=fun a ha=>by show (if a ∈ as then _ else H a) = _; rw [if_pos ha]
 have old:∀ b,b < s.heap.objs.size -> H1 b = H b:=fun b hb=>H1n b fun z=>Nat.lt_irrefl _ (Nat.lt_of_lt_of_le hb (DC b z))
 have sm:Ab H H1:=fun b o e=>by rw [old b (I.aH.lt e)]; exact e
 have I1:Ag X pins σ H1 { s with heap:=h1,toks:=t1 }:=I.mR k1 old fun b o hb e=>by
  by_cases z:b ∈ as
  ·rw [RC b z] at e
   cases e
   obtain ⟨y,y1,y2,y3,y4,y5⟩ := aJ b z
   rw [y2]
   exact ⟨⟨Nat.le_trans (by decide:2 <= 1000) (Pf (Nat.le_refl _)),_,y5,rfl⟩,[.ref y.2.1,y.2.2],.cons rfl (.cons y4 .nil),⟨_,y5,rfl,0,rfl⟩⟩
  ·rw [H1n b z,I.aH.fresh hb] at e
   cases e
 have fW:(as.map V.ref).map iG = kvs:=by
  apply List.ext_getElem?
  intro j
  rw [List.map_map,List.getElem?_map]
  cases hj:as[j]? with
  | none =>
   have:=List.getElem?_eq_none_iff.mp hj
   rw [List.getElem?_eq_none (by omega)]
   rfl
  | some a =>
   have QK:=(List.getElem?_eq_some_iff.mp hj).1
   show some (kvs.getD (as.idxOf a) _) = _
   rw [Y2 ET hj,List.getD_eq_getElem?_getD,List.getElem?_eq_getElem (by omega)]
   rfl
 have sD:Nr H1 false (fun u=>Gj dv (iG u)) (fun u=>g (iG u)) (as.map V.ref):=by
  refine ⟨fun u hu=>?_,fun u hu u' ON=>?_⟩
  ·obtain ⟨a,ha,rfl⟩ := List.mem_map.mp hu
   obtain ⟨y,y1,y2,y3,y4,y5⟩ := aJ a ha
   obtain ⟨d1,d2⟩ := hdv _ y1
   refine ⟨?_,⟨jm (iG (.ref a)).1,[dv (iG (.ref a))],rfl,by rw [if_neg (by decide)]; exact ⟨_,rfl⟩⟩,?_⟩
   ·unfold Gj Rp
    refine ⟨a,_,rfl,RC a ha,?_⟩
    unfold aD
    refine ⟨_,_,rfl,f8 (by rw [y2]; exact y3.up fun b xs e=>sm b _ e),?_⟩
    unfold aD
    refine ⟨_,_,rfl,d9 sm _ _ d1,?_⟩
    unfold aD
    rfl
   ·show (PyData.tuple [jm (iG (.ref a)).1,dv (iG (.ref a))]).depth <= 50
    simp only [PyData.depth,PyData.depthAll,jm]
    have hints:∀ l:List Int,PyData.depthAll (l.map PyData.int) = 0:=by
     intro l
     induction l with
     | nil=>rfl
     | cons x l ih=>simp only [List.map_cons,PyData.depthAll,PyData.depth,ih]; rfl
    rw [hints]
    omega
  ·obtain ⟨a,ha,rfl⟩ := List.mem_map.mp hu
   obtain ⟨a',CN,rfl⟩ := List.mem_map.mp ON
   obtain ⟨_,y1,_⟩ := aJ a ha
   obtain ⟨_,z1,_⟩ := aJ a' CN
   exact RB _ y1 _ z1
 refine ⟨by rw [List.length_map]; omega,PyProof.Rows.tuples' false,fun v=>g (iG (.ref (Og v))),fun h6 A' hA' k6 h2=>?_,fun out h' c p1 p2 k' e'=>?_⟩
 ·have I6:Ag X pins σ H1 { s with heap:=h6,toks:=t1 }:=I1.kept (t':=t1) k6
  rw [List.length_map] at h2
  exact sD.asks (E:=fun _ _=>True) I6 rfl rfl (by omega) h2
 ·obtain ⟨iQ,v1,v2,v3⟩ := Vo (g:=fun u=>g (iG u)) p1 p2
  have fB:H1 h1.objs.size = none:=I1.aH.fresh (Nat.le_refl _)
  refine ⟨.ref _,upd H1 _ (.lst iQ),I1.laid (t':=t1) k' (Nat.le_refl _) ⟨by rw [v2.length_eq,List.length_map]; omega,out.toList,c,v1,e'⟩,rfl,q _ iQ (iQ.map iG) _ (fun b o e=>?_) ?_ A5 ?_ ?_ ?_⟩
  ·rw [Aa (Ad (sm b o e) fB)]
   exact sm b o e
  ·cases e:H h1.objs.size with
   | none=>rfl
   | some o=>rw [sm _ _ e] at fB; cases fB
  ·have:=v2.map iG
   rw [fW] at this
   exact this
  ·rw [List.pairwise_map]
   exact v3
  ·have key : ∀ l : List V, (∀ u ∈ l, ∃ a ∈ as, u = .ref a) -> Paired (ms (upd H1 h1.objs.size (.lst iQ))) (l.map iG) l := by
    intro l
    induction l with
    | nil=>exact fun _=>.nil
    | cons u l ih =>
     intro hl
     refine .cons ?_ (ih fun u hu=>hl u (List.mem_cons_of_mem _ hu))
     obtain ⟨a,ha,rfl⟩ := hl u List.mem_cons_self
     obtain ⟨y,y1,y2,y3,y4,y5⟩ := aJ a ha
     have up:∀ b xs,H1 b = some (.tup xs) -> upd H1 h1.objs.size (.lst iQ) b = some (.tup xs):=fun b xs e=>by rw [Aa (Ad e fB)]; exact e
     exact ⟨a,CO a,rfl,up _ _ (RC a ha),(y2 ▸ y3.up fun b xs e=>sm b _ e:Dx H1 (CO a) _).up up⟩
   refine key iQ fun u hu=>?_
   obtain ⟨a,ha,e⟩ := List.mem_map.mp (v2.mem_iff.mp hu)
   exact ⟨a,ha,e.symm⟩
end
section
variable {X:Cx}
def bn:V -> List V -> Hp -> VK -> Prop:=fun x vs H Q=>∃ l xs i y,x = .ref l /\ vs = [.int i,y] /\ H l = some (.lst xs) /\ 0 <= i /\ i <= (xs.length:Int) /\ xs.length < sizeLine /\ Q .aL (upd H l (.lst (xs.take i.toNat ++ y :: xs.drop i.toNat)))
theorem Wa:em X "list.insert" bn:=by
 intro pins s σ H x vs v us Q I rx rv h
 obtain ⟨l,xs,i,y,rfl,rfl,hH,h0,h1,hz,q⟩ := h
 cases rx
 obtain ⟨u,w,rfl,ru,fA⟩ := rv.two
 obtain ⟨t,rfl⟩ := ru
 obtain ⟨z,aC,n,r,hl,e⟩ := I.mC hH
 have hi:i.toNat <= aC.length:=by omega
 have h63:=Ha
 refine call_meets F.slot_list_insert ⟨_,e,rfl⟩ F.entry_list_insert (F.args_list_insert_3 _ _ _) (PySem.AutoSeq1.list_insert_list_int_val_1 l aC.toArray n i t w (by rw [fitsIndex_both (by omega) (by omega)]; simp) (by rw [List.size_toArray]; omega)) ⟨e,?_⟩
 refine ⟨.aL,_,I.rF (its':=aC.take i.toNat ++ w :: aC.drop i.toNat) hH e ?_ ((r.take _).append (.cons fA (r.drop _))) ?_,rfl,q⟩
 ·show (aC.toArray.extract 0 (if i < 0 then (i + (aC.toArray.size:Int)).toNat else min i.toNat aC.toArray.size)).push w ++ aC.toArray.extract (if i < 0 then (i + (aC.toArray.size:Int)).toNat else min i.toNat aC.toArray.size) = _
  rw [List.size_toArray,if_neg (by omega),Nat.min_eq_left hi]
  exact Array.toList_inj.mp (by simp; exact List.take_of_length_le (by rw [List.length_drop]; omega))
 ·rw [List.length_append,List.length_cons,List.length_take,List.length_drop]
  omega
end
end L2
namespace Law
local macro_rules | `(tactic| ac_rfl) => `(tactic| first | exact ⟨rfl,rfl,rfl,by decide +kernel,rfl,by decide +kernel,by decide +kernel⟩ | exact ⟨rfl,by decide +kernel,by decide +kernel,by decide +kernel,by decide +kernel⟩)
local macro_rules | `(tactic| omega) => `(tactic| lia)
open PySem L2 PyProof.Rows
open PySem.Builtin.Int (intBits)
def top (i:Nat):Stmt:=PySem.Challenge.pw_roundcall_k77_whole_kept_for_ever.main.body.getD i (.Pass ⟨0,0,0,0⟩)
abbrev O0:Stmt:=top 7
abbrev O1:Stmt:=top 8
abbrev N6:Stmt:=top 9
abbrev Wo:Stmt:=top 10
abbrev Kr:Stmt:=top 11
abbrev W2:Stmt:=top 12
abbrev Fg:Stmt:=top 13
abbrev Nt:Stmt:=top 14
abbrev El:Stmt:=top 15
abbrev Wz:Stmt:=top 16
abbrev Nm:Stmt:=top 17
abbrev Kn:Stmt:=top 18
abbrev Kc:Stmt:=top 19
abbrev Wb:Stmt:=top 21
abbrev Nn:Stmt:=top 22
abbrev Vu:Stmt:=top 23
abbrev Kh:Stmt:=top 24
abbrev Nv:Stmt:=top 25
abbrev Kb:Stmt:=top 26
abbrev Ka:Stmt:=top 27
abbrev Nb:Stmt:=top 29
abbrev Nz:Stmt:=top 33
abbrev Wy:Stmt:=Jw (top 35) 1
abbrev Vj:Stmt:=Jw (top 37) 1
abbrev Nl:Stmt:=top 31
abbrev Vc:Stmt:=Jw (top 35) 0
abbrev Wc:Stmt:=Jw (top 37) 0
abbrev Nu:Stmt:=top 39
abbrev Jg:Stmt:=top 40
abbrev Na:Stmt:=top 41
abbrev S0:Stmt:=top 42
abbrev Hj:Stmt:=top 43
theorem jc:Ao (["hall"]:List Str) ["hall"] (A7 O0):=by ac_rfl
theorem ft:Ao (["hall","standing"]:List Str) ["hall","standing"] (A7 O1):=by ac_rfl
theorem ix:Ao (["hall","who"]:List Str) ["hall","who"] (A7 N6):=by ac_rfl
theorem l5:Ao (["hall","standing","who","lost"]:List Str) ["hall","standing","who","lost"] (A7 Wo):=by ac_rfl
theorem Ye:Ao (["hall","standing","who","lost","left"]:List Str) ["hall","standing","who","lost"] (A7 Kr):=by ac_rfl
def Ie:Scope:={ kind := .function,names:=[(PySem.Str.ofString ".0",NameKind.local),(PySem.Str.ofString "turns",NameKind.local)],isGenerator:=false,isCoroutine:=false,more:=[] }
theorem J1:Df (A7 Kr) Ie (["hall","standing","who","lost","left"]:List Str) (["turns"]:List Str) []:=by ac_rfl
theorem Ig:(Bq (["hall","standing","who","lost","left"]:List Str) (["turns"]:List Str) []).Nodup:=by decide +kernel
theorem js:Ao (["hall","standing","lost"]:List Str) ["hall","standing","lost"] (A7 W2):=by ac_rfl
theorem Z7:Ao (["hall","standing","who","lost","left"]:List Str) ["hall","standing","who","lost"] (A7 Fg):=by ac_rfl
theorem Xo:Ao (["hall","standing","who","behind"]:List Str) ["hall","standing","who"] (A7 Nt):=by ac_rfl
theorem X2:Ao (["hall","standing","who","lost","left"]:List Str) ["hall","standing","who","lost"] (A7 El):=by ac_rfl
def Ij:Scope:={ kind := .function,names:=[(PySem.Str.ofString ".0",NameKind.local),(PySem.Str.ofString "number",NameKind.local),(PySem.Str.ofString "turns",NameKind.local)],isGenerator:=false,isCoroutine:=false,more:=[] }
theorem Iz:Df (A7 El) Ij (["hall","standing","who","lost","left"]:List Str) (["number","turns"]:List Str) []:=by ac_rfl
theorem Ep:(Bq (["hall","standing","who","lost","left"]:List Str) (["number","turns"]:List Str) []).Nodup:=by decide +kernel
theorem lg:Ao (["hall"]:List Str) ["hall"] (A7 Wz):=by ac_rfl
theorem P4:Ao (["hall","product","wait"]:List Str) ["hall"] (A7 Nm):=by ac_rfl
theorem Io:Ao (["waits","rows","wait","longer","row"]:List Str) ["waits"] (A7 Kn):=by ac_rfl
def M8:Scope:={ kind := .function,names:=[(PySem.Str.ofString ".0",NameKind.local),(PySem.Str.ofString "turns",NameKind.local),(PySem.Str.ofString "row",NameKind.free)],isGenerator:=false,isCoroutine:=false,more:=[] }
theorem Mb:Df (A7 Kn) M8 (["waits","rows","wait","longer","row"]:List Str) (["turns"]:List Str) [4]:=by ac_rfl
theorem Md:(Bq (["waits","rows","wait","longer","row"]:List Str) (["turns"]:List Str) [4]).Nodup:=by decide +kernel
theorem Sc:Ao (["hall","told","left"]:List Str) ["hall"] (A7 Kc):=by ac_rfl
def Kk:Scope:={ kind := .function,names:=[(PySem.Str.ofString ".0",NameKind.local),(PySem.Str.ofString "quiet",NameKind.local),(PySem.Str.ofString "left",NameKind.free)],isGenerator:=false,isCoroutine:=false,more:=[] }
theorem Ke:Df (A7 Kc) Kk (["hall","told","left"]:List Str) (["quiet"]:List Str) [2]:=by ac_rfl
theorem Lq:(Bq (["hall","told","left"]:List Str) (["quiet"]:List Str) [2]).Nodup:=by decide +kernel
theorem Nj:Ao (["hall","pending","standing","calls","who","behind"]:List Str) ["hall"] (A7 Wb):=by ac_rfl
theorem Gr:Ao (["pending","ways","standing","calls","who","behind","later"]:List Str) ["pending"] (A7 Nn):=by ac_rfl
theorem Ml:Ao (["pending","ways","ranked","bare","later","standing","who","calls"]:List Str) ["pending","ways","ranked"] (A7 Vu):=by ac_rfl
theorem F4:Ao (["hall","pending","ways","table","rank","ranked","standing"]:List Str) ["hall"] (A7 Kh):=by ac_rfl
def Sm:Scope:={ kind := .function,names:=[(PySem.Str.ofString ".0",NameKind.local),(PySem.Str.ofString "standing",NameKind.local),(PySem.Str.ofString "calls",NameKind.local)],isGenerator:=false,isCoroutine:=false,more:=[] }
theorem Si:Df (A7 Kh) Sm (["hall","pending","ways","table","rank","ranked","standing"]:List Str) (["standing","calls"]:List Str) []:=by ac_rfl
theorem Km:(Bq (["hall","pending","ways","table","rank","ranked","standing"]:List Str) (["standing","calls"]:List Str) []).Nodup:=by decide +kernel
theorem dq:Ao (["table","behind"]:List Str) ["table","behind"] (A7 Nv):=by ac_rfl
theorem gf:Ao (["hall","table","standing","who"]:List Str) ["hall","table","standing","who"] (A7 Kb):=by ac_rfl
def Jr:Scope:={ kind := .function,names:=[(PySem.Str.ofString ".0",NameKind.local),(PySem.Str.ofString "behind",NameKind.local),(PySem.Str.ofString "worth",NameKind.globalImplicit),(PySem.Str.ofString "table",NameKind.free)],isGenerator:=false,isCoroutine:=false,more:=[] }
theorem Jq:Df (A7 Kb) Jr (["hall","table","standing","who"]:List Str) (["behind"]:List Str) [1]:=by ac_rfl
theorem Jp:(Bq (["hall","table","standing","who"]:List Str) (["behind"]:List Str) [1]).Nodup:=by decide +kernel
theorem Xa:Ao (["hall","table","standing","worths"]:List Str) ["hall","table","standing"] (A7 Ka):=by ac_rfl
def K8:Scope:={ kind := .function,names:=[(PySem.Str.ofString ".0",NameKind.local),(PySem.Str.ofString "who",NameKind.local),(PySem.Str.ofString "call_worth",NameKind.globalImplicit),(PySem.Str.ofString "hall",NameKind.free),(PySem.Str.ofString "standing",NameKind.free),(PySem.Str.ofString "table",NameKind.free)],isGenerator:=false,isCoroutine:=false,more:=[] }
theorem Kq:Df (A7 Ka) K8 (["hall","table","standing","worths"]:List Str) (["who"]:List Str) [0,1,2]:=by ac_rfl
theorem L4:(Bq (["hall","table","standing","worths"]:List Str) (["who"]:List Str) [0,1,2]).Nodup:=by decide +kernel
theorem Kv:Ao (["hall","table","calls","coming","standing"]:List Str) ["hall"] (A7 Nb):=by ac_rfl
theorem fu:Ao (["standing"]:List Str) ["standing"] (A7 Nz):=by ac_rfl
theorem kd:Ao (["self","hall","standing"]:List Str) ["self","hall","standing"] (A7 Wy):=by ac_rfl
theorem bz:Ao (["self","hall","standing","who","place"]:List Str) ["self","hall","standing","who"] (A7 Vj):=by ac_rfl
theorem Gw:Ao (["hall","caller","road","turns","rows","standing","who","lost","broken"]:List Str) ["hall","caller","road","turns"] (A7 Nl):=by ac_rfl
theorem nl:Ao (["self","paper"]:List Str) ["self","paper"] (A7 Vc):=by ac_rfl
theorem jq:Ao (["self","row"]:List Str) ["self","row"] (A7 Wc):=by ac_rfl
theorem f9:Ao (["script","k"]:List Str) ["script","k"] (A7 Nu):=by ac_rfl
theorem De:Ao (["script","kind","cell","cells","room","waits","wait"]:List Str) ["script"] (A7 Jg):=by ac_rfl
def Ma:Scope:={ kind := .function,names:=[(PySem.Str.ofString ".0",NameKind.local),(PySem.Str.ofString "one",NameKind.local)],isGenerator:=false,isCoroutine:=false,more:=[] }
theorem M7:Df (A7 Jg) Ma (["script","kind","cell","cells","room","waits","wait"]:List Str) (["one"]:List Str) []:=by ac_rfl
theorem Lz:(Bq (["script","kind","cell","cells","room","waits","wait"]:List Str) (["one"]:List Str) []).Nodup:=by decide +kernel
def Mf:Scope:={ kind := .function,names:=[(PySem.Str.ofString ".0",NameKind.local),(PySem.Str.ofString "one",NameKind.local)],isGenerator:=false,isCoroutine:=false,more:=[] }
theorem Me:Df (A7 Jg) Mf (["script","kind","cell","cells","room","waits","wait"]:List Str) (["one"]:List Str) []:=by ac_rfl
theorem Mg:(Bq (["script","kind","cell","cells","room","waits","wait"]:List Str) (["one"]:List Str) []).Nodup:=by decide +kernel
theorem Sb:Ao (["script","truths","cell"]:List Str) ["script"] (A7 Na):=by ac_rfl
theorem Fu:Ao (["hall","calls","truths","rows","limits","calm_to","reached","row","turn","lefts","standing","lost","k"]:List Str) ["hall","calls","truths","rows"] (A7 S0):=by ac_rfl
def Hy:Scope:={ kind := .function,names:=[(PySem.Str.ofString ".0",NameKind.local),(PySem.Str.ofString "limit",NameKind.local),(PySem.Str.ofString "turn",NameKind.free)],isGenerator:=false,isCoroutine:=false,more:=[] }
theorem I8:Df (A7 S0) Hy (["hall","calls","truths","rows","limits","calm_to","reached","row","turn","lefts","standing","lost","k"]:List Str) (["limit"]:List Str) [8]:=by ac_rfl
theorem Hi:(Bq (["hall","calls","truths","rows","limits","calm_to","reached","row","turn","lefts","standing","lost","k"]:List Str) (["limit"]:List Str) [8]).Nodup:=by decide +kernel
theorem Dp:Ao (["script","hall","paper","calls","truths","caller","road","told","kept","turns","found"]:List Str) ["script"] (A7 Hj):=by ac_rfl
set_option genInjectivity false in
set_option genSizeOf false in
structure rk where
 bU:Addr
 bO:Addr
 cC:Addr
 fZ:Addr
 bV:Addr
 gA:Addr
 bP:Addr
 bQ:Addr
 bW:Addr
 fJ:Addr
 cD:Addr
 cE:Addr
 cF:Addr
 gB:Addr
 cH:Addr
 gC:Addr
 cJ:Addr
 cK:Addr
 cL:Addr
 cM:Addr
 cN:Addr
 cO:Addr
 gD:Addr
 gE:Addr
 cP:Addr
 gF:Addr
 gG:Addr
 bX:Addr
 cQ:Addr
 cR:Addr
 gH:Addr
 eG:Addr
structure Txt (K:PySem.W.Frag) (mg:Str -> Option Value) (ad:rk) (aA aB:Addr):Prop where
 mS:mg "beginning" = some (.ref ad.bU)
 k_x19:PySem.W.keepIn K (.ref ad.bU) = true
 mT:mg "may_lose" = some (.ref ad.bO)
 k_x22:PySem.W.keepIn K (.ref ad.bO) = true
 EU:mg "is_listener" = some (.ref ad.cC)
 k_x10:PySem.W.keepIn K (.ref ad.cC) = true
 RE:mg "refuse_wrong_turn" = some (.ref ad.fZ)
 k_x2:PySem.W.keepIn K (.ref ad.fZ) = true
 tW:mg "left_behind" = some (.ref ad.bV)
 k_x11:PySem.W.keepIn K (.ref ad.bV) = true
 RF:mg "quiet_behind" = some (.ref ad.gA)
 k_x7:PySem.W.keepIn K (.ref ad.gA) = true
 mU:mg "after" = some (.ref ad.bP)
 k_x27:PySem.W.keepIn K (.ref ad.bP) = true
 mV:mg "all_behind" = some (.ref ad.bQ)
 k_x14:PySem.W.keepIn K (.ref ad.bQ) = true
 EV:mg "broken_ones" = some (.ref ad.bW)
 k_x12:PySem.W.keepIn K (.ref ad.bW) = true
 EW:mg "quiet_values" = some (.ref ad.fJ)
 k_x8:PySem.W.keepIn K (.ref ad.fJ) = true
 EX:mg "how_many" = some (.ref ad.cD)
 k_x23:PySem.W.keepIn K (.ref ad.cD) = true
 EY:mg "all_left" = some (.ref ad.cE)
 k_x24:PySem.W.keepIn K (.ref ad.cE) = true
 EZ:mg "standings" = some (.ref ad.cF)
 k_x20:PySem.W.keepIn K (.ref ad.cF) = true
 RG:mg "calls_by_standing" = some (.ref ad.gB)
 k_x3:PySem.W.keepIn K (.ref ad.gB) = true
 FA:mg "ways_to" = some (.ref ad.cH)
 k_x26:PySem.W.keepIn K (.ref ad.cH) = true
 RH:mg "without_calls_left" = some (.ref ad.gC)
 k_x1:PySem.W.keepIn K (.ref ad.gC) = true
 FC:mg "ranks" = some (.ref ad.cJ)
 k_x28:PySem.W.keepIn K (.ref ad.cJ) = true
 FD:mg "worth" = some (.ref ad.cK)
 k_x29:PySem.W.keepIn K (.ref ad.cK) = true
 FE:mg "call_worth" = some (.ref ad.cL)
 k_x15:PySem.W.keepIn K (.ref ad.cL) = true
 FF:mg "best_call" = some (.ref ad.cM)
 k_x21:PySem.W.keepIn K (.ref ad.cM) = true
 FG:mg "kept_paper" = some (.ref ad.cN)
 k_x16:PySem.W.keepIn K (.ref ad.cN) = true
 FH:mg "least_left" = some (.ref ad.cO)
 k_x17:PySem.W.keepIn K (.ref ad.cO) = true
 FI:mg "play" = some (.ref ad.cP)
 k_x30:PySem.W.keepIn K (.ref ad.cP) = true
 mW:mg "_law_cell_at" = some (.ref ad.bX)
 k_x13:PySem.W.keepIn K (.ref ad.bX) = true
 FJ:mg "_law_hall" = some (.ref ad.cQ)
 k_x25:PySem.W.keepIn K (.ref ad.cQ) = true
 FK:mg "_law_truths" = some (.ref ad.cR)
 k_x18:PySem.W.keepIn K (.ref ad.cR) = true
 RI:mg "_law_rows_due" = some (.ref ad.gH)
 k_x9:PySem.W.keepIn K (.ref ad.gH) = true
 m_law:mg "law" = some (.ref ad.eG)
 k_law:PySem.W.keepIn K (.ref ad.eG) = true
 bZ:mg "len" = none
 mX:mg "max" = none
 dB:mg "tuple" = none
 iT:mg "enumerate" = none
 dC:mg "range" = none
 tX:mg "min" = none
 mY:mg "sorted" = none
 mZ:mg "dict" = none
 gZ:mg "list" = none
 bM:mg "isinstance" = none
 wG:mg "bool" = none
 dZ:∃ t,mg "MOST_STANDINGS" = some (.int 3000 t)
 gI:mg "PaperCaller" = some (.ref aA)
 lC:mg "RowRoad" = some (.ref aB)
 aV:Ss K aA
 fK:Mk K aA ad.gF
 RJ:a8 K aA "call" ad.gD
 aN:Ex K aA "paper"
 aR:Ss K aB
 jJ:Mk K aB ad.gG
 RK:a8 K aB "loses" ad.gE
 bC:Ex K aB "row"
 aX:Ex K aB "asked"
inductive Ze (p0 p1 p2:Prop):Prop where
 | mk (h0:p0) (h1:p1) (h2:p2):Ze p0 p1 p2
inductive Jm (p0 p1 p2 p3:Prop):Prop where
 | mk (h0:p0) (h1:p1) (h2:p2) (h3:p3):Jm p0 p1 p2 p3
inductive Ip (p0 p1 p2 p3 p4:Prop):Prop where
 | mk (h0:p0) (h1:p1) (h2:p2) (h3:p3) (h4:p4):Ip p0 p1 p2 p3 p4
inductive Lu (p0 p1 p2 p3 p4 p5:Prop):Prop where
 | mk (h0:p0) (h1:p1) (h2:p2) (h3:p3) (h4:p4) (h5:p5):Lu p0 p1 p2 p3 p4 p5
inductive ae (p0 p1 p2 p3 p4 p5 p6:Prop):Prop where
 | mk (h0:p0) (h1:p1) (h2:p2) (h3:p3) (h4:p4) (h5:p5) (h6:p6):ae p0 p1 p2 p3 p4 p5 p6
inductive Z4 (p0 p1 p2 p3 p4 p5 p6 p7:Prop):Prop where
 | mk (h0:p0) (h1:p1) (h2:p2) (h3:p3) (h4:p4) (h5:p5) (h6:p6) (h7:p7):Z4 p0 p1 p2 p3 p4 p5 p6 p7
inductive Vy (p0 p1 p2 p3 p4 p5 p6 p7 p8:Prop):Prop where
 | mk (h0:p0) (h1:p1) (h2:p2) (h3:p3) (h4:p4) (h5:p5) (h6:p6) (h7:p7) (h8:p8):Vy p0 p1 p2 p3 p4 p5 p6 p7 p8
inductive Mw (p0 p1 p2 p3 p4 p5 p6 p7 p8 p9:Prop):Prop where
 | mk (h0:p0) (h1:p1) (h2:p2) (h3:p3) (h4:p4) (h5:p5) (h6:p6) (h7:p7) (h8:p8) (h9:p9):Mw p0 p1 p2 p3 p4 p5 p6 p7 p8 p9
inductive Rj (p0 p1 p2 p3 p4 p5 p6 p7 p8 p9 kK:Prop):Prop where
 | mk (h0:p0) (h1:p1) (h2:p2) (h3:p3) (h4:p4) (h5:p5) (h6:p6) (h7:p7) (h8:p8) (h9:p9) (NJ:kK):Rj p0 p1 p2 p3 p4 p5 p6 p7 p8 p9 kK
inductive cj (p0 p1 p2 p3 p4 p5 p6 p7 p8 p9 kK nA nB:Prop):Prop where
 | mk (h0:p0) (h1:p1) (h2:p2) (h3:p3) (h4:p4) (h5:p5) (h6:p6) (h7:p7) (h8:p8) (h9:p9) (NJ:kK) (RL:nA) (RM:nB):cj p0 p1 p2 p3 p4 p5 p6 p7 p8 p9 kK nA nB
inductive cc (p0 p1 p2 p3 p4 p5 p6 p7 p8 p9 kK nA nB tY:Prop):Prop where
 | mk (h0:p0) (h1:p1) (h2:p2) (h3:p3) (h4:p4) (h5:p5) (h6:p6) (h7:p7) (h8:p8) (h9:p9) (NJ:kK) (RL:nA) (RM:nB) (h13:tY):cc p0 p1 p2 p3 p4 p5 p6 p7 p8 p9 kK nA nB tY
inductive cw (p0 p1 p2 p3 p4 p5 p6 p7 p8 p9 kK nA nB tY FL:Prop):Prop where
 | mk (h0:p0) (h1:p1) (h2:p2) (h3:p3) (h4:p4) (h5:p5) (h6:p6) (h7:p7) (h8:p8) (h9:p9) (NJ:kK) (RL:nA) (RM:nB) (h13:tY) (h14:FL):cw p0 p1 p2 p3 p4 p5 p6 p7 p8 p9 kK nA nB tY FL
inductive cr (p0 p1 p2 p3 p4 p5 p6 p7 p8 p9 kK nA nB tY FL p15:Prop):Prop where
 | mk (h0:p0) (h1:p1) (h2:p2) (h3:p3) (h4:p4) (h5:p5) (h6:p6) (h7:p7) (h8:p8) (h9:p9) (NJ:kK) (RL:nA) (RM:nB) (h13:tY) (h14:FL) (h15:p15):cr p0 p1 p2 p3 p4 p5 p6 p7 p8 p9 kK nA nB tY FL p15
inductive Q8 {T0 T1:Type} (p:T0 -> T1 -> Prop):Prop where
 | mk (x0:T0) (x1:T1) (h:p x0 x1):Q8 p
inductive Wg {T0 T1 T2:Type} (p:T0 -> T1 -> T2 -> Prop):Prop where
 | mk (x0:T0) (x1:T1) (x2:T2) (h:p x0 x1 x2):Wg p
inductive df {T0 T1 T2 T3:Type} (p:T0 -> T1 -> T2 -> T3 -> Prop):Prop where
 | mk (x0:T0) (x1:T1) (x2:T2) (x3:T3) (h:p x0 x1 x2 x3):df p
inductive nu {T0 T1 T2 T3 T4:Type} (p:T0 -> T1 -> T2 -> T3 -> T4 -> Prop):Prop where
 | mk (x0:T0) (x1:T1) (x2:T2) (x3:T3) (x4:T4) (h:p x0 x1 x2 x3 x4):nu p
inductive jl {T0 T1 T2 T3 T4 T5:Type} (p:T0 -> T1 -> T2 -> T3 -> T4 -> T5 -> Prop):Prop where
 | mk (x0:T0) (x1:T1) (x2:T2) (x3:T3) (x4:T4) (x5:T5) (h:p x0 x1 x2 x3 x4 x5):jl p
inductive pf {T0 T1 T2 T3 T4 T5 T6:Type} (p:T0 -> T1 -> T2 -> T3 -> T4 -> T5 -> T6 -> Prop):Prop where
 | mk (x0:T0) (x1:T1) (x2:T2) (x3:T3) (x4:T4) (x5:T5) (x6:T6) (h:p x0 x1 x2 x3 x4 x5 x6):pf p
inductive c8 {T0 T1 T2 T3 T4 T5 T6 T7:Type} (p:T0 -> T1 -> T2 -> T3 -> T4 -> T5 -> T6 -> T7 -> Prop):Prop where
 | mk (x0:T0) (x1:T1) (x2:T2) (x3:T3) (x4:T4) (x5:T5) (x6:T6) (x7:T7) (h:p x0 x1 x2 x3 x4 x5 x6 x7):c8 p
inductive sd {T0 T1 T2 T3 T4 T5 T6 T7 T8:Type} (p:T0 -> T1 -> T2 -> T3 -> T4 -> T5 -> T6 -> T7 -> T8 -> Prop):Prop where
 | mk (x0:T0) (x1:T1) (x2:T2) (x3:T3) (x4:T4) (x5:T5) (x6:T6) (x7:T7) (x8:T8) (h:p x0 x1 x2 x3 x4 x5 x6 x7 x8):sd p
inductive gu {T0 T1 T2 T3 T4 T5 T6 T7 T8 T9:Type} (p:T0 -> T1 -> T2 -> T3 -> T4 -> T5 -> T6 -> T7 -> T8 -> T9 -> Prop):Prop where
 | mk (x0:T0) (x1:T1) (x2:T2) (x3:T3) (x4:T4) (x5:T5) (x6:T6) (x7:T7) (x8:T8) (x9:T9) (h:p x0 x1 x2 x3 x4 x5 x6 x7 x8 x9):gu p
inductive jv {T0 T1 T2 T3 T4 T5 T6 T7 T8 T9 tZ:Type} (p:T0 -> T1 -> T2 -> T3 -> T4 -> T5 -> T6 -> T7 -> T8 -> T9 -> tZ -> Prop):Prop where
 | mk (x0:T0) (x1:T1) (x2:T2) (x3:T3) (x4:T4) (x5:T5) (x6:T6) (x7:T7) (x8:T8) (x9:T9) (FN:tZ) (h:p x0 x1 x2 x3 x4 x5 x6 x7 x8 x9 FN):jv p
inductive mh {T0 T1 T2 T3 T4 T5 T6 T7 T8 T9 tZ FO:Type} (p:T0 -> T1 -> T2 -> T3 -> T4 -> T5 -> T6 -> T7 -> T8 -> T9 -> tZ -> FO -> Prop):Prop where
 | mk (x0:T0) (x1:T1) (x2:T2) (x3:T3) (x4:T4) (x5:T5) (x6:T6) (x7:T7) (x8:T8) (x9:T9) (FN:tZ) (RN:FO) (h:p x0 x1 x2 x3 x4 x5 x6 x7 x8 x9 FN RN):mh p
inductive li {T0 T1 T2 T3 T4 T5 T6 T7 T8 T9 tZ FO T12 T13:Type} (p:T0 -> T1 -> T2 -> T3 -> T4 -> T5 -> T6 -> T7 -> T8 -> T9 -> tZ -> FO -> T12 -> T13 -> Prop):Prop where
 | mk (x0:T0) (x1:T1) (x2:T2) (x3:T3) (x4:T4) (x5:T5) (x6:T6) (x7:T7) (x8:T8) (x9:T9) (FN:tZ) (RN:FO) (x12:T12) (x13:T13) (h:p x0 x1 x2 x3 x4 x5 x6 x7 x8 x9 FN RN x12 x13):li p
def Bd (H:Hp) (a:Addr) (ws:List Int) (calm:Option Int):Prop := ∃ t,H a = some (.tup [.ref t,vO calm]) /\ H t = some (.tup (ws.map V.int))
def Cu (H:Hp) (b:Addr) (ls:List Int) (q:Int):Prop := ∃ u,H b = some (.tup [.ref u,.int q]) /\ H u = some (.tup (ls.map V.int))
theorem Bd.same {H H':Hp} {a:Addr} {ws:List Int} {calm:Option Int} (s:Ab H H') (h:Bd H a ws calm):Bd H' a ws calm:=by
 obtain ⟨t,h1,h2⟩ := h
 exact ⟨t,s _ _ h1,s _ _ h2⟩
theorem Cu.same {H H':Hp} {a:Addr} {ls:List Int} {q:Int} (s:Ab H H') (h:Cu H a ls q):Cu H' a ls q:=by
 obtain ⟨t,h1,h2⟩ := h
 exact ⟨t,s _ _ h1,s _ _ h2⟩
theorem ee (c:Option Int):decide (vO c = V.aL) = decide (c = none):=by cases c <;> simp [vO]
def Bu (ws ls:List Int) (who:Nat) (lost:Bool):List Int:=if lost = true then ls.map (fun x=>x - 1) else (ls.map (fun x=>x - 1)).set who (ws.getD who 0)
def D3 (calm:Option Int) (q:Int) (lost:Bool):Int:=if lost = true then calm.getD 0 else max (q - 1) 0
def Ku (calm:Option Int) (q:Int) (lost:Bool):Prop:=lost = true -> calm ≠ none /\ q = 0
theorem F6 (ws ls:List Int) (who:Nat) (lost:Bool):(Bu ws ls who lost).length = ls.length:=by
 unfold Bu
 split <;> simp
theorem Q6 (x:Int):∀ ns:List Int,o6 (.int x) (ns.map V.int) = decide (x ∈ ns)
 | []=>rfl
 | n :: ns=>by
  show (ar (V.int n) (V.int x) || o6 (.int x) (ns.map V.int)) = _
  rw [Q6 x ns]
  show ((n == x) || decide (x ∈ ns)) = _
  by_cases h:n = x
  ·simp [h]
  ·have h':¬ x = n:=fun e=>h e.symm
   simp [h,h']
theorem Mo:∀ ns:List Int,(ns.map V.int).all E5 = true
 | []=>rfl
 | n :: ns=>by
  show (E5 (V.int n) && (ns.map V.int).all E5) = true
  rw [Mo ns]
  rfl
theorem Pc {ws:List Int} {k:Nat} (h:k < ws.length):Xq (ws.map V.int) (k:Int) = some (.int (ws.getD k 0)):=by
 refine Ol ?_
 rw [List.getElem?_map,List.getElem?_eq_getElem h,List.getD_eq_getElem?_getD,List.getElem?_eq_getElem h]
 rfl
theorem Ua {n k:Nat} (h:k < n):bo n (k:Int) = some k:=by
 unfold bo
 rw [if_pos (by omega),if_pos (by omega)]
 simp
theorem Zp {a:Int} {n:Nat} (h:a.natAbs < 2 ^ n):intBits a <= n:=intBits_le h
theorem Bb (x:Int) {m:Int} (h:0 < m):0 <= x % m /\ x % m < m:=⟨Int.emod_nonneg x (by omega),Int.emod_lt_of_pos x h⟩
def Ru (xs:List Int) (lo hi:Option Int):List Int:=(xs.drop (HT.gL xs.length 0 lo)).take (HT.gL xs.length xs.length hi - HT.gL xs.length 0 lo)
theorem Wp (xs:List Int) (lo hi:Option Int):Mh (xs.map V.int) lo hi = (Ru xs lo hi).map V.int:=by
 unfold Mh Ru
 rw [List.length_map,List.map_take,List.map_drop]
theorem Py (xs:List Int) (lo hi:Option Int):(Ru xs lo hi).length <= xs.length:=by
 unfold Ru
 rw [List.length_take,List.length_drop]
 omega
theorem Mj {xs:List V} {c:Int} (h0:0 <= c) (h:c <= xs.length):Mh xs (some c) none = xs.drop c.toNat:=by
 obtain ⟨n,rfl⟩ : ∃ n:Nat,c = n:=⟨c.toNat,by omega⟩
 unfold Mh
 rw [HT.iK,HT.kH]
 have e:min n xs.length = n:=by omega
 rw [e,Int.toNat_natCast,List.take_of_length_le]
 rw [List.length_drop]
 omega
theorem Pt:∀ {l:List Int} {m:Int},m ∈ l -> ∃ j:Nat,l[j]? = some m /\ ∀ i,i < j -> l[i]? ≠ some m
 | x :: l,m,h=>by
  by_cases e:x = m
  ·exact ⟨0,by simp [e],(fun i hi=>absurd hi (Nat.not_lt_zero i))⟩
  ·rcases List.mem_cons.mp h with h | h
   ·exact absurd h.symm e
   ·obtain ⟨j,hj,hn⟩ := Pt h
    refine ⟨j + 1,by simpa using hj,fun i hi=>?_⟩
    cases i with
    | zero=>simpa using e
    | succ i=>simpa using hn i (by omega)
theorem Wt {a b:Int} {m n:Nat} (ha:intBits a <= m) (hb:intBits b <= n):intBits (a * b) <= m + n:=by
 apply intBits_le
 rw [Int.natAbs_mul,Nat.pow_add]
 have h1:=Nat.lt_of_lt_of_le (natAbs_lt_pow_bits a) (Nat.pow_le_pow_right (by decide) ha)
 have h2:=Nat.lt_of_lt_of_le (natAbs_lt_pow_bits b) (Nat.pow_le_pow_right (by decide) hb)
 exact Nat.mul_lt_mul'' h1 h2
theorem En {n:Nat} (h:n <= 10000):n < sizeLine:=Nat.lt_of_le_of_lt h (by decide)
def An (H H':Hp):Prop := ∀ b xs,H b = some (.tup xs) -> H' b = some (.tup xs)
theorem An.of {H H':Hp} (s:Ab H H'):An H H':=fun b xs e=>s b _ e
theorem An.trans {H H1 H2:Hp} (a:An H H1) (b:An H1 H2):An H H2:=fun c xs e=>b c xs (a c xs e)
theorem An.lst {H:Hp} {D:Addr} {zs:List V} {o:HO} (h:H D = some (.lst zs)):An H (upd H D o):=fun b xs e=>by
 rw [Aa (Br e h (by intro z; cases z))]
 exact e
def E6 (H:Hp) (r:List Int) (v:V):Prop := ∃ p,v = .ref p /\ H p = some (.tup (r.map V.int))
def Gd (H:Hp) (z:List Int × Int) (v:V):Prop := ∃ p u,v = .ref p /\ H p = some (.tup [.ref u,.int z.2]) /\ H u = some (.tup (z.1.map V.int))
theorem E6.up {H H':Hp} {r:List Int} {v:V} (t:An H H') (h:E6 H r v):E6 H' r v:=by
 obtain ⟨p,e,h1⟩ := h
 exact ⟨p,e,t _ _ h1⟩
theorem Gd.up {H H':Hp} {z:List Int × Int} {v:V} (t:An H H') (h:Gd H z v):Gd H' z v:=by
 obtain ⟨p,u,e,h1,h2⟩ := h
 exact ⟨p,u,e,t _ _ h1,t _ _ h2⟩
def Ae {α:Type} (P:α -> V -> Prop) (rs:List α) (vs:List V):Prop:=vs.length = rs.length /\ ∀ (i:Nat) (r:α) (v:V),rs[i]? = some r -> vs[i]? = some v -> P r v
theorem Ae.nil {α:Type} {P:α -> V -> Prop}:Ae P [] []:=⟨rfl,fun i r v e=>by cases e⟩
theorem Ae.imp {α:Type} {P P':α -> V -> Prop} {rs:List α} {vs:List V} (f:∀ r v,P r v -> P' r v) (h:Ae P rs vs):Ae P' rs vs:=⟨h.1,fun i r v e1 e2=>f _ _ (h.2 i r v e1 e2)⟩
theorem Ae.append {α:Type} {P:α -> V -> Prop} {rs ss:List α} {vs us:List V} (h:Ae P rs vs) (g:Ae P ss us):Ae P (rs ++ ss) (vs ++ us):=by
 refine ⟨by rw [List.length_append,List.length_append,h.1,g.1],fun i r v e1 e2=>?_⟩
 rcases Nat.lt_or_ge i rs.length with z | z
 ·rw [List.getElem?_append_left z] at e1
  rw [List.getElem?_append_left (by rw [h.1]; exact z)] at e2
  exact h.2 i r v e1 e2
 ·rw [List.getElem?_append_right z] at e1
  rw [List.getElem?_append_right (by rw [h.1]; exact z),h.1] at e2
  exact g.2 _ r v e1 e2
theorem Ae.one {α:Type} {P:α -> V -> Prop} {r:α} {v:V} (h:P r v):Ae P [r] [v]:=by
 refine ⟨rfl,fun i r' v' e1 e2=>?_⟩
 cases i with
 | zero=>cases e1; cases e2; exact h
 | succ i=>cases e1
theorem Ae.get {α:Type} {P:α -> V -> Prop} {rs:List α} {vs:List V} (h:Ae P rs vs) {i:Nat} {v:V} (e:vs[i]? = some v):∃ r,rs[i]? = some r /\ P r v:=by
 have hi:=(List.getElem?_eq_some_iff.mp e).1
 have kZ:i < rs.length:=by
  rw [<- h.1]
  exact hi
 have h2:rs[i]? = some rs[i]:=List.getElem?_eq_getElem kZ
 exact ⟨_,h2,h.2 i _ v h2 e⟩
def qv:Option Int -> Int
 | none=>1
 | some c=>c + 1
def Bc (q:Int) (ws:List Int):Int:=ws.foldl (· * ·) q
def O9 (r:List Int) (w:Int):List (List Int):=(List.range w.toNat).map fun t=>r ++ [1 + ((t:Nat):Int)]
def C4 (rows:List (List Int)) (w:Int):List (List Int):=rows.flatMap fun r=>O9 r w
def C5 (ws:List Int):List (List Int):=ws.foldl C4 [[]]
def Em (r:List Int) (q:Int):List (List Int × Int):=(List.range q.toNat).map fun k=>(r,0 + ((k:Nat):Int))
def B9 (ws:List Int) (q:Int):List (List Int × Int):=(C5 ws).flatMap fun r=>Em r q
theorem Es {α β:Type} (f:β -> α -> β) (b:β) (xs:List α) {i:Nat} {x:α} (h:xs[i]? = some x):(xs.take (i + 1)).foldl f b = f ((xs.take i).foldl f b) x:=by
 rw [List.take_add_one,h,List.foldl_append]
 rfl
theorem Ni {α β:Type} (f:α -> List β) (xs:List α) {i:Nat} {x:α} (h:xs[i]? = some x):(xs.take (i + 1)).flatMap f = (xs.take i).flatMap f ++ f x:=by
 rw [List.take_add_one,h,List.flatMap_append]
 simp
theorem Mi {q:Int} (hq:intBits q <= 256):∀ {ws:List Int},(∀ w ∈ ws,intBits w <= 256) -> ∀ i,i <= ws.length -> intBits (Bc q (ws.take i)) <= 256 * (i + 1)
 | ws,h,0,_=>by simpa [Bc] using hq
 | ws,h,i + 1,hi=>by
  have hx:ws[i]? = some ws[i]:=List.getElem?_eq_getElem (by omega)
  have ih:=Mi hq h i (by omega)
  unfold Bc at ih ⊢
  rw [Es _ _ _ hx]
  exact Nat.le_trans (Wt ih (h _ (List.getElem_mem _))) (by omega)
theorem Pg (q:Int):∀ (ws:List Int) (a:Int),Bc (q * a) ws = q * Bc a ws
 | [],a=>rfl
 | w :: ws,a=>by
  show Bc (q * a * w) ws = q * Bc (a * w) ws
  rw [Int.mul_assoc,Pg q ws (a * w)]
theorem Lo {α β:Type} {f:α -> List β} {n:Nat}:∀ {xs:List α},(∀ x ∈ xs,(f x).length = n) -> (xs.flatMap f).length = xs.length * n
 | [],_=>by simp
 | x :: xs,h=>by
  rw [List.flatMap_cons,List.length_append,h x (List.mem_cons_self ..),Lo fun y hy=>h y (List.mem_cons_of_mem _ hy),List.length_cons,Nat.succ_mul]
  omega
theorem Pm (r:List Int) (w:Int):(O9 r w).length = w.toNat:=by simp [O9]
theorem O4 (r:List Int) (q:Int):(Em r q).length = q.toNat:=by simp [Em]
theorem Kp (rows:List (List Int)) (w:Int):(C4 rows w).length = rows.length * w.toNat:=Lo fun r _=>Pm r w
theorem Lh:∀ (ws:List Int) (rows:List (List Int)),(∀ w ∈ ws,1 <= w) -> ((ws.foldl C4 rows).length:Int) = Bc (rows.length:Int) ws
 | [],rows,_=>rfl
 | w :: ws,rows,h=>by
  have hw:=h w (List.mem_cons_self ..)
  show ((ws.foldl C4 (C4 rows w)).length:Int) = Bc ((rows.length:Int) * w) ws
  rw [Lh ws _ (fun x hx=>h x (List.mem_cons_of_mem _ hx)),Kp]
  congr 1
  rw [Int.natCast_mul]
  congr 1
  omega
theorem Hg:∀ (ws:List Int) (a:Int),0 <= a -> (∀ w ∈ ws,1 <= w) -> a <= Bc a ws
 | [],a,_,_=>Int.le_refl _
 | w :: ws,a,ha,h=>by
  have hw:=h w (List.mem_cons_self ..)
  have h1:a <= a * w:=by
   have:=Int.mul_le_mul_of_nonneg_left hw ha
   rw [Int.mul_one] at this
   exact this
  exact Int.le_trans h1 (Hg ws (a * w) (Int.le_trans ha h1) fun x hx=>h x (List.mem_cons_of_mem _ hx))
theorem Vp {ws:List Int} {a:Int} (ha:0 <= a) (h:∀ w ∈ ws,1 <= w) (i:Nat):Bc a (ws.take i) <= Bc a ws:=by
 have e:Bc a ws = Bc (Bc a (ws.take i)) (ws.drop i):=by
  unfold Bc
  rw [<- List.foldl_append,List.take_append_drop]
 rw [e]
 refine Hg _ _ (Int.le_trans ha (Hg _ _ ha fun w hw=>h w (List.mem_of_mem_take hw))) fun w hw=>h w (List.mem_of_mem_drop hw)
theorem P5 {r x:List Int} {w:Int} (h:x ∈ O9 r w):∃ t:Nat,t < w.toNat /\ x = r ++ [1 + (t:Int)]:=by
 unfold O9 at h
 obtain ⟨t,h1,rfl⟩ := List.mem_map.mp h
 exact ⟨t,List.mem_range.mp h1,rfl⟩
theorem Ia (ws:List Int):∀ i,i <= ws.length -> ∀ r ∈ C5 (ws.take i),r.length = i /\ ∀ (k:Nat) (x w:Int),r[k]? = some x -> ws[k]? = some w -> 1 <= x /\ x <= w
 | 0,_,r,h=>by
  have e:r = []:=List.mem_singleton.mp h
  subst e
  exact ⟨rfl,fun k x w e=>by cases e⟩
 | i + 1,hi,r,h=>by
  have hw:ws[i]? = some ws[i]:=List.getElem?_eq_getElem (by omega)
  have e:C5 (ws.take (i + 1)) = C4 (C5 (ws.take i)) ws[i]:=Es _ _ _ hw
  rw [e] at h
  obtain ⟨r',h1,h2⟩ := List.mem_flatMap.mp h
  obtain ⟨t,h3,rfl⟩ := P5 h2
  obtain ⟨h4,h5⟩ := Ia ws i (by omega) r' h1
  refine ⟨by simp [h4],fun k x w e1 e2=>?_⟩
  rcases Nat.lt_or_ge k r'.length with z | z
  ·rw [List.getElem?_append_left z] at e1
   exact h5 k x w e1 e2
  ·have hk : k = i := by
    have:=(List.getElem?_eq_some_iff.mp e1).1
    rw [List.length_append,List.length_singleton] at this
    omega
   subst hk
   rw [List.getElem?_append_right z,h4,Nat.sub_self] at e1
   cases e1
   rw [hw] at e2
   cases e2
   omega
def Vw (r s:List Int):Prop:=aF (r.map PyData.int) (s.map PyData.int) = true
theorem Jz (a b:Int):PyData.eqv (.int a) (.int b) = decide (a = b):=by
 show (a == b) = _
 by_cases h:a = b <;> simp [h]
theorem P2:∀ r:List Int,¬ Vw r r
 | []=>by unfold Vw; simp [aF]
 | x :: r=>fun h=>by
  have ih:=P2 r
  unfold Vw at h ih
  rw [List.map_cons,aF,Jz,if_pos (by simp)] at h
  exact ih h
theorem Qu:∀ {r s:List Int} {x y:Int},r.length = s.length -> Vw r s -> Vw (r ++ [x]) (s ++ [y])
 | [],[],x,y,_,h=>absurd h (P2 [])
 | [],_ :: _,_,_,hl,_=>by simp at hl
 | _ :: _,[],_,_,hl,_=>by simp at hl
 | a :: r,b :: s,x,y,hl,h=>by
  unfold Vw at h ⊢
  rw [List.cons_append,List.cons_append,List.map_cons,List.map_cons,aF] at *
  by_cases e:PyData.eqv (.int a) (.int b) = true
  ·rw [if_pos e] at h ⊢
   exact Qu (r:=r) (s:=s) (by simpa using hl) h
  ·rw [if_neg e] at h ⊢
   exact h
theorem Pz:∀ {r:List Int} {x y:Int},x < y -> Vw (r ++ [x]) (r ++ [y])
 | [],x,y,h=>by
  unfold Vw
  show aF [PyData.int x] [PyData.int y] = true
  rw [aF,Jz,if_neg (by simp; omega),Jf]
  exact decide_eq_true h
 | a :: r,x,y,h=>by
  unfold Vw
  rw [List.cons_append,List.cons_append,List.map_cons,List.map_cons,aF,Jz,if_pos (by simp)]
  exact Pz (r:=r) h
theorem Td (r:List Int) (w:Int):(O9 r w).Pairwise Vw:=by
 unfold O9
 rw [List.pairwise_map]
 exact List.pairwise_lt_range.imp fun h=>Pz (by omega)
theorem Je (ws:List Int):∀ i,i <= ws.length -> (C5 (ws.take i)).Pairwise Vw
 | 0,_=>by
  show ([[]]:List (List Int)).Pairwise Vw
  exact List.pairwise_singleton _ _
 | i + 1,hi=>by
  have hw:ws[i]? = some ws[i]:=List.getElem?_eq_getElem (by omega)
  have e:C5 (ws.take (i + 1)) = C4 (C5 (ws.take i)) ws[i]:=Es _ _ _ hw
  rw [e]
  unfold C4
  rw [List.pairwise_flatMap]
  refine ⟨fun r _=>Td r _,?_⟩
  refine (Je ws i (by omega)).imp_of_mem fun {a b} ha hb h x hx y hy=>?_
  obtain ⟨t,_,rfl⟩ := P5 hx
  obtain ⟨u,_,rfl⟩ := P5 hy
  have h1:=(Ia ws i (by omega) a ha).1
  have h2:=(Ia ws i (by omega) b hb).1
  exact Qu (by omega) h
def dS (z:List Int × Int):PyData:=dP (dT z.1) (.int z.2)
theorem Xz {a b:List Int × Int} (h:Vw a.1 b.1 \/ (a.1 = b.1 /\ a.2 < b.2)):Jf (dS a) (dS b) = true:=by
 show aF [dT a.1,.int a.2] [dT b.1,.int b.2] = true
 rw [aF,Xf]
 rcases h with h | ⟨h1,h2⟩
 ·have bN : ¬ a.1 = b.1 := fun e => by
   rw [e] at h
   exact P2 _ h
  rw [if_neg (by simpa using bN)]
  exact h
 ·rw [if_pos (by simpa using h1),aF,Jz,if_neg (by simp; omega),Jf]
  exact decide_eq_true h2
theorem P6 {r:List Int} {q:Int} {z:List Int × Int} (h:z ∈ Em r q):z.1 = r /\ 0 <= z.2 /\ z.2 < q:=by
 unfold Em at h
 obtain ⟨k,h1,rfl⟩ := List.mem_map.mp h
 have:=List.mem_range.mp h1
 exact ⟨rfl,by show 0 <= 0 + (k:Int); omega,by show 0 + (k:Int) < q; omega⟩
theorem Ew (ws:List Int) (q:Int):(B9 ws q).Pairwise fun a b=>Jf (dS a) (dS b) = true:=by
 unfold B9
 rw [List.pairwise_flatMap]
 refine ⟨fun r _=>?_,?_⟩
 ·unfold Em
  rw [List.pairwise_map]
  exact List.pairwise_lt_range.imp fun {a b} h=>Xz (a:=(r,0 + ((a:Nat):Int))) (b:=(r,0 + ((b:Nat):Int))) (.inr ⟨rfl,by show 0 + ((a:Nat):Int) < 0 + ((b:Nat):Int); omega⟩)
 ·have h:=Je ws ws.length (Nat.le_refl _)
  rw [List.take_length] at h
  refine h.imp fun {a b} h x hx y hy=>?_
  exact Xz (.inl (by rw [(P6 hx).1,(P6 hy).1]; exact h))
theorem Iy {ws:List Int} {q:Int} (h:∀ w ∈ ws,1 <= w) (hq:0 <= q):((B9 ws q).length:Int) = Bc q ws:=by
 unfold B9
 rw [Lo fun r _=>O4 r q,Int.natCast_mul]
 have e:((C5 ws).length:Int) = Bc 1 ws:=Lh ws [[]] h
 rw [e,Int.toNat_of_nonneg hq,Int.mul_comm,<- Pg,Int.mul_one]
theorem Mt {ws:List Int} {q:Int} {z:List Int × Int} (h:z ∈ B9 ws q):z.1.length = ws.length /\ (∀ (k:Nat) (x w:Int),z.1[k]? = some x -> ws[k]? = some w -> 1 <= x /\ x <= w) /\ 0 <= z.2 /\ z.2 < q:=by
 obtain ⟨r,h1,h2⟩ := List.mem_flatMap.mp h
 obtain ⟨h3,h4,h5⟩ := P6 h2
 have h6:=Ia ws ws.length (Nat.le_refl _) r (by rw [List.take_length]; exact h1)
 rw [h3]
 exact ⟨h6.1,h6.2,h4,h5⟩
theorem Np {ws:List Int} (h:∀ w ∈ ws,1 <= w) (hp:Bc 1 ws <= 3000) (i:Nat):(C5 (ws.take i)).length <= 3000:=by
 have e:=Lh (ws.take i) [[]] fun w hw=>h w (List.mem_of_mem_take hw)
 have e2:=Vp (ws:=ws) (a:=1) (by decide) h i
 have e3:Bc (([[]]:List (List Int)).length:Int) (ws.take i) = Bc 1 (ws.take i):=rfl
 unfold C5
 omega
def jp (H:Hp) (v:V):Option (List Int × Int) -> Prop
 | none=>v = .aL
 | some r=>∃ b,v = .ref b /\ Cu H b r.1 r.2
def jd:Option (List Int × Int) -> PyData
 | none=>.none
 | some r=>dP (dT r.1) (.int r.2)
theorem iy {H:Hp} {v:V} {r:Option (List Int × Int)} (h:jp H v r):Rp H (jd r) v:=by
 cases r with
 | none =>
  cases h
  exact Sx
 | some r =>
  obtain ⟨b,rfl,t,h1,h2⟩ := h
  exact Xl h1 (cz h2) (J2 _)
theorem Ae.tail {α:Type} {P:α -> V -> Prop} {r:α} {v:V} {rs:List α} {vs:List V} (h:Ae P (r :: rs) (v :: vs)):P r v /\ Ae P rs vs:=⟨h.2 0 r v rfl rfl,by have:=h.1; simpa using this,fun i a b e1 e2=>h.2 (i + 1) a b e1 e2⟩
theorem Lg {α:Type} {P:α -> Prop} {xs:List α} {x:α} (h:∀ y ∈ xs,P y) (hx:P x):∀ y ∈ xs ++ [x],P y:=fun y hy=>by
 rcases List.mem_append.mp hy with z | z
 ·exact h y z
 ·cases List.mem_singleton.mp z
  exact hx
theorem Cu.up {H H':Hp} {b:Addr} {ls:List Int} {q:Int} (t:An H H') (h:Cu H b ls q):Cu H' b ls q:=by
 obtain ⟨u,h1,h2⟩ := h
 exact ⟨u,t _ _ h1,t _ _ h2⟩
theorem jp.up {H H':Hp} {v:V} {r:Option (List Int × Int)} (s:An H H') (h:jp H v r):jp H' v r:=by
 cases r with
 | none=>exact h
 | some r =>
  obtain ⟨b,e,h⟩ := h
  exact ⟨b,e,h.up s⟩
def E4 (ws ls:List Int) (cm:Option Int) (q:Int) (who:Nat) (lost:Bool):Option (List Int × Int):=if (0:Int) ∈ Bu ws ls who lost then none else some (Bu ws ls who lost,D3 cm q lost)
def L9 (cm:Option Int) (q:Int):Bool := !decide (cm = none) && decide (q = 0)
def Ay (ws ls:List Int) (cm:Option Int) (q:Int) (who:Nat):List (Option (List Int × Int)):=E4 ws ls cm q who false :: if L9 cm q = true then [E4 ws ls cm q who true] else []
def Ht (H:Hp) (r:Option (List Int × Int)) (v:V):Prop:=jp H v r
theorem Ht.up {H H':Hp} {v:V} {r:Option (List Int × Int)} (s:An H H') (h:Ht H r v):Ht H' r v:=jp.up s h
theorem Ae.cons {α:Type} {P:α -> V -> Prop} {r:α} {v:V} {rs:List α} {vs:List V} (h:P r v) (g:Ae P rs vs):Ae P (r :: rs) (v :: vs):=(Ae.one h).append g
theorem Nx {H:Hp}:∀ {rs:List (Option (List Int × Int))} {us:List V},Ae (Ht H) rs us -> aD H (rs.map jd) us
 | [],[],_=>by unfold aD; rfl
 | [],_ :: _,h=>by have:=h.1; simp at this
 | _ :: _,[],h=>by have:=h.1; simp at this
 | r :: rs,u :: us,h=>by
  obtain ⟨h1,h2⟩ := h.tail
  show aD H (jd r :: rs.map jd) (u :: us)
  unfold aD
  exact ⟨_,_,rfl,iy h1,Nx h2⟩
theorem bg (r:Option (List Int × Int)):PyData.eqv (jd r) .none = decide (r = none):=by cases r <;> rfl
theorem Oq:∀ rs:List (Option (List Int × Int)),(rs.map jd).any (fun e=>PyData.eqv e .none) = decide (none ∈ rs)
 | []=>rfl
 | r :: rs=>by
  rw [List.map_cons,List.any_cons,Oq rs,bg,Bool.eq_iff_iff]
  simp only [Bool.or_eq_true,decide_eq_true_eq,List.mem_cons]
  exact ⟨fun z=>z.imp Eq.symm id,fun z=>z.imp Eq.symm id⟩
def SV (H:Hp) (v:V):Prop := ∃ b k,v = .ref b /\ Dx H b k
theorem SV.up {H H':Hp} {v:V} (t:An H H') (h:SV H v):SV H' v:=by
 obtain ⟨b,k,e,h1⟩ := h
 exact ⟨b,k,e,h1.up t⟩
def V4 (H:Hp) (cs:List (Dh × V)):Prop := ∀ e ∈ cs,(∃ i:Int,e.1 = .inl i) /\ ∃ (l:Addr) (us:List V),e.2 = .ref l /\ H l = some (.lst us) /\ us.length <= 2 /\ ∀ u ∈ us,SV H u
def l6 (H:Hp) (v:V):Prop := ∃ (c:Addr) (cs:List (Dh × V)),v = .ref c /\ H c = some (.dK cs) /\ cs.length <= 8 /\ V4 H cs
def LT (H H':Hp):Prop:=(∀ b xs,H b = some (.lst xs) -> H' b = some (.lst xs)) /\ An H H'
theorem LT.of {H H':Hp} (s:Ab H H'):LT H H':=⟨fun b xs e=>s b _ e,An.of s⟩
theorem LT.dT {H:Hp} {D:Addr} {kvs:List ((List Int × Int) × V)} {o:HO} (h:H D = some (.dT kvs)):LT H (upd H D o) :=
 ⟨fun b xs e=>by rw [Aa (Br e h (by intro z; cases z))]; exact e,fun b xs e=>by rw [Aa (Br e h (by intro z; cases z))]; exact e⟩
theorem LT.dK {H:Hp} {D:Addr} {kvs:List (Dh × V)} {o:HO} (h:H D = some (.dK kvs)):LT H (upd H D o) :=
 ⟨fun b xs e=>by rw [Aa (Br e h (by intro z; cases z))]; exact e,fun b xs e=>by rw [Aa (Br e h (by intro z; cases z))]; exact e⟩
theorem LT.trans {H H1 H2:Hp} (a:LT H H1) (b:LT H1 H2):LT H H2:=⟨fun c xs e=>b.1 c xs (a.1 c xs e),a.2.trans b.2⟩
def Ei (H:Hp) (kvs:List ((List Int × Int) × V)):Prop := ∀ kv ∈ kvs,l6 H kv.2
theorem Qb {κ:Type} [DecidableEq κ] {P:V -> Prop} {kvs:List (κ × V)} {k:κ} {v:V} (h:∀ kv ∈ kvs,P kv.2) (hv:P v):∀ kv ∈ Bl kvs k v,P kv.2:=fun kv aJ=>by
 unfold Bl at aJ
 split at aJ
 ·obtain ⟨x,hx,rfl⟩ := List.mem_map.mp aJ
  split
  ·exact hv
  ·exact h x hx
 ·rcases List.mem_append.mp aJ with z | z
  ·exact h kv z
  ·cases List.mem_singleton.mp z
   exact hv
theorem Cr {n:Nat} (h:n <= 200000):n < sizeLine:=Nat.lt_of_le_of_lt h (by decide)
theorem Bj {κ:Type} [DecidableEq κ] {kvs:List (κ × V)} {k:κ} {v:V} (h:Af kvs k = some v):(k,v) ∈ kvs:=by
 unfold Af at h
 obtain ⟨p,hp,rfl⟩ := Option.map_eq_some_iff.mp h
 have h1:=List.find?_some hp
 have h2:=List.mem_of_find?_eq_some hp
 have h3:p.1 = k:=by simpa using h1
 rw [<- h3]
 exact h2
theorem J6 {κ:Type} [DecidableEq κ] {kvs:List (κ × V)} {k:κ} {v:V} (h:(k,v) ∈ kvs):∃ w,Af kvs k = some w:=by
 cases e:Af kvs k with
 | some w=>exact ⟨w,rfl⟩
 | none=>exact absurd (List.mem_map_of_mem (f:=(·.1)) h) (Hc e)
def Dy (kvs:List ((List Int × Int) × V)) (H H':Hp):Prop := ∀ b o,H b = some o -> (∀ kv ∈ kvs,kv.2 ≠ .ref b) -> H' b = some o
theorem Dy.of {kvs:List ((List Int × Int) × V)} {H H':Hp} (s:Ab H H'):Dy kvs H H':=fun b o e _=>s b o e
theorem Dy.trans {kvs:List ((List Int × Int) × V)} {H H1 H2:Hp} (a:Dy kvs H H1) (b:Dy kvs H1 H2):Dy kvs H H2:=fun c o e n=>b c o (a c o e n) n
theorem Dy.new {kvs:List ((List Int × Int) × V)} {H H':Hp} {p:Addr} {o:HO} (a:Dy kvs H H') (h:H p = none):Dy kvs H (upd H' p o):=fun b u e n=>by
 rw [Aa (Ad e h)]
 exact a b u e n
theorem Dy.keep {kvs:List ((List Int × Int) × V)} {H H':Hp} {b:Addr} {o:HO} (a:Dy kvs H H') (p:Ei H kvs) (e:H b = some o) (n:∀ cs,o ≠ .dK cs):H' b = some o:=a b o e fun kv aJ z=>by
 obtain ⟨c,cs,e1,e2,_⟩ := p kv aJ
 rw [z] at e1
 cases e1
 rw [e] at e2
 exact n cs (Option.some.inj e2)
theorem Dy.lt {kvs:List ((List Int × Int) × V)} {H H':Hp} (a:Dy kvs H H') (p:Ei H kvs):LT H H':=⟨fun b xs e=>a.keep p e (fun cs z=>nomatch z),fun b xs e=>a.keep p e (fun cs z=>nomatch z)⟩
theorem Dy.pop {kvs:List ((List Int × Int) × V)} {H:Hp} {c:Addr} {o:HO} {kv:(List Int × Int) × V} (h:kv ∈ kvs) (e:kv.2 = .ref c):Dy kvs H (upd H c o):=fun b u eb n=>by
 rw [Aa (fun z=>n kv h (by rw [e,z]))]
 exact eb
def cg (H:Hp):V -> Nat
 | .ref c=>match H c with
  | some (.dK cs)=>cs.length
  | _=>0
 | _=>0
def Ce (H:Hp) (kvs:List ((List Int × Int) × V)):Nat:=(kvs.map fun kv=>cg H kv.2).sum
theorem Ld {H:Hp} {c:Addr} {cs:List (Dh × V)} (h:H c = some (.dK cs)):cg H (.ref c) = cs.length:=by
 unfold cg
 simp only [h]
theorem Dw {H H':Hp}:∀ {kvs:List ((List Int × Int) × V)},Ei H kvs -> (∀ c cs,H c = some (.dK cs) -> H' c = some (.dK cs)) -> Ce H' kvs = Ce H kvs
 | [],_,_=>rfl
 | kv :: kvs,p,k=>by
  obtain ⟨c,cs,e,h1,_⟩ := p kv (by simp)
  have ih:=Dw (kvs:=kvs) (fun x hx=>p x (List.mem_cons_of_mem _ hx)) k
  unfold Ce at ih ⊢
  rw [List.map_cons,List.map_cons,List.sum_cons,List.sum_cons,ih,e,Ld h1,Ld (k c cs h1)]
theorem Ky {H:Hp}:∀ {kvs:List ((List Int × Int) × V)},Ei H kvs -> Ce H kvs <= 8 * kvs.length
 | [],_=>Nat.zero_le _
 | kv :: kvs,p=>by
  obtain ⟨c,cs,e,h1,h2,_⟩ := p kv (by simp)
  have ih:=Ky (kvs:=kvs) (fun x hx=>p x (List.mem_cons_of_mem _ hx))
  unfold Ce at ih ⊢
  rw [List.map_cons,List.sum_cons,e,Ld h1,List.length_cons]
  omega
theorem Mq {H:Hp} {c:Addr} {cs hJ:List (Dh × V)} (hc:H c = some (.dK cs)) (aM:hJ.length < cs.length):∀ {kvs:List ((List Int × Int) × V)},Ce (upd H c (.dK hJ)) kvs <= Ce H kvs /\ ((∃ kv ∈ kvs,kv.2 = .ref c) -> Ce (upd H c (.dK hJ)) kvs + 1 <= Ce H kvs)
 | []=>⟨Nat.le_refl _,fun ⟨kv,h,_⟩=>by cases h⟩
 | kv :: kvs=>by
  obtain ⟨i1,i2⟩ := Mq hc aM (kvs:=kvs)
  have one:cg (upd H c (.dK hJ)) kv.2 <= cg H kv.2 /\ (kv.2 = .ref c -> cg (upd H c (.dK hJ)) kv.2 + 1 <= cg H kv.2):=by
   by_cases z:kv.2 = .ref c
   ·rw [z,Ld hc,Ld A5]
    omega
   ·refine ⟨Nat.le_of_eq ?_,fun y=>absurd y z⟩
    unfold cg
    cases hv:kv.2 with
    | ref d =>
     rw [hv] at z
     have hd:d ≠ c:=fun y=>z (by rw [y])
     simp only [Aa hd]
    | _=>rfl
  unfold Ce at i1 i2 ⊢
  rw [List.map_cons,List.map_cons,List.sum_cons,List.sum_cons]
  refine ⟨by omega,fun ⟨x,hx,ex⟩=>?_⟩
  rcases List.mem_cons.mp hx with y | y
  ·subst y
   have:=one.2 ex
   omega
  ·have:=i2 ⟨x,y,ex⟩
   omega
theorem ab {cs:List (Dh × V)} {k:Dh} {v:V} (h:Af cs k = some v):(Bp cs k).length < cs.length:=by
 have hm:=Bj h
 unfold Bp
 exact List.length_filter_lt_length_iff_exists.mpr ⟨(k,v),hm,by simp⟩
theorem Kw {cs:List (Dh × V)} {k:Dh} {e:Dh × V} (h:e ∈ Bp cs k):e ∈ cs:=(List.mem_filter.mp h).1
def Uf (B:Addr) (H:Hp) (kvs:List ((List Int × Int) × V)):Prop := ∀ kv ∈ kvs,∀ c cs,kv.2 = .ref c -> H c = some (.dK cs) -> ∀ e ∈ cs,e.2 ≠ .ref B
theorem Uf.start {B:Addr} {H:Hp} {kvs:List ((List Int × Int) × V)} (p:Ei H kvs) (h:H B = none):Uf B H kvs:=fun kv aJ c cs e1 e2 e he z=>by
 obtain ⟨d,ds,f1,f2,_,f3⟩ := p kv aJ
 rw [e1] at f1
 cases f1
 rw [e2] at f2
 cases f2
 obtain ⟨_,l,us,g1,g2,_⟩ := f3 e he
 rw [z] at g1
 cases g1
 rw [h] at g2
 cases g2
theorem Uf.keep {B:Addr} {H H':Hp} {kvs:List ((List Int × Int) × V)} (n:Uf B H kvs) (p:Ei H kvs) (k:∀ c cs,H c = some (.dK cs) -> H' c = some (.dK cs)):Uf B H' kvs:=fun kv aJ c cs e1 e2=>by
 obtain ⟨d,ds,f1,f2,_⟩ := p kv aJ
 have FP:=f1
 rw [e1] at FP
 cases FP
 have:=k _ _ f2
 rw [e2] at this
 cases this
 exact n kv aJ c cs e1 f2
theorem Uf.pop {B c:Addr} {H:Hp} {cs:List (Dh × V)} {k:Dh} {kvs:List ((List Int × Int) × V)} (n:Uf B H kvs) (hc:H c = some (.dK cs)):Uf B (upd H c (.dK (Bp cs k))) kvs:=fun kv aJ d ds e1 e2 e he=>by
 by_cases z:d = c
 ·subst z
  rw [A5] at e2
  cases e2
  exact n kv aJ d cs e1 hc e (Kw he)
 ·rw [Aa z] at e2
  exact n kv aJ d ds e1 e2 e he
theorem Ei.uA {B:Addr} {H H':Hp} {kvs:List ((List Int × Int) × V)} (p:Ei H kvs) (n:Uf B H kvs) (t:An H H') (kl:∀ l us,l ≠ B -> H l = some (.lst us) -> H' l = some (.lst us)) (k:∀ c cs,H c = some (.dK cs) -> H' c = some (.dK cs)):Ei H' kvs:=fun kv aJ=>by
 obtain ⟨c,cs,e1,e2,e3,e4⟩ := p kv aJ
 refine ⟨c,cs,e1,k _ _ e2,e3,fun e he=>?_⟩
 obtain ⟨g1,l,us,g2,g3,g4,g5⟩ := e4 e he
 exact ⟨g1,l,us,g2,kl _ _ (fun z=>n kv aJ c cs e1 e2 e he (by rw [g2,z])) g3,g4,fun u hu=>(g5 u hu).up t⟩
theorem Ug (k:List Int × Int):Jf (dS k) (dS k) = false:=by
 have e1:PyData.eqv (dT k.1) (dT k.1) = true:=by
  show PyData.eqvAll (k.1.map PyData.int) (k.1.map PyData.int) = true
  rw [Dj]
  simp
 show aF [dT k.1,.int k.2] [dT k.1,.int k.2] = false
 rw [aF,if_pos e1,aF,if_pos (show PyData.eqv (.int k.2) (.int k.2) = true from PySem.SeqAt.eqv_refl _ rfl)]
 rfl
theorem Jd (ws:List Int) (q:Int):(B9 ws q).Nodup:=(Ew ws q).imp fun {a b} h e=>by
 rw [e,Ug] at h
 cases h
theorem My {α:Type} {xs:List α} {i:Nat} {x:α} (h:xs.Nodup) (e:xs[i]? = some x):x ∉ xs.take i:=fun z=>by
 obtain ⟨j,hj⟩ := List.mem_iff_getElem?.mp z
 have aM:j < i:=by
  apply Classical.byContradiction
  intro y
  rw [List.getElem?_take_eq_none (by omega)] at hj
  cases hj
 rw [List.getElem?_take_of_lt aM] at hj
 have h1:=(List.getElem?_eq_some_iff.mp hj)
 have h2:=(List.getElem?_eq_some_iff.mp e)
 obtain ⟨a1,a2⟩ := h1
 obtain ⟨b1,b2⟩ := h2
 exact (List.pairwise_iff_getElem.mp h) j i a1 b1 aM (a2.trans b2.symm)
theorem Cg {κ:Type} [DecidableEq κ] {kvs:List (κ × V)} {k:κ} {v:V} (hn:(kvs.map (·.1)).Nodup) (h:(k,v) ∈ kvs):Af kvs k = some v:=by
 induction kvs with
 | nil=>cases h
 | cons p r ih =>
  rw [List.map_cons,List.nodup_cons] at hn
  rcases List.mem_cons.mp h with z | z
  ·subst z
   exact Bx rfl
  ·have hp:¬ p.1 = k:=fun e=>hn.1 (by rw [e]; exact List.mem_map_of_mem (f:=(·.1)) z)
   rw [Bz hp]
   exact ih hn.2 z
theorem P3 {κ:Type} {kvs:List (κ × V)} {x y:κ × V} (hn:(kvs.map (·.2)).Nodup) (hx:x ∈ kvs) (hy:y ∈ kvs) (e:x.2 = y.2):x = y:=by
 induction kvs with
 | nil=>cases hx
 | cons p r ih =>
  rw [List.map_cons,List.nodup_cons] at hn
  rcases List.mem_cons.mp hx with z | z <;> rcases List.mem_cons.mp hy with y' | y'
  ·rw [z,y']
  ·subst z
   exact absurd (by rw [e]; exact List.mem_map_of_mem (f:=(·.2)) y') hn.1
  ·subst y'
   exact absurd (by rw [<- e]; exact List.mem_map_of_mem (f:=(·.2)) z) hn.1
  ·exact ih hn.2 z y'
theorem Xh {κ:Type} [DecidableEq κ] {kvs:List (κ × V)} {k:κ} {v:V} {e:κ × V} (h:e ∈ Bl kvs k v):e ∈ kvs \/ e = (k,v):=by
 unfold Bl at h
 split at h
 ·obtain ⟨x,hx,rfl⟩ := List.mem_map.mp h
  split
  ·rename_i hk
   exact .inr (by rw [hk])
  ·exact .inl hx
 ·rcases List.mem_append.mp h with z | z
  ·exact .inl z
  ·exact .inr (List.mem_singleton.mp z)
theorem U1 {κ:Type} [DecidableEq κ] {kvs:List (κ × V)} {k j:κ} {v:V} (h:(Af kvs j).isSome = true \/ j = k):(Af (Bl kvs k v) j).isSome = true:=by
 rw [Fw]
 split
 ·rfl
 ·rename_i hn
  rcases h with h | h
  ·exact h
  ·exact absurd h hn
def Fs (ws:List Int) (cm:Option Int) (z:List Int × Int) (H:Hp) (cs:List (Dh × V)):Prop := ∀ e ∈ cs,∃ (who:Nat) (l:Addr) (us:List V),e.1 = .inl (who:Int) /\ who < ws.length /\ none ∉ Ay ws z.1 cm z.2 who /\ e.2 = .ref l /\ H l = some (.lst us) /\ Ae (Ht H) (Ay ws z.1 cm z.2 who) us
def Ux (ws:List Int) (cm:Option Int) (H:Hp) (z:List Int × Int) (v:V):Prop := ∃ (c:Addr) (cs:List (Dh × V)),v = .ref c /\ H c = some (.dK cs) /\ cs.length <= 8 /\ Fs ws cm z H cs
theorem Fs.up {ws:List Int} {cm:Option Int} {z:List Int × Int} {H H':Hp} {cs:List (Dh × V)} (t:LT H H') (h:Fs ws cm z H cs):Fs ws cm z H' cs:=fun e he=>by
 obtain ⟨who,l,us,h1,h2,h3,h4,h5,h6⟩ := h e he
 exact ⟨who,l,us,h1,h2,h3,h4,t.1 _ _ h5,h6.imp fun _ _ y=>Ht.up t.2 y⟩
theorem Fs.ok {ws:List Int} {cm:Option Int} {z:List Int × Int} {H:Hp} {cs:List (Dh × V)} (h:Fs ws cm z H cs):V4 H cs:=fun e he=>by
 obtain ⟨who,l,us,h1,h2,h3,h4,h5,h6⟩ := h e he
 refine ⟨⟨_,h1⟩,l,us,h4,h5,?_,fun u hu=>?_⟩
 ·rw [h6.1]
  unfold Ay
  split <;> simp
 ·obtain ⟨m,hm⟩ := List.mem_iff_getElem?.mp hu
  obtain ⟨r,lD,uB⟩ := h6.get hm
  cases r with
  | none=>exact absurd (List.mem_of_getElem? lD) h3
  | some r =>
   obtain ⟨bb,e,h1⟩ := uB
   exact ⟨bb,r,e,h1⟩
theorem Ux.up {ws:List Int} {cm:Option Int} {z:List Int × Int} {H H':Hp} {v:V} (t:LT H H') (k:∀ c cs,H c = some (.dK cs) -> H' c = some (.dK cs)) (h:Ux ws cm H z v):Ux ws cm H' z v:=by
 obtain ⟨c,cs,e,h1,h2,h3⟩ := h
 exact ⟨c,cs,e,k _ _ h1,h2,h3.up t⟩
def Cj (ws:List Int) (cm:Option Int) (H:Hp) (kvs:List ((List Int × Int) × V)):Prop:=(∀ kv ∈ kvs,Ux ws cm H kv.1 kv.2) /\ (kvs.map (·.1)).Nodup /\ (kvs.map (·.2)).Nodup
theorem Cj.ok {ws:List Int} {cm:Option Int} {H:Hp} {kvs:List ((List Int × Int) × V)} (h:Cj ws cm H kvs):Ei H kvs:=fun kv aJ=>by
 obtain ⟨c,cs,e,h1,h2,h3⟩ := h.1 kv aJ
 exact ⟨c,cs,e,h1,h2,h3.ok⟩
theorem Cj.keep {ws:List Int} {cm:Option Int} {H H':Hp} {kvs:List ((List Int × Int) × V)} (p:Cj ws cm H kvs) (t:LT H H') (k:∀ c cs,H c = some (.dK cs) -> H' c = some (.dK cs)):Cj ws cm H' kvs:=⟨fun kv aJ=>(p.1 kv aJ).up t k,p.2⟩
def Ll (ws:List Int) (cm:Option Int) (H:Hp) (kvs:List ((List Int × Int) × V)):Prop := ∀ kv ∈ kvs,∀ c cs,kv.2 = .ref c -> H c = some (.dK cs) -> ∀ who:Nat,who < ws.length -> none ∉ Ay ws kv.1.1 cm kv.1.2 who -> (Af cs (.inl (who:Int))).isSome = true
theorem Ll.keep {ws:List Int} {cm:Option Int} {H H':Hp} {kvs:List ((List Int × Int) × V)} (f:Ll ws cm H kvs) (p:Cj ws cm H kvs) (k:∀ c cs,H c = some (.dK cs) -> H' c = some (.dK cs)):Ll ws cm H' kvs:=fun kv aJ c cs e1 e2=>by
 obtain ⟨d,ds,f1,f2,_⟩ := p.1 kv aJ
 have FP:=f1
 rw [e1] at FP
 cases FP
 have:=k _ _ f2
 rw [e2] at this
 cases this
 exact f kv aJ c cs e1 f2
def Al (H:Hp) (kvs:List ((List Int × Int) × V)) (k:List Int × Int) (who:Nat):Prop := ∃ (c:Addr) (cs:List (Dh × V)),Af kvs k = some (.ref c) /\ H c = some (.dK cs) /\ (Af cs (.inl (who:Int))).isSome = true
theorem E3 {α:Type} {xs:List α} {x:α} (h:xs.Nodup) (hx:x ∉ xs):(xs ++ [x]).Nodup:=by
 rw [List.nodup_append]
 refine ⟨h,by simp,fun a ha b hb e=>?_⟩
 rw [List.mem_singleton.mp hb] at e
 exact hx (e ▸ ha)
def P1 (ws:List Int) (cm:Option Int) (kvs:List ((List Int × Int) × V)) (H:Hp) (later:List Int × Int) (u:V):Prop := ∃ (t b:Addr) (who:Nat) (k:List Int × Int),u = .ref t /\ H t = some (.tup [.ref b,.int (who:Int)]) /\ Dx H b k /\ (∃ v,Af kvs k = some v) /\ some later ∈ Ay ws k.1 cm k.2 who
theorem P1.up {ws:List Int} {cm:Option Int} {kvs:List ((List Int × Int) × V)} {H H':Hp} {later:List Int × Int} {u:V} (t:An H H') (h:P1 ws cm kvs H later u):P1 ws cm kvs H' later u:=by
 obtain ⟨a,b,i,k,e,h1,h2,h3,h4⟩ := h
 exact ⟨a,b,i,k,e,t _ _ h1,h2.up t,h3,h4⟩
def Et (ws:List Int) (cm:Option Int) (H0:Hp) (kvs:List ((List Int × Int) × V)) (n:Nat) (H:Hp) (wv:List ((List Int × Int) × V)):Prop:=(∀ kv ∈ wv,∃ (l:Addr) (us:List V),kv.2 = .ref l /\ H0 l = none /\ H l = some (.lst us) /\ us.length <= n /\ ∀ u ∈ us,P1 ws cm kvs H kv.1 u) /\ (wv.map (·.2)).Nodup
theorem Et.up {ws:List Int} {cm:Option Int} {H0 H H':Hp} {kvs wv:List ((List Int × Int) × V)} {n m:Nat} (t:LT H H') (hn:n <= m) (h:Et ws cm H0 kvs n H wv):Et ws cm H0 kvs m H' wv:=⟨fun kv aJ=>by
 obtain ⟨l,us,e,h0,h1,h2,h3⟩ := h.1 kv aJ
 exact ⟨l,us,e,h0,t.1 _ _ h1,by omega,fun u hu=>(h3 u hu).up t.2⟩,h.2⟩
theorem Et.app {ws:List Int} {cm:Option Int} {H0 H:Hp} {kvs wv:List ((List Int × Int) × V)} {n:Nat} {l:Addr} {us:List V} {x:V} {later:List Int × Int} (h:Et ws cm H0 kvs n H wv) (hm:(later,V.ref l) ∈ wv) (hl:H l = some (.lst us)) (hu:us.length <= n) (ha:∀ u ∈ us,P1 ws cm kvs H later u) (hx:P1 ws cm kvs H later x):Et ws cm H0 kvs (n + 1) (upd H l (.lst (us ++ [x]))) wv:=⟨fun kv aJ=>by
 have t:An H (upd H l (.lst (us ++ [x]))):=An.lst hl
 obtain ⟨l2,gN,e,h0,h1,h2,h3⟩ := h.1 kv aJ
 by_cases z:l2 = l
 ·subst z
  have ek:kv = (later,V.ref l2):=P3 h.2 aJ hm e
  refine ⟨l2,us ++ [x],e,h0,A5,by rw [List.length_append,List.length_singleton]; omega,fun u hu=>?_⟩
  rw [ek]
  exact (Lg ha hx u hu).up t
 ·exact ⟨l2,gN,e,h0,(Aa z).trans h1,by omega,fun u hu=>(h3 u hu).up t⟩,h.2⟩
def Ck (H:Hp) (wv:List ((List Int × Int) × V)) (later k:List Int × Int) (who:Nat):Prop := ∃ (l:Addr) (us:List V) (t b:Addr),Af wv later = some (.ref l) /\ H l = some (.lst us) /\ V.ref t ∈ us /\ H t = some (.tup [.ref b,.int (who:Int)]) /\ Dx H b k
theorem Ck.up {H H':Hp} {wv:List ((List Int × Int) × V)} {later k:List Int × Int} {who:Nat} (t:LT H H') (h:Ck H wv later k who):Ck H' wv later k who:=by
 obtain ⟨l,us,a,b,h1,h2,h3,h4,h5⟩ := h
 exact ⟨l,us,a,b,h1,t.1 _ _ h2,h3,t.2 _ _ h4,h5.up t.2⟩
theorem Ck.put {H:Hp} {wv:List ((List Int × Int) × V)} {later k lk:List Int × Int} {who:Nat} {v:V} (hn:Af wv lk = none) (h:Ck H wv later k who):Ck H (Bl wv lk v) later k who:=by
 obtain ⟨l,us,a,b,h1,h2⟩ := h
 refine ⟨l,us,a,b,?_,h2⟩
 rw [Fw,if_neg (fun e=>by rw [e,hn] at h1; cases h1)]
 exact h1
theorem Ck.app {H:Hp} {wv:List ((List Int × Int) × V)} {later k:List Int × Int} {who:Nat} {l:Addr} {us:List V} {x:V} (hl:H l = some (.lst us)) (h:Ck H wv later k who):Ck (upd H l (.lst (us ++ [x]))) wv later k who:=by
 have t:An H (upd H l (.lst (us ++ [x]))):=An.lst hl
 obtain ⟨l2,gN,a,b,h1,h2,h3,h4,h5⟩ := h
 by_cases z:l2 = l
 ·subst z
  rw [hl] at h2
  cases h2
  exact ⟨l2,_,a,b,h1,A5,List.mem_append_left _ h3,t _ _ h4,h5.up t⟩
 ·exact ⟨l2,gN,a,b,h1,(Aa z).trans h2,h3,t _ _ h4,h5.up t⟩
theorem Rn {cs:List (Dh × V)} {k j:Dh}:Af (Bp cs k) j = if j = k then none else Af cs j:=by
 induction cs with
 | nil=>split <;> rfl
 | cons p r ih =>
  by_cases e:p.1 = k
  ·rw [Wx e,ih]
   by_cases z:j = k
   ·rw [if_pos z,if_pos z]
   ·rw [if_neg z,if_neg z,Bz (fun y=>z (by rw [<- y,e]))]
  ·have ed : Bp (p :: r) k = p :: Bp r k := by
    unfold Bp
    rw [List.filter_cons,if_pos (by simpa using e)]
   rw [ed]
   by_cases z:p.1 = j
   ·rw [Bx z,Bx z,if_neg (fun y=>e (z.trans y))]
   ·rw [Bz z,Bz z,ih]
theorem Al.keep {ws:List Int} {cm:Option Int} {H H':Hp} {kvs:List ((List Int × Int) × V)} {k:List Int × Int} {who:Nat} (p:Cj ws cm H kvs) (kk:∀ c cs,H c = some (.dK cs) -> H' c = some (.dK cs)):Al H' kvs k who ↔ Al H kvs k who:=by
 constructor
 ·rintro ⟨c,cs,h1,h2,h3⟩
  obtain ⟨d,ds,e,f1,_⟩ := p.1 _ (Bj h1)
  cases e
  have:=kk _ _ f1
  rw [h2] at this
  cases this
  exact ⟨c,cs,h1,f1,h3⟩
 ·rintro ⟨c,cs,h1,h2,h3⟩
  exact ⟨c,cs,h1,kk _ _ h2,h3⟩
theorem Al.pop {ws : List Int} {cm : Option Int} {H : Hp} {kvs : List ((List Int × Int) × V)} {k k' : List Int × Int} {who aG : Nat} {c : Addr} {cs : List (Dh × V)} (p : Cj ws cm H kvs) (hk : Af kvs k = some (.ref c)) (hc : H c = some (.dK cs)) :
  Al (upd H c (.dK (Bp cs (.inl (who:Int))))) kvs k' aG ↔ Al H kvs k' aG /\ ¬ (k' = k /\ aG = who):=by
 constructor
 ·rintro ⟨d,ds,h1,h2,h3⟩
  by_cases z:d = c
  ·subst z
   rw [A5] at h2
   cases h2
   have ek:(k',V.ref d) = (k,V.ref d):=P3 p.2.2 (Bj h1) (Bj hk) rfl
   cases ek
   rw [Rn] at h3
   by_cases y:(Sum.inl (aG:Int):Dh) = .inl (who:Int)
   ·rw [if_pos y] at h3
    cases h3
   ·rw [if_neg y] at h3
    exact ⟨⟨d,cs,h1,hc,h3⟩,fun w=>y (by rw [w.2])⟩
  ·rw [Aa z] at h2
   refine ⟨⟨d,ds,h1,h2,h3⟩,fun w=>z ?_⟩
   rw [w.1,hk] at h1
   cases h1
   rfl
 ·rintro ⟨⟨d,ds,h1,h2,h3⟩,hn⟩
  by_cases z:d = c
  ·subst z
   have ek:(k',V.ref d) = (k,V.ref d):=P3 p.2.2 (Bj h1) (Bj hk) rfl
   cases ek
   rw [hc] at h2
   cases h2
   refine ⟨d,_,h1,A5,?_⟩
   rw [Rn,if_neg]
   ·exact h3
   ·intro y
    have y2:(aG:Int) = (who:Int):=Sum.inl.inj y
    exact hn ⟨rfl,by omega⟩
  ·exact ⟨d,ds,h1,(Aa z).trans h2,h3⟩
theorem Cj.pop {ws:List Int} {cm:Option Int} {H:Hp} {c:Addr} {cs:List (Dh × V)} {k:Dh} {kvs:List ((List Int × Int) × V)} (p:Cj ws cm H kvs) (hc:H c = some (.dK cs)):Cj ws cm (upd H c (.dK (Bp cs k))) kvs:=⟨fun kv aJ=>by
 obtain ⟨d,ds,e,h1,h2,h3⟩ := p.1 kv aJ
 have t:LT H (upd H c (.dK (Bp cs k))):=LT.dK hc
 by_cases z:d = c
 ·subst z
  rw [hc] at h1
  cases h1
  exact ⟨d,Bp cs k,e,A5,Nat.le_trans (Qc cs k) h2,fun x hx=>(h3.up t) x (Kw hx)⟩
 ·exact ⟨d,ds,e,(Aa z).trans h1,h2,h3.up t⟩,p.2⟩
theorem Cj.uA {ws:List Int} {cm:Option Int} {B:Addr} {H H':Hp} {kvs:List ((List Int × Int) × V)} (p:Cj ws cm H kvs) (n:Uf B H kvs) (t:An H H') (kl:∀ l us,l ≠ B -> H l = some (.lst us) -> H' l = some (.lst us)) (k:∀ c cs,H c = some (.dK cs) -> H' c = some (.dK cs)):Cj ws cm H' kvs:=⟨fun kv aJ=>by
 obtain ⟨c,cs,e1,e2,e3,e4⟩ := p.1 kv aJ
 refine ⟨c,cs,e1,k _ _ e2,e3,fun e he=>?_⟩
 obtain ⟨who,l,us,g1,g2,g3,g4,g5,g6⟩ := e4 e he
 exact ⟨who,l,us,g1,g2,g3,g4,kl _ _ (fun z=>n kv aJ c cs e1 e2 e he (by rw [g4,z])) g5,g6.imp fun _ _ y=>Ht.up t y⟩,p.2⟩
theorem Jj:∀ {xs ys:List Int},xs.map V.int = ys.map V.int -> xs = ys
 | [],[],_=>rfl
 | [],_ :: _,h=>by cases h
 | _ :: _,[],h=>by cases h
 | x :: xs,y :: ys,h=>by
  rw [List.map_cons,List.map_cons] at h
  injection h with h1 h2
  injection h1 with h1
  rw [h1,Jj h2]
def R6 (ws:List Int) (cm:Option Int) (tv:List ((List Int × Int) × V)) (k:List Int × Int) (m:Int):Prop :=
 (∀ who,who < ws.length -> none ∈ Ay ws k.1 cm k.2 who \/ ∃ later m',some later ∈ Ay ws k.1 cm k.2 who /\ Af tv later = some (.int m') /\ m' <= m - 1) /\
 (m = 1 \/ ∃ who,who < ws.length /\ none ∉ Ay ws k.1 cm k.2 who /\ ∀ later m',some later ∈ Ay ws k.1 cm k.2 who -> Af tv later = some (.int m') -> m - 1 <= m')
def Ez (ws:List Int) (cm:Option Int) (tv:List ((List Int × Int) × V)):Prop :=
 (∀ k v,Af tv k = some v -> ∃ m:Int,v = .int m /\ 1 <= m /\ k ∈ B9 ws (qv cm) /\ R6 ws cm tv k m) /\
 (∀ k,k ∈ B9 ws (qv cm) -> Af tv k = none -> ∃ who,who < ws.length /\ none ∉ Ay ws k.1 cm k.2 who /\ ∀ later,some later ∈ Ay ws k.1 cm k.2 who -> Af tv later = none)
def Fe (ws:List Int) (cm:Option Int) (tv:List ((List Int × Int) × V)) (bB:List (List Int × Int)) (r:Int) (Lf:(List Int × Int) -> Nat -> Prop):Prop :=
 1 <= r /\ (∀ kv ∈ tv,∃ n:Int,kv.2 = .int n /\ 1 <= n /\ n < r) /\ (∀ k ∈ bB,k ∈ B9 ws (qv cm) /\ Af tv k = none) /\ (∀ k v,Af tv k = some v -> k ∈ B9 ws (qv cm)) /\
 (∀ k who,Lf k who ↔ (k ∈ B9 ws (qv cm) /\ who < ws.length /\ none ∉ Ay ws k.1 cm k.2 who /\ ∀ later,some later ∈ Ay ws k.1 cm k.2 who -> Af tv later = none)) /\
 (∀ k,k ∈ B9 ws (qv cm) -> ((∀ who,¬ Lf k who) ↔ (k ∈ bB \/ (Af tv k).isSome = true))) /\
 (∀ k m,Af tv k = some (.int m) -> R6 ws cm tv k m) /\ ∀ k ∈ bB,R6 ws cm tv k r
theorem Fe.done {ws:List Int} {cm:Option Int} {tv:List ((List Int × Int) × V)} {r:Int} {Lf:(List Int × Int) -> Nat -> Prop} (h:Fe ws cm tv [] r Lf):Ez ws cm tv:=by
 obtain ⟨h0,hv,dR,dD,hb,hc,RO,hd2⟩ := h
 refine ⟨fun k v e=>?_,fun k hk e=>?_⟩
 ·obtain ⟨n,e1,e2,_⟩ := hv _ (Bj e)
  have mE:v = .int n:=e1
  subst mE
  exact ⟨n,rfl,e2,dD k _ e,RO k n e⟩
 ·have hn : ¬ ∀ who, ¬ Lf k who := fun z => by
   rcases (hc k hk).mp z with y | y
   ·cases y
   ·rw [e] at y
    cases y
  obtain ⟨who,hw⟩ := Classical.not_forall.mp hn
  obtain ⟨g1,g2,g3,g4⟩ := (hb k who).mp (Classical.not_not.mp hw)
  exact ⟨who,g2,g3,g4⟩
theorem Fe.step {ws : List Int} {cm : Option Int} {tv qS : List ((List Int × Int) × V)} {bB beta : List (List Int × Int)} {r : Int} {Lf NK : (List Int × Int) -> Nat -> Prop} (h : Fe ws cm tv bB r Lf)
  (ht:∀ k,Af qS k = if k ∈ bB then some (.int r) else Af tv k) (CB:∀ kv ∈ qS,∃ n:Int,kv.2 = .int n /\ 1 <= n /\ n < r + 1)
  (hl:∀ k who,NK k who ↔ (Lf k who /\ ∀ later ∈ bB,some later ∉ Ay ws k.1 cm k.2 who)) (NL:∀ k,k ∈ beta ↔ ((∃ who,Lf k who) /\ ∀ who,¬ NK k who)):Fe ws cm qS beta (r + 1) NK:=by
 obtain ⟨h0,hv,dR,dD,hb,hc,RO,hd2⟩ := h
 have kL:∀ k,Af qS k = none ↔ (k ∉ bB /\ Af tv k = none):=fun k=>by
  rw [ht]
  by_cases z:k ∈ bB
  ·rw [if_pos z]
   exact ⟨fun y=>(nomatch y),fun y=>absurd z y.1⟩
  ·rw [if_neg z]
   exact ⟨fun y=>⟨z,y⟩,fun y=>y.2⟩
 have old:∀ later m',Af tv later = some (.int m') -> Af qS later = some (.int m'):=fun later m' e=>by
  rw [ht,if_neg (fun z=>by rw [(dR later z).2] at e; cases e)]
  exact e
 have back:∀ later m',Af qS later = some (.int m') -> (later ∈ bB /\ m' = r) \/ Af tv later = some (.int m'):=fun later m' e=>by
  rw [ht] at e
  by_cases z:later ∈ bB
  ·rw [if_pos z] at e
   cases e
   exact .inl ⟨z,rfl⟩
  ·rw [if_neg z] at e
   exact .inr e
 have more:∀ k m,m <= r -> R6 ws cm tv k m -> R6 ws cm qS k m:=fun k m hm ⟨p1,p2⟩=>by
  refine ⟨fun who hw=>?_,?_⟩
  ·rcases p1 who hw with y | ⟨later,m',y1,y2,y3⟩
   ·exact .inl y
   ·exact .inr ⟨later,m',y1,old _ _ y2,y3⟩
  ·rcases p2 with y | ⟨who,y1,y2,y3⟩
   ·exact .inl y
   ·refine .inr ⟨who,y1,y2,fun later m' z1 z2=>?_⟩
    rcases back later m' z2 with ⟨_,e⟩ | e
    ·omega
    ·exact y3 later m' z1 e
 have fF:∀ k who,NK k who ↔ (k ∈ B9 ws (qv cm) /\ who < ws.length /\ none ∉ Ay ws k.1 cm k.2 who /\ ∀ later,some later ∈ Ay ws k.1 cm k.2 who -> Af qS later = none):=fun k who=>by
  rw [hl,hb]
  constructor
  ·rintro ⟨⟨g1,g2,g3,g4⟩,g5⟩
   exact ⟨g1,g2,g3,fun later z=>(kL later).mpr ⟨fun y=>g5 later y z,g4 later z⟩⟩
  ·rintro ⟨g1,g2,g3,g4⟩
   exact ⟨⟨g1,g2,g3,fun later z=>((kL later).mp (g4 later z)).2⟩,fun later y z=>((kL later).mp (g4 later z)).1 y⟩
 refine ⟨by omega,CB,fun k hk=>?_,fun k v e=>?_,fF,fun k hk=>?_,fun k m e=>?_,fun k hk=>?_⟩
 ·obtain ⟨⟨who,hw⟩,hn⟩ := (NL k).mp hk
  have hs:=((hb k who).mp hw).1
  refine ⟨hs,(kL k).mpr ⟨fun z=>?_,?_⟩⟩
  ·exact (hc k hs).mpr (.inl z) who hw
  ·cases hvk:Af tv k with
   | none=>rfl
   | some v=>exact absurd hw ((hc k hs).mpr (.inr (by rw [hvk]; rfl)) who)
 ·rw [ht] at e
  by_cases z:k ∈ bB
  ·exact (dR k z).1
  ·rw [if_neg z] at e
   exact dD k v e
 ·constructor
  ·intro z
   by_cases y:∃ who,Lf k who
   ·exact .inl ((NL k).mpr ⟨y,z⟩)
   ·right
    rcases (hc k hk).mp (fun who w=>y ⟨who,w⟩) with x | x
    ·rw [ht,if_pos x]
     rfl
    ·obtain ⟨v,wH⟩ := Option.isSome_iff_exists.mp x
     obtain ⟨n,e1,_⟩ := hv _ (Bj wH)
     have mE:v = .int n:=e1
     rw [mE] at wH
     rw [old k n wH]
     rfl
  ·rintro (z | z) who w
   ·exact ((NL k).mp z).2 who w
   ·have w1:=((hl k who).mp w).1
    rw [ht] at z
    by_cases y:k ∈ bB
    ·exact (hc k hk).mpr (.inl y) who w1
    ·rw [if_neg y] at z
     exact (hc k hk).mpr (.inr z) who w1
 ·rcases back k m e with ⟨y1,y2⟩ | y
  ·subst y2
   exact more k m (Int.le_refl _) (hd2 k y1)
  ·obtain ⟨n,e1,e2,e3⟩ := hv _ (Bj y)
   cases e1
   exact more k m (by omega) (RO k m y)
 ·obtain ⟨⟨FQ,FR⟩,hn⟩ := (NL k).mp hk
  obtain ⟨g1,g2,g3,g4⟩ := (hb k FQ).mp FR
  refine ⟨fun who hw=>?_,.inr ⟨FQ,g2,g3,fun later m' z1 z2=>?_⟩⟩
  ·by_cases y:none ∈ Ay ws k.1 cm k.2 who
   ·exact .inl y
   ·right
    have hnn:¬ ∀ later,some later ∈ Ay ws k.1 cm k.2 who -> Af qS later = none:=fun z=>hn who ((fF k who).mpr ⟨g1,hw,y,z⟩)
    obtain ⟨later,hx⟩ := Classical.not_forall.mp hnn
    obtain ⟨x1,x2⟩ := Classical.not_imp.mp hx
    cases RP:Af qS later with
    | none=>exact absurd RP x2
    | some v =>
     obtain ⟨n,e1,e2,e3⟩ := CB _ (Bj RP)
     have mE:v = .int n:=e1
     exact ⟨later,n,x1,by rw [RP,mE],by omega⟩
  ·rcases back later m' z2 with ⟨_,e⟩ | e
   ·omega
   ·rw [g4 later z1] at e
    cases e
theorem g8 {κ:Type} [DecidableEq κ] {kvs:List (κ × V)} {k:κ} {v:V} (hn:(kvs.map (·.1)).Nodup):((Bl kvs k v).map (·.1)).Nodup:=by
 cases e:Af kvs k with
 | none =>
  rw [Dk v e,List.map_append]
  exact E3 hn (Hc e)
 | some w =>
  have hk:(kvs.any fun kv=>decide (kv.1 = k)) = true:=by
   rw [Dl,e]
   rfl
  unfold Bl
  rw [if_pos hk,List.map_map]
  have:(kvs.map ((fun x=>x.1) ∘ fun kv=>if kv.1 = k then (kv.1,v) else kv)) = kvs.map (·.1):=by
   apply List.map_congr_left
   intro x _
   show (if x.1 = k then (x.1,v) else x).1 = x.1
   split <;> rfl
  rw [this]
  exact hn
def Yx (H:Hp) (v:V):Prop := ∃ c,v = .ref c /\ H c = some (.dK [])
theorem Fe.start {ws:List Int} {cm:Option Int} {H:Hp} {kvs:List ((List Int × Int) × V)} {bB:List (List Int × Int)} (hp:Cj ws cm H kvs) (hk:kvs.map (·.1) = B9 ws (qv cm)) (hf:Ll ws cm H kvs) (hr:∀ k,k ∈ bB ↔ ∃ v,(k,v) ∈ kvs /\ Yx H v):Fe ws cm [] bB 1 (Al H kvs):=by
 have mem:∀ k,k ∈ B9 ws (qv cm) ↔ ∃ v,(k,v) ∈ kvs:=fun k=>by
  rw [<- hk,List.mem_map]
  exact ⟨fun ⟨x,h1,h2⟩=>⟨x.2,by rw [<- h2]; exact h1⟩,fun ⟨v,h1⟩=>⟨_,h1,rfl⟩⟩
 have hb:∀ k who,Al H kvs k who ↔ (k ∈ B9 ws (qv cm) /\ who < ws.length /\ none ∉ Ay ws k.1 cm k.2 who):=fun k who=>by
  constructor
  ·rintro ⟨c,cs,h1,h2,h3⟩
   have hm:=Bj h1
   obtain ⟨d,ds,e,f1,_,f2⟩ := hp.1 _ hm
   cases e
   rw [h2] at f1
   cases f1
   obtain ⟨w',RQ⟩ := Option.isSome_iff_exists.mp h3
   obtain ⟨nC,l,us,g1,g2,g3,_⟩ := f2 _ (Bj RQ)
   have g1':(who:Int) = (nC:Int):=Sum.inl.inj g1
   have:who = nC:=by omega
   subst this
   exact ⟨(mem k).mpr ⟨_,hm⟩,g2,g3⟩
  ·rintro ⟨h1,h2,h3⟩
   obtain ⟨v,hm⟩ := (mem k).mp h1
   obtain ⟨c,cs,e,f1,_,f2⟩ := hp.1 _ hm
   have e':v = .ref c:=e
   subst e'
   exact ⟨c,cs,Cg hp.2.1 hm,f1,hf _ hm c cs rfl f1 who h2 h3⟩
 have hc:∀ k,k ∈ B9 ws (qv cm) -> ((∀ who,¬ Al H kvs k who) ↔ k ∈ bB):=fun k gW=>by
  obtain ⟨v,hm⟩ := (mem k).mp gW
  obtain ⟨c,cs,e,f1,_,f2⟩ := hp.1 _ hm
  have e':v = .ref c:=e
  subst e'
  rw [hr]
  constructor
  ·intro z
   refine ⟨_,hm,c,rfl,?_⟩
   cases cs with
   | nil=>exact f1
   | cons x xs =>
    obtain ⟨who,l,us,g1,_⟩ := f2 x (by simp)
    exact absurd ⟨c,_,Cg hp.2.1 hm,f1,by rw [Bx g1]; rfl⟩ (z who)
  ·rintro ⟨v',fX,c',e1,e2⟩ who ⟨c2,cs2,g1,g2,g3⟩
   have h1:=Cg hp.2.1 hm
   rw [Cg hp.2.1 fX,e1] at h1
   cases h1
   rw [Cg hp.2.1 hm] at g1
   cases g1
   rw [e2] at g2
   cases g2
   cases g3
 refine ⟨Int.le_refl _,(fun kv z=>by cases z),fun k dQ=>?_,(fun k v z=>by cases z),fun k who=>?_,fun k gW=>?_,(fun k m z=>by cases z),fun k dQ=>?_⟩
 ·obtain ⟨v,hm,_⟩ := (hr k).mp dQ
  exact ⟨(mem k).mpr ⟨v,hm⟩,rfl⟩
 ·rw [hb]
  exact ⟨fun z=>⟨z.1,z.2.1,z.2.2,fun _ _=>rfl⟩,fun z=>⟨z.1,z.2.1,z.2.2.1⟩⟩
 ·rw [hc k gW]
  exact ⟨fun z=>.inl z,fun z=>z.elim id (fun y=>by cases y)⟩
 ·obtain ⟨v,hm,_⟩ := (hr k).mp dQ
  have gW:=(mem k).mpr ⟨v,hm⟩
  refine ⟨fun who hw=>?_,.inl rfl⟩
  left
  apply Classical.byContradiction
  intro y
  exact (hc k gW).mpr dQ who ((hb k who).mpr ⟨gW,hw,y⟩)
theorem Rb {α:Type} {ls:List α} {x:α} {i:Nat} (h:ls.length = i):(ls ++ [x]).length = i + 1:=by
 rw [List.length_append,h]
 rfl
theorem Pn {ls:List Int} {j:Nat} (h:j < ls.length):ls[j]? = some (ls.getD j 0):=by
 rw [List.getD_eq_getElem?_getD,List.getElem?_eq_getElem h]
 rfl
theorem Gc {ls:List Int} {j:Nat} (h:j < ls.length):ls.getD j 0 ∈ ls:=List.mem_of_getElem? (Pn h)
def Fr (ws:List Int) (cm:Option Int):Prop:=(∀ w ∈ ws,1 <= w /\ w <= 3000) /\ (∀ c,cm = some c -> 1 <= c /\ c < 3000) /\ 0 < ws.length /\ ws.length <= 8 /\ Bc (qv cm) ws <= 300
theorem R9 {w:Int} (h1:0 <= w) (h2:w <= 3000):intBits w <= 256:=Nat.le_trans (Zp (n:=12) (by omega)) (by decide)
theorem Fr.qv {ws:List Int} {cm:Option Int} (h:Fr ws cm):1 <= qv cm /\ qv cm <= 3000:=by
 cases cm with
 | none=>exact ⟨Int.le_refl _,by decide⟩
 | some c =>
  have:=h.2.1 c rfl
  show 1 <= c + 1 /\ c + 1 <= 3000
  omega
theorem Wq {ws ls:List Int} {who i:Nat} {lost:Bool} (hi:i < ls.length):(Bu ws ls who lost)[i]? = some (if i = who /\ lost = false then ws.getD who 0 else ls.getD i 0 - 1):=by
 have e:(ls.map fun x=>x - 1)[i]? = some (ls.getD i 0 - 1):=by
  rw [List.getElem?_map,List.getElem?_eq_getElem hi,List.getD_eq_getElem?_getD,List.getElem?_eq_getElem hi]
  rfl
 unfold Bu
 cases lost with
 | true =>
  rw [if_pos rfl,if_neg (fun z=>nomatch z.2)]
  exact e
 | false =>
  rw [if_neg Bool.false_ne_true,List.getElem?_set]
  by_cases z:i = who
  ·subst z
   rw [if_pos rfl,if_pos (by rw [List.length_map]; exact hi),if_pos ⟨rfl,rfl⟩]
  ·rw [if_neg (fun y=>z y.symm),if_neg (fun y=>z y.1)]
   exact e
def Q5 (cm:Option Int) (q:Int):List Bool:=if L9 cm q = true then [false,true] else [false]
theorem Po (ws ls:List Int) (cm:Option Int) (q:Int) (who:Nat):Ay ws ls cm q who = (Q5 cm q).map fun lost=>E4 ws ls cm q who lost:=by
 unfold Ay Q5
 split <;> rfl
theorem L6 {xs:List Int} {i:Nat} (h:i < xs.length):xs[i]? = some (xs.getD i 0):=by
 rw [List.getD_eq_getElem?_getD,List.getElem?_eq_getElem h]
 rfl
theorem Uv:∀ (ws:List Int) (rows:List (List Int)) (r0 ext:List Int),r0 ∈ rows -> ext.length = ws.length -> (∀ i,i < ws.length -> 1 <= ext.getD i 0 /\ ext.getD i 0 <= ws.getD i 0) -> r0 ++ ext ∈ ws.foldl C4 rows
 | [],rows,r0,ext,h,hl,_=>by
  have e:ext = []:=List.length_eq_zero_iff.mp hl
  rw [e,List.append_nil]
  exact h
 | w :: ws,rows,r0,[],h,hl,_=>by simp at hl
 | w :: ws,rows,r0,x :: ext,h,hl,hb=>by
  have h0:=hb 0 (by simp)
  have hx:1 <= x /\ x <= w:=h0
  have bL:r0 ++ [x] ∈ C4 rows w:=by
   refine List.mem_flatMap.mpr ⟨r0,h,List.mem_map.mpr ⟨(x - 1).toNat,List.mem_range.mpr (by omega),?_⟩⟩
   have e:1 + (((x - 1).toNat:Nat):Int) = x:=by omega
   rw [e]
  have ih:=Uv ws (C4 rows w) (r0 ++ [x]) ext bL (by simpa using hl) fun i hi=>hb (i + 1) (by simp; omega)
  rw [List.append_assoc] at ih
  exact ih
theorem Re {ws:List Int} {q:Int} {z:List Int × Int} (h1:z.1.length = ws.length) (h2:∀ i,i < ws.length -> 1 <= z.1.getD i 0 /\ z.1.getD i 0 <= ws.getD i 0) (h3:0 <= z.2) (h4:z.2 < q):z ∈ B9 ws q:=by
 refine List.mem_flatMap.mpr ⟨z.1,?_,List.mem_map.mpr ⟨z.2.toNat,List.mem_range.mpr (by omega),?_⟩⟩
 ·have:=Uv ws [[]] [] z.1 (by simp) h1 h2
  exact this
 ·have e:0 + ((z.2.toNat:Nat):Int) = z.2:=by omega
  rw [e]
theorem Iv {ws:List Int} {q:Int} {z:List Int × Int} (h:z ∈ B9 ws q):z.1.length = ws.length /\ (∀ i,i < ws.length -> 1 <= z.1.getD i 0 /\ z.1.getD i 0 <= ws.getD i 0) /\ 0 <= z.2 /\ z.2 < q:=by
 obtain ⟨m1,m2,m3,m4⟩ := Mt h
 exact ⟨m1,fun i hi=>m2 i _ _ (L6 (by omega)) (L6 hi),m3,m4⟩
theorem Zf {ws ls:List Int} {who i:Nat} {lost:Bool} (hi:i < ls.length):(Bu ws ls who lost).getD i 0 = if i = who /\ lost = false then ws.getD who 0 else ls.getD i 0 - 1:=by
 rw [List.getD_eq_getElem?_getD,Wq hi]
 rfl
theorem f7 {ws ls:List Int} {cm:Option Int} {q:Int} {who:Nat} {o:Option (List Int × Int)}:o ∈ Ay ws ls cm q who ↔ ∃ lost,lost ∈ Q5 cm q /\ E4 ws ls cm q who lost = o:=by
 rw [Po,List.mem_map]
theorem Rh {ws ls:List Int} {cm:Option Int} {q:Int} {who:Nat} {lost:Bool} {k:List Int × Int} (h:E4 ws ls cm q who lost = some k):(0:Int) ∉ Bu ws ls who lost /\ k = (Bu ws ls who lost,D3 cm q lost):=by
 unfold E4 at h
 by_cases z:(0:Int) ∈ Bu ws ls who lost
 ·rw [if_pos z] at h
  cases h
 ·rw [if_neg z] at h
  exact ⟨z,(Option.some.inj h).symm⟩
theorem gp {ws:List Int} {cm:Option Int} {k l:List Int × Int} {who:Nat} {lost:Bool} (cS:∀ w ∈ ws,1 <= w) (hk:k ∈ B9 ws (qv cm)) (wI:who < ws.length) (EA:lost ∈ Q5 cm k.2) (h:E4 ws k.1 cm k.2 who lost = some l):l ∈ B9 ws (qv cm):=by
 obtain ⟨g1,g2,g3,g4⟩ := Iv hk
 obtain ⟨hz,rfl⟩ := Rh h
 have hwp:1 <= ws.getD who 0:=cS _ (Gc wI)
 have hlen:(Bu ws k.1 who lost).length = k.1.length:=F6 _ _ _ _
 refine Re (by rw [hlen]; exact g1) (fun i hi=>?_) ?_ ?_
 ·have b:=g2 i hi
  have bN:(Bu ws k.1 who lost).getD i 0 ≠ 0:=fun e=>by
   have:=L6 (xs:=Bu ws k.1 who lost) (i:=i) (by omega)
   rw [e] at this
   exact hz (List.mem_of_getElem? this)
  show 1 <= (Bu ws k.1 who lost).getD i 0 /\ (Bu ws k.1 who lost).getD i 0 <= ws.getD i 0
  rw [Zf (by omega)] at bN ⊢
  by_cases y:i = who /\ lost = false
  ·rw [if_pos y,y.1]
   omega
  ·rw [if_neg y] at bN
   rw [if_neg y]
   omega
 ·show 0 <= D3 cm k.2 lost
  unfold D3
  cases lost with
  | true =>
   rw [if_pos rfl]
   cases cm with
   | none=>exact Int.le_refl _
   | some c =>
    show 0 <= c
    have:k.2 < c + 1:=g4
    omega
  | false =>
   rw [if_neg Bool.false_ne_true]
   omega
 ·show D3 cm k.2 lost < qv cm
  unfold D3
  cases lost with
  | true =>
   rw [if_pos rfl]
   cases cm with
   | none=>decide
   | some c =>
    show c < c + 1
    omega
  | false =>
   rw [if_neg Bool.false_ne_true]
   have:0 < qv cm:=by omega
   omega
def wd (x:Int × Int):PyData:=dP (.int x.1) (.int x.2)
def Hd (x y:Int × Int):Bool:=decide (y.1 < x.1 \/ (x.1 = y.1 /\ y.2 < x.2))
theorem Iq (a b:Int):PyData.eqv (.int a) (.int b) = decide (a = b):=rfl
theorem fi (x y:Int × Int):Va (wd x) (wd y) = Hd x y:=by
 obtain ⟨a,b⟩ := x
 obtain ⟨c,d⟩ := y
 show (if PyData.eqv (.int a) (.int c) = true then (if PyData.eqv (.int b) (.int d) = true then aS [] [] else Va (.int b) (.int d)) else Va (.int a) (.int c)) = decide (c < a \/ (a = c /\ d < b))
 rw [Iq,Iq]
 show (if decide (a = c) = true then (if decide (b = d) = true then false else decide (b > d)) else decide (a > c)) = decide (c < a \/ (a = c /\ d < b))
 by_cases h1:a = c
 ·rw [if_pos (decide_eq_true h1)]
  by_cases h2:b = d
  ·rw [if_pos (decide_eq_true h2)]
   exact (decide_eq_false (by omega)).symm
  ·rw [if_neg (by simpa using h2)]
   exact decide_eq_decide.mpr (by omega)
 ·rw [if_neg (by simpa using h1)]
  exact decide_eq_decide.mpr (by omega)
theorem i5 (x y:Int × Int):Jf (wd x) (wd y) = Hd y x:=by
 obtain ⟨a,b⟩ := x
 obtain ⟨c,d⟩ := y
 show (if PyData.eqv (.int a) (.int c) = true then (if PyData.eqv (.int b) (.int d) = true then aF [] [] else Jf (.int b) (.int d)) else Jf (.int a) (.int c)) = decide (a < c \/ (c = a /\ b < d))
 rw [Iq,Iq]
 show (if decide (a = c) = true then (if decide (b = d) = true then false else decide (b < d)) else decide (a < c)) = decide (a < c \/ (c = a /\ b < d))
 by_cases h1:a = c
 ·rw [if_pos (decide_eq_true h1)]
  by_cases h2:b = d
  ·rw [if_pos (decide_eq_true h2)]
   exact (decide_eq_false (by omega)).symm
  ·rw [if_neg (by simpa using h2)]
   exact decide_eq_decide.mpr (by omega)
 ·rw [if_neg (by simpa using h1)]
  exact decide_eq_decide.mpr (by omega)
theorem i4 (x y:Int × Int):Gf (wd x) (wd y):=by
 show Gf (.tuple [.int x.1,.int x.2]) (.tuple [.int y.1,.int y.2])
 simp [Gf,bA]
theorem Qd (x:Int × Int):(wd x).depth <= 50:=by
 show (dP _ _).depth <= 50
 rw [Qp]
 show max 0 0 + 1 <= 50
 decide
theorem d5 {H:Hp} {p:Addr} {x:Int × Int} (h:H p = some (.tup [.int x.1,.int x.2])):Rp H (wd x) (.ref p):=Xl h (J2 _) (J2 _)
theorem Y3 (x y:Int × Int):PyData.eqv (wd x) (wd y) = decide (x = y):=by
 obtain ⟨a,b⟩ := x
 obtain ⟨c,d⟩ := y
 show PyData.eqv (dP _ _) (dP _ _) = _
 rw [dl,Iq,Iq]
 by_cases h1:a = c <;> by_cases h2:b = d <;> simp [h1,h2]
theorem Om (f:Nat -> Int × Int):∀ k,argBest (fun i j=>Hd (f i) (f j)) k <= k /\ ∀ j,j <= k -> Hd (f j) (f (argBest (fun i j=>Hd (f i) (f j)) k)) = false
 | 0=>⟨Nat.le_refl _,fun j hj=>by
  have e:j = 0:=by omega
  subst e
  show Hd (f 0) (f 0) = false
  unfold Hd
  exact decide_eq_false (by omega)⟩
 | k + 1=>by
  obtain ⟨h1,h2⟩ := Om f k
  rw [Ds]
  generalize argBest (fun i j=>Hd (f i) (f j)) k = b at h1 h2 ⊢
  by_cases z:Hd (f (k + 1)) (f b) = true
  ·rw [if_pos z]
   refine ⟨Nat.le_refl _,fun j hj=>?_⟩
   unfold Hd at z h2 ⊢
   have z':=of_decide_eq_true z
   refine decide_eq_false ?_
   rcases Nat.lt_or_ge k j with y | y
   ·have e:j = k + 1:=by omega
    subst e
    omega
   ·have:=of_decide_eq_false (h2 j y)
    omega
  ·rw [if_neg z]
   refine ⟨by omega,fun j hj=>?_⟩
   rcases Nat.lt_or_ge k j with y | y
   ·have e:j = k + 1:=by omega
    subst e
    simpa using z
   ·exact h2 j y
def N1:Option V -> Int × Int
 | some (.int m)=>(0,m)
 | _=>(1,0)
def told (tv:List ((List Int × Int) × V)):Option (List Int × Int) -> Int × Int
 | none=>(0,0)
 | some k=>N1 (Af tv k)
def dr (x y:Int × Int):Int × Int:=if Hd x y = true then y else x
def Hv (tv:List ((List Int × Int) × V)) (ws ls:List Int) (cm:Option Int) (q:Int) (who:Nat):Int × Int :=
 if L9 cm q = true then dr (told tv (E4 ws ls cm q who false)) (told tv (E4 ws ls cm q who true)) else told tv (E4 ws ls cm q who false)
def Zo (tv:List ((List Int × Int) × V)):Prop := ∀ k v,Af tv k = some v -> ∃ m:Int,v = .int m
theorem Ob {tv:List ((List Int × Int) × V)} {ws ls:List Int} {cm:Option Int} {q:Int} {who:Nat}:(∀ o ∈ Ay ws ls cm q who,Hd (Hv tv ws ls cm q who) (told tv o) = false) /\ ∃ o,o ∈ Ay ws ls cm q who /\ Hv tv ws ls cm q who = told tv o:=by
 rw [Po]
 unfold Q5 Hv
 by_cases z:L9 cm q = true
 ·rw [if_pos z,if_pos z]
  show (∀ o ∈ [E4 ws ls cm q who false,E4 ws ls cm q who true],_) /\ ∃ o,o ∈ [E4 ws ls cm q who false,E4 ws ls cm q who true] /\ _
  unfold dr
  by_cases y:Hd (told tv (E4 ws ls cm q who false)) (told tv (E4 ws ls cm q who true)) = true
  ·rw [if_pos y]
   refine ⟨fun o ho=>?_,_,by simp,rfl⟩
   have iJ:o = E4 ws ls cm q who false \/ o = E4 ws ls cm q who true:=by simpa using ho
   unfold Hd at y ⊢
   have y':=of_decide_eq_true y
   refine decide_eq_false ?_
   rcases iJ with e | e <;> subst e <;> omega
  ·rw [if_neg y]
   refine ⟨fun o ho=>?_,_,by simp,rfl⟩
   have iJ:o = E4 ws ls cm q who false \/ o = E4 ws ls cm q who true:=by simpa using ho
   unfold Hd at y ⊢
   refine decide_eq_false ?_
   have y':=fun h=>y (decide_eq_true h)
   rcases iJ with e | e <;> subst e <;> omega
 ·rw [if_neg z,if_neg z]
  refine ⟨fun o ho=>?_,E4 ws ls cm q who false,by simp,rfl⟩
  have e:o = E4 ws ls cm q who false:=by simpa using ho
  subst e
  unfold Hd
  exact decide_eq_false (by omega)
theorem Qy {H:Hp}:∀ {ds:List PyData} {us:List V},us.length = ds.length -> (∀ (i:Nat) (d:PyData) (u:V),ds[i]? = some d -> us[i]? = some u -> Rp H d u) -> aD H ds us
 | [],us,hl,_=>by
  unfold aD
  exact List.length_eq_zero_iff.mp hl
 | d :: ds,[],hl,_=>by simp at hl
 | d :: ds,u :: us,hl,h=>by
  unfold aD
  exact ⟨u,us,rfl,h 0 d u rfl rfl,Qy (by simpa using hl) fun i d' u' h1 h2=>h (i + 1) d' u' (by simpa using h1) (by simpa using h2)⟩
theorem Zl {f:Nat -> Int × Int} {n:Nat} (hn:0 < n):Dg ((List.range n).map fun i=>wd (f i)) < n /\ ∀ j,j < n -> Hd (f j) (f (Dg ((List.range n).map fun i=>wd (f i)))) = false:=by
 have e:Dg ((List.range n).map fun i=>wd (f i)) = argBest (fun i j=>Hd (f i) (f j)) (n - 1):=by
  unfold Dg
  rw [List.length_map,List.length_range]
  have key:∀ k,k <= n - 1 -> argBest (fun i j=>Va (((List.range n).map fun i=>wd (f i)).getD i .none) (((List.range n).map fun i=>wd (f i)).getD j .none)) k = argBest (fun i j=>Hd (f i) (f j)) k:=fun k=>by
   induction k with
   | zero=>exact fun _=>rfl
   | succ k ih =>
    intro hk
    have b:=(Om f k).1
    rw [Ds,Ds,ih (by omega)]
    generalize argBest (fun i j=>Hd (f i) (f j)) k = b0 at b ⊢
    have g:∀ i,i < n -> ((List.range n).map fun i=>wd (f i)).getD i .none = wd (f i):=fun i hi=>by
     rw [List.getD_eq_getElem?_getD,List.getElem?_map,List.getElem?_range hi]
     rfl
    show (if Va (((List.range n).map fun i=>wd (f i)).getD (k + 1) .none) (((List.range n).map fun i=>wd (f i)).getD b0 .none) = true then _ else _) = _
    rw [g _ (by omega),g _ (by omega),fi]
  exact key (n - 1) (Nat.le_refl _)
 rw [e]
 obtain ⟨h1,h2⟩ := Om f (n - 1)
 exact ⟨by omega,fun j hj=>h2 j (by omega)⟩
def Gk (f:Nat -> Int × Int) (n j:Nat):Prop:=j < n /\ (∀ i,i < n -> Hd (f i) (f j) = false) /\ ∀ m,m < j -> f m ≠ f j
theorem nt {Pr:Nat -> Prop}:∀ (b:Nat),Pr b -> ∃ j,j <= b /\ Pr j /\ ∀ m,m < j -> ¬ Pr m:=fun b=>by
 induction b using Nat.strongRecOn with
 | ind b ih =>
  intro hb
  by_cases z:∃ m,m < b /\ Pr m
  ·obtain ⟨m,h1,h2⟩ := z
   obtain ⟨j,j1,j2,j3⟩ := ih m h1 h2
   exact ⟨j,by omega,j2,j3⟩
  ·exact ⟨b,Nat.le_refl _,hb,fun m hm hp=>z ⟨m,hm,hp⟩⟩
theorem Gk.of {f:Nat -> Int × Int} {n j:Nat} (hn:0 < n) (hj:j <= Dg ((List.range n).map fun i=>wd (f i))) (e:f j = f (Dg ((List.range n).map fun i=>wd (f i)))) (h:∀ m,m < j -> ¬ f m = f (Dg ((List.range n).map fun i=>wd (f i)))):Gk f n j:=by
 obtain ⟨b1,b2⟩ := Zl (f:=f) hn
 refine ⟨by omega,fun i hi=>by rw [e]; exact b2 i hi,fun m hm=>by rw [e]; exact h m hm⟩
def Sy (H:Hp) (f:Nat -> Int × Int) (ys:List V):Prop := ∀ (i:Nat) (u:V),ys[i]? = some u -> ∃ p,u = .ref p /\ H p = some (.tup [.int (f i).1,.int (f i).2])
theorem Sy.snoc {H H':Hp} {f:Nat -> Int × Int} {ys:List V} {p:Addr} {n:Nat} (h:Sy H f ys) (t:An H H') (hn:ys.length = n) (e:H' p = some (.tup [.int (f n).1,.int (f n).2])):Sy H' f (ys ++ [.ref p]):=fun i u hu=>by
 rcases Nat.lt_or_ge i ys.length with y | y
 ·rw [List.getElem?_append_left y] at hu
  obtain ⟨p3,e1,e2⟩ := h i u hu
  exact ⟨p3,e1,t _ _ e2⟩
 ·rw [List.getElem?_append_right y] at hu
  have hi0:i - ys.length = 0:=by
   have:=(List.getElem?_eq_some_iff.mp hu).1
   rw [List.length_singleton] at this
   omega
  rw [hi0] at hu
  cases hu
  have ei:i = n:=by omega
  subst ei
  exact ⟨p,rfl,e⟩
theorem Sy.rp {H:Hp} {f:Nat -> Int × Int} {ys:List V} {n:Nat} (h:Sy H f ys) (hn:ys.length = n):aD H ((List.range n).map fun i=>wd (f i)) ys:=by
 refine Qy (by rw [List.length_map,List.length_range]; exact hn) fun i d u h1 h2=>?_
 obtain ⟨p3,e1,e2⟩ := h i u h2
 subst e1
 rw [List.getElem?_map] at h1
 obtain ⟨i',qK,rfl⟩ := Option.map_eq_some_iff.mp h1
 have RS:i < n:=by
  have:=(List.getElem?_eq_some_iff.mp h2).1
  omega
 rw [List.getElem?_range RS] at qK
 cases qK
 exact d5 e2
theorem Ue (f:Nat -> Int × Int) (n:Nat):∀ d ∈ (List.range n).map fun i=>wd (f i),∀ e ∈ (List.range n).map fun i=>wd (f i),Gf d e:=fun d hd e he=>by
 obtain ⟨i1,_,rfl⟩ := List.mem_map.mp hd
 obtain ⟨i2,_,rfl⟩ := List.mem_map.mp he
 exact i4 _ _
theorem V6 (f:Nat -> Int × Int) (n:Nat):∀ d ∈ (List.range n).map fun i=>wd (f i),d.depth <= 50:=fun d hd=>by
 obtain ⟨i1,_,rfl⟩ := List.mem_map.mp hd
 exact Qd _
theorem aq (f:Nat -> Int × Int) {n i:Nat} (h:i < n):((List.range n).map fun i=>wd (f i))[i]? = some (wd (f i)):=by
 rw [List.getElem?_map,List.getElem?_range h]
 rfl
theorem Ys {f:Nat -> Int × Int} {n i:Nat} {e:PyData} (h:((List.range n).map fun i=>wd (f i))[i]? = some e):e = wd (f i):=by
 rw [List.getElem?_map] at h
 obtain ⟨i',qK,rfl⟩ := Option.map_eq_some_iff.mp h
 have RS:i < n:=by
  have:=(List.getElem?_eq_some_iff.mp qK).1
  rwa [List.length_range] at this
 rw [List.getElem?_range RS] at qK
 cases qK
 rfl
theorem Ga {tv:List ((List Int × Int) × V)} {k:List Int × Int} {m:Int} (h:Af tv k = some (.int m)):told tv (some k) = (0,m):=by
 show N1 (Af tv k) = _
 rw [h]
 rfl
theorem Gv {ws:List Int} {cm:Option Int} {tv:List ((List Int × Int) × V)} (h:Ez ws cm tv) (o:Option (List Int × Int)):(o = none /\ told tv o = (0,0)) \/ (∃ k m,o = some k /\ Af tv k = some (.int m) /\ 1 <= m /\ told tv o = (0,m)) \/ told tv o = (1,0):=by
 cases o with
 | none=>exact .inl ⟨rfl,rfl⟩
 | some k =>
  cases hv:Af tv k with
  | none =>
   refine .inr (.inr ?_)
   show N1 (Af tv k) = _
   rw [hv]
   rfl
  | some v =>
   obtain ⟨m,e1,h1,_⟩ := h.1 k v hv
   subst e1
   exact .inr (.inl ⟨k,m,rfl,hv,h1,Ga hv⟩)
theorem Vd {ws : List Int} {cm : Option Int} {tv : List ((List Int × Int) × V)} {k : List Int × Int} {m : Int} {b : Nat} (h : Ez ws cm tv) (hv : Af tv k = some (.int m)) (hn : 0 < ws.length) (hb : b < ws.length)
  (cT:∀ j,j < ws.length -> Hd (Hv tv ws k.1 cm k.2 j) (Hv tv ws k.1 cm k.2 b) = false):Hv tv ws k.1 cm k.2 b = (0,m - 1):=by
 obtain ⟨m0,e0,h1,_,p1,p2⟩ := h.1 k _ hv
 cases e0
 have up:∀ j,j < ws.length -> (Hv tv ws k.1 cm k.2 j).1 = 0 /\ 0 <= (Hv tv ws k.1 cm k.2 j).2 /\ (Hv tv ws k.1 cm k.2 j).2 <= m - 1:=fun j hj=>by
  obtain ⟨w1,o,w2,w3⟩ := Ob (tv:=tv) (ws:=ws) (ls:=k.1) (cm:=cm) (q:=k.2) (who:=j)
  rw [w3] at w1 ⊢
  have key:∃ c:Int,Hd (told tv o) (0,c) = false /\ c <= m - 1:=by
   rcases p1 j hj with z | ⟨later,m',z1,z2,z3⟩
   ·exact ⟨0,w1 none z,by omega⟩
   ·have:=w1 _ z1
    rw [Ga z2] at this
    exact ⟨m',this,z3⟩
  obtain ⟨c,c1,c2⟩ := key
  unfold Hd at c1
  have c3:=of_decide_eq_false c1
  rcases Gv h o with ⟨_,e⟩ | ⟨_,m',_,_,e1,e⟩ | e
  ·rw [e]
   exact ⟨rfl,Int.le_refl _,by show (0:Int) <= m - 1; omega⟩
  ·rw [e] at c3 ⊢
   have c4:¬ ((0:Int) < 0 \/ ((0:Int) = 0 /\ c < m')):=c3
   exact ⟨rfl,by show (0:Int) <= m'; omega,by show m' <= m - 1; omega⟩
  ·rw [e] at c3
   have c4:¬ ((0:Int) < 1 \/ ((1:Int) = 0 /\ c < 0)):=c3
   omega
 have low:∃ j,j < ws.length /\ m - 1 <= (Hv tv ws k.1 cm k.2 j).2:=by
  rcases p2 with z | ⟨who,z1,z2,z3⟩
  ·exact ⟨0,hn,by have:=up 0 hn; omega⟩
  ·refine ⟨who,z1,?_⟩
   have u:=up who z1
   obtain ⟨_,o,w2,w3⟩ := Ob (tv:=tv) (ws:=ws) (ls:=k.1) (cm:=cm) (q:=k.2) (who:=who)
   rw [w3] at u ⊢
   rcases Gv h o with ⟨e0,e⟩ | ⟨l,m',e0,e2,e1,e⟩ | e
   ·rw [e0] at w2
    exact absurd w2 z2
   ·rw [e0] at w2
    have:=z3 l m' w2 e2
    rw [e]
    exact this
   ·rw [e] at u
    simp only at u
    omega
 obtain ⟨j,j1,j2⟩ := low
 have u:=up j j1
 have ub:=up b hb
 have g:=cT j j1
 unfold Hd at g
 have g':=of_decide_eq_false g
 refine Prod.ext ub.1 ?_
 show (Hv tv ws k.1 cm k.2 b).2 = m - 1
 omega
def fc (tv:List ((List Int × Int) × V)) (k:List Int × Int) (o:Option (List Int × Int)):Prop:=(Af tv k = none -> ∃ b,o = some b /\ Af tv b = none) /\ ∀ m:Int,Af tv k = some (.int m) -> (o = none -> m = 1) /\ ∀ (b:List Int × Int) (m':Int),o = some b -> Af tv b = some (.int m') -> m - 1 <= m'
theorem Yg {ws:List Int} {cm:Option Int} {tv:List ((List Int × Int) × V)} (h:Ez ws cm tv) {o:Option (List Int × Int)} (e:told tv o = (1,0)):∃ b,o = some b /\ Af tv b = none:=by
 cases o with
 | none=>cases e
 | some b =>
  refine ⟨b,rfl,?_⟩
  cases hv:Af tv b with
  | none=>rfl
  | some v =>
   obtain ⟨m,e1,_⟩ := h.1 b v hv
   subst e1
   rw [Ga hv] at e
   cases e
theorem bf {ws:List Int} {cm:Option Int} {tv:List ((List Int × Int) × V)} {k:List Int × Int} {j:Nat} {o:Option (List Int × Int)} (h:Ez ws cm tv) (hk:k ∈ B9 ws (qv cm)) (hn:0 < ws.length) (hb:Gk (fun i=>Hv tv ws k.1 cm k.2 i) ws.length j) (ho:o ∈ Ay ws k.1 cm k.2 j):fc tv k o:=by
 obtain ⟨w1,o1,w2,w3⟩ := Ob (tv:=tv) (ws:=ws) (ls:=k.1) (cm:=cm) (q:=k.2) (who:=j)
 have wo:=w1 o ho
 refine ⟨fun hv=>?_,fun m hv=>?_⟩
 ·obtain ⟨who,y1,y2,y3⟩ := h.2 k hk hv
  obtain ⟨v1,o2,v2,v3⟩ := Ob (tv:=tv) (ws:=ws) (ls:=k.1) (cm:=cm) (q:=k.2) (who:=who)
  have e2:told tv o2 = (1,0):=by
   cases o2 with
   | none=>exact absurd v2 y2
   | some b =>
    show N1 (Af tv b) = _
    rw [y3 b v2]
    rfl
  have cT:=hb.2.1 who y1
  simp only at cT
  rw [v3,e2] at cT
  refine Yg h ?_
  unfold Hd at cT wo
  have g1:=of_decide_eq_false cT
  have g2:=of_decide_eq_false wo
  rcases Gv h o with ⟨_,e⟩ | ⟨_,m',_,_,e1,e⟩ | e
  ·rw [e] at g2
   simp only at g1 g2
   omega
  ·rw [e] at g2
   simp only at g1 g2
   omega
  ·exact e
 ·obtain ⟨m0,e0,h1,_⟩ := h.1 k _ hv
  cases e0
  have hbr:=Vd h hv hn hb.1 hb.2.1
  rw [hbr] at wo
  unfold Hd at wo
  have g2:=of_decide_eq_false wo
  refine ⟨fun e=>?_,fun b m' e CB=>?_⟩
  ·subst e
   have e3:told tv none = (0,0):=rfl
   rw [e3] at g2
   have g3:¬ ((0:Int) < 0 \/ ((0:Int) = 0 /\ (0:Int) < m - 1)):=g2
   omega
  ·subst e
   rw [Ga CB] at g2
   have g3:¬ ((0:Int) < 0 \/ ((0:Int) = 0 /\ m' < m - 1)):=g2
   omega
theorem gw (a b:List Int × Int):PyData.eqv (dS a) (dS b) = decide (a = b):=by
 show (PyData.eqvAll (a.1.map PyData.int) (b.1.map PyData.int) && (PyData.eqv (.int a.2) (.int b.2) && true)) = _
 rw [Dj]
 have e:PyData.eqv (.int a.2) (.int b.2) = decide (a.2 = b.2):=by
  show (a.2 == b.2) = _
  rw [Bool.eq_iff_iff]
  simp
 rw [e,Bool.and_true,Bool.eq_iff_iff]
 simp [Prod.ext_iff]
def Wl (o:Option HO):Nat:=match o with
 | some (.lst vs)=>vs.length
 | _=>0
def N0 (o:Option HO):Nat:=match o with
 | some (.dT wv)=>wv.length
 | _=>0
theorem Zz {α:Type} {xs:List α} (h:0 < xs.length):∃ y,xs[xs.length - 1]? = some y:=⟨xs[xs.length - 1],List.getElem?_eq_getElem (by omega)⟩
theorem Ae.take {α:Type} {P:α -> V -> Prop} {rs:List α} {vs:List V} (h:Ae P rs vs) (n:Nat):Ae P (rs.take n) (vs.take n):=by
 refine ⟨by rw [List.length_take,List.length_take,h.1],fun i r v e1 e2=>?_⟩
 rcases Nat.lt_or_ge i n with z | z
 ·rw [List.getElem?_take_of_lt z] at e1 e2
  exact h.2 i r v e1 e2
 ·rw [List.getElem?_take_eq_none z] at e1
  cases e1
inductive ny (ws:List Int) (cm:Option Int) (tv:List ((List Int × Int) × V)):(List Int × Int) -> Prop
 | base:ny ws cm tv (ws,0)
 | step {k k':List Int × Int} {j:Nat}:ny ws cm tv k -> Gk (fun i=>Hv tv ws k.1 cm k.2 i) ws.length j -> some k' ∈ Ay ws k.1 cm k.2 j -> ny ws cm tv k'
def Sf (ws:List Int) (cm:Option Int) (tv:List ((List Int × Int) × V)) (k:List Int × Int):Prop:=k ∈ B9 ws (qv cm) /\ Af tv k = none /\ ny ws cm tv k
structure Ph (ws:List Int) (cm:Option Int) (tv cv:List ((List Int × Int) × V)) (E:List (List Int × Int)):Prop where
 nd:(cv.map (·.1)).Nodup
 sf:∀ k ∈ E,Sf ws cm tv k
 ent:∀ kv ∈ cv,Sf ws cm tv kv.1 /\ ∃ j:Nat,kv.2 = .int (j:Int) /\ Gk (fun i=>Hv tv ws kv.1.1 cm kv.1.2 i) ws.length j /\ ∀ o ∈ Ay ws kv.1.1 cm kv.1.2 j,∃ k',o = some k' /\ (k' ∈ cv.map (·.1) \/ k' ∈ E)
 NM:(ws,0) ∈ cv.map (·.1) \/ (ws,0) ∈ E
theorem Ph.len {ws:List Int} {cm:Option Int} {tv cv:List ((List Int × Int) × V)} {E:List (List Int × Int)} (h:Ph ws cm tv cv E) (aH:Fr ws cm):cv.length <= 300:=by
 have h1:=List.Nodup.length_le_of_subset h.nd (show cv.map (·.1) ⊆ B9 ws (qv cm) from fun k hk=>by
  obtain ⟨kv,aJ,rfl⟩ := List.mem_map.mp hk
  exact (h.ent kv aJ).1.1)
 have h2:=Iy (ws:=ws) (q:=qv cm) (fun w hw=>(aH.1 w hw).1) (by have:=aH.qv.1; omega)
 have h3:=aH.2.2.2.2
 rw [List.length_map] at h1
 omega
theorem Ph.start {ws:List Int} {cm:Option Int} {tv:List ((List Int × Int) × V)} (h:Sf ws cm tv (ws,0)):Ph ws cm tv [] [(ws,0)]:=⟨List.nodup_nil,fun k hk=>by cases List.mem_singleton.mp hk; exact h,(fun kv aJ=>by cases aJ),.inr (List.mem_singleton.mpr rfl)⟩
theorem Ph.skip {ws:List Int} {cm:Option Int} {tv cv:List ((List Int × Int) × V)} {E:List (List Int × Int)} {k:List Int × Int} (h:Ph ws cm tv cv (E ++ [k])) (hk:k ∈ cv.map (·.1)):Ph ws cm tv cv E:=by
 have key:∀ x,x ∈ cv.map (·.1) \/ x ∈ E ++ [k] -> x ∈ cv.map (·.1) \/ x ∈ E:=fun x hx=>by
  rcases hx with z | z
  ·exact .inl z
  ·rcases List.mem_append.mp z with y | y
   ·exact .inr y
   ·rw [List.mem_singleton.mp y]
    exact .inl hk
 refine ⟨h.nd,fun x hx=>h.sf x (List.mem_append_left _ hx),fun kv aJ=>?_,key _ h.NM⟩
 obtain ⟨h1,j,h2,h3,h4⟩ := h.ent kv aJ
 refine ⟨h1,j,h2,h3,fun o ho=>?_⟩
 obtain ⟨k',e,z⟩ := h4 o ho
 exact ⟨k',e,key _ z⟩
theorem Ph.put {ws:List Int} {cm:Option Int} {tv cv:List ((List Int × Int) × V)} {E Eb:List (List Int × Int)} {k:List Int × Int} {j:Nat} (h:Ph ws cm tv cv (E ++ [k])) (hk:Af cv k = none) (hb:Gk (fun i=>Hv tv ws k.1 cm k.2 i) ws.length j) (he:Ay ws k.1 cm k.2 j = Eb.map some) (hs:∀ x ∈ Eb,Sf ws cm tv x):Ph ws cm tv (Bl cv k (.int (j:Int))) (E ++ Eb):=by
 have ep:=Dk (kvs:=cv) (k:=k) (.int (j:Int)) hk
 have key:∀ x,x ∈ cv.map (·.1) \/ x ∈ E ++ [k] -> x ∈ (Bl cv k (.int (j:Int))).map (·.1) \/ x ∈ E ++ Eb:=fun x hx=>by
  rw [ep,List.map_append]
  rcases hx with z | z
  ·exact .inl (List.mem_append_left _ z)
  ·rcases List.mem_append.mp z with y | y
   ·exact .inr (List.mem_append_left _ y)
   ·rw [List.mem_singleton.mp y]
    exact .inl (List.mem_append_right _ (by simp))
 refine ⟨Zq _ h.nd hk,fun x hx=>?_,fun kv aJ=>?_,key _ h.NM⟩
 ·rcases List.mem_append.mp hx with y | y
  ·exact h.sf x (List.mem_append_left _ y)
  ·exact hs x y
 ·have FT:=aJ
  rw [ep] at FT
  rcases List.mem_append.mp FT with z | z
  ·obtain ⟨h1,i,h2,h3,h4⟩ := h.ent kv z
   refine ⟨h1,i,h2,h3,fun o ho=>?_⟩
   obtain ⟨k',e,y⟩ := h4 o ho
   exact ⟨k',e,key _ y⟩
  ·rw [List.mem_singleton.mp z]
   refine ⟨h.sf k (by simp),j,rfl,hb,fun o ho=>?_⟩
   rw [he] at ho
   obtain ⟨x,hx,rfl⟩ := List.mem_map.mp ho
   exact ⟨x,rfl,.inr (List.mem_append_right _ hx)⟩
def jb (ws:List Int) (cm:Option Int) (tv ps:List ((List Int × Int) × V)):Prop:=Ph ws cm tv ps [] /\ ps.Pairwise fun x y=>Jf (dS x.1) (dS y.1) = true
theorem Ph.perm {ws:List Int} {cm:Option Int} {tv cv ps:List ((List Int × Int) × V)} (h:Ph ws cm tv cv []) (hp:ps.Perm cv):Ph ws cm tv ps []:=by
 have hm:=hp.map (·.1)
 refine ⟨hm.nodup_iff.mpr h.nd,h.sf,fun kv aJ=>?_,?_⟩
 ·obtain ⟨h1,j,h2,h3,h4⟩ := h.ent kv (hp.mem_iff.mp aJ)
  refine ⟨h1,j,h2,h3,fun o ho=>?_⟩
  obtain ⟨k',e,z⟩ := h4 o ho
  exact ⟨k',e,z.imp (fun y=>hm.mem_iff.mpr y) id⟩
 ·exact h.NM.imp (fun y=>hm.mem_iff.mpr y) id
theorem ag {ws:List Int} {cm:Option Int} {tv:List ((List Int × Int) × V)} {k:List Int × Int} {j:Nat} (wJ:Ez ws cm tv) (aH:Fr ws cm) (h:Sf ws cm tv k) (hb:Gk (fun i=>Hv tv ws k.1 cm k.2 i) ws.length j):∃ Eb:List (List Int × Int),Ay ws k.1 cm k.2 j = Eb.map some /\ (∀ x ∈ Eb,Sf ws cm tv x) /\ Eb.length <= 2:=by
 have all:∀ o ∈ Ay ws k.1 cm k.2 j,∃ b,o = some b /\ Sf ws cm tv b:=fun o ho=>by
  obtain ⟨b,e,hv⟩ := (bf wJ h.1 aH.2.2.1 hb ho).1 h.2.1
  subst e
  obtain ⟨lost,hl,e2⟩ := f7.mp ho
  exact ⟨b,rfl,gp (fun w hw=>(aH.1 w hw).1) h.1 hb.1 hl e2,hv,.step h.2.2 hb ho⟩
 have key:∀ l:List (Option (List Int × Int)),(∀ o ∈ l,∃ b,o = some b /\ Sf ws cm tv b) -> ∃ Eb:List (List Int × Int),l = Eb.map some /\ (∀ x ∈ Eb,Sf ws cm tv x):=by
  intro l
  induction l with
  | nil=>exact fun _=>⟨[],rfl,fun x hx=>by cases hx⟩
  | cons o l ih =>
   intro hl
   obtain ⟨Eb,e1,e2⟩ := ih fun o ho=>hl o (List.mem_cons_of_mem _ ho)
   obtain ⟨b,e3,e4⟩ := hl o List.mem_cons_self
   refine ⟨b :: Eb,by rw [e3,e1]; rfl,fun x hx=>?_⟩
   rcases List.mem_cons.mp hx with y | y
   ·rw [y]
    exact e4
   ·exact e2 x y
 obtain ⟨Eb,e1,e2⟩ := key _ all
 refine ⟨Eb,e1,e2,?_⟩
 have hl:Eb.length = (Ay ws k.1 cm k.2 j).length:=by rw [e1,List.length_map]
 rw [hl]
 unfold Ay
 split <;> simp
theorem Xm {H:Hp} {Eb:List (List Int × Int)} {us:List V} (h:Ae (Ht H) (Eb.map some) us):Ae (Gd H) Eb us:=by
 refine ⟨by rw [h.1,List.length_map],fun i r v e1 e2=>?_⟩
 obtain ⟨b,e3,u,e4,e5⟩ := h.2 i (some r) v (by rw [List.getElem?_map,e1]; rfl) e2
 exact ⟨b,u,e3,e4,e5⟩
theorem Ek:∀ xs ys:List Int,aF (xs.map PyData.int) (ys.map PyData.int) = true -> aF (ys.map PyData.int) (xs.map PyData.int) = false
 | [],[],_=>rfl
 | [],y :: ys,h=>rfl
 | x :: xs,[],h=>by simp [aF] at h
 | x :: xs,y :: ys,h=>by
  have e:∀ a b:Int,PyData.eqv (.int a) (.int b) = decide (a = b):=fun a b=>by
   show (a == b) = _
   rw [Bool.eq_iff_iff]
   simp
  rw [List.map_cons,List.map_cons,aF,e] at h ⊢
  by_cases z:x = y
  ·subst z
   rw [if_pos (by simp)] at h ⊢
   exact Ek xs ys h
  ·rw [if_neg (by simp; exact z)] at h
   rw [if_neg (by simp; exact fun y=>z y.symm)]
   have h1:x < y:=of_decide_eq_true h
   exact decide_eq_false (by omega)
theorem R8 {a b:List Int × Int} (h:Jf (dS a) (dS b) = true):Jf (dS b) (dS a) = false:=by
 have h':aF [dT a.1,.int a.2] [dT b.1,.int b.2] = true:=h
 show aF [dT b.1,.int b.2] [dT a.1,.int a.2] = false
 rw [aF,Xf] at h' ⊢
 by_cases z:a.1 = b.1
 ·rw [if_pos (by simp [z])] at h' ⊢
  exact Ek [a.2] [b.2] h'
 ·rw [if_neg (by simp [z])] at h'
  rw [if_neg (by simp; exact fun y=>z y.symm)]
  exact Ek a.1 b.1 h'
theorem Nq {L:List (List Int × Int)} (hs:L.Pairwise fun a b=>Jf (dS a) (dS b) = true) {a b:List Int × Int} (ha:a ∈ L) (hb:b ∈ L):Jf (dS a) (dS b) = decide (L.idxOf a < L.idxOf b):=by
 have la:=List.idxOf_lt_length_of_mem ha
 have lb:=List.idxOf_lt_length_of_mem hb
 have ea:L[L.idxOf a] = a:=List.getElem_idxOf la
 have eb:L[L.idxOf b] = b:=List.getElem_idxOf lb
 have hp:=List.pairwise_iff_getElem.mp hs
 rcases Nat.lt_trichotomy (L.idxOf a) (L.idxOf b) with z | z | z
 ·have:=hp _ _ la lb z
  rw [ea,eb] at this
  rw [this,decide_eq_true z]
 ·have e : a = b := by
   rw [<- ea,<- eb]
   congr 1
  subst e
  rw [decide_eq_false (Nat.lt_irrefl _)]
  exact Ug a
 ·have:=hp _ _ lb la z
  rw [ea,eb] at this
  rw [R8 this,decide_eq_false (by omega)]
theorem Oi (j:Int):aF [PyData.int j] [PyData.int j] = false:=by
 rw [aF,if_pos (show PyData.eqv (.int j) (.int j) = true from PySem.SeqAt.eqv_refl _ rfl)]
 rfl
def Gy (kv:(List Int × Int) × V):PyData:=match kv.2 with
 | .int i=>.int i
 | _=>.none
theorem Tj {ws:List Int} {cm:Option Int} {tv cv:List ((List Int × Int) × V)} (h:Ph ws cm tv cv []):∀ a ∈ cv,∀ b ∈ cv,ai (Gj Gy a) (Gj Gy b) /\ Jf (Gj Gy a) (Gj Gy b) = decide ((B9 ws (qv cm)).idxOf a.1 < (B9 ws (qv cm)).idxOf b.1):=fun a ha b hb=>by
 obtain ⟨⟨a1,_⟩,i,ei,_⟩ := h.ent a ha
 obtain ⟨⟨b1,_⟩,j,ej,_⟩ := h.ent b hb
 have wa:Gy a = .int i:=by unfold Gy; rw [ei]
 have wb:Gy b = .int j:=by unfold Gy; rw [ej]
 have cs:∀ x y:List Int,bA (x.map PyData.int) (y.map PyData.int):=by
  intro x
  induction x with
  | nil=>intro y; unfold bA; trivial
  | cons u x ih =>
   intro y
   cases y with
   | nil=>unfold bA; trivial
   | cons v y=>exact ⟨trivial,ih y⟩
 refine ⟨?_,?_⟩
 ·show Lx [dS a.1,Gy a] [dS b.1,Gy b]
  rw [wa,wb]
  exact Ud ⟨⟨cs _ _,trivial,trivial⟩,trivial,trivial⟩
 ·show aF [dS a.1,Gy a] [dS b.1,Gy b] = _
  rw [aF,gw,wa,wb]
  by_cases z:a.1 = b.1
  ·rw [if_pos (by simp [z])]
   have e:a = b:=by
    obtain ⟨ka,va⟩ := a
    obtain ⟨kb,vb⟩ := b
    have z':ka = kb:=z
    subst z'
    have h1:=Cg h.nd ha
    have h2:=Cg h.nd hb
    rw [h1] at h2
    rw [Option.some.inj h2]
   subst e
   have eij:(i:Int) = j:=by
    rw [ei] at ej
    injection ej
   rw [eij,decide_eq_false (Nat.lt_irrefl _)]
   exact Oi j
  ·rw [if_neg (by simp [z])]
   exact Nq (Ew ws (qv cm)) a1 b1
theorem am {ws:List Int} {cm:Option Int} {tv cv ps:List ((List Int × Int) × V)} (h:Ph ws cm tv cv []) (hp:ps.Perm cv) (hs:ps.Pairwise fun x y=>(B9 ws (qv cm)).idxOf x.1 <= (B9 ws (qv cm)).idxOf y.1):jb ws cm tv ps:=by
 have h':=h.perm hp
 refine ⟨h',?_⟩
 have hn:=List.pairwise_map.mp h'.nd
 refine List.Pairwise.imp_of_mem (fun {x y} hx hy z=>?_) (hs.and hn)
 have wK:=(h'.ent x hx).1.1
 have hy1:=(h'.ent y hy).1.1
 rw [Nq (Ew ws (qv cm)) wK hy1]
 refine decide_eq_true (Nat.lt_of_le_of_ne z.1 fun e=>z.2 ?_)
 have lx:=List.idxOf_lt_length_of_mem wK
 have ly:=List.idxOf_lt_length_of_mem hy1
 rw [<- List.getElem_idxOf lx,<- List.getElem_idxOf ly]
 congr 1
theorem Ln {H:Hp}:∀ {ps:List ((List Int × Int) × V)} {us:List V},Paired (ms H) ps us -> Ae (ms H) ps us
 | _,_,.nil=>Ae.nil
 | _,_,.cons r t=>Ae.cons r (Ln t)
theorem oj {i:Nat} {v:V} {σ:L2.St} {H:Hp} {Q:L2.St -> Hp -> Prop} (h:Q (List.set σ i (some v)) H):Fn i v σ H Q:=h
theorem rg {c:TT} {tb u:TS} {D:Gp} {σ:L2.St} {H:Hp} (h:Pb c tb { D with nx:=u D } σ H):n8 (Pb c tb) u D σ H:=h
def O5 (ls:List Int) (j:Nat):Prop:=j < ls.length /\ (∀ k,k < ls.length -> ls.getD j 0 <= ls.getD k 0) /\ ∀ k,k < j -> ls.getD j 0 < ls.getD k 0
theorem Z9 {ls:List Int} {m:Int} {j:Nat} (hm:∀ a ∈ ls,m <= a) (h1:ls[j]? = some m) (h2:∀ k:Nat,k < j -> ls[k]? ≠ some m):O5 ls j:=by
 have hj:=(List.getElem?_eq_some_iff.mp h1).1
 have e:ls.getD j 0 = m:=by rw [List.getD_eq_getElem?_getD,h1]; rfl
 refine ⟨hj,fun k hk=>?_,fun k hk=>?_⟩
 ·rw [e]
  exact hm _ (Gc hk)
 ·rw [e]
  have a1:=hm _ (Gc (show k < ls.length by omega))
  have a2:ls.getD k 0 ≠ m:=fun z=>h2 k hk (by rw [Pn (by omega),z])
  omega
def Ix (H:Hp) (p:Addr) (ws:List Int) (calm:Option Int) (ls:List Int) (q:Int):Prop := ∃ a b,H p = some (.tup [.ref a,.ref b]) /\ Bd H a ws calm /\ Cu H b ls q
theorem Ix.same {H H':Hp} {p:Addr} {ws:List Int} {calm:Option Int} {ls:List Int} {q:Int} (s:Ab H H') (h:Ix H p ws calm ls q):Ix H' p ws calm ls q:=by
 obtain ⟨a,b,h1,h2,h3⟩ := h
 exact ⟨a,b,s _ _ h1,h2.same s,h3.same s⟩
def Bw (H H':Hp):Prop := ∀ b o,H b = some o -> (∀ C dx fs,o ≠ HO.ins C dx fs) -> H' b = some o
theorem Ab.aI {H H':Hp} (s:Ab H H'):Bw H H':=fun b o e _=>s b o e
theorem Bw.trans {H H1 H2:Hp} (a:Bw H H1) (b:Bw H1 H2):Bw H H2:=fun c o e n=>b c o (a c o e n) n
theorem Bw.ins {H:Hp} {x C dx:Addr} {fs gs:List (Str × V)} (h:H x = some (.ins C dx fs)):Bw H (upd H x (.ins C dx gs)):=fun b o e n=>by
 rw [Aa (fun z=>n C dx fs (by rw [z,h] at e; exact (Option.some.inj e).symm))]
 exact e
theorem Bw.new {H H':Hp} {p:Addr} {o:HO} (e:Bw H H') (h:H p = none):Bw H (upd H' p o):=fun b u q n=>by
 rw [Aa (Ad q h)]
 exact e b u q n
theorem Bw.lst {H H':Hp} {a:Addr} {xs:List V} (s:Bw H H') (h:H a = some (.lst xs)):H' a = some (.lst xs):=s _ _ h fun _ _ _=>HO.noConfusion
theorem Bw.tup {H H':Hp} {a:Addr} {xs:List V} (s:Bw H H') (h:H a = some (.tup xs)):H' a = some (.tup xs):=s _ _ h fun _ _ _=>HO.noConfusion
theorem Bd.aI {H H':Hp} {a:Addr} {ws:List Int} {calm:Option Int} (s:Bw H H') (h:Bd H a ws calm):Bd H' a ws calm:=by
 obtain ⟨t,h1,h2⟩ := h
 exact ⟨t,s.tup h1,s.tup h2⟩
theorem Cu.aI {H H':Hp} {a:Addr} {ls:List Int} {q:Int} (s:Bw H H') (h:Cu H a ls q):Cu H' a ls q:=by
 obtain ⟨t,h1,h2⟩ := h
 exact ⟨t,s.tup h1,s.tup h2⟩
theorem Ix.aI {H H':Hp} {p:Addr} {ws:List Int} {calm:Option Int} {ls:List Int} {q:Int} (s:Bw H H') (h:Ix H p ws calm ls q):Ix H' p ws calm ls q:=by
 obtain ⟨a,b,h1,h2,h3⟩ := h
 exact ⟨a,b,s.tup h1,h2.aI s,h3.aI s⟩
def Fi (r:Addr) (k:Nat):List (Str × V):=[("row",.ref r),("asked",.int k)]
theorem Yt (r:Addr) (v:V):Dz "asked" v [("row",.ref r)] = ([("row",.ref r),("asked",v)]:List (Str × V)):=by
 unfold Dz
 rw [if_neg (by decide)]
 rfl
theorem Vf (r:Addr) (k:Nat) (m:Int) (h:m = ((k + 1:Nat):Int)):Dz "asked" (.int m) (Fi r k) = Fi r (k + 1):=by
 subst h
 unfold Fi Dz
 rw [if_neg (by decide)]
 unfold Dz
 rw [if_pos rfl]
theorem d7 {bs:List Bool} {k:Nat} (h:k < bs.length):Xq (bs.map V.bl) (k:Int) = some (.bl (bs.getD k false)):=by
 refine Ol ?_
 rw [List.getElem?_map,List.getElem?_eq_getElem h,List.getD_eq_getElem?_getD,List.getElem?_eq_getElem h]
 rfl
theorem Dr {α:Type} {xs:List α} {i:Nat} {x:α} (h:xs[i]? = some x):xs.take (i + 1) = xs.take i ++ [x]:=by
 rw [List.take_add_one,h]
 rfl
def Fb (L:List Int) (i:Nat):List Int:=(List.range i).filterMap fun k=>if L.getD k 0 = 0 then some (k:Int) else none
theorem Ed (L:List Int) (i:Nat):Fb L (i + 1) = Fb L i ++ (if L.getD i 0 = 0 then [(i:Int)] else []):=by
 unfold Fb
 rw [List.range_succ,List.filterMap_append]
 congr 1
 by_cases h:L.getD i 0 = 0
 ·rw [if_pos h,List.filterMap_cons,List.filterMap_nil,if_pos h]
 ·rw [if_neg h,List.filterMap_cons,List.filterMap_nil,if_neg h]
theorem Gg (L:List Int):∀ i,(Fb L i).length <= i
 | 0=>Nat.le_refl _
 | i + 1=>by
  rw [Ed,List.length_append]
  have h:=Gg L i
  split <;> simp <;> omega
theorem Rx {L:List Int} {i:Nat} (hi:i <= L.length):Fb L i = [] ↔ (0:Int) ∉ L.take i:=by
 induction i with
 | zero=>simp [Fb]
 | succ i ih =>
  have e:L[i]? = some (L.getD i 0):=by
   rw [List.getD_eq_getElem?_getD,List.getElem?_eq_getElem (show i < L.length by omega)]
   rfl
  rw [Ed,Dr e,List.append_eq_nil_iff,ih (by omega)]
  by_cases h:L.getD i 0 = 0
  ·rw [if_pos h,h]
   simp
  ·have h':¬ (0 = L.getD i 0):=fun z=>h z.symm
   simp only [if_neg h,List.mem_append,List.mem_singleton,h',or_false,and_true]
abbrev PR:=(List Int × Int) × Nat × Bool
def Cv (tr:List Bool) (k:Nat) (cm:Option Int) (q:Int):Bool:=decide (k < tr.length) && tr.getD k false && (!decide (cm = none) && decide (q = 0))
theorem Ww (tr:List Bool) (k:Nat) (cm:Option Int) (q:Int):Cv tr k cm q = (decide (k < tr.length) && tr.getD k false && (!decide (cm = none) && decide (q = 0))):=rfl
theorem R0 {tr:List Bool} {k:Nat} {cm:Option Int} {q:Int}:Ku cm q (Cv tr k cm q):=by
 intro h
 unfold Cv at h
 simp only [Bool.and_eq_true,Bool.not_eq_true',decide_eq_false_iff_not,decide_eq_true_eq] at h
 exact ⟨h.2.1,h.2.2⟩
def I0 (H:Hp) (r:PR) (u:V):Prop := ∃ t s,u = .ref t /\ H t = some (.tup [.ref s,.int (r.2.1:Nat),.bl r.2.2]) /\ Cu H s r.1.1 r.1.2
def Ey (H H':Hp):Prop := ∀ b xs,H b = some (.tup xs) -> H' b = some (.tup xs)
theorem Ab.aQ {H H':Hp} (s:Ab H H'):Ey H H':=fun b xs e=>s b _ e
theorem Bw.aQ {H H':Hp} (s:Bw H H'):Ey H H':=fun b xs e=>s.tup e
theorem Ey.trans {H H1 H2:Hp} (a:Ey H H1) (b:Ey H1 H2):Ey H H2:=fun c xs e=>b c xs (a c xs e)
theorem Ey.lst {H:Hp} {D:Addr} {zs:List V} {o:HO} (h:H D = some (.lst zs)):Ey H (upd H D o):=fun b xs e=>by
 rw [Aa (fun z=>by rw [z,h] at e; cases e)]
 exact e
theorem Cu.aQ {H H':Hp} {a:Addr} {ls:List Int} {q:Int} (s:Ey H H') (h:Cu H a ls q):Cu H' a ls q:=by
 obtain ⟨t,h1,h2⟩ := h
 exact ⟨t,s _ _ h1,s _ _ h2⟩
theorem Bd.aQ {H H':Hp} {a:Addr} {ws:List Int} {calm:Option Int} (s:Ey H H') (h:Bd H a ws calm):Bd H' a ws calm:=by
 obtain ⟨t,h1,h2⟩ := h
 exact ⟨t,s _ _ h1,s _ _ h2⟩
theorem I0.aQ {H H':Hp} {r:PR} {u:V} (s:Ey H H') (h:I0 H r u):I0 H' r u:=by
 obtain ⟨t,x,e,h1,h2⟩ := h
 exact ⟨t,x,e,s _ _ h1,h2.aQ s⟩
theorem C8 {H H':Hp} {rs:List PR} {us:List V} (s:Ey H H') (h:Ae (I0 H) rs us):Ae (I0 H') rs us:=h.imp fun _ _=>I0.aQ s
def No (H:Hp) (q:(List Int × Int) × V) (u:V):Prop := ∃ t b,u = .ref t /\ H t = some (.tup [.ref b,q.2]) /\ Dx H b q.1
theorem Xn {H H':Hp} {b:Addr} {k:List Int × Int} (s:Ab H H') (h:Dx H b k):Dx H' b k:=h.up fun c xs e=>s c _ e
theorem Dx.of {H:Hp} {b:Addr} {ls:List Int} {q:Int} (h:Cu H b ls q):Dx H b (ls,q):=h
theorem No.same {H H':Hp} {q:(List Int × Int) × V} {u:V} (s:Ab H H') (h:No H q u):No H' q u:=by
 obtain ⟨t,b,e,h1,h2⟩ := h
 exact ⟨t,b,e,s _ _ h1,Xn s h2⟩
def mf (kvs:List ((List Int × Int) × V)) (k:List Int × Int) (v:V):Prop:=Af kvs k = some v \/ (Af kvs k = none /\ ∃ j:Nat,v = .int j /\ O5 k.1 j)
theorem Bw.dT {H H':Hp} {d:Addr} {kvs:List ((List Int × Int) × V)} (s:Bw H H') (h:H d = some (.dT kvs)):H' d = some (.dT kvs):=s _ _ h fun _ _ _=>HO.noConfusion
theorem Yu {kvs:List ((List Int × Int) × V)} {k:List Int × Int} {v:V} (h:Af kvs k = some v):k ∈ kvs.map (·.1):=by
 unfold Af at h
 obtain ⟨p,hp,_⟩ := Option.map_eq_some_iff.mp h
 have h1:=List.find?_some hp
 have h2:=List.mem_of_find?_eq_some hp
 have h3:p.1 = k:=by simpa using h1
 rw [<- h3]
 exact List.mem_map_of_mem h2
theorem Nk:∀ (qs kvs:List ((List Int × Int) × V)),((kvs ++ qs).map (·.1)).Nodup -> D6 kvs qs = kvs ++ qs
 | [],kvs,_=>(List.append_nil _).symm
 | p :: qs,kvs,h=>by
  have dY:p.1 ∉ kvs.map (·.1):=fun z=>by
   rw [List.map_append,List.map_cons] at h
   exact (List.nodup_append.mp h).2.2 _ z _ List.mem_cons_self rfl
  have hv:Af kvs p.1 = none:=by
   cases e:Af kvs p.1 with
   | none=>rfl
   | some v=>exact absurd (Yu e) dY
  show D6 (Bl kvs p.1 p.2) qs = _
  rw [Dk p.2 hv,Nk qs _ (by rw [List.append_assoc]; exact h),List.append_assoc]
  rfl
theorem Wj {xs:List V} {n:Nat}:Mh xs (some (n:Int)) none = xs.drop n:=by
 unfold Mh
 rw [HT.kH,HT.iK]
 rcases Nat.le_total n xs.length with z | z
 ·rw [Nat.min_eq_left z,List.take_of_length_le (by rw [List.length_drop]; omega)]
 ·rw [Nat.min_eq_right z,List.drop_of_length_le (Nat.le_refl _),List.drop_of_length_le z,List.take_nil]
theorem Ur (bs:List Bool) (b:Bool):bs.map V.bl ++ [V.bl b] = (bs ++ [b]).map V.bl:=by rw [List.map_append]; rfl
theorem K2 {H:Hp} {x dx C:Addr} (hx:H x = none) (RU:H dx = none):Ab H (upd (upd H dx (.own x)) x (.ins C dx [])):=fun b o e=>by
 rw [Aa (Ad e hx),Aa (Ad e RU)]
 exact e
theorem Uq {H H':Hp} {x dx C:Addr} (hx:H x = none) (RU:H dx = none) (h:∀ b o,b ≠ x -> (upd (upd H dx (.own x)) x (.ins C dx [])) b = some o -> H' b = some o):Ab H H':=fun b o e=>h b o (Ad e hx) (K2 hx RU b o e)
def Ge (r:PR):PyData := .tuple [.tuple [dT r.1.1,.int r.1.2],.int (r.2.1:Nat),.bool r.2.2]
theorem Yb {H:Hp} {t:Addr} {x y z:V} {d e f:PyData} (h:H t = some (.tup [x,y,z])) (h1:Rp H d x) (h2:Rp H e y) (h3:Rp H f z):Rp H (.tuple [d,e,f]) (.ref t):=by
 unfold Rp
 refine ⟨t,_,rfl,h,?_⟩
 unfold aD
 refine ⟨_,_,rfl,h1,?_⟩
 unfold aD
 refine ⟨_,_,rfl,h2,?_⟩
 unfold aD
 refine ⟨_,_,rfl,h3,?_⟩
 unfold aD
 rfl
theorem Sz {H:Hp} {r:PR} {u:V} (h:I0 H r u):Rp H (Ge r) u:=by
 obtain ⟨t,s,rfl,h1,x,h2,h3⟩ := h
 exact Yb h1 (Xl h2 (cz h3) (by unfold Rp; rfl)) (by unfold Rp; rfl) (by unfold Rp; rfl)
theorem Kd {H:Hp}:∀ {rs:List PR} {us:List V},Ae (I0 H) rs us -> aD H (rs.map Ge) us
 | [],us,h=>by
  have e:us = []:=List.length_eq_zero_iff.mp h.1
  rw [e]
  unfold aD
  rfl
 | r :: rs,us,h=>by
  cases us with
  | nil=>exact absurd h.1 (by simp)
  | cons u us =>
   show aD H (Ge r :: rs.map Ge) (u :: us)
   unfold aD
   exact ⟨u,us,rfl,Sz (h.2 0 r u rfl rfl),Kd ⟨by have:=h.1; simpa using this,fun i r' v e1 e2=>h.2 (i + 1) r' v e1 e2⟩⟩
theorem Zn {H:Hp} {l:Addr} {rs:List PR} {us:List V} (h:H l = some (.lst us)) (g:Ae (I0 H) rs us):Rp H (.list (rs.map Ge)) (.ref l):=by
 unfold Rp
 exact ⟨l,us,rfl,h,Kd g⟩
theorem Lb (r:PR):(Ge r).depth <= 3:=by
 show max (PyData.depth (.tuple [dT r.1.1,.int r.1.2])) (max 0 (max 0 0)) + 1 <= 3
 have e:(PyData.tuple [dT r.1.1,.int r.1.2]).depth = 2:=by
  show (dP (dT r.1.1) (.int r.1.2)).depth = 2
  rw [Qp,Yz]
  rfl
 rw [e]
 decide
theorem Gm:∀ rs:List PR,PyData.depthAll (rs.map Ge) <= 3
 | []=>Nat.zero_le _
 | r :: rs=>by
  have h1:=Lb r
  have h2:=Gm rs
  show max (Ge r).depth (PyData.depthAll (rs.map Ge)) <= 3
  omega
theorem S5 (rs:List PR):(PyData.list (rs.map Ge)).depth <= 4:=by
 have:=Gm rs
 show PyData.depthAll (rs.map Ge) + 1 <= 4
 omega
theorem Xt {α:Type} {H:Hp} {P:α -> V -> Prop} {d:α -> PyData} (hd:∀ r v,P r v -> Rp H (d r) v):∀ {rs:List α} {us:List V},Ae P rs us -> aD H (rs.map d) us
 | [],us,h=>by
  have:us = []:=List.length_eq_zero_iff.mp h.1
  rw [this]
  unfold aD
  rfl
 | r :: rs,[],h=>by have:=h.1; simp at this
 | r :: rs,u :: us,h=>by
  show aD H (d r :: rs.map d) (u :: us)
  unfold aD
  refine ⟨u,us,rfl,hd r u (h.2 0 r u rfl rfl),Xt hd ⟨by simpa using h.1,fun i r' v' e1 e2=>h.2 (i + 1) r' v' (by simpa using e1) (by simpa using e2)⟩⟩
theorem ie {H:Hp} {p:Addr} {us:List V} {ds:List PyData} (e:H p = some (.lst us)) (h:aD H ds us):Rp H (.list ds) (.ref p):=by
 unfold Rp
 exact ⟨p,us,rfl,e,h⟩
theorem Jl {n:Nat}:∀ {ds:List PyData},(∀ d ∈ ds,d.depth <= n) -> PyData.depthAll ds <= n
 | [],_=>by simp [PyData.depthAll]
 | d :: ds,h=>by
  have h1:=h d List.mem_cons_self
  have h2:=Jl fun x hx=>h x (List.mem_cons_of_mem d hx)
  simp only [PyData.depthAll]
  omega
def F5 (ws:List Int) (cm:Option Int) (rs:List PR):List Int × Int:=rs.foldl (fun st r=>(Bu ws st.1 r.2.1 r.2.2,D3 cm st.2 r.2.2)) (ws,0)
theorem Hk {ws:List Int} {cm:Option Int} {rs:List PR} {r:PR}:F5 ws cm (rs ++ [r]) = (Bu ws (F5 ws cm rs).1 r.2.1 r.2.2,D3 cm (F5 ws cm rs).2 r.2.2):=by
 unfold F5
 rw [List.foldl_append]
 rfl
def O6 (ws:List Int) (cm:Option Int) (kvs:List ((List Int × Int) × V)) (lo:Nat -> Int -> Bool) (rs:List PR):Prop := ∀ i r,rs[i]? = some r -> r.1 = F5 ws cm (rs.take i) /\ Af kvs r.1 = some (.int (r.2.1:Nat)) /\ r.2.2 = lo i r.1.2
theorem O6.nil {ws:List Int} {cm:Option Int} {kvs:List ((List Int × Int) × V)} {lo:Nat -> Int -> Bool}:O6 ws cm kvs lo []:=fun i r h=>by simp at h
theorem O6.snoc {ws:List Int} {cm:Option Int} {kvs:List ((List Int × Int) × V)} {lo:Nat -> Int -> Bool} {rs:List PR} {j:Nat} {lost:Bool} (h:O6 ws cm kvs lo rs) (hv:Af kvs (F5 ws cm rs) = some (.int (j:Nat))) (hl:lost = lo rs.length (F5 ws cm rs).2):O6 ws cm kvs lo (rs ++ [(F5 ws cm rs,j,lost)]):=fun i r e=>by
 rcases Nat.lt_or_ge i rs.length with z | z
 ·rw [List.getElem?_append_left z] at e
  rw [List.take_append_of_le_length (by omega)]
  exact h i r e
 ·rw [List.getElem?_append_right z] at e
  have hi:i - rs.length = 0:=by
   rcases Nat.eq_zero_or_pos (i - rs.length) with y | y
   ·exact y
   ·rw [List.getElem?_eq_none (show 1 <= i - rs.length from y)] at e
    cases e
  rw [hi] at e
  have e':r = (F5 ws cm rs,j,lost):=(Option.some.inj e).symm
  have qK:i = rs.length:=by omega
  subst qK
  rw [e',List.take_left' rfl]
  exact ⟨rfl,hv,hl⟩
def Ss (ws:List Int) (cm:Option Int) (kvs:List ((List Int × Int) × V)):Prop:=(Af kvs (ws,0)).isSome = true /\ ∀ st v,Af kvs st = some v -> st.1.length = ws.length /\ (∀ x ∈ st.1,1 <= x) /\ ∃ j:Nat,v = .int (j:Nat) /\ j < ws.length /\ ∀ lost,Ku cm st.2 lost -> (0:Int) ∉ Bu ws st.1 j lost /\ (Af kvs (Bu ws st.1 j lost,D3 cm st.2 lost)).isSome = true
theorem Xd {ws:List Int} {cm:Option Int} {tv ps:List ((List Int × Int) × V)} (h:jb ws cm tv ps):Ss ws cm ps:=by
 have qL:∀ k,k ∈ ps.map (·.1) -> (Af ps k).isSome = true:=fun k hk=>by
  cases e:Af ps k with
  | some v=>rfl
  | none=>exact absurd hk (Hc e)
 refine ⟨qL _ (h.1.NM.resolve_right fun y=>by cases y),fun st v hv=>?_⟩
 obtain ⟨kv,aJ,e⟩ := List.mem_map.mp (Ul hv)
 subst e
 have h2:=Cg h.1.nd (show (kv.1,kv.2) ∈ ps from aJ)
 rw [h2] at hv
 have ev:=Option.some.inj hv
 obtain ⟨⟨gW,_,_⟩,j,ej,hb,hc⟩ := h.1.ent kv aJ
 obtain ⟨g1,g2,g3,g4⟩ := Iv gW
 refine ⟨g1,fun x hx=>?_,j,by rw [<- ev]; exact ej,hb.1,fun lost hm=>?_⟩
 ·obtain ⟨i,hi,e⟩ := List.getElem_of_mem hx
  have h3:=(g2 i (by omega)).1
  rw [List.getD_eq_getElem?_getD,List.getElem?_eq_getElem hi,e] at h3
  exact h3
 ·have bL : E4 ws kv.1.1 cm kv.1.2 j lost ∈ Ay ws kv.1.1 cm kv.1.2 j := by
   unfold Ay
   cases lost with
   | false=>exact List.mem_cons_self
   | true =>
    have hz:L9 cm kv.1.2 = true:=by
     obtain ⟨z1,z2⟩ := hm rfl
     unfold L9
     simp [z1,z2]
    rw [if_pos hz]
    simp
  obtain ⟨k',e1,z⟩ := hc _ bL
  obtain ⟨a1,a2⟩ := Rh e1
  refine ⟨a1,?_⟩
  rw [<- a2]
  exact qL _ (z.resolve_right fun y=>by cases y)
theorem W7 {tr:List Bool} {k i:Nat} {cm:Option Int} {q:Int}:Cv (tr.drop k) i cm q = Cv tr (k + i) cm q:=by
 have h1:decide (i < (tr.drop k).length) = decide (k + i < tr.length):=by
  rw [List.length_drop]
  by_cases z:k + i < tr.length
  ·rw [decide_eq_true z,decide_eq_true (by omega)]
  ·rw [decide_eq_false z,decide_eq_false (by omega)]
 unfold Cv
 rw [h1,List.getD_eq_getElem?_getD,List.getElem?_drop,<- List.getD_eq_getElem?_getD]
def Qr:Option Nat -> V
 | none=>.aL
 | some j=>.int (j:Nat)
def ky:Option Nat -> PyData
 | none=>.none
 | some j=>.int (j:Nat)
theorem cu {H:Hp}:∀ rc:List (Option Nat),aD H (rc.map ky) (rc.map Qr)
 | []=>by unfold aD; rfl
 | o :: rc=>by
  show aD H (ky o :: rc.map ky) (Qr o :: rc.map Qr)
  unfold aD
  refine ⟨_,_,rfl,?_,cu rc⟩
  cases o with
  | none=>exact Sx
  | some j=>exact J2 _
def Uj (ws:List Int) (cm:Option Int) (rs:List PR) (i:Nat) (lim:List Int) (ct:Int) (rc:List (Option Nat)):Prop:=F5 ws cm (rs.take i) = (lim.map (fun x=>x - (i:Int)),max 0 (ct - (i:Int))) /\ lim.length = ws.length /\ rc.length = i /\ ∀ k,k < ws.length -> lim.getD k 0 = ws.getD k 0 \/ ∃ m:Nat,lim.getD k 0 = ws.getD k 0 + (m:Int) + 1 /\ rc[m]? = some (some k)
theorem Uj.start {ws:List Int} {cm:Option Int} {rs:List PR}:Uj ws cm rs 0 ws 0 []:=by
 refine ⟨?_,rfl,rfl,fun k _=>.inl rfl⟩
 show (ws,(0:Int)) = (ws.map (fun x=>x - ((0:Nat):Int)),max 0 (0 - ((0:Nat):Int)))
 have e:(fun x:Int=>x - ((0:Nat):Int)) = id:=by
  funext x
  show x - 0 = x
  omega
 rw [e,List.map_id]
 rfl
theorem U8 {rc:List (Option Nat)} {m:Nat} {x y:Option Nat} (h:rc[m]? = some x):(rc ++ [y])[m]? = some x:=by
 rw [List.getElem?_append_left (List.getElem?_eq_some_iff.mp h).1]
 exact h
theorem Uj.lost {ws:List Int} {cm:Option Int} {rs:List PR} {i:Nat} {lim:List Int} {ct c:Int} {rc:List (Option Nat)} {r:PR} (h:Uj ws cm rs i lim ct rc) (hr:rs[i]? = some r) (hl:r.2.2 = true) (hc:cm = some c) (RV:1 <= c):Uj ws cm rs (i + 1) lim ((i:Int) + 1 + c) (rc ++ [none]):=by
 obtain ⟨h1,h2,h3,h4⟩ := h
 refine ⟨?_,h2,by rw [List.length_append,List.length_singleton,h3],fun k hk=>?_⟩
 ·rw [Dr hr,Hk,h1,hl,hc]
  refine Prod.ext ?_ ?_
  ·show (lim.map (fun x=>x - (i:Int))).map (fun x=>x - 1) = lim.map (fun x=>x - ((i + 1:Nat):Int))
   rw [List.map_map]
   refine List.map_congr_left fun x _=>?_
   show x - (i:Int) - 1 = x - ((i + 1:Nat):Int)
   omega
  ·show c = max 0 ((i:Int) + 1 + c - ((i + 1:Nat):Int))
   omega
 ·exact (h4 k hk).imp id fun ⟨m,a,b⟩=>⟨m,a,U8 b⟩
theorem Uj.FU {ws:List Int} {cm:Option Int} {rs:List PR} {i:Nat} {lim:List Int} {ct:Int} {rc:List (Option Nat)} {r:PR} (h:Uj ws cm rs i lim ct rc) (hr:rs[i]? = some r) (hl:r.2.2 = false) (hw:r.2.1 < ws.length):Uj ws cm rs (i + 1) (lim.set r.2.1 ((i:Int) + 1 + ws.getD r.2.1 0)) ct (rc ++ [some r.2.1]):=by
 obtain ⟨h1,h2,h3,h4⟩ := h
 refine ⟨?_,by rw [List.length_set,h2],by rw [List.length_append,List.length_singleton,h3],fun k hk=>?_⟩
 ·rw [Dr hr,Hk,h1,hl]
  refine Prod.ext ?_ ?_
  ·show ((lim.map (fun x=>x - (i:Int))).map (fun x=>x - 1)).set r.2.1 (ws.getD r.2.1 0) = (lim.set r.2.1 ((i:Int) + 1 + ws.getD r.2.1 0)).map (fun x=>x - ((i + 1:Nat):Int))
   rw [List.map_map,List.map_set]
   congr 1
   ·refine List.map_congr_left fun x _=>?_
    show x - (i:Int) - 1 = x - ((i + 1:Nat):Int)
    omega
   ·omega
  ·show max (max 0 (ct - (i:Int)) - 1) 0 = max 0 (ct - ((i + 1:Nat):Int))
   omega
 ·by_cases z:k = r.2.1
  ·subst z
   refine .inr ⟨i,?_,?_⟩
   ·rw [List.getD_eq_getElem?_getD,List.getElem?_set_self (by omega)]
    show (i:Int) + 1 + ws.getD r.2.1 0 = ws.getD r.2.1 0 + (i:Int) + 1
    omega
   ·rw [List.getElem?_append_right (by omega),h3,Nat.sub_self]
    rfl
  ·have e : (lim.set r.2.1 ((i : Int) + 1 + ws.getD r.2.1 0)).getD k 0 = lim.getD k 0 := by
    rw [List.getD_eq_getElem?_getD,List.getElem?_set_ne (fun y=>z y.symm),<- List.getD_eq_getElem?_getD]
   rw [e]
   exact (h4 k hk).imp id fun ⟨m,a,b⟩=>⟨m,a,U8 b⟩
theorem Uj.check {ws:List Int} {cm:Option Int} {rs:List PR} {n:Nat} {lim:List Int} {ct:Int} {rc:List (Option Nat)} (h:Uj ws cm rs n lim ct rc) (hp:∀ x ∈ (F5 ws cm (rs.take n)).1,1 <= x) {k:Nat} (hk:k < ws.length) (hw:ws.getD k 0 <= (n:Int)):some k ∈ rc.drop ((n:Int) - ws.getD k 0).toNat:=by
 obtain ⟨h1,h2,h3,h4⟩ := h
 rw [h1] at hp
 have hx:=hp (lim.getD k 0 - (n:Int)) (List.mem_map.mpr ⟨lim.getD k 0,List.mem_of_getElem? (i:=k) (by rw [List.getD_eq_getElem?_getD,List.getElem?_eq_getElem (by omega)]; rfl),rfl⟩)
 rcases h4 k hk with e | ⟨m,e,hm⟩
 ·omega
 ·refine List.mem_of_getElem? (i:=m - ((n:Int) - ws.getD k 0).toNat) ?_
  rw [List.getElem?_drop,show ((n:Int) - ws.getD k 0).toNat + (m - ((n:Int) - ws.getD k 0).toNat) = m by omega]
  exact hm
theorem ig {rc:List (Option Nat)} {k:Nat} (h:some k ∈ rc):((rc.map ky).any fun e=>PyData.eqv e (.int (k:Nat))) = true:=by
 rw [List.any_eq_true]
 exact ⟨.int (k:Nat),List.mem_map.mpr ⟨some k,h,rfl⟩,PySem.SeqAt.eqv_refl _ rfl⟩
def Zc (ws:List Int):Prop:=0 < ws.length /\ ws.length <= 3 /\ (∀ x ∈ ws,1 <= x /\ x <= 128) /\ Bc 1 ws <= 128
theorem mw {x:Int} (h:1 <= x /\ x <= 128):Zc [x]:=⟨by simp,by simp,(fun y hy=>by cases List.mem_singleton.mp hy; exact h),by show 1 * x <= 128; omega⟩
theorem gi {x y a b:Int} (h1:1 <= x /\ x <= a) (h2:1 <= y /\ y <= b) (ha:a <= 128) (hb:b <= 128) (h:a * b <= 128):Zc [x,y]:=by
 refine ⟨by simp,by simp,fun z hz=>?_,?_⟩
 ·have:z = x \/ z = y:=by simpa using hz
  rcases this with e | e <;> subst e <;> omega
 ·show 1 * x * y <= 128
  have:=Int.mul_le_mul h1.2 h2.2 (by omega) (by omega)
  rw [Int.one_mul]
  omega
theorem Xw {x y z a b c:Int} (h1:1 <= x /\ x <= a) (h2:1 <= y /\ y <= b) (h3:1 <= z /\ z <= c) (ha:a <= 128) (hb:b <= 128) (hc:c <= 128) (h:a * b * c <= 128):Zc [x,y,z]:=by
 refine ⟨by simp,by simp,fun u hu=>?_,?_⟩
 ·have:u = x \/ u = y \/ u = z:=by simpa using hu
  rcases this with e | e | e <;> subst e <;> omega
 ·show 1 * x * y * z <= 128
  have e1:=Int.mul_le_mul h1.2 h2.2 (by omega) (by omega)
  have e2:=Int.mul_le_mul e1 h3.2 (by omega) (Int.mul_nonneg (by omega) (by omega))
  rw [Int.one_mul]
  omega
theorem Lp (ws:List Int) (w:Int):Bc 1 (ws ++ [w]) = Bc 1 ws * w:=by
 unfold Bc
 rw [List.foldl_append]
 rfl
theorem Tf {room P w:Int} (hr:0 <= room) (hP:1 <= P) (hw:1 <= w) (h:room * P <= 128):room / w * (P * w) <= 128:=by
 have h1:room / w * w <= room:=Int.ediv_mul_le room (by omega)
 have h2:=Int.mul_le_mul_of_nonneg_right h1 (show 0 <= P by omega)
 have e:room / w * (P * w) = room / w * w * P:=by rw [Int.mul_comm P w,Int.mul_assoc]
 omega
theorem Zc.hall {ws:List Int} (h:Zc ws):Fr ws none /\ ∀ c room:Int,1 <= c -> c + 1 <= room -> room <= 128 -> room * Bc 1 ws <= 128 -> Fr ws (some c):=by
 obtain ⟨h1,h2,h3,h4⟩ := h
 refine ⟨⟨fun w hw=>by have:=h3 w hw; omega,(fun c e=>by cases e),h1,by omega,?_⟩,fun c room hc hr uB hp=>⟨fun w hw=>by have:=h3 w hw; omega,(fun d e=>by cases e; omega),h1,by omega,?_⟩⟩
 ·show Bc 1 ws <= 300
  omega
 ·show Bc (c + 1) ws <= 300
  have e:=Pg (c + 1) ws 1
  rw [Int.mul_one] at e
  rw [e]
  rcases Int.le_total 0 (Bc 1 ws) with z | z
  ·have:=Int.mul_le_mul_of_nonneg_right hr z
   omega
  ·have:=Int.mul_nonpos_of_nonneg_of_nonpos (show 0 <= c + 1 by omega) z
   omega
theorem a9 {tr:List Bool} {i:Nat} {cm:Option Int} {q:Int} (h:¬ (i:Int) + 1 <= (tr.length:Int)):Cv tr i cm q = false:=by
 unfold Cv
 rw [decide_eq_false (show ¬ i < tr.length by omega)]
 rfl
theorem bp {tr:List Bool} {i:Nat} {cm:Option Int} {q:Int} (h:i < tr.length):Cv tr i cm q = (tr.getD i false && (!decide (cm = none) && decide (q = 0))):=by
 unfold Cv
 rw [decide_eq_true h]
 rfl
theorem O3 {cm:Option Int}:decide (vO cm = V.aL) = decide (cm = none):=by
 cases cm with
 | none=>rfl
 | some c=>rw [decide_eq_false (by intro z; cases z),decide_eq_false (by intro z; cases z)]
def Cz (x y:Addr) (H:Hp) (rs:List PR) (u:V):Prop := ∃ l us,u = .ref l /\ l ≠ x /\ l ≠ y /\ H l = some (.lst us) /\ Ae (I0 H) rs us
theorem Cz.aI {x y:Addr} {H H':Hp} {rs:List PR} {u:V} (s:Bw H H') (h:Cz x y H rs u):Cz x y H' rs u:=by
 obtain ⟨l,us,e,h1,h2,h3,h4⟩ := h
 exact ⟨l,us,e,h1,h2,s.lst h3,C8 s.aQ h4⟩
theorem Cz.put {x y z:Addr} {H:Hp} {rs:List PR} {u:V} {ls:List V} {o:HO} (hz:H z = some (.lst ls)) (e:z = x \/ z = y) (h:Cz x y H rs u):Cz x y (upd H z o) rs u:=by
 obtain ⟨l,us,e',h1,h2,h3,h4⟩ := h
 have hn:l ≠ z:=by
  rcases e with rfl | rfl
  ·exact h1
  ·exact h2
 exact ⟨l,us,e',h1,h2,(Aa hn).trans h3,C8 (Ey.lst hz) h4⟩
theorem Uc {x y p:Addr} {H:Hp} {lT:List (List PR)} {us:List V} (e:H p = some (.lst us)) (h:Ae (Cz x y H) lT us):Rp H (.list (lT.map fun rs=>PyData.list (rs.map Ge))) (.ref p):=by
 refine ie e (Xt (fun rs v hv=>?_) h)
 obtain ⟨l,us,rfl,_,_,h3,h4⟩ := hv
 exact Zn h3 h4
def uu (D:Addr) (H H':Hp):Prop := ∀ b ob,b ≠ D -> H b = some ob -> H' b = some ob
def mr (D c:Addr) (H H':Hp):Prop := ∀ b ob,b ≠ D -> b ≠ c -> H b = some ob -> H' b = some ob
def iz (ws:List Int) (cm:Option Int) (H:Hp) (kvs:List ((List Int × Int) × V)) (i:Nat) (H':Hp) (wv:List ((List Int × Int) × V)):Prop := ∀ k who later,(∃ v,(k,v) ∈ kvs.take i) -> Al H kvs k who -> some later ∈ Ay ws k.1 cm k.2 who -> Ck H' wv later k who
def kq (ws:List Int) (cm:Option Int) (cs:List (Dh × V)) (j:Nat) (kk:List Int × Int) (H':Hp) (wv:List ((List Int × Int) × V)):Prop := ∀ who later,(∃ e ∈ cs.take j,e.1 = .inl ((who:Nat):Int)) -> some later ∈ Ay ws kk.1 cm kk.2 who -> Ck H' wv later kk who
def Zd (kvs:List ((List Int × Int) × V)) (H' H:Hp):Prop := ∀ k who,Al H' kvs k who -> Al H kvs k who
def gk (ws:List Int) (cm:Option Int) (kvs:List ((List Int × Int) × V)) (bB:List (List Int × Int)) (i:Nat) (H H':Hp):Prop := ∀ k who,Al H kvs k who -> (∀ later ∈ bB.take i,some later ∉ Ay ws k.1 cm k.2 who) -> Al H' kvs k who
def dn (ws:List Int) (cm:Option Int) (kvs:List ((List Int × Int) × V)) (bB:List (List Int × Int)) (i:Nat) (H':Hp):Prop := ∀ later ∈ bB.take i,∀ k who,some later ∈ Ay ws k.1 cm k.2 who -> ¬ Al H' kvs k who
def mi (kvs:List ((List Int × Int) × V)) (H H':Hp) (beta:List (List Int × Int)):Prop := ∀ k,k ∈ beta ↔ ((∃ who,Al H kvs k who) /\ ∀ who,¬ Al H' kvs k who)
def uw (H7:Hp) (gN:List V) (j:Nat) (H8:Hp) (kvs:List ((List Int × Int) × V)):Prop := ∀ t b who k,V.ref t ∈ gN.take j -> H7 t = some (.tup [.ref b,.int ((who:Nat):Int)]) -> Dx H7 b k -> ¬ Al H8 kvs k who
def ui (T:Addr) (kvs:List ((List Int × Int) × V)) (H4 H':Hp):Prop := ∀ b ob,b ≠ T -> H4 b = some ob -> (∀ kv ∈ kvs,kv.2 ≠ .ref b) -> H' b = some ob
theorem Oc:As [V.bl false] [Value.bool false] := .cons rfl .nil
theorem Te:As [V.bl false] [Value.bool false] := .cons rfl .nil
theorem pj {us:List Value} (h:us.length = 0):us = []:=List.length_eq_zero_iff.mp h
theorem Id {us:List Value} (h:us.length = 1):∃ a0,us = [a0]:=by
 cases us with
 | nil=>cases h
 | cons a us =>
  obtain rfl:=pj (Nat.succ.inj h)
  exact ⟨a,rfl⟩
theorem Rr {us:List Value} (h:us.length = 2):∃ a0 a1,us = [a0,a1]:=by
 cases us with
 | nil=>cases h
 | cons a us =>
  obtain ⟨a1,rfl⟩ := Id (Nat.succ.inj h)
  exact ⟨a,a1,rfl⟩
theorem Rk {us:List Value} (h:us.length = 3):∃ a0 a1 a2,us = [a0,a1,a2]:=by
 cases us with
 | nil=>cases h
 | cons a us =>
  obtain ⟨a1,a2,rfl⟩ := Rr (Nat.succ.inj h)
  exact ⟨a,a1,a2,rfl⟩
theorem Qn {us:List Value} (h:us.length = 4):∃ a0 a1 a2 a3,us = [a0,a1,a2,a3]:=by
 cases us with
 | nil=>cases h
 | cons a us =>
  obtain ⟨a1,a2,a3,rfl⟩ := Rk (Nat.succ.inj h)
  exact ⟨a,a1,a2,a3,rfl⟩
section
variable {P:Program} {w:World} {K:PySem.W.Frag} {mg:Str -> Option Value} {base:Heap} {ad:rk} {aA aB:Addr}
def Ow (K:PySem.W.Frag):Sp:=fun vs H Q _=>Wg fun (a:Addr) (ws:List Int) (cm:Option Int)=>Ze (vs = [.ref a]) (Bd H a ws cm) (∀ (p:Addr) (H':Hp),Ab H H' -> Cu H' p ws 0 -> Q (.ref p) H')
theorem gh {fd  : FuncData} (T:Txt K mg ad aA aB) (F:Fk K "beginning" "beginning" O0 ad.bU fd):Ai P w K mg base Bm 1 ad.bU fd ["hall"] (Ow K):=by
 refine F.ok jc (fun vs H Q E h=>?_) (fun aP A outer s H vs Q E hr h=>?_)
 ·rcases h with ⟨a,ws,cm,rfl,⟨t,ha,ht⟩,q⟩ <;> rfl
 ·obtain ⟨a,ws,cm,rfl,⟨t,ha,ht⟩,q⟩ := h
  refine ⟨_,(Ac (Ar (Cw (A0 (B0 (Az K) (pv 0) A9 (fun _ _=>rfl)) (A0 A9 A8))))),?_⟩
  refine ⟨_,rfl,a,_,_,_,rfl,rfl,.inr (C0.of ha),rfl,?_⟩
  exact ⟨Bn,fun p hp=>q p _ (Ab.upd hp) ⟨t,A5,Ab.upd hp _ _ ht⟩⟩
def Kj (K:PySem.W.Frag):Sp:=fun vs H Q _=>jl fun (a b:Addr) (ws ls:List Int) (calm:Option Int) (q:Int)=>Jm (vs = [.ref a,.ref b]) (Bd H a ws calm) (Cu H b ls q) (Q (.bl (!decide (calm = none) && decide (q = 0))) H)
theorem ii {fd  : FuncData} (T:Txt K mg ad aA aB) (F:Fk K "may_lose" "may_lose" O1 ad.bO fd):Ai P w K mg base Bm 1 ad.bO fd ["hall","standing"] (Kj K):=by
 refine F.ok ft (fun vs H Q E h=>?_) (fun aP A outer s H vs Q E hr h=>?_)
 ·rcases h with ⟨a,b,ws,ls,calm,n,rfl,⟨t,ha,_⟩,⟨u,hb,_⟩,q⟩ <;> rfl
 ·obtain ⟨a,b,ws,ls,calm,n,rfl,⟨t,ha,_⟩,⟨u,hb,_⟩,q⟩ := h
  refine ⟨_,(Ac (Ar (K3 (D4 U7 (B0 (Az K) (pv 0) A9 (fun _ _=>rfl)) Ee (Ba _)) (Pe (D4 Fm (B0 (Az K) (pv 1) A9 (fun _ _=>rfl)) A9 (Ba _)))))),?_⟩
  refine ⟨_,rfl,a,_,_,_,rfl,rfl,.inr (C0.of ha),rfl,rfl,_,decide (V.int n = V.int 0),rfl,fun _ Q' z=>⟨_,rfl,b,_,_,_,rfl,rfl,.inr (C0.of hb),rfl,rfl,z⟩,?_⟩
  have e2:decide (V.int n = V.int 0) = decide (n = 0):=by simp
  rw [ee,e2]
  exact q
def Rv (K:PySem.W.Frag):Sp:=fun vs H Q _=>df fun (a:Addr) (ws:List Int) (calm:Option Int) (who:Int)=>Ze (vs = [.ref a,.int who]) (Bd H a ws calm) (Q (.bl (decide (0 <= who /\ who < ws.length))) H)
theorem dy {fd  : FuncData} (T:Txt K mg ad aA aB) (F:Fk K "is_listener" "is_listener" N6 ad.cC fd):Ai P w K mg base Bm 1 ad.cC fd ["hall","who"] (Rv K):=by
 refine F.ok ix (fun vs H Q E h=>?_) (fun aP A outer s H vs Q E hr h=>?_)
 ·rcases h with ⟨a,ws,calm,who,rfl,⟨t,dR,dD⟩,q⟩ <;> rfl
 ·obtain ⟨a,ws,calm,who,rfl,⟨t,dR,dD⟩,q⟩ := h
  refine ⟨_,(Ac (Ar (K3 (D4 cq (pv 1) A9 (Ba _)) (Pe (D4 Pu (pv 1) (Bi (Cd K) (by rfl) T.bZ PySem.boot_len (A0 (B0 (Az K) (pv 0) A9 (fun _ _=>rfl)) A8)) (Ba _)))))),?_⟩
  refine ⟨_,rfl,_,_,rfl,rfl,_,decide (who < (ws.length:Int)),rfl,fun _ Q' z=>⟨_,rfl,_,rfl,a,_,_,_,rfl,rfl,.inr (C0.of dR),rfl,t,_,rfl,.inr (C0.of dD),_,_,rfl,rfl,?_⟩,?_⟩
  ·rw [List.length_map]
   exact z
  ·rw [show (decide (who >= 0) && decide (who < (ws.length:Int))) = decide (0 <= who /\ who < (ws.length:Int)) by rw [Bool.decide_and]]
   exact q
def Yl (K:PySem.W.Frag):Sp:=fun vs H Q _=>c8 fun (a b:Addr) (ws ls:List Int) (calm:Option Int) (q:Int) (who:Nat) (lost:Bool)=>Lu (vs = [.ref a,.ref b,.int who,.bl lost]) (Bd H a ws calm) (Cu H b ls q) (who < ws.length) (Ku calm q lost) (Q .aL H)
theorem n9 {fd nD cA:FuncData} (T:Txt K mg ad aA aB) (F:Fk K "refuse_wrong_turn" "refuse_wrong_turn" Wo ad.fZ fd) (nF:Ai P w K mg base Bm 1 ad.cC nD ["hall","who"] (Rv K)) (nG:Av K nD ["hall","who"] []) (dE:Ai P w K mg base Bm 1 ad.bO cA ["hall","standing"] (Kj K)) (dG:Av K cA ["hall","standing"] []):Ai P w K mg base Bm 2 ad.fZ fd ["hall","standing","who","lost"] (Yl K):=by
 refine F.ok l5 (fun vs H Q E h=>?_) (fun aP A outer s H vs Q E hr h=>?_)
 ·rcases h with ⟨a,b,ws,ls,calm,n,who,lost,rfl,ha,hb,hw,hm,q⟩ <;> rfl
 ·obtain ⟨a,b,ws,ls,calm,n,who,lost,rfl,ha,hb,hw,hm,q⟩ := h
  refine ⟨_,(A6 (Db (Fc (Dt (Am nF (hr.mono (by decide)) rfl T.EU T.k_x10 nG .nil Be (A0 (pv 0) (A0 (pv 2) A8))))) (Ac K5) Ax) (Ac (Db (PW.pt (V1 (Dt (pv 3)) (Pk (Fc (Dt (Am dE (hr.mono (by decide)) rfl T.mT T.k_x22 dG .nil Be (A0 (pv 0) (A0 (pv 1) A8)))))))) (Ac K5) Ax))),?_⟩
  obtain ⟨t,dR,dD⟩ := id ha
  refine ⟨_,rfl,_,rfl,a,ws,calm,(who:Int),rfl,ha,_,rfl,E2 ?_ ?_⟩
  ·rw [decide_eq_true (show (0:Int) <= (who:Int) /\ (who:Int) < (ws.length:Int) by omega)]
   rfl
  refine ⟨_,rfl,_,rfl,!(!decide (calm = none) && decide (n = 0)),fun _ Q' z=>⟨_,rfl,_,rfl,a,b,ws,ls,calm,n,rfl,ha,hb,_,rfl,z⟩,E2 ?_ q⟩
  cases lost with
  | false=>rfl
  | true =>
   obtain ⟨h1,h2⟩ := hm rfl
   simp [h1,h2]
def Of (K:PySem.W.Frag):Sp:=fun vs H Q _=>c8 fun (a b:Addr) (ws ls:List Int) (calm:Option Int) (q:Int) (who:Nat) (lost:Bool)=>Z4 (vs = [.ref a,.ref b,.int who,.bl lost]) (Bd H a ws calm) (Cu H b ls q) (who < ws.length) (ls.length = ws.length) (ws.length <= 8) (Ku calm q lost) (∀ (l:Addr) (H':Hp),H l = none -> Ab H H' -> H' l = some (.lst ((Bu ws ls who lost).map V.int)) -> Q (.ref l) H')
theorem j6 {fd uC:FuncData} (T:Txt K mg ad aA aB) (F:Fk K "left_behind" "left_behind" Kr ad.bV fd) (wL:Ai P w K mg base Bm 2 ad.fZ uC ["hall","standing","who","lost"] (Yl K)) (wM:Av K uC ["hall","standing","who","lost"] []):Ai P w K mg base Bm 3 ad.bV fd ["hall","standing","who","lost"] (Of K):=by
 refine F.ok Ye (fun vs H Q E h=>?_) (fun aP A outer s H vs Q E hr h=>?_)
 ·rcases h with ⟨a,b,ws,ls,calm,n,who,lost,rfl,ha,hb,hw,hl,h8,hm,q⟩ <;> rfl
 ·obtain ⟨a,b,ws,ls,calm,n,who,lost,rfl,ha,hb,hw,hl,h8,hm,q⟩ := h
  refine ⟨_,(A6 (Cb (Am wL (hr.mono (by decide)) rfl T.RE T.k_x2 wM .nil Be (A0 (pv 0) (A0 (pv 1) (A0 (pv 2) (A0 (pv 3) A8)))))) (A6 (Fa (i:=4) Ye.nd rfl (D9 (w':=Pl K _) (Da (B0 (Az K) (pv 1) A9 (fun _ _=>rfl)))) _ rfl J1 rfl rfl (fun _ _ _ _=>(Aw (i:=0) Ig rfl (Or.inl rfl))) (fun _ _ _ _=>E8) (fun _ _ _ _=>(Au Gz (pv 0) A9)) rfl rfl) (A6 (Dd (Fc (Dt (pv 3))) (Ac (Y8 (B0 (Az K) (B0 (Az K) (pv 0) A9 (fun _ _=>rfl)) (pv 2) (fun _ _=>rfl)) (Y6 (pv 4) (pv 2) Qk))) Ax) (Ac (Ar (pv 4)))))),?_⟩
  obtain ⟨t,dR,dD⟩ := id ha
  obtain ⟨u,lE,nH⟩ := id hb
  refine ⟨_,rfl,_,rfl,_,rfl,_,rfl,a,b,ws,ls,calm,n,who,lost,rfl,ha,hb,hw,hm,?_⟩
  refine ⟨_,rfl,b,_,_,_,rfl,rfl,.inr (C0.of lE),rfl,u,rfl,.inr ⟨⟨_,C0.of nH⟩,fun D hD=>?_⟩⟩
  refine Yq (K:=K) (a:=u) (xs:=ls.map V.int) (fun i ys H'=>ys = ((ls.take i).map (fun x=>x - 1)).map V.int /\ H' D = some (.lst ys) /\ Ab H H') ⟨rfl,A5,Ab.upd hD⟩ (by rintro i ys H' _ ⟨_,_,s⟩; exact C0.of (s _ _ nH)) ?_ ?_
  ·rintro i x ys H' hx ⟨rfl,lF,s'⟩ Qe hQ
   rw [List.getElem?_map] at hx
   obtain ⟨y,hy,rfl⟩ := Option.map_eq_some_iff.mp hx
   have hi:=(List.getElem?_eq_some_iff.mp hy).1
   refine ⟨_,rfl,_,_,rfl,rfl,hQ _ _ lF (B8 (by simp; omega)) ⟨?_,A5,s'.new hD⟩⟩
   rw [List.take_add_one,hy]
   simp
  rintro ys H2 ⟨rfl,rT,s2⟩
  rw [List.length_map,List.take_length] at rT
  refine ⟨_,rfl,_,rfl,(fun σ' H'=>σ' = [some (.ref a),some (.ref b),some (.int (who:Nat)),some (.bl lost),some (.ref D)] /\ Ab H H' /\ H' D = some (.lst ((Bu ws ls who lost).map V.int))),fun e=>?_,fun e=>?_,?_⟩
  ·have e':lost = false:=by simpa using e
   subst e'
   refine ⟨_,rfl,a,_,_,_,rfl,rfl,.inr (C0.of (s2 _ _ dR)),rfl,_,rfl,t,_,_,_,rfl,rfl,.inr (C0.of (s2 _ _ dD)),Pc hw,?_⟩
   refine ⟨_,rfl,_,rfl,D,_,_,_,rfl,rfl,rT,Ua (by simp; omega),rfl,s2.new hD,?_⟩
   rw [A5]
   unfold Bu
   simp
  ·have e':lost = true:=by simpa using e
   subst e'
   exact ⟨rfl,s2,rT⟩
  ·rintro σ' H' ⟨rfl,s3,e3⟩
   exact ⟨_,rfl,q D H' hD s3 e3⟩
def Xg (K:PySem.W.Frag):Sp:=fun vs H Q _=>pf fun (a b:Addr) (ws ls:List Int) (calm:Option Int) (q:Int) (lost:Bool)=>Ip (vs = [.ref a,.ref b,.bl lost]) (Bd H a ws calm) (Cu H b ls q) (Ku calm q lost) (Q (.int (D3 calm q lost)) H)
theorem md {fd  : FuncData} (T:Txt K mg ad aA aB) (F:Fk K "quiet_behind" "quiet_behind" W2 ad.gA fd):Ai P w K mg base Bm 1 ad.gA fd ["hall","standing","lost"] (Xg K):=by
 refine F.ok js (fun vs H Q E h=>?_) (fun aP A outer s H vs Q E hr h=>?_)
 ·rcases h with ⟨a,b,ws,ls,calm,n,lost,rfl,⟨t,ha,_⟩,⟨u,hb,_⟩,hm,q⟩ <;> rfl
 ·obtain ⟨a,b,ws,ls,calm,n,lost,rfl,⟨t,ha,_⟩,⟨u,hb,_⟩,hm,q⟩ := h
  refine ⟨_,(A6 (Db (Dt (pv 2)) (Ac (Ar (B0 (Az K) (pv 0) A9 (fun _ _=>rfl)))) Ax) (Ac (Ar (Bi (N9 rfl) (by rfl) T.mX boot_max (A0 (Au Gz (B0 (Az K) (pv 1) A9 (fun _ _=>rfl)) A9) (A0 A9 A8)))))),?_⟩
  refine ⟨_,rfl,_,rfl,?_⟩
  cases lost with
  | true =>
   refine Pw rfl ?_
   refine ⟨_,rfl,a,_,_,_,rfl,rfl,.inr (C0.of ha),rfl,?_⟩
   cases calm with
   | none=>exact absurd rfl (hm rfl).1
   | some c=>exact q
  | false =>
   refine E2 rfl ?_
   refine ⟨_,rfl,b,_,_,_,rfl,rfl,.inr (C0.of hb),rfl,_,_,rfl,rfl,_,_,rfl,?_⟩
   have e:(if (0:Int) > n - 1 then (0:Int) else n - 1) = D3 calm n false:=by
    unfold D3
    rw [if_neg Bool.false_ne_true]
    omega
   show Q (.int (if (0:Int) > n - 1 then (0:Int) else n - 1)) H
   rw [e]
   exact q
def On (K:PySem.W.Frag):Sp:=fun vs H Q _=>c8 fun (a b:Addr) (ws ls:List Int) (calm:Option Int) (q:Int) (who:Nat) (lost:Bool)=>Vy (vs = [.ref a,.ref b,.int who,.bl lost]) (Bd H a ws calm) (Cu H b ls q) (who < ws.length) (ls.length = ws.length) (ws.length <= 8) (Ku calm q lost) (((0:Int) ∈ Bu ws ls who lost -> ∀ H',Ab H H' -> Q .aL H')) (((0:Int) ∉ Bu ws ls who lost -> ∀ (p:Addr) (H':Hp),Ab H H' -> Cu H' p (Bu ws ls who lost) (D3 calm q lost) -> Q (.ref p) H'))
theorem ip {fd fL uD:FuncData} (T:Txt K mg ad aA aB) (F:Vq K "after" "after" Fg ad.bP fd) (gO:Ai P w K mg base Bm 3 ad.bV fL ["hall","standing","who","lost"] (Of K)) (gP:Av K fL ["hall","standing","who","lost"] []) (wN:Ai P w K mg base Bm 1 ad.gA uD ["hall","standing","lost"] (Xg K)) (wO:Av K uD ["hall","standing","lost"] []):Ai P w K mg base Bm 4 ad.bP fd ["hall","standing","who","lost"] (On K):=by
 refine F.ok Z7 (fun vs H Q E h=>?_) (fun aP A outer s H vs Q E hr h=>?_)
 ·rcases h with ⟨a,b,ws,ls,calm,n,who,lost,rfl,ha,hb,hw,hl,h8,hm,q1,q2⟩ <;> rfl
 ·obtain ⟨a,b,ws,ls,calm,n,who,lost,rfl,ha,hb,hw,hl,h8,hm,q1,q2⟩ := h
  refine ⟨_,(A6 (Ah (i:=4) Z7.nd rfl (Or.inl rfl) (Am gO (hr.mono (by decide)) rfl T.tW T.k_x11 gP .nil Be (A0 (pv 0) (A0 (pv 1) (A0 (pv 2) (A0 (pv 3) A8)))))) (A6 (Db (Bg (j5 K) A9 (pv 4) rfl) (Ac (Ar Ee)) Ax) (Ac (Ar (Cw (A0 (Ct (Gb K) (by rfl) T.dB boot_tuple (A0 (pv 4) A8)) (A0 (Am wN (hr.mono (by decide)) rfl T.RF T.k_x7 wO .nil Be (A0 (pv 0) (A0 (pv 1) (A0 (pv 3) A8)))) A8))))))),?_⟩
  refine ⟨_,rfl,_,rfl,_,rfl,_,rfl,a,b,ws,ls,calm,n,who,lost,rfl,ha,hb,hw,hl,h8,hm,fun l H1 uE s1 rS=>?_⟩
  refine ⟨_,rfl,l,_,rfl,.inl (B6.of rS),rfl,Mo _,_,rfl,?_⟩
  rw [Q6]
  refine Ly (fun h0=>?_) (fun h0=>?_)
  ·exact q1 (by simpa using h0) H1 s1
  ·refine ⟨_,rfl,l,_,rfl,.inl ⟨B6.of rS,fun t ht=>?_⟩⟩
   have s2:Ab H (upd H1 t (.tup ((Bu ws ls who lost).map V.int))):=s1.new (s1.free ht)
   refine ⟨_,rfl,_,rfl,_,rfl,a,b,ws,ls,calm,n,lost,rfl,ha.same s2,hb.same s2,hm,Bn,fun p hp=>?_⟩
   refine q2 (by simpa using h0) p _ (s2.new (s2.free hp)) ⟨t,A5,?_⟩
   rw [Aa (fun e=>by rw [<- e,A5] at hp; cases hp),A5]
def Le (K:PySem.W.Frag):Sp:=fun vs H Q _=>c8 fun (a b:Addr) (ws ls:List Int) (cm:Option Int) (q w:Int) (who:Nat)=>Z4 (vs = [.ref a,.ref b,.int w]) (w = (who:Int)) (Bd H a ws cm) (Cu H b ls q) (who < ws.length) (ls.length = ws.length) (ws.length <= 8) (∀ (l:Addr) (us:List V) (H':Hp),H l = none -> Ab H H' -> H' l = some (.lst us) -> Ae (Ht H') (Ay ws ls cm q who) us -> Q (.ref l) H')
theorem gd {fd cA cW:FuncData} (T:Txt K mg ad aA aB) (F:Fk K "all_behind" "all_behind" Nt ad.bQ fd) (dE:Ai P w K mg base Bm 1 ad.bO cA ["hall","standing"] (Kj K)) (dG:Av K cA ["hall","standing"] []) (fM:Ai P w K mg base Bm 4 ad.bP cW ["hall","standing","who","lost"] (On K)) (gQ:Av K cW ["hall","standing","who","lost"] []) (bJ:Av K cW ["hall","standing","who","lost"] [Value.bool false]):Ai P w K mg base Bm 5 ad.bQ fd ["hall","standing","who"] (Le K):=by
 refine F.ok Xo (fun vs H Q E h=>?_) (fun aP A outer s H vs Q E hr h=>?_)
 ·rcases h with ⟨a,b,ws,ls,cm,n,w0,who,rfl,rfl,ha,hb,hw,hl,h8,q⟩ <;> rfl
 ·obtain ⟨a,b,ws,ls,cm,n,w0,who,rfl,rfl,ha,hb,hw,hl,h8,q⟩ := h
  refine ⟨_,(A6 (Ah (i:=3) Xo.nd rfl (Or.inl rfl) (Ca (A0 (Zj (Am fM (hr.mono (by decide)) rfl T.mU T.k_x27 bJ (Oc) Be (A0 (pv 0) (A0 (pv 1) (A0 (pv 2) A8))))) A8))) (A6 (Dd (Dt (Am dE (hr.mono (by decide)) rfl T.mT T.k_x22 dG .nil Be (A0 (pv 0) (A0 (pv 1) A8)))) (Ac (Cb (Dm (u':=Qx K _ _ _ _) (Dq PySem.F.plainAttrs_list PySem.F.slot_list_append PySem.F.type_list_append Cc (pv 3) (A0 (Zj (Am fM (hr.mono (by decide)) rfl T.mU T.k_x27 gQ .nil Be (A0 (pv 0) (A0 (pv 1) (A0 (pv 2) (A0 Jc A8)))))) A8))))) Ax) (Ac (Ar (pv 3))))),?_⟩
  refine ⟨(fun v H9=>Ht H9 (E4 ws ls cm n who false) v /\ Ab H H9),⟨_,rfl,_,rfl,_,rfl,a,b,ws,ls,cm,n,who,false,rfl,ha,hb,hw,hl,h8,(fun z=>nomatch z),(fun hz H2 s2=>⟨by unfold E4; rw [if_pos hz]; rfl,s2⟩),fun hz p H2 s2 bS=>⟨by unfold E4; rw [if_neg hz]; exact ⟨p,rfl,bS⟩,s2⟩⟩,?_⟩
  rintro v H1 ⟨hv,s1⟩
  refine ⟨Bn,fun L hL=>?_⟩
  have s2:Ab H1 (upd H1 L (.lst [v])):=Ab.upd hL
  have e2:(upd H1 L (.lst [v])) L = some (.lst [v]):=A5
  generalize upd H1 L (.lst [v]) = H2 at s2 e2 ⊢
  have eJ:=s1.trans s2
  refine ⟨_,rfl,_,rfl,a,b,ws,ls,cm,n,rfl,ha.same eJ,hb.same eJ,_,rfl,(fun σ' H'=>∃ (us:List V),Jm (σ' = [some (.ref a),some (.ref b),some (.int who),some (.ref L)]) (H' L = some (.lst us)) (Ae (Ht H') (Ay ws ls cm n who) us) (Ab H H')),fun hm=>?_,fun hm=>?_,?_⟩
  ·have fX:L9 cm n = true:=hm
   have lG:Ku cm n true:=fun _=>by
    unfold L9 at fX
    simp only [Bool.and_eq_true,Bool.not_eq_true',decide_eq_false_iff_not,decide_eq_true_eq] at fX
    exact fX
   refine ⟨_,rfl,.inl ⟨rfl,_,B6.of e2⟩,(fun v H9=>Ht H9 (E4 ws ls cm n who true) v /\ Ab H2 H9),⟨_,rfl,_,rfl,_,rfl,a,b,ws,ls,cm,n,who,true,rfl,ha.same eJ,hb.same eJ,hw,hl,h8,lG,(fun hz H2 s2=>⟨by unfold E4; rw [if_pos hz]; rfl,s2⟩),fun hz p H2 s2 bS=>⟨by unfold E4; rw [if_neg hz]; exact ⟨p,rfl,bS⟩,s2⟩⟩,?_⟩
   rintro v2 H3 ⟨wH,s3⟩
   have e3:=s3 _ _ e2
   have tt:An H3 (upd H3 L (.lst ([v] ++ [v2]))):=An.lst e3
   refine ⟨L,_,_,rfl,rfl,e3,B8 (by simp),[v] ++ [v2],rfl,A5,?_,(eJ.trans s3).new (s1.free hL)⟩
   unfold Ay
   rw [if_pos fX]
   exact Ae.cons (hv.up (((An.of s2).trans (An.of s3)).trans tt)) (Ae.one (wH.up tt))
  ·have fX : ¬ L9 cm n = true := by
    rw [show L9 cm n = false from hm]
    exact Bool.false_ne_true
   refine ⟨[v],rfl,e2,?_,eJ⟩
   unfold Ay
   rw [if_neg fX]
   exact Ae.one (hv.up (An.of s2))
  rintro σ' H' ⟨us,rfl,eL,hall,s'⟩
  exact ⟨_,rfl,q L us H' (s1.free hL) s' eL hall⟩
def Tx (K:PySem.W.Frag):Sp:=fun vs H Q _=>c8 fun (a b:Addr) (ws ls:List Int) (calm:Option Int) (q:Int) (who:Nat) (lost:Bool)=>Z4 (vs = [.ref a,.ref b,.int who,.bl lost]) (Bd H a ws calm) (Cu H b ls q) (who < ws.length) (ls.length = ws.length) (ws.length <= 8) (Ku calm q lost) (∀ (l:Addr) (H':Hp),H l = none -> Ab H H' -> H' l = some (.lst ((Fb (Bu ws ls who lost) ws.length).map V.int)) -> Q (.ref l) H')
theorem jh {fd fL:FuncData} (T:Txt K mg ad aA aB) (F:Vq K "broken_ones" "broken_ones" El ad.bW fd) (gO:Ai P w K mg base Bm 3 ad.bV fL ["hall","standing","who","lost"] (Of K)) (gP:Av K fL ["hall","standing","who","lost"] []):Ai P w K mg base Bm 4 ad.bW fd ["hall","standing","who","lost"] (Tx K):=by
 refine F.ok X2 (fun vs H Q E h=>?_) (fun aP A outer s H vs Q E hr h=>?_)
 ·rcases h with ⟨a,b,ws,ls,calm,n,who,lost,rfl,ha,hb,hw,hl,h8,hm,q⟩ <;> rfl
 ·obtain ⟨a,b,ws,ls,calm,n,who,lost,rfl,ha,hb,hw,hl,h8,hm,q⟩ := h
  refine ⟨_,(A6 (Ah (i:=4) X2.nd rfl (Or.inl rfl) (Am gO (hr.mono (by decide)) rfl T.tW T.k_x11 gP .nil Be (A0 (pv 0) (A0 (pv 1) (A0 (pv 2) (A0 (pv 3) A8)))))) (Ac (Ar (Fy (Xk (by rfl) T.iT (A0 (pv 4) A8)) _ rfl Iz rfl rfl (fun _ _ _ _=>(Ib K (n:=2) rfl (Cy (Aw (i:=0) Ep rfl (Or.inl rfl)) (Cy (Aw (i:=1) Ep rfl (Or.inl rfl)) Hh)))) (fun _ _ _ _=>(V7 (Bg Fm (pv 1) A9 (Ba _)))) (fun _ _ _ _=>(pv 0)))))),?_⟩
  refine ⟨_,rfl,_,rfl,_,rfl,_,rfl,a,b,ws,ls,calm,n,who,lost,rfl,ha,hb,hw,hl,h8,hm,fun l H1 uE s1 rS=>?_⟩
  have hL:(Bu ws ls who lost).length = ws.length:=by rw [F6]; exact hl
  generalize Bu ws ls who lost = L at rS hL ⊢ q
  refine ⟨_,rfl,false,l,rfl,⟨_,B6.of rS⟩,fun D hD=>?_⟩
  refine Tl (K:=K) (b1:=false) (c:=l) (xs:=L.map V.int) (fun i ys H'=>ys = (Fb L i).map V.int /\ H' D = some (.lst ys) /\ Ab H1 H') ⟨rfl,A5,Ab.upd hD⟩ (by rintro i ys H' _ ⟨_,_,s⟩; exact B6.of (s _ _ rS)) ?_ ?_ ?_ ?_
  ·rintro i x T ys H2 hx ⟨rfl,rT,s2⟩ hT
   rw [List.getElem?_map] at hx
   obtain ⟨y,hy,rfl⟩ := Option.map_eq_some_iff.mp hx
   have hi:=(List.getElem?_eq_some_iff.mp hy).1
   have ey:L.getD i 0 = y:=by rw [List.getD_eq_getElem?_getD,hy]; rfl
   have s3:Ab H2 (upd H2 T (.tup [V.int (i:Nat),V.int y])):=Ab.upd hT
   have hbl:=Gg L i
   refine ⟨_,rfl,rfl,_,rfl,?_⟩
   refine Ly (fun h0=>?_) (fun h0=>?_)
   ·have h1:y = 0:=by simpa using h0
    refine ⟨_,rfl,s3 _ _ rT,B8 (by rw [List.length_map]; omega),?_,A5,(s2.trans s3).new hD⟩
    rw [Ed,ey,if_pos h1,List.map_append]
    rfl
   ·have h1:¬ y = 0:=by simpa using h0
    refine ⟨?_,s3 _ _ rT,s2.trans s3⟩
    rw [Ed,ey,if_neg h1,List.append_nil]
  ·rintro σ H' Q1 Q2 hQ ⟨v,e1,e2,c,e3,z⟩
   exact ⟨v,e1,e2,c,e3,hQ _ _ z⟩
  ·rintro σ H' Q1 Q2 hQ ⟨v,e1,z⟩
   exact ⟨v,e1,hQ _ _ z⟩
  ·rintro ys H2 ⟨rfl,rT,s2⟩
   rw [List.length_map,hL] at rT
   exact q D H2 (s1.free hD) (s1.trans s2) rT
def Up (K:PySem.W.Frag):Sp:=fun vs H Q _=>Wg fun (a:Addr) (ws:List Int) (cm:Option Int)=>Ze (vs = [.ref a]) (Bd H a ws cm) (Q (.int (qv cm)) H)
theorem l8 {fd  : FuncData} (T:Txt K mg ad aA aB) (F:Fk K "quiet_values" "quiet_values" Wz ad.fJ fd):Ai P w K mg base Bm 1 ad.fJ fd ["hall"] (Up K):=by
 refine F.ok lg (fun vs H Q E h=>?_) (fun aP A outer s H vs Q E hr h=>?_)
 ·rcases h with ⟨a,ws,cm,rfl,⟨t,dR,dD⟩,q⟩ <;> rfl
 ·obtain ⟨a,ws,cm,rfl,⟨t,dR,dD⟩,q⟩ := h
  refine ⟨_,(Ac (Ar (Xx (Bg S1 (B0 (Az K) (pv 0) A9 (fun _ _=>rfl)) Ee (Ba _)) A9 (Au Cf (B0 (Az K) (pv 0) A9 (fun _ _=>rfl)) A9)))),?_⟩
  cases cm with
  | none=>exact ⟨_,rfl,a,_,_,_,rfl,rfl,.inr (C0.of dR),rfl,rfl,_,rfl,Pw rfl q⟩
  | some c=>exact ⟨_,rfl,a,_,_,_,rfl,rfl,.inr (C0.of dR),rfl,rfl,_,rfl,E2 rfl ⟨_,rfl,a,_,_,_,rfl,rfl,.inr (C0.of dR),rfl,_,_,rfl,rfl,q⟩⟩
def Ty (K:PySem.W.Frag):Sp:=fun vs H Q _=>Wg fun (a:Addr) (ws:List Int) (cm:Option Int)=>Lu (vs = [.ref a]) (Bd H a ws cm) ((∀ w ∈ ws,intBits w <= 256)) (intBits (qv cm) <= 256) (ws.length <= 8) (Q (.int (Bc (qv cm) ws)) H)
theorem ge {fd iU:FuncData} (T:Txt K mg ad aA aB) (F:Fk K "how_many" "how_many" Nm ad.cD fd) (lH:Ai P w K mg base Bm 1 ad.fJ iU ["hall"] (Up K)) (lI:Av K iU ["hall"] []):Ai P w K mg base Bm 2 ad.cD fd ["hall"] (Ty K):=by
 refine F.ok P4 (fun vs H Q E h=>?_) (fun aP A outer s H vs Q E hr h=>?_)
 ·rcases h with ⟨a,ws,cm,rfl,⟨t,dR,dD⟩,hb,tP,hl,q⟩ <;> rfl
 ·obtain ⟨a,ws,cm,rfl,⟨t,dR,dD⟩,hb,tP,hl,q⟩ := h
  refine ⟨_,(A6 (Ah (i:=1) P4.nd rfl (Or.inl rfl) (Am lH (hr.mono (by decide)) rfl T.EW T.k_x8 lI .nil Be (A0 (pv 0) A8))) (A6 (Cn PassesOwn.never rfl (D9 (w':=Pl K _) (Da (B0 (Az K) (pv 0) A9 (fun _ _=>rfl)))) (Aw (i:=2) P4.nd rfl (Or.inl rfl)) (Ac (Ah (i:=1) P4.nd rfl (Or.inl rfl) (Au I9 (pv 1) (pv 2))))) (Ac (Ar (pv 1))))),?_⟩
  refine ⟨_,rfl,a,ws,cm,rfl,⟨t,dR,dD⟩,?_⟩
  refine ⟨_,rfl,a,_,_,_,rfl,rfl,.inr (C0.of dR),rfl,t,rfl,.inr ⟨⟨_,C0.of dD⟩,?_⟩⟩
  refine U9 (K:=K) (a:=t) (xs:=ws.map V.int) (fun i σ H'=>∃ (v2:Option V),σ = [some (.ref a),some (.int (Bc (qv cm) (ws.take i))),v2] /\ H' = H) ⟨none,rfl,rfl⟩ (by rintro i σ H' _ ⟨_,_,e⟩; exact (by rw [e]; exact C0.of dD)) ?_ ?_
  ·rintro i y σ H' hy ⟨v2,rfl,eH⟩
   subst eH
   rw [List.getElem?_map] at hy
   obtain ⟨x,hx,rfl⟩ := Option.map_eq_some_iff.mp hy
   have hi:=(List.getElem?_eq_some_iff.mp hx).1
   have b1:=Mi tP hb i (by omega)
   refine ⟨_,rfl,_,rfl,_,_,rfl,rfl,Qt b1 (hb x (List.mem_of_getElem? hx)) (by omega),?_⟩
   refine ⟨some (.int x),?_,rfl⟩
   have e:Bc (qv cm) (ws.take (i + 1)) = Bc (qv cm) (ws.take i) * x:=Es _ _ _ hx
   rw [e]
   rfl
  ·rintro σ H' ⟨v2,rfl,eH⟩
   subst eH
   rw [List.length_map,List.take_length]
   exact ⟨_,rfl,q⟩
def So (K:PySem.W.Frag):Sp:=fun vs H Q _=>Q8 fun (t:Addr) (ws:List Int)=>Lu (vs = [.ref t]) (H t = some (.tup (ws.map V.int))) ((∀ w ∈ ws,1 <= w)) (Bc 1 ws <= 3000) (ws.length <= 8) (∀ (l:Addr) (us:List V) (H':Hp),H l = none -> Ab H H' -> H' l = some (.lst us) -> Ae (E6 H') (C5 ws) us -> Q (.ref l) H')
theorem fz {fd  : FuncData} (T:Txt K mg ad aA aB) (F:Fk K "all_left" "all_left" Kn ad.cE fd):Ai P w K mg base Bm 1 ad.cE fd ["waits"] (So K):=by
 refine F.ok Io (fun vs H Q E h=>?_) (fun aP A outer s H vs Q E hr h=>?_)
 ·rcases h with ⟨t,ws,rfl,ht,cS,hp,lJ,q⟩ <;> rfl
 ·obtain ⟨t,ws,rfl,ht,cS,hp,lJ,q⟩ := h
  refine ⟨_,(A6 (Ah (i:=1) Io.nd rfl (Or.inl rfl) (Ca (A0 (Cw A8) A8))) (A6 (Cn PassesOwn.never rfl (D9 (w':=Pl K _) (Da (pv 0))) (Aw (i:=2) Io.nd rfl (Or.inl rfl)) (A6 (Ah (i:=3) Io.nd rfl (Or.inl rfl) (Ca A8)) (A6 (Cn PassesOwn.never rfl (D9 (w':=Pl K _) (Da (pv 1))) (Aw (i:=4) Io.nd rfl (Or.inr rfl)) (Ac (Cb (Dm (u':=Qx K _ _ _ _) (Dq PySem.F.plainAttrs_list PySem.F.slot_list_extend PySem.F.type_list_extend Im (pv 3) (A0 (Fy (Wv (by rfl) T.dC (A0 A9 (A0 (Au Cf (pv 2) A9) A8))) _ rfl Mb rfl rfl (fun _ _ _ _=>(Aw (i:=0) Md rfl (Or.inl rfl))) (fun _ _ _ _=>E8) (fun _ _ _ _=>(Au (Zx K) (pv 1) (Cw (A0 (pv 0) A8))))) A8)))))) (Ac (Ah (i:=1) Io.nd rfl (Or.inl rfl) (pv 3)))))) (Ac (Ar (pv 1))))),?_⟩
  refine ⟨Bn,fun E0 hE0=>⟨Bn,fun L0 RX=>?_⟩⟩
  have s0:Ab H (upd H E0 (.tup [])):=Ab.upd hE0
  have e0:(upd H E0 (.tup [])) E0 = some (.tup (([]:List Int).map V.int)):=A5
  generalize upd H E0 (.tup []) = H0 at s0 e0 RX ⊢
  have s1:Ab H0 (upd H0 L0 (.lst [.ref E0])):=Ab.upd RX
  have e1:(upd H0 L0 (.lst [.ref E0])) L0 = some (.lst [.ref E0]):=A5
  have r1:Ae (E6 (upd H0 L0 (.lst [.ref E0]))) (C5 (ws.take 0)) [.ref E0]:=Ae.one ⟨E0,rfl,s1 _ _ e0⟩
  generalize upd H0 L0 (.lst [.ref E0]) = H1 at s1 e1 r1 ⊢
  have s01:=s0.trans s1
  refine ⟨_,rfl,t,rfl,.inr ⟨⟨_,C0.of (s01 _ _ ht)⟩,?_⟩⟩
  refine U9 (K:=K) (a:=t) (xs:=ws.map V.int) (fun i σ H'=>nu fun (L:Addr) (us:List V) (v2 v3 v4:Option V)=>Ip (σ = [some (.ref t),some (.ref L),v2,v3,v4]) (H' L = some (.lst us)) (Ab H H') (Ae (E6 H') (C5 (ws.take i)) us) (H L = none))
   ⟨L0,_,none,none,none,rfl,e1,s01,r1,s0.free RX⟩ (by rintro i σ H' _ ⟨_,_,_,_,_,_,_,s,_,_⟩; exact C0.of (s _ _ ht)) ?_ ?_
  ·rintro i y σ H2 hy ⟨L,us,v2,v3,v4,rfl,f1,s2,f2,hL⟩
   rw [List.getElem?_map] at hy
   obtain ⟨w,hw,rfl⟩ := Option.map_eq_some_iff.mp hy
   have hwi:=cS w (List.mem_of_getElem? hw)
   have FV:=Np cS hp i
   have kM:=Np cS hp (i + 1)
   have wQ:C5 (ws.take (i + 1)) = C4 (C5 (ws.take i)) w:=Es _ _ _ hw
   rw [wQ,Kp] at kM
   have hiw:=(List.getElem?_eq_some_iff.mp hw).1
   have CP:∀ r ∈ C5 (ws.take i),r.length <= 8:=fun r hr=>by
    have:=(Ia ws i (by omega) r hr).1
    omega
   generalize C5 (ws.take i) = rows at f2 FV kM wQ CP
   refine ⟨Bn,fun D hD=>?_⟩
   have s3:Ab H2 (upd H2 D (.lst [])):=Ab.upd hD
   have e3:(upd H2 D (.lst [])) D = some (.lst []):=A5
   have f3:=s3 _ _ f1
   have g3:=f2.imp fun r v z=>E6.up (An.of s3) z
   have RY:L ≠ D:=Ad f1 hD
   generalize upd H2 D (.lst []) = H3 at s3 e3 f3 g3 ⊢
   refine ⟨_,rfl,L,rfl,.inl ⟨⟨_,B6.of f3⟩,?_⟩⟩
   refine Cq (K:=K) (a:=L) (xs:=us) (fun j σ H'=>Q8 fun (zs:List V) (v4:Option V)=>Ip (σ = [some (.ref t),some (.ref L),some (.int w),some (.ref D),v4]) (H' D = some (.lst zs)) (H' L = some (.lst us)) (Ab H2 H') (Ae (E6 H') (C4 (rows.take j) w) zs))
    ⟨[],v4,rfl,e3,f3,s3,Ae.nil⟩ (by rintro j σ H' _ ⟨_,_,_,_,e,_⟩; exact B6.of e) ?_ ?_
   ·rintro j y σ H4 hy ⟨zs,v4',rfl,h1,h2,s4,h3⟩
    have g4:=f2.imp fun r v z=>E6.up (An.of s4) z
    obtain ⟨r,lD,p,rfl,RZ⟩ := g4.get hy
    have hj:=(List.getElem?_eq_some_iff.mp lD).1
    have hr8:=CP r (List.mem_of_getElem? lD)
    have ezl:zs.length = (rows.take j).length * w.toNat:=by rw [h3.1,Kp]
    have CQ:zs.length <= 3000:=by
     rw [ezl]
     refine Nat.le_trans (Nat.mul_le_mul_right _ ?_) kM
     rw [List.length_take]
     omega
    have hw3:w.toNat <= 3000:=Nat.le_trans (Nat.le_mul_of_pos_left _ (by omega)) kM
    refine ⟨_,rfl,.inl ⟨rfl,_,B6.of h1⟩,_,rfl,_,_,rfl,rfl,1,w + 1,rfl,by omega,fun B hB=>?_⟩
    refine Go (fun m ys H'=>H' B = some (.lst ys) /\ Ab H4 H' /\ Ae (E6 H') ((List.range m).map fun t=>r ++ [1 + ((t:Nat):Int)]) ys) ⟨A5,Ab.upd hB,Ae.nil⟩ ?_ ?_
    ·rintro m ys H5 hm ⟨k1,s5,k2⟩ Qe hQ
     refine ⟨_,rfl,_,rfl,Bn,fun P hP=>?_⟩
     have s6:Ab H5 (upd H5 P (.tup [.int (1 + (m:Int))])):=Ab.upd hP
     refine ⟨p,P,_,_,rfl,rfl,C0.of (s6 _ _ (s5 _ _ RZ)),A5,by simp,Nat.le_of_lt (En (by simp; omega)),fun p' H6 s7 e7=>?_⟩
     generalize upd H5 P (.tup [.int (1 + (m:Int))]) = H5' at s6 s7
     have CS:=s6.trans s7
     have iW:=CS _ _ k1
     have kl:ys.length = m:=by rw [k2.1]; simp
     refine hQ _ _ iW (En (by omega)) ⟨A5,(s5.trans CS).new hB,?_⟩
     have tu:An H5 (upd H6 B (.lst (ys ++ [.ref p']))):=(An.of CS).trans (An.lst iW)
     rw [List.range_succ,List.map_append]
     refine (k2.imp fun r v z=>E6.up tu z).append (Ae.one ⟨p',rfl,?_⟩)
     refine An.lst iW _ _ ?_
     rw [e7,List.map_append]
     rfl
    ·rintro ys H5 ⟨k1,s5,k2⟩
     have eB:((List.range (w + 1 - 1).toNat).map fun t=>r ++ [1 + ((t:Nat):Int)]) = O9 r w:=by
      rw [show w + 1 - 1 = w by omega]
      rfl
     rw [eB] at k2
     have fE:=s5 _ _ h1
     have kl:ys.length = w.toNat:=by rw [k2.1,Pm]
     refine ⟨D,B,_,_,rfl,rfl,fE,k1,Nat.le_of_lt (En (by omega)),?_⟩
     have tu:An H5 (upd H5 D (.lst (zs ++ ys))):=An.lst fE
     refine ⟨zs ++ ys,_,rfl,A5,by rw [Aa RY]; exact s5 _ _ h2,(s4.trans s5).new hD,?_⟩
     have e:C4 (rows.take (j + 1)) w = C4 (rows.take j) w ++ O9 r w:=Ni _ _ lD
     rw [e]
     exact (h3.imp fun r v z=>E6.up ((An.of s5).trans tu) z).append (k2.imp fun r v z=>E6.up tu z)
   ·rintro σ H4 ⟨zs,v4',rfl,h1,h2,s4,h3⟩
    rw [f2.1,List.take_length] at h3
    refine ⟨_,rfl,D,zs,_,_,_,rfl,h1,s2.trans s4,?_,s2.free hD⟩
    rw [wQ]
    exact h3
  ·rintro σ H2 ⟨L,us,v2,v3,v4,rfl,f1,s2,f2,hL⟩
   rw [List.length_map,List.take_length] at f2
   exact ⟨_,rfl,q L us H2 hL s2 f1 f2⟩
def Ts (K:PySem.W.Frag):Sp:=fun vs H Q _=>Wg fun (a:Addr) (ws:List Int) (cm:Option Int)=>Vy (vs = [.ref a]) (Bd H a ws cm) ((∀ w ∈ ws,1 <= w)) (1 <= qv cm) ((∀ w ∈ ws,intBits w <= 256)) (intBits (qv cm) <= 256) (ws.length <= 8) (Bc (qv cm) ws <= 3000) (∀ (l:Addr) (us:List V) (H':Hp),H l = none -> Ab H H' -> H' l = some (.lst us) -> Ae (Gd H') (B9 ws (qv cm)) us -> Q (.ref l) H')
theorem dk {fd nI nJ iU:FuncData} (T:Txt K mg ad aA aB) (F:Fk K "standings" "standings" Kc ad.cF fd) (nK:Ai P w K mg base Bm 1 ad.cE nI ["waits"] (So K)) (nL:Av K nI ["waits"] []) (nM:Ai P w K mg base Bm 2 ad.cD nJ ["hall"] (Ty K)) (nN:Av K nJ ["hall"] []) (lH:Ai P w K mg base Bm 1 ad.fJ iU ["hall"] (Up K)) (lI:Av K iU ["hall"] []):Ai P w K mg base Bm 3 ad.cF fd ["hall"] (Ts K):=by
 refine F.ok Sc (fun vs H Q E h=>?_) (fun aP A outer s H vs Q E hr h=>?_)
 ·rcases h with ⟨a,ws,cm,rfl,⟨t,dR,dD⟩,cS,uF,hb,tP,lJ,hp,q⟩ <;> rfl
 ·obtain ⟨a,ws,cm,rfl,⟨t,dR,dD⟩,cS,uF,hb,tP,lJ,hp,q⟩ := h
  refine ⟨_,(A6 (Db (Bg V0 (Am nM (hr.mono (by decide)) rfl T.EX T.k_x23 nN .nil Be (A0 (pv 0) A8)) (Zw (v := .int 3000) (by rfl) T.dZ.choose_spec ⟨_,rfl⟩) (Ba _)) (Ac K5) Ax) (A6 (Ah (i:=1) Sc.nd rfl (Or.inl rfl) (Ca A8)) (A6 (Cn PassesOwn.never rfl (D9 (w':=Pl K _) (Da (Am nK (hr.mono (by decide)) rfl T.EY T.k_x24 nL .nil Be (A0 (B0 (Az K) (pv 0) A9 (fun _ _=>rfl)) A8)))) (Aw (i:=2) Sc.nd rfl (Or.inr rfl)) (Ac (Cb (Dm (u':=Qx K _ _ _ _) (Dq PySem.F.plainAttrs_list PySem.F.slot_list_extend PySem.F.type_list_extend Im (pv 1) (A0 (Fy (G9 (by rfl) T.dC (A0 (Am lH (hr.mono (by decide)) rfl T.EW T.k_x8 lI .nil Be (A0 (pv 0) A8)) A8)) _ rfl Ke rfl rfl (fun _ _ _ _=>(Aw (i:=0) Lq rfl (Or.inl rfl))) (fun _ _ _ _=>E8) (fun _ _ _ _=>(Cw (A0 (pv 1) (A0 (pv 0) A8))))) A8)))))) (Ac (Ar (pv 1)))))),?_⟩
  have hp1:Bc 1 ws <= 3000:=by
   have e:=Pg (qv cm) ws 1
   rw [Int.mul_one] at e
   have h1:1 <= Bc 1 ws:=Hg ws 1 (by decide) cS
   have h2:=Int.mul_le_mul_of_nonneg_right uF (show 0 <= Bc 1 ws by omega)
   rw [Int.one_mul] at h2
   omega
  have hq3:qv cm <= 3000:=Int.le_trans (Hg ws _ (by omega) cS) hp
  refine ⟨_,rfl,a,ws,cm,rfl,⟨t,dR,dD⟩,hb,tP,lJ,_,_,rfl,rfl,_,rfl,E2 (decide_eq_false (by omega)) ?_⟩
  refine ⟨Bn,fun D hD=>?_⟩
  have s1:Ab H (upd H D (.lst [])):=Ab.upd hD
  have e1:(upd H D (.lst [])) D = some (.lst []):=A5
  generalize upd H D (.lst []) = H1 at s1 e1 ⊢
  refine ⟨_,rfl,a,_,_,_,rfl,rfl,.inr (C0.of (s1 _ _ dR)),rfl,t,ws,rfl,s1 _ _ dD,cS,hp1,lJ,fun L us H2 hL s2 f1 f2=>⟨L,rfl,.inl ⟨⟨_,B6.of f1⟩,?_⟩⟩⟩
  have s02:=s1.trans s2
  have e2:=s2 _ _ e1
  have RY:L ≠ D:=(Ad e1 hL).symm
  refine Cq (K:=K) (a:=L) (xs:=us) (fun j σ H'=>Q8 fun (zs:List V) (v2:Option V)=>Lu (σ = [some (.ref a),some (.ref D),v2]) (H' D = some (.lst zs)) (H' L = some (.lst us)) (Ab H H') (An H2 H') (Ae (Gd H') (((C5 ws).take j).flatMap fun r=>Em r (qv cm)) zs))
   ⟨[],none,rfl,e2,f1,s02,An.of (Ab.refl _),Ae.nil⟩ (by rintro j σ H' _ ⟨_,_,_,_,e,_⟩; exact B6.of e) ?_ ?_
  ·rintro j y σ H4 hy ⟨zs,v2,rfl,h1,h2,s4,t4,h3⟩
   have g4:=f2.imp fun r v z=>E6.up t4 z
   obtain ⟨r,lD,p,rfl,RZ⟩ := g4.get hy
   have hj:=(List.getElem?_eq_some_iff.mp lD).1
   have CQ:zs.length <= 3000:=by
    have e:=Iy (ws:=ws) (q:=qv cm) cS (by omega)
    rw [h3.1]
    have e2:B9 ws (qv cm) = (((C5 ws).take j).flatMap fun r=>Em r (qv cm)) ++ (((C5 ws).drop j).flatMap fun r=>Em r (qv cm)):=by
     rw [<- List.flatMap_append,List.take_append_drop]
     rfl
    rw [e2,List.length_append] at e
    omega
   refine ⟨_,rfl,.inl ⟨rfl,_,B6.of h1⟩,_,rfl,a,ws,cm,rfl,⟨t,s4 _ _ dR,s4 _ _ dD⟩,qv cm,rfl,by omega,by omega,fun B hB=>?_⟩
   refine Go (fun m ys H'=>H' B = some (.lst ys) /\ Ab H4 H' /\ Ae (Gd H') ((List.range m).map fun k=>(r,0 + ((k:Nat):Int))) ys) ⟨A5,Ab.upd hB,Ae.nil⟩ ?_ ?_
   ·rintro m ys H5 hm ⟨k1,s5,k2⟩ Qe hQ
    refine ⟨_,rfl,_,rfl,Bn,fun P hP=>?_⟩
    have s6:Ab H5 (upd H5 P (.tup [.ref p,.int (0 + (m:Int))])):=Ab.upd hP
    have e6:(upd H5 P (.tup [.ref p,.int (0 + (m:Int))])) P = some (.tup [.ref p,.int (0 + (m:Int))]):=A5
    generalize upd H5 P (.tup [.ref p,.int (0 + (m:Int))]) = H6 at s6 e6
    have iW:=s6 _ _ k1
    have kl:ys.length = m:=by rw [k2.1]; simp
    refine hQ _ _ iW (En (by omega)) ⟨A5,(s5.trans s6).new hB,?_⟩
    have tu:An H5 (upd H6 B (.lst (ys ++ [.ref P]))):=(An.of s6).trans (An.lst iW)
    rw [List.range_succ,List.map_append]
    refine (k2.imp fun r v z=>Gd.up tu z).append (Ae.one ⟨P,p,rfl,?_,?_⟩)
    ·exact An.lst iW _ _ e6
    ·exact An.lst iW _ _ (s6 _ _ (s5 _ _ RZ))
   ·rintro ys H5 ⟨k1,s5,k2⟩
    have fE:=s5 _ _ h1
    have k3:Ae (Gd H5) (Em r (qv cm)) ys:=k2
    have kl:ys.length = (qv cm).toNat:=by rw [k3.1,O4]
    refine ⟨D,B,_,_,rfl,rfl,fE,k1,Nat.le_of_lt (En (by omega)),?_⟩
    have tu:An H5 (upd H5 D (.lst (zs ++ ys))):=An.lst fE
    refine ⟨zs ++ ys,_,rfl,A5,by rw [Aa RY]; exact s5 _ _ h2,(s4.trans s5).new hD,(t4.trans (An.of s5)).trans tu,?_⟩
    have e:(((C5 ws).take (j + 1)).flatMap fun r=>Em r (qv cm)) = (((C5 ws).take j).flatMap fun r=>Em r (qv cm)) ++ Em r (qv cm):=Ni _ _ lD
    rw [e]
    exact (h3.imp fun r v z=>Gd.up ((An.of s5).trans tu) z).append (k3.imp fun r v z=>Gd.up tu z)
  ·rintro σ H4 ⟨zs,v2,rfl,h1,h2,s4,t4,h3⟩
   rw [f2.1,List.take_length] at h3
   exact ⟨_,rfl,q D zs H4 hD s4 h1 h3⟩
def Xb (K:PySem.W.Frag):Sp:=fun vs H Q _=>Wg fun (a:Addr) (ws:List Int) (cm:Option Int)=>Vy (vs = [.ref a]) (Bd H a ws cm) ((∀ w ∈ ws,1 <= w)) (1 <= qv cm) ((∀ w ∈ ws,intBits w <= 256)) (intBits (qv cm) <= 256) (ws.length <= 8) (Bc (qv cm) ws <= 3000) (∀ (D:Addr) (kvs:List ((List Int × Int) × V)) (H':Hp),H D = none -> Ab H H' -> H' D = some (.dT kvs) -> Cj ws cm H' kvs -> kvs.map (·.1) = B9 ws (qv cm) -> Ll ws cm H' kvs -> (∀ kv ∈ kvs,∀ c,kv.2 = .ref c -> H c = none) -> kvs.length <= 3000 -> Q (.ref D) H')
theorem kn {fd nO cB:FuncData} (T:Txt K mg ad aA aB) (F:Fk K "calls_by_standing" "calls_by_standing" Wb ad.gB fd) (nP:Ai P w K mg base Bm 3 ad.cF nO ["hall"] (Ts K)) (nQ:Av K nO ["hall"] []) (dH:Ai P w K mg base Bm 5 ad.bQ cB ["hall","standing","who"] (Le K)) (dJ:Av K cB ["hall","standing","who"] []):Ai P w K mg base Bm 6 ad.gB fd ["hall"] (Xb K):=by
 refine F.ok Nj (fun vs H Q E h=>?_) (fun aP A outer s H vs Q E hr h=>?_)
 ·rcases h with ⟨a,ws,cm,rfl,ha,cS,uF,lE,nH,lU,hp,q⟩ <;> rfl
 ·obtain ⟨a,ws,cm,rfl,ha,cS,uF,lE,nH,lU,hp,q⟩ := h
  refine ⟨_,(A6 (Ah (i:=1) Nj.nd rfl (Or.inl rfl) Hx) (A6 (Cn PassesOwn.never rfl (D9 (w':=Pl K _) (Da (Am nP (hr.mono (by decide)) rfl T.EZ T.k_x20 nQ .nil Be (A0 (pv 0) A8)))) (Aw (i:=2) Nj.nd rfl (Or.inl rfl)) (A6 (Ah (i:=3) Nj.nd rfl (Or.inl rfl) X5) (A6 (Cn PassesOwn.never rfl (G9 (by rfl) T.dC (A0 (Bi (Cd K) (by rfl) T.bZ PySem.boot_len (A0 (B0 (Az K) (pv 0) A9 (fun _ _=>rfl)) A8)) A8)) (Aw (i:=4) Nj.nd rfl (Or.inl rfl)) (A6 (Ah (i:=5) Nj.nd rfl (Or.inl rfl) (Am dH (hr.mono (by decide)) rfl T.mV T.k_x14 dJ .nil Be (A0 (pv 0) (A0 (pv 2) (A0 (pv 4) A8))))) (Ac (Dd (Bg (N7 K hr) Ee (pv 5) rfl) (Ac (Ju (Fo hr) (pv 3) (pv 4) (pv 5) rfl)) Ax)))) (Ac (Ju (Fo hr) (pv 1) (pv 2) (pv 3) rfl))))) (Ac (Ar (pv 1))))),?_⟩
  refine fun D hD=>?_
  have s1:Ab H (upd H D (.dT [])):=Ab.upd hD
  have e1:(upd H D (.dT [])) D = some (.dT []):=A5
  generalize upd H D (.dT []) = H1 at s1 e1 ⊢
  refine ⟨_,rfl,a,ws,cm,rfl,ha.same s1,cS,uF,lE,nH,lU,hp,fun l us H2 hl s2 el fW=>⟨l,rfl,.inl ⟨⟨_,B6.of el⟩,?_⟩⟩⟩
  have hlen:us.length <= 3000:=by
   have h1:=fW.1
   have h2:=Iy cS (show 0 <= qv cm by omega)
   omega
  have eJ:=s1.trans s2
  have eD2:=s2 _ _ e1
  refine Cq (K:=K) (a:=l) (xs:=us) (fun i σ H'=>nu fun (kvs:List ((List Int × Int) × V)) (v2 v3 v4 v5:Option V)=>Vy (σ = [some (.ref a),some (.ref D),v2,v3,v4,v5]) (Ab H H') (LT H2 H') (H' D = some (.dT kvs)) (Cj ws cm H' kvs) ((∀ kv ∈ kvs,∀ c,kv.2 = .ref c -> H c = none)) (kvs.length <= i) (kvs.map (·.1) = (B9 ws (qv cm)).take i) (Ll ws cm H' kvs))
   ⟨[],_,_,_,_,rfl,eJ,⟨fun _ _ z=>z,fun _ _ z=>z⟩,eD2,⟨(fun kv z=>by cases z),List.Pairwise.nil,List.Pairwise.nil⟩,(fun kv z=>by cases z),Nat.le_refl _,rfl,(fun kv z=>by cases z)⟩ (by rintro i σ H' _ ⟨_,_,_,_,_,_,_,t,_⟩; exact B6.of (t.1 _ _ el)) ?_ ?_
  ·rintro i u σ H' hu ⟨kvs,v2,v3,v4,v5,rfl,s',t',lF,iX,fB,lK,eK,nR⟩
   have hi:=(List.getElem?_eq_some_iff.mp hu).1
   obtain ⟨z,hz,p,w,rfl,hz1,hz2⟩ := fW.get hu
   obtain ⟨m1,m2,m3,m4⟩ := Mt (List.mem_of_getElem? hz)
   have FW:Cu H' p z.1 z.2:=⟨w,t'.2 _ _ hz1,t'.2 _ _ hz2⟩
   refine fun c hc=>?_
   have s3:Ab H' (upd H' c (.dK [])):=Ab.upd hc
   have e3:(upd H' c (.dK [])) c = some (.dK []):=A5
   generalize upd H' c (.dK []) = H3 at s3 e3 ⊢
   have SA:=s'.trans s3
   obtain ⟨wt,dR,dD⟩ := id (ha.same SA)
   refine ⟨_,rfl,a,_,_,_,rfl,rfl,.inr (C0.of dR),rfl,wt,_,rfl,.inr (C0.of dD),_,rfl,by omega,by rw [List.length_map]; omega,?_⟩
   refine Ng (n:=(ws.map V.int).length) (fun j σ H4=>Wg fun (cs:List (Dh × V)) (v4 v5:Option V)=>Lu (σ = [some (.ref a),some (.ref D),some (.ref p),some (.ref c),v4,v5]) (Ab H' H4) (H4 c = some (.dK cs)) (Fs ws cm z H4 cs) (cs.length <= j) (∀ who:Nat,who < j -> none ∉ Ay ws z.1 cm z.2 who -> (Af cs (.inl (who:Int))).isSome = true))
    ⟨[],_,_,rfl,s3,e3,(fun e z=>by cases z),Nat.le_refl _,(fun who z=>absurd z (Nat.not_lt_zero _))⟩ ?_ ?_
   ·rintro j σ H4 hj ⟨cs,v4,v5,rfl,s4,NN,rU,jF,NO⟩
    rw [List.length_map] at hj
    have s04:=s'.trans s4
    refine ⟨_,rfl,_,rfl,_,rfl,a,p,ws,z.1,cm,z.2,_,j,rfl,by omega,ha.same s04,FW.same s4,hj,m1,lU,fun L gN H5 hL s5 eL iY=>?_⟩
    refine ⟨_,rfl,L,gN,.none,(Ay ws z.1 cm z.2 j).map jd,rfl,B6.of eL,Sx,Nx iY,by decide,_,rfl,_,fun hb=>?_,fun hb=>?_,fun _ _ z=>z⟩
    ·rw [if_pos rfl,Oq] at hb
     have lR:none ∉ Ay ws z.1 cm z.2 j:=by simpa using hb
     have lL:=s5 _ _ NN
     refine ⟨_,rfl,_,rfl,_,rfl,c,_,rfl,.inl ⟨cs,.inl (j:Int),lL,congrArg V.int (Int.zero_add _),B8 (by omega),rfl⟩,?_⟩
     have t6:LT H5 (upd H5 c (.dK (Bl cs (.inl (j:Int)) (.ref L)))):=LT.dK lL
     refine ⟨Bl cs (.inl (j:Int)) (.ref L),_,_,rfl,(s4.trans s5).new hc,A5,?_,Nat.le_trans (D1 _ _ _) (by omega),fun who wI hn=>U1 ?_⟩
     ·have hold:Fs ws cm z (upd H5 c (.dK (Bl cs (.inl (j:Int)) (.ref L)))) cs:=rU.up ((LT.of s5).trans t6)
      intro e he
      rcases Xh he with y | y
      ·exact hold e y
      ·subst y
       exact ⟨j,L,gN,rfl,hj,lR,rfl,t6.1 _ _ eL,iY.imp fun _ _ y=>Ht.up t6.2 y⟩
     ·rcases Nat.lt_or_ge who j with y | y
      ·exact .inl (NO who y hn)
      ·have e:who = j:=by omega
       rw [e]
       exact .inr rfl
    ·rw [if_pos rfl,Oq] at hb
     have SD:none ∈ Ay ws z.1 cm z.2 j:=by simpa using hb
     refine ⟨cs,_,_,rfl,s4.trans s5,s5 _ _ NN,rU.up (LT.of s5),by omega,fun who wI hn=>?_⟩
     rcases Nat.lt_or_ge who j with y | y
     ·exact NO who y hn
     ·have e:who = j:=by omega
      rw [e] at hn
      exact absurd SD hn
   rintro σ H4 ⟨cs,v4,v5,rfl,s4,NN,rU,jF,NO⟩
   rw [List.length_map] at jF
   have SE:=s4 _ _ lF
   refine ⟨_,rfl,_,rfl,_,rfl,D,_,rfl,Lv.t SE (show Dx H4 p z from FW.same s4) (Cr (by omega)),?_⟩
   have t5:LT H4 (upd H4 D (.dT (Bl kvs z (.ref c)))):=LT.dT SE
   have k5:∀ c' hJ,H4 c' = some (.dK hJ) -> (upd H4 D (.dT (Bl kvs z (.ref c)))) c' = some (.dK hJ):=fun c' hJ e=>by
    rw [Aa (Br e SE (by intro z; cases z))]
    exact e
   have s05:=s'.trans s4
   have hnz:Af kvs z = none:=by
    cases hv:Af kvs z with
    | none=>rfl
    | some v =>
     have:=List.mem_map_of_mem (f:=(·.1)) (Bj hv)
     rw [eK] at this
     exact absurd this (My (Jd _ _) hz)
   have ep:Bl kvs z (.ref c) = kvs ++ [(z,.ref c)]:=Dk _ hnz
   have jK:Cj ws cm (upd H4 D (.dT (Bl kvs z (.ref c)))) kvs:=(iX.keep (LT.of s4) (fun c cs e=>s4 _ _ e)).keep t5 k5
   have wR:Ll ws cm (upd H4 D (.dT (Bl kvs z (.ref c)))) kvs:=(nR.keep iX (fun c cs e=>s4 _ _ e)).keep (iX.keep (LT.of s4) (fun c cs e=>s4 _ _ e)) k5
   have lL:=k5 _ _ NN
   have wU:=rU.up t5
   have sN:Ab H (upd H4 D (.dT (Bl kvs z (.ref c)))):=s05.new hD
   have tN:LT H2 (upd H4 D (.dT (Bl kvs z (.ref c)))):=(t'.trans (LT.of s4)).trans t5
   have eN:(upd H4 D (.dT (Bl kvs z (.ref c)))) D = some (.dT (Bl kvs z (.ref c))):=A5
   rw [ep] at jK wR lL wU sN tN eN ⊢
   generalize upd H4 D (.dT (kvs ++ [(z,.ref c)])) = H6 at jK wR lL wU sN tN eN ⊢
   have dY:∀ kv ∈ kvs,kv.2 ≠ .ref c:=fun kv aJ e=>by
    obtain ⟨d,ds,e1,e2,_⟩ := iX.1 kv aJ
    rw [e] at e1
    cases e1
    rw [hc] at e2
    cases e2
   refine ⟨kvs ++ [(z,.ref c)],_,_,_,_,rfl,sN,tN,eN,⟨Lg jK.1 ⟨c,cs,rfl,lL,by omega,wU⟩,?_,?_⟩,Lg fB (fun c' e=>by cases e; exact s'.free hc),by rw [List.length_append,List.length_singleton]; omega,?_,?_⟩
   ·rw [List.map_append]
    refine E3 jK.2.1 (fun y=>?_)
    rw [eK] at y
    exact My (Jd _ _) hz y
   ·rw [List.map_append]
    refine E3 jK.2.2 (fun y=>?_)
    obtain ⟨kv,aJ,e⟩ := List.mem_map.mp y
    exact dY kv aJ e
   ·rw [List.map_append,eK,List.take_add_one,hz]
    rfl
   ·intro kv aJ c' hJ e1 e2
    rcases List.mem_append.mp aJ with y | y
    ·exact wR kv y c' hJ e1 e2
    ·cases List.mem_singleton.mp y
     cases e1
     rw [lL] at e2
     cases e2
     exact fun who hw hn=>NO who (by rw [List.length_map]; exact hw) hn
  rintro σ H' ⟨kvs,v2,v3,v4,v5,rfl,s',t',lF,iX,fB,lK,eK,nR⟩
  rw [fW.1,List.take_length] at eK
  exact ⟨_,rfl,q D kvs H' hD s' lF iX eK nR fB (by omega)⟩
def Tz (K:PySem.W.Frag):Sp:=fun vs H Q _=>df fun (D:Addr) (kvs:List ((List Int × Int) × V)) (ws:List Int) (cm:Option Int)=>Ip (vs = [.ref D]) (H D = some (.dT kvs)) (Cj ws cm H kvs) (kvs.length <= 3000) (∀ (W:Addr) (wv:List ((List Int × Int) × V)) (H':Hp),H W = none -> Ab H H' -> H' W = some (.dT wv) -> Et ws cm H kvs 48000 H' wv -> (∀ k who later,Al H kvs k who -> some later ∈ Ay ws k.1 cm k.2 who -> Ck H' wv later k who) -> wv.length <= 48000 -> Q (.ref W) H')
theorem gr {fd  : FuncData} (T:Txt K mg ad aA aB) (F:Fk K "ways_to" "ways_to" Nn ad.cH fd):Ai P w K mg base Bm 1 ad.cH fd ["pending"] (Tz K):=by
 refine F.ok Gr (fun vs H Q E h=>?_) (fun aP A outer s H vs Q E hr h=>?_)
 ·rcases h with ⟨D,kvs,ws,cm,rfl,hD,fG,lK,q⟩ <;> rfl
 ·obtain ⟨D,kvs,ws,cm,rfl,hD,fG,lK,q⟩ := h
  refine ⟨_,(A6 (Ah (i:=1) Gr.nd rfl (Or.inl rfl) Hx) (A6 (Oe (Cn PassesOwn.never rfl (L3 (pv 0)) (Ib K (n:=2) rfl (Cy (Aw (i:=2) Gr.nd rfl (Or.inl rfl)) (Cy (Aw (i:=3) Gr.nd rfl (Or.inl rfl)) Hh))) (Ac (Oe (Cn PassesOwn.never rfl (L3 (pv 3)) (Ib K (n:=2) rfl (Cy (Aw (i:=4) Gr.nd rfl (Or.inl rfl)) (Cy (Aw (i:=5) Gr.nd rfl (Or.inl rfl)) Hh))) (Ac (Cn PassesOwn.never rfl (D9 (w':=Pl K _) (Da (pv 5))) (Aw (i:=6) Gr.nd rfl (Or.inl rfl)) (Ac (Cb (Dm (u':=Qx K _ _ _ _) (Dq PySem.F.plainAttrs_list PySem.F.slot_list_append PySem.F.type_list_append Cc (Zj (bh (Fo hr) (pv 1) (pv 6) (Ca A8) ⟨rfl,rfl,rfl,rfl⟩)) (A0 (Cw (A0 (pv 2) (A0 (pv 4) A8))) A8)))))))))))) (Ac (Ar (pv 1))))),?_⟩
  have iX:=fG.ok
  refine fun W hW=>?_
  have s1:Ab H (upd H W (.dT [])):=Ab.upd hW
  have e1:(upd H W (.dT [])) W = some (.dT []):=A5
  generalize upd H W (.dT []) = H1 at s1 e1 ⊢
  have hD1:=s1 _ _ hD
  have SF:W ≠ D:=(Ad hD hW).symm
  refine ⟨D,.dT kvs,trivial,hD1,_,rfl,D,.dT kvs,rfl,trivial,hD1,fun o=>?_⟩
  refine Ms (d:=D) (o:=o) (u := .dT kvs) (fun i σ H'=>jl fun (wv:List ((List Int × Int) × V)) (v2 v3 v4 v5 v6:Option V)=>ae (σ = [some (.ref D),some (.ref W),v2,v3,v4,v5,v6]) (H' D = some (.bG o (.dT kvs))) ((uu D H H')) (H' W = some (.dT wv)) (Et ws cm H kvs (16 * i) H' wv) (wv.length <= 16 * i) (iz ws cm H kvs i H' wv))
   ⟨[],_,_,_,_,_,rfl,A5,(fun b ob n e=>(Aa n).trans (s1 _ _ e)),(Aa SF).trans e1,⟨(fun kv z=>by cases z),List.Pairwise.nil⟩,Nat.zero_le _,(fun k who later z=>by obtain ⟨v,z⟩ := z; rw [List.take_zero] at z; cases z)⟩ (by rintro i σ H' _ ⟨_,_,_,_,_,_,_,e,_⟩; exact e) ?_ ?_
  ·rintro i x y T σ H' hi hit ⟨wv,v2,v3,v4,v5,v6,rfl,lF,k',uG,rV,CF,tV⟩ hT
   have SG:i < 3000:=Nat.lt_of_lt_of_le hi lK
   obtain ⟨kk,bb,aJ,rfl,wC⟩ := hit
   have bL:(kk,y) ∈ kvs:=List.mem_of_getElem? aJ
   obtain ⟨kw,hkw⟩ := J6 bL
   obtain ⟨c,cs,ey,hc,jF,rU⟩ := fG.1 _ bL
   have SH:y = .ref c:=ey
   subst SH
   have s2:Ab H' (upd H' T (.tup [.ref bb,.ref c])):=Ab.upd hT
   have e2:(upd H' T (.tup [.ref bb,.ref c])) T = some (.tup [.ref bb,.ref c]):=A5
   generalize upd H' T (.tup [.ref bb,.ref c]) = H2 at s2 e2 ⊢
   refine ⟨T,_,rfl,C0.of e2,rfl,_,_,rfl,_,_,rfl,rfl,?_⟩
   have DM:c ≠ D:=Br hc hD (by intro z; cases z)
   have SI:c ≠ W:=Ad hc hW
   have jC:=s2 _ _ (k' c _ DM hc)
   refine ⟨c,.dK cs,trivial,jC,_,rfl,c,.dK cs,rfl,trivial,jC,fun o2=>?_⟩
   have SJ:LT H2 (upd H2 c (.bG o2 (.dK cs))):=LT.dK jC
   refine Ms (d:=c) (o:=o2) (u := .dK cs) (fun j σ H3=>df fun (wv:List ((List Int × Int) × V)) (v4 v5 v6:Option V)=>Mw (σ = [some (.ref D),some (.ref W),some (.ref bb),some (.ref c),v4,v5,v6]) (H3 c = some (.bG o2 (.dK cs))) (H3 D = some (.bG o (.dT kvs))) ((mr D c H H3)) (An H2 H3) (H3 W = some (.dT wv)) (Et ws cm H kvs (16 * i + 2 * j) H3 wv) (wv.length <= 16 * i + 2 * j) ((iz ws cm H kvs i H3 wv)) (kq ws cm cs j kk H3 wv))
    ⟨wv,_,_,_,rfl,A5,(Aa DM.symm).trans (s2 _ _ lF),(fun b ob n1 n2 e=>(Aa n2).trans (s2 _ _ (k' b ob n1 e))),SJ.2,(Aa SI.symm).trans (s2 _ _ uG),rV.up ((LT.of s2).trans SJ) (by omega),by omega,(fun k who later z1 z2 z3=>(tV k who later z1 z2 z3).up ((LT.of s2).trans SJ)),(fun who later z=>by obtain ⟨e,z,_⟩ := z; rw [List.take_zero] at z; cases z)⟩ (by rintro j σ H3 _ ⟨_,_,_,_,_,e,_⟩; exact e) ?_ ?_
   ·rintro j x2 y2 T2 σ H3 hj SK ⟨SM,v4,v5,v6,rfl,FX,SN,k3,t3,FY,wV,FZ,SO,wW⟩ SQ
    have hj8:j < 8:=Nat.lt_of_lt_of_le hj jF
    obtain ⟨kk2,GA,rfl⟩ := SK
    obtain ⟨w2,l,gN,ei,hw2,SR,el,hl,wX⟩ := rU _ (List.mem_of_getElem? GA)
    have qP:gN.length <= 2:=by
     rw [wX.1]
     unfold Ay
     split <;> simp
    have ei':kk2 = .inl (w2:Int):=ei
    subst ei'
    have el':y2 = .ref l:=el
    subst el'
    have s4:Ab H3 (upd H3 T2 (.tup [kV (.inl (w2:Int)),.ref l])):=Ab.upd SQ
    have e4:(upd H3 T2 (.tup [kV (.inl (w2:Int)),.ref l])) T2 = some (.tup [kV (.inl (w2:Int)),.ref l]):=A5
    generalize upd H3 T2 (.tup [kV (.inl (w2:Int)),.ref l]) = H4 at s4 e4 ⊢
    refine ⟨T2,_,rfl,C0.of e4,rfl,_,_,rfl,_,_,rfl,rfl,?_⟩
    have hlD:l ≠ D:=Br hl hD (by intro z; cases z)
    have hlc:l ≠ c:=Br hl hc (by intro z; cases z)
    refine ⟨_,rfl,l,rfl,.inl ⟨⟨_,B6.of (s4 _ _ (k3 l _ hlD hlc hl))⟩,?_⟩⟩
    refine Cq (K:=K) (a:=l) (xs:=gN) (fun m σ H5=>Q8 fun (wv:List ((List Int × Int) × V)) (v6:Option V)=>Rj (σ = [some (.ref D),some (.ref W),some (.ref bb),some (.ref c),some (kV (.inl (w2:Int))),some (.ref l),v6]) (H5 c = some (.bG o2 (.dK cs))) (H5 D = some (.bG o (.dT kvs))) ((mr D c H H5)) (An H2 H5) (H5 W = some (.dT wv)) (Et ws cm H kvs (16 * i + 2 * j + m) H5 wv) (wv.length <= 16 * i + 2 * j + m) ((iz ws cm H kvs i H5 wv)) ((kq ws cm cs j kk H5 wv)) (∀ later,some later ∈ (Ay ws kk.1 cm kk.2 w2).take m -> Ck H5 wv later kk w2))
     ⟨SM,_,rfl,s4 _ _ FX,s4 _ _ SN,(fun b ob n1 n2 e=>s4 _ _ (k3 b ob n1 n2 e)),t3.trans (An.of s4),s4 _ _ FY,wV.up (LT.of s4) (Nat.le_refl _),FZ,(fun k who later z1 z2 z3=>(SO k who later z1 z2 z3).up (LT.of s4)),(fun who later z1 z2=>(wW who later z1 z2).up (LT.of s4)),(fun later z=>by rw [List.take_zero] at z; cases z)⟩ (by rintro m σ H5 _ ⟨_,_,_,_,_,k5,_⟩; exact B6.of (k5 l _ hlD hlc hl)) ?_ ?_
    ·rintro m u σ H5 hu ⟨wY,v6,rfl,lL,nS,k5,t5,lV,jL,SS,NP,rX,rY⟩
     have CM:m < 2:=Nat.lt_of_lt_of_le (List.getElem?_eq_some_iff.mp hu).1 qP
     obtain ⟨r0,qT,lD⟩ := wX.get hu
     obtain ⟨lk,er⟩ : ∃ lk,r0 = some lk:=by
      cases r0 with
      | none=>exact absurd (List.mem_of_getElem? qT) SR
      | some r=>exact ⟨r,rfl⟩
     subst er
     obtain ⟨lb,rfl,rZ⟩ := lD
     have SU:Dx H lb lk:=rZ
     have tH5:An H H5:=fun b xs e=>k5 b _ (Br e hD (by intro z; cases z)) (Br e hc (by intro z; cases z)) e
     have SW:=SU.up tH5
     have GB:∀ E,H5 E = none -> H E = none:=fun E hE=>by
      cases hHE:H E with
      | none=>rfl
      | some ob =>
       by_cases z1:E = D
       ·rw [z1,nS] at hE
        cases hE
       by_cases z2:E = c
       ·rw [z2,lL] at hE
        cases hE
       rw [k5 E ob z1 z2 hHE] at hE
       cases hE
     refine ⟨(fun v H7=>Wg fun (sC:List ((List Int × Int) × V)) (l7:Addr) (wZ:List V)=>cr (v = .ref l7) (Af sC lk = some (.ref l7)) (H l7 = none) (H7 l7 = some (.lst wZ)) (wZ.length <= 16 * i + 2 * j + m) ((∀ u ∈ wZ,P1 ws cm kvs H7 lk u)) (H7 c = some (.bG o2 (.dK cs))) (H7 D = some (.bG o (.dT kvs))) ((∀ b ob,b ≠ D -> b ≠ c -> H b = some ob -> H7 b = some ob)) (An H5 H7) (H7 W = some (.dT sC)) (Et ws cm H kvs (16 * i + 2 * j + m) H7 sC) (sC.length <= 16 * i + 2 * j + m + 1) ((∀ k who later,(∃ v,(k,v) ∈ kvs.take i) -> Al H kvs k who -> some later ∈ Ay ws k.1 cm k.2 who -> Ck H7 sC later k who)) ((∀ who later,(∃ e ∈ cs.take j,e.1 = .inl ((who:Nat):Int)) -> some later ∈ Ay ws kk.1 cm kk.2 who -> Ck H7 sC later kk who)) ((∀ later,some later ∈ (Ay ws kk.1 cm kk.2 w2).take m -> Ck H7 sC later kk w2))),⟨_,rfl,W,rfl,.inr ⟨wY,.inl lV⟩,_,rfl,Bn,fun E hE=>?_⟩,?_⟩
     ·have s6:Ab H5 (upd H5 E (.lst [])):=Ab.upd hE
      have e6:(upd H5 E (.lst [])) E = some (.lst []):=A5
      generalize upd H5 E (.lst []) = H6 at s6 e6 ⊢
      have GC:=s6 _ _ lV
      refine ⟨wY,lk,lb,rfl,SW.up (An.of s6),GC,Cr (by omega),fun v hv=>?_,fun hv=>?_⟩
      ·obtain ⟨l7,wZ,e7,h0,h1,h2,h3⟩ := jL.1 _ (Bj hv)
       have e7':v = .ref l7:=e7
       exact ⟨wY,l7,wZ,e7,by rw [hv,e7'],h0,s6 _ _ h1,h2,(fun u hu=>(h3 u hu).up (An.of s6)),s6 _ _ lL,s6 _ _ nS,(fun b ob n1 n2 e=>s6 _ _ (k5 b ob n1 n2 e)),An.of s6,GC,jL.up (LT.of s6) (Nat.le_refl _),by omega,(fun k who later z1 z2 z3=>(NP k who later z1 z2 z3).up (LT.of s6)),(fun who later z1 z2=>(rX who later z1 z2).up (LT.of s6)),(fun later z=>(rY later z).up (LT.of s6))⟩
      ·have t7:LT H6 (upd H6 W (.dT (Bl wY lk (.ref E)))):=LT.dT GC
       have nE:=GB E hE
       have NQ:=(LT.of s6).trans t7
       refine ⟨Bl wY lk (.ref E),E,[],rfl,by rw [Fw,if_pos rfl],nE,t7.1 _ _ e6,Nat.zero_le _,(fun u hu=>by cases hu),(Aa SI).trans (s6 _ _ lL),(Aa SF.symm).trans (s6 _ _ nS),(fun b ob n1 n2 e=>(Aa (Ad e hW)).trans (s6 _ _ (k5 b ob n1 n2 e))),(An.of s6).trans t7.2,A5,?_,Nat.le_trans (D1 _ _ _) (by omega),(fun k who later z1 z2 z3=>((NP k who later z1 z2 z3).up NQ).put hv),(fun who later z1 z2=>((rX who later z1 z2).up NQ).put hv),(fun later z=>((rY later z).up NQ).put hv)⟩
       refine ⟨fun kv aJ=>?_,?_⟩
       ·rcases Xh aJ with y | y
        ·exact (jL.up NQ (Nat.le_refl _)).1 kv y
        ·subst y
         exact ⟨E,[],rfl,nE,t7.1 _ _ e6,Nat.zero_le _,fun u hu=>by cases hu⟩
       ·rw [Dk _ hv,List.map_append]
        refine E3 jL.2 (fun y=>?_)
        obtain ⟨kv,aJ,e⟩ := List.mem_map.mp y
        obtain ⟨l9,us9,e9,_,h9,_⟩ := jL.1 kv aJ
        have e':kv.2 = .ref E:=e
        rw [e'] at e9
        cases e9
        rw [hE] at h9
        cases h9
     rintro v H7 ⟨sC,l7,wZ,rfl,hv7,n7,SX,SY,GD,hc7,hD7,k7,t7,hW7,TC,hwl7,hs7,TF,TH⟩
     refine ⟨.inl ⟨rfl,_,B6.of SX⟩,_,rfl,_,rfl,Bn,fun T3 hT3=>?_⟩
     have s8:Ab H7 (upd H7 T3 (.tup [.ref bb,kV (.inl (w2:Int))])):=Ab.upd hT3
     have e8:(upd H7 T3 (.tup [.ref bb,kV (.inl (w2:Int))])) T3 = some (.tup [.ref bb,kV (.inl (w2:Int))]):=A5
     generalize upd H7 T3 (.tup [.ref bb,kV (.inl (w2:Int))]) = H8 at s8 e8 ⊢
     have lJ:=s8 _ _ SX
     refine ⟨l7,_,_,rfl,rfl,lJ,Cr (by omega),?_⟩
     have TJ:l7 ≠ D:=(Ad hD n7).symm
     have TK:l7 ≠ c:=(Ad hc n7).symm
     have TM:l7 ≠ W:=Br SX hW7 (by intro z; cases z)
     have GF:Dx H8 bb kk:=(((wC.up (An.of s2)).up t5).up t7).up (An.of s8)
     have TN:P1 ws cm kvs H8 lk (.ref T3):=⟨T3,bb,w2,kk,rfl,e8,GF,⟨kw,hkw⟩,List.mem_of_getElem? qT⟩
     refine ⟨sC,_,rfl,(Aa TK.symm).trans (s8 _ _ hc7),(Aa TJ.symm).trans (s8 _ _ hD7),(fun b ob n1 n2 e=>(Aa (Ad e n7)).trans (s8 _ _ (k7 b ob n1 n2 e))),((t5.trans t7).trans (An.of s8)).trans (An.lst lJ),(Aa TM.symm).trans (s8 _ _ hW7),?_,by omega,(fun k who later z1 z2 z3=>((hs7 k who later z1 z2 z3).up (LT.of s8)).app lJ),(fun who later z1 z2=>((TF who later z1 z2).up (LT.of s8)).app lJ),(fun later z=>?_)⟩
     ·exact Et.app (TC.up (LT.of s8) (Nat.le_refl _)) (Bj hv7) lJ SY (fun u hu=>(GD u hu).up (An.of s8)) TN
     ·rw [List.take_add_one,qT] at z
      rcases List.mem_append.mp z with y | y
      ·exact ((TH later y).up (LT.of s8)).app lJ
      ·have ey:later = lk:=by simpa using y
       subst ey
       have tt:An H8 (upd H8 l7 (.lst (wZ ++ [.ref T3]))):=An.lst lJ
       exact ⟨l7,_,T3,bb,hv7,A5,by simp,tt _ _ e8,GF.up tt⟩
    rintro σ H5 ⟨wY,v6,rfl,lL,nS,k5,t5,lV,jL,SS,NP,rX,rY⟩
    refine ⟨wY,_,_,_,rfl,lL,nS,k5,t5,lV,jL.up ⟨fun _ _ z=>z,fun _ _ z=>z⟩ (by omega),by omega,NP,fun who later z1 z2=>?_⟩
    obtain ⟨e,he,ew⟩ := z1
    rw [List.take_add_one,GA] at he
    rcases List.mem_append.mp he with y | y
    ·exact rX who later ⟨e,y,ew⟩ z2
    ·have ey:e = (.inl (w2:Int),.ref l):=by simpa using y
     subst ey
     have ew2:(w2:Int) = (who:Int):=Sum.inl.inj ew
     have ew3:w2 = who:=by omega
     subst ew3
     refine rY later ?_
     rw [wX.1,List.take_length]
     exact z2
   rintro σ H3 ⟨SM,v4,v5,v6,rfl,FX,SN,k3,t3,FY,wV,FZ,SO,wW⟩
   have GG:D7 (.dK cs) <= 8:=jF
   have tz:LT H3 (upd H3 c (.dK cs)):=⟨fun b xs e=>by rw [Aa (Br e FX (by intro z; cases z))]; exact e,fun b xs e=>by rw [Aa (Br e FX (by intro z; cases z))]; exact e⟩
   refine ⟨o2,FX,SM,_,_,_,_,_,rfl,(Aa DM.symm).trans SN,(fun b ob n1 e=>?_),(Aa SI.symm).trans FY,wV.up tz (show 16 * i + 2 * D7 (.dK cs) <= 16 * (i + 1) by omega),by omega,fun k who later z1 z2 z3=>?_⟩
   ·by_cases z:b = c
    ·subst z
     rw [hc] at e
     cases e
     exact A5
    ·exact (Aa z).trans (k3 b ob n1 z e)
   ·obtain ⟨v,hv⟩ := z1
    rw [List.take_add_one,aJ] at hv
    rcases List.mem_append.mp hv with y | y
    ·exact (SO k who later ⟨v,y⟩ z2 z3).up tz
    ·have ey:(k,v) = (kk,.ref c):=by simpa using y
     cases ey
     obtain ⟨c',hJ,g1,g2,g3⟩ := z2
     rw [Cg fG.2.1 bL] at g1
     cases g1
     rw [hc] at g2
     cases g2
     obtain ⟨w',RQ⟩ := Option.isSome_iff_exists.mp g3
     refine (wW who later ⟨(.inl (who:Int),w'),?_,rfl⟩ z3).up tz
     show _ ∈ cs.take cs.length
     rw [List.take_length]
     exact Bj RQ
  rintro σ H' ⟨wv,v2,v3,v4,v5,v6,rfl,lF,k',uG,rV,CF,tV⟩
  have TQ:D7 (.dT kvs) <= 3000:=lK
  have tD:LT H' (upd H' D (.dT kvs)):=⟨fun b xs e=>by rw [Aa (Br e lF (by intro z; cases z))]; exact e,fun b xs e=>by rw [Aa (Br e lF (by intro z; cases z))]; exact e⟩
  refine ⟨o,lF,_,rfl,q W wv _ hW (fun b ob e=>?_) ((Aa SF).trans uG) (rV.up tD (show 16 * D7 (.dT kvs) <= 48000 by omega)) (fun k who later z2 z3=>?_) (by omega)⟩
  ·by_cases z:b = D
   ·subst z
    rw [hD] at e
    cases e
    exact A5
   ·exact (Aa z).trans (k' b ob z e)
  ·obtain ⟨c',hJ,g1,g2,g3⟩ := id z2
   refine (tV k who later ⟨.ref c',?_⟩ z2 z3).up tD
   show _ ∈ kvs.take kvs.length
   rw [List.take_length]
   exact Bj g1
def Xi (K : PySem.W.Frag) : Sp := fun vs H Q _ => gu fun (D W R : Addr) (kvs wv : List ((List Int × Int) × V)) (rs : List V) (bB : List (List Int × Int)) (H0 : Hp) (ws : List Int) (cm : Option Int) => Mw (vs = [.ref D, .ref W, .ref R]) (H D = some (.dT kvs)) (Cj ws cm H kvs) (H W = some (.dT wv)) (Et ws cm H0 kvs 48000 H wv) ((∀ k who later, Al H kvs k who -> some later ∈ Ay ws k.1 cm k.2 who -> Ck H wv later k who)) (H R = some (.lst rs)) (Ae (Gd H) bB rs) (Ce H kvs <= 24000) (∀ (B : Addr) (bs : List V) (beta : List (List Int × Int)) (H' : Hp), H B = none -> Dy kvs H H' -> Cj ws cm H' kvs -> H' B = some (.lst bs) -> Ae (Gd H') beta bs -> Ce H' kvs + bs.length <= Ce H kvs ->
  (∀ k who,Al H' kvs k who ↔ (Al H kvs k who /\ ∀ later ∈ bB,some later ∉ Ay ws k.1 cm k.2 who)) -> (∀ k,k ∈ beta ↔ ((∃ who,Al H kvs k who) /\ ∀ who,¬ Al H' kvs k who)) -> Q (.ref B) H')
theorem jx {fd  : FuncData} (T:Txt K mg ad aA aB) (F:Fk K "without_calls_left" "without_calls_left" Vu ad.gC fd):Ai P w K mg base Bm 1 ad.gC fd ["pending","ways","ranked"] (Xi K):=by
 refine F.ok Ml (fun vs H Q E h=>?_) (fun aP A outer s H vs Q E hr h=>?_)
 ·rcases h with ⟨D,W,R,kvs,wv,rs,bB,H0,ws,cm,rfl,hD,fG,hW,rV,qR,hR,qU,hle,q⟩ <;> rfl
 ·obtain ⟨D,W,R,kvs,wv,rs,bB,H0,ws,cm,rfl,hD,fG,hW,rV,qR,hR,qU,hle,q⟩ := h
  refine ⟨_,(A6 (Ah (i:=3) Ml.nd rfl (Or.inl rfl) (Ca A8)) (A6 (Cn PassesOwn.never rfl (D9 (w':=Pl K _) (Da (pv 2))) (Aw (i:=4) Ml.nd rfl (Or.inl rfl)) (Ac (Cn PassesOwn.never rfl (D9 (w':=Pl K _) (Da (Zj (Z3 (Fo hr) (pv 1) (pv 4) (Ca A8) ⟨rfl,rfl,rfl,rfl⟩)))) (Ib K (n:=2) rfl (Cy (Aw (i:=5) Ml.nd rfl (Or.inl rfl)) (Cy (Aw (i:=6) Ml.nd rfl (Or.inl rfl)) Hh))) (A6 (Ah (i:=7) Ml.nd rfl (Or.inl rfl) (Hn (Fo hr) (pv 0) (pv 5) (fun _ _=>rfl))) (Ac (Dd (Ic (Ov (Fo hr) (pv 6) (pv 7)) rfl) (A6 (Cb (Yo (pv 7) (pv 6) ⟨rfl,rfl,rfl,rfl⟩)) (Ac (Dd (Fc (Uk (pv 7))) (Ac (Cb (Dm (u':=Qx K _ _ _ _) (Dq PySem.F.plainAttrs_list PySem.F.slot_list_append PySem.F.type_list_append Cc (pv 3) (A0 (pv 5) A8))))) Ax))) Ax)))))) (Ac (Ar (pv 3))))),?_⟩
  have iX:=fG.ok
  refine ⟨Bn,fun B hB=>?_⟩
  have s1:Ab H (upd H B (.lst [])):=Ab.upd hB
  have e1:(upd H B (.lst [])) B = some (.lst []):=A5
  generalize upd H B (.lst []) = H1 at s1 e1 ⊢
  have c1:∀ c cs,H c = some (.dK cs) -> H1 c = some (.dK cs):=fun c cs e=>s1 _ _ e
  refine ⟨_,rfl,R,rfl,.inl ⟨⟨_,B6.of (s1 _ _ hR)⟩,?_⟩⟩
  refine Cq (K:=K) (a:=R) (xs:=rs) (fun i σ H'=>jl fun (bs:List V) (beta:List (List Int × Int)) (v4 v5 v6 v7:Option V)=>Rj (σ = [some (.ref D),some (.ref W),some (.ref R),some (.ref B),v4,v5,v6,v7]) (Dy kvs H H') (Cj ws cm H' kvs) (H' B = some (.lst bs)) (Ae (Gd H') beta bs) (Ce H' kvs + bs.length <= Ce H kvs) (Uf B H' kvs) ((Zd kvs H' H)) ((gk ws cm kvs bB i H H')) ((dn ws cm kvs bB i H')) ((mi kvs H H' beta)))
   ⟨[],[],_,_,_,_,rfl,Dy.of s1,fG.keep (LT.of s1) c1,e1,Ae.nil,by rw [Dw iX c1]; exact Nat.le_refl _,(Uf.start iX hB).keep iX c1,(fun k who z=>(Al.keep fG c1).mp z),(fun k who z _=>(Al.keep fG c1).mpr z),(fun later z=>by rw [List.take_zero] at z; cases z),fun k=>⟨(fun z=>by cases z),fun z=>?_⟩⟩ (by rintro i σ H' _ ⟨_,_,_,_,_,_,_,ch,_⟩; exact B6.of (ch.keep iX hR (fun cs z=>nomatch z))) ?_ ?_
  ·obtain ⟨⟨who,z1⟩,z2⟩ := z
   exact absurd ((Al.keep fG c1).mpr z1) (z2 who)
  ·rintro i u σ H' hu ⟨bs,beta,v4,v5,v6,v7,rfl,ch,eA,NR,TR,TU,nb,l1,l2,l3,l4⟩
   obtain ⟨lk,rZ,lb,lu,rfl,TV,TX⟩ := qU.get hu
   have SU:Dx H lb lk:=⟨lu,TV,TX⟩
   have sF:=eA.ok
   have lt':=ch.lt iX
   have uG:=ch.keep iX hW (fun cs z=>nomatch z)
   have TY:=rV.up lt' (Nat.le_refl _)
   refine ⟨(fun v H7=>Q8 fun (la:Addr) (gN:List V)=>Lu (v = .ref la) (H7 la = some (.lst gN)) (la ≠ B) ((∀ u ∈ gN,P1 ws cm kvs H7 lk u)) ((∀ lx,Af wv lk = some (.ref lx) -> lx = la)) (Ab H' H7)),⟨_,rfl,W,rfl,.inr ⟨wv,.inl uG⟩,_,rfl,Bn,fun E hE=>?_⟩,?_⟩
   ·have s6:Ab H' (upd H' E (.lst [])):=Ab.upd hE
    refine ⟨_,D8.t (s6 _ _ uG) ((SU.up lt'.2).up (An.of s6)),?_⟩
    cases hv:Af wv lk with
    | none=>exact ⟨E,[],rfl,A5,(Ad NR hE).symm,(fun u hu=>by cases hu),(fun lx z=>by cases z),s6⟩
    | some v =>
     obtain ⟨la,gN,e2,h0,h1,h2,h3⟩ := rV.1 _ (Bj hv)
     obtain ⟨lc,sH,e3,_,g1,_,g3⟩ := TY.1 _ (Bj hv)
     have e23:V.ref la = V.ref lc:=e2.symm.trans e3
     cases e23
     have e3':v = .ref la:=e3
     exact ⟨la,sH,e3,s6 _ _ g1,Ad h1 hB,(fun u hu=>(g3 u hu).up (An.of s6)),(fun lx z=>by rw [e3'] at z; cases z; rfl),s6⟩
   rintro v H7 ⟨la,gN,rfl,TZ,UA,UB,hlx,s7⟩
   refine ⟨la,rfl,.inl ⟨⟨_,B6.of TZ⟩,?_⟩⟩
   have c7:∀ c cs,H' c = some (.dK cs) -> H7 c = some (.dK cs):=fun c cs e=>s7 _ _ e
   have UC:=eA.keep (LT.of s7) c7
   have lt7:LT H H7:=lt'.trans (LT.of s7)
   refine Cq (K:=K) (a:=la) (xs:=gN) (fun j σ H8=>nu fun (bs:List V) (beta:List (List Int × Int)) (v5 v6 v7:Option V)=>cw (σ = [some (.ref D),some (.ref W),some (.ref R),some (.ref B),some (.ref lb),v5,v6,v7]) (Dy kvs H H8) (Cj ws cm H8 kvs) (H8 B = some (.lst bs)) (Ae (Gd H8) beta bs) (Ce H8 kvs + bs.length <= Ce H kvs) (Uf B H8 kvs) ((Zd kvs H8 H)) ((gk ws cm kvs bB (i + 1) H H8)) ((dn ws cm kvs bB i H8)) ((mi kvs H H8 beta)) (An H7 H8) (H8 la = some (.lst gN)) ((Zd kvs H8 H7)) (uw H7 gN j H8 kvs))
    ⟨bs,beta,_,_,_,rfl,ch.trans (Dy.of s7),UC,s7 _ _ NR,TR.imp (fun _ _ z=>Gd.up (An.of s7) z),by rw [Dw sF c7]; exact TU,nb.keep sF c7,(fun k who z=>l1 k who ((Al.keep eA c7).mp z)),(fun k who z1 z2=>(Al.keep eA c7).mpr (l2 k who z1 fun later hl=>z2 later (List.take_subset_take_left _ (Nat.le_succ i) hl))),(fun later hl k who z1 z2=>l3 later hl k who z1 ((Al.keep eA c7).mp z2)),(fun k=>(l4 k).trans ⟨fun z=>⟨z.1,fun who y=>z.2 who ((Al.keep eA c7).mp y)⟩,fun z=>⟨z.1,fun who y=>z.2 who ((Al.keep eA c7).mpr y)⟩⟩),(fun _ _ z=>z),TZ,(fun k who z=>z),(fun t b who k z=>by rw [List.take_zero] at z; cases z)⟩ (by rintro j σ H8 _ ⟨_,_,_,_,_,_,_,_,_,_,_,_,_,_,_,_,_,e,_⟩; exact B6.of e) ?_ ?_
   ·rintro j u σ H8 hu2 ⟨qV,gR,v5,v6,v7,rfl,CT,jM,NS,nU,xb,NT,m1,m2,m3,m4,CU,sI,m5,m6⟩
    have hpo8:=jM.ok
    obtain ⟨t,b,who,k,rfl,ht7,hb7,⟨v,aJ⟩,UD⟩ := UB u (List.mem_of_getElem? hu2)
    have ht:=CU _ _ ht7
    have hb:=hb7.up CU
    refine ⟨t,_,rfl,C0.of ht,rfl,_,_,rfl,_,_,rfl,rfl,?_⟩
    have hD8:=CT.keep iX hD (fun cs z=>nomatch z)
    have bL:=Bj aJ
    obtain ⟨c,cs,ev,hc,jF,rU⟩ := jM.1 _ bL
    have ev':v = .ref c:=ev
    subst ev'
    have taken:∀ (HX:Hp),(∀ k' aG,Al HX kvs k' aG -> Al H8 kvs k' aG) -> ¬ Al HX kvs k who -> ∀ t' b' aG k',V.ref t' ∈ gN.take (j + 1) -> H7 t' = some (.tup [.ref b',.int ((aG:Nat):Int)]) -> Dx H7 b' k' -> ¬ Al HX kvs k' aG:=fun HX wK hx2 t' b' aG k' z1 z2 z3 z4=>by
     rw [List.take_add_one,hu2] at z1
     rcases List.mem_append.mp z1 with y | y
     ·exact m6 t' b' aG k' y z2 z3 (wK _ _ z4)
     ·have e1:t' = t:=by simpa using y
      subst e1
      rw [ht7] at z2
      cases z2
      obtain ⟨u1,f1,f2⟩ := hb7
      obtain ⟨u2,g1,g2⟩ := z3
      rw [f1] at g1
      injection g1 with g1
      injection g1 with g1
      injection g1 with UE GH
      injection GH with GH
      injection UE with UE
      injection GH with GH
      subst UE
      rw [f2] at g2
      have ek:k = k':=by
       have h1:k.1 = k'.1:=by
        have:=Option.some.inj g2
        injection this with this
        exact Jj this
       exact Prod.ext h1 GH
      subst ek
      exact hx2 z4
    refine ⟨_,rfl,_,rfl,D,.ref c,rfl,(by rw [<- aJ]; exact D8.t hD8 hb),?_⟩
    refine ⟨_,rfl,_,rfl,c,_,rfl,D8.k (k := .inl (who:Int)) hc,_,rfl,_,fun qL=>?_,fun qL=>?_,fun _ _ z=>z⟩
    ·obtain ⟨w',hw⟩ := Option.isSome_iff_exists.mp qL
     have uH:Al H8 kvs k who:=⟨c,cs,aJ,hc,by rw [hw]; rfl⟩
     refine ⟨_,rfl,c,rfl,.inl ⟨cs,.inl hc⟩,_,rfl,cs,.inl (who:Int),w',hc,rfl,hw,?_⟩
     have UG:Dy kvs H8 (upd H8 c (.dK (Bp cs (.inl (who:Int))))):=Dy.pop bL rfl
     have nV:Cj ws cm (upd H8 c (.dK (Bp cs (.inl (who:Int))))) kvs:=jM.pop hc
     have sJ:LT H8 (upd H8 c (.dK (Bp cs (.inl (who:Int))))):=LT.dK hc
     have NU:(upd H8 c (.dK (Bp cs (.inl (who:Int))))) c = some (.dK (Bp cs (.inl (who:Int)))):=A5
     have NV:Uf B (upd H8 c (.dK (Bp cs (.inl (who:Int))))) kvs:=NT.pop hc
     have hl9:=(Mq hc (ab hw) (kvs:=kvs)).2 ⟨_,bL,rfl⟩
     have xc:∀ k' aG,Al (upd H8 c (.dK (Bp cs (.inl (who:Int))))) kvs k' aG ↔ Al H8 kvs k' aG /\ ¬ (k' = k /\ aG = who):=fun k' aG=>Al.pop jM aJ hc
     generalize upd H8 c (.dK (Bp cs (.inl (who:Int)))) = H9 at UG nV sJ NU NV hl9 xc ⊢
     have GI:=nV.ok
     have GJ:=sJ.1 _ _ NS
     have hb9:=hb.up sJ.2
     have n1:∀ k' aG,Al H9 kvs k' aG -> Al H kvs k' aG:=fun k' aG z=>m1 _ _ ((xc k' aG).mp z).1
     have n2:∀ k' aG,Al H kvs k' aG -> (∀ later ∈ bB.take (i + 1),some later ∉ Ay ws k'.1 cm k'.2 aG) -> Al H9 kvs k' aG:=fun k' aG z1 z2=>(xc k' aG).mpr ⟨m2 _ _ z1 z2,fun e=>by
      refine z2 lk ?_ (by rw [e.1,e.2]; exact UD)
      rw [List.take_add_one,rZ]
      simp⟩
     have n3:∀ later ∈ bB.take i,∀ k' aG,some later ∈ Ay ws k'.1 cm k'.2 aG -> ¬ Al H9 kvs k' aG:=fun later hl k' aG z1 z2=>m3 later hl k' aG z1 ((xc k' aG).mp z2).1
     have n5:∀ k' aG,Al H9 kvs k' aG -> Al H8 kvs k' aG:=fun k' aG z=>((xc k' aG).mp z).1
     have n6:=taken H9 n5 (fun z=>((xc k who).mp z).2 ⟨rfl,rfl⟩)
     have other:∀ k',k' ≠ k -> ((∀ aG,¬ Al H9 kvs k' aG) ↔ ∀ aG,¬ Al H8 kvs k' aG):=fun k' dQ=>⟨fun z aG y=>z aG ((xc k' aG).mpr ⟨y,fun e=>dQ e.1⟩),fun z aG y=>z aG (n5 _ _ y)⟩
     have hkb:k ∉ gR:=fun z=>((m4 k).mp z).2 who uH
     refine ⟨_,rfl,c,_,rfl,.inl NU,_,fun he=>?_,fun he=>?_,fun _ _ z=>z⟩
     ·have jN : Bp cs (.inl (who : Int)) = [] := by
       have:(Bp cs (.inl (who:Int))).isEmpty = true:=by simpa using he
       exact List.isEmpty_iff.mp this
      have GK:∀ aG,¬ Al H9 kvs k aG:=fun aG z=>by
       obtain ⟨c',hJ,g1,g2,g3⟩ := z
       rw [aJ] at g1
       cases g1
       rw [NU] at g2
       cases g2
       rw [jN] at g3
       cases g3
      refine ⟨_,rfl,.inl ⟨rfl,_,B6.of GJ⟩,_,rfl,B,_,_,rfl,rfl,GJ,Cr (by omega),?_⟩
      have uI:An H9 (upd H9 B (.lst (qV ++ [.ref b]))):=An.lst GJ
      have NW:∀ c' hJ,H9 c' = some (.dK hJ) -> (upd H9 B (.lst (qV ++ [.ref b]))) c' = some (.dK hJ):=fun c' hJ e=>by
       rw [Aa (Br e GJ (by intro z; cases z))]
       exact e
      have kl:∀ x xs,x ≠ B -> H9 x = some (.lst xs) -> (upd H9 B (.lst (qV ++ [.ref b]))) x = some (.lst xs):=fun x xs n e=>(Aa n).trans e
      have jO:∀ k' aG,Al (upd H9 B (.lst (qV ++ [.ref b]))) kvs k' aG ↔ Al H9 kvs k' aG:=fun k' aG=>Al.keep nV NW
      obtain ⟨ub,UH,UI⟩ := hb9
      refine ⟨qV ++ [.ref b],gR ++ [k],_,_,_,rfl,(CT.trans UG).new hB,nV.uA NV uI kl NW,A5,(nU.imp fun _ _ z=>Gd.up uI (Gd.up sJ.2 z)).append (Ae.one ⟨b,ub,rfl,uI _ _ UH,uI _ _ UI⟩),?_,NV.keep GI NW,(fun k' aG z=>n1 _ _ ((jO k' aG).mp z)),(fun k' aG z1 z2=>(jO k' aG).mpr (n2 _ _ z1 z2)),(fun later hl k' aG z1 z2=>n3 later hl k' aG z1 ((jO k' aG).mp z2)),(fun k'=>?_),(CU.trans sJ.2).trans uI,kl _ _ UA (sJ.1 _ _ sI),(fun k' aG z=>m5 _ _ (n5 _ _ ((jO k' aG).mp z))),(fun t' b' aG k' z1 z2 z3 z4=>n6 t' b' aG k' z1 z2 z3 ((jO k' aG).mp z4))⟩
      ·rw [Dw GI NW,List.length_append,List.length_singleton]
       omega
      ·have e10:(∀ aG,¬ Al (upd H9 B (.lst (qV ++ [.ref b]))) kvs k' aG) ↔ ∀ aG,¬ Al H9 kvs k' aG:=⟨fun z aG y=>z aG ((jO k' aG).mpr y),fun z aG y=>z aG ((jO k' aG).mp y)⟩
       rw [e10]
       by_cases dQ:k' = k
       ·subst dQ
        exact ⟨fun _=>⟨⟨who,m1 _ _ uH⟩,GK⟩,fun _=>by simp⟩
       ·rw [other k' dQ,<- m4 k']
        simp [dQ]
     ·have bN : Bp cs (.inl (who : Int)) ≠ [] := fun z => by
       rw [z] at he
       exact absurd he (by decide)
      refine ⟨qV,gR,_,_,_,rfl,CT.trans UG,nV,GJ,nU.imp (fun _ _ z=>Gd.up sJ.2 z),by omega,NV,n1,n2,n3,(fun k'=>?_),CU.trans sJ.2,sJ.1 _ _ sI,(fun k' aG z=>m5 _ _ (n5 _ _ z)),n6⟩
      by_cases dQ:k' = k
      ·subst dQ
       refine ⟨fun z=>absurd z hkb,fun z=>?_⟩
       obtain ⟨x,hx⟩ := List.exists_mem_of_ne_nil _ bN
       obtain ⟨nC,l9,us9,g1,_⟩ := rU x (Kw hx)
       have hs:(Af (Bp cs (.inl (who:Int))) (.inl (nC:Int))).isSome = true:=by
        obtain ⟨y,hy⟩ := J6 (k:=x.1) (v:=x.2) hx
        rw [<- g1,hy]
        rfl
       exact absurd ⟨c,_,aJ,NU,hs⟩ (z.2 nC)
      ·rw [other k' dQ]
       exact m4 k'
    ·have lR : ¬ Al H8 kvs k who := fun z => by
      obtain ⟨c',hJ,g1,g2,g3⟩ := z
      rw [aJ] at g1
      cases g1
      rw [hc] at g2
      cases g2
      rw [qL] at g3
      cases g3
     exact ⟨qV,gR,_,_,_,rfl,CT,jM,NS,nU,xb,NT,m1,m2,m3,m4,CU,sI,m5,taken H8 (fun _ _ z=>z) lR⟩
   rintro σ H8 ⟨qV,gR,v5,v6,v7,rfl,CT,jM,NS,nU,xb,NT,m1,m2,m3,m4,CU,sI,m5,m6⟩
   refine ⟨qV,gR,_,_,_,_,rfl,CT,jM,NS,nU,xb,NT,m1,m2,(fun later hl k who z1 z2=>?_),m4⟩
   rw [List.take_add_one,rZ] at hl
   rcases List.mem_append.mp hl with y | y
   ·exact m3 later y k who z1 z2
   ·have e1:later = lk:=by simpa using y
    subst e1
    obtain ⟨lx,ux,tx,bx,f1,f2,f3,f4,f5⟩ := (qR k who later (m1 _ _ z2) z1).up lt7
    have ex:=hlx lx f1
    subst ex
    rw [TZ] at f2
    cases f2
    refine m6 tx bx who k ?_ f4 f5 z2
    rw [List.take_length]
    exact f3
  rintro σ H' ⟨bs,beta,v4,v5,v6,v7,rfl,ch,eA,NR,TR,TU,nb,l1,l2,l3,l4⟩
  unfold gk at l2
  unfold dn at l3
  rw [qU.1,List.take_length] at l2 l3
  exact ⟨_,rfl,q B bs beta H' hB ch eA NR TR TU (fun k who=>⟨fun z=>⟨l1 k who z,fun later hl y=>l3 later hl k who y z⟩,fun z=>l2 k who z.1 z.2⟩) l4⟩
def Su (K:PySem.W.Frag):Sp:=fun vs H Q _=>Wg fun (a:Addr) (ws:List Int) (cm:Option Int)=>Vy (vs = [.ref a]) (Bd H a ws cm) ((∀ w ∈ ws,1 <= w)) (1 <= qv cm) ((∀ w ∈ ws,intBits w <= 256)) (intBits (qv cm) <= 256) (ws.length <= 8) (Bc (qv cm) ws <= 3000) (∀ (T:Addr) (tv:List ((List Int × Int) × V)) (H':Hp),H T = none -> Ab H H' -> H' T = some (.dT tv) -> Ez ws cm tv -> (tv.map (·.1)).Nodup -> tv.length <= 60000 -> Q (.ref T) H')
theorem g7 {fd uJ nW uK:FuncData} (T:Txt K mg ad aA aB) (F:Fk K "ranks" "ranks" Kh ad.cJ fd) (xf:Ai P w K mg base Bm 6 ad.gB uJ ["hall"] (Xb K)) (xg:Av K uJ ["hall"] []) (nX:Ai P w K mg base Bm 1 ad.cH nW ["pending"] (Tz K)) (nY:Av K nW ["pending"] []) (xh:Ai P w K mg base Bm 1 ad.gC uK ["pending","ways","ranked"] (Xi K)) (xi:Av K uK ["pending","ways","ranked"] []):Ai P w K mg base Bm 7 ad.cJ fd ["hall"] (Su K):=by
 refine F.ok F4 (fun vs H Q E h=>?_) (fun aP A outer s H vs Q E hr h=>?_)
 ·rcases h with ⟨a,ws,cm,rfl,ha,cS,uF,lE,nH,lU,hp,q⟩ <;> rfl
 ·obtain ⟨a,ws,cm,rfl,ha,cS,uF,lE,nH,lU,hp,q⟩ := h
  refine ⟨_,(A6 (Ah (i:=1) F4.nd rfl (Or.inl rfl) (Am xf (hr.mono (by decide)) rfl T.RG T.k_x3 xg .nil Be (A0 (pv 0) A8))) (A6 (Ah (i:=2) F4.nd rfl (Or.inl rfl) (Am nX (hr.mono (by decide)) rfl T.FA T.k_x26 nY .nil Be (A0 (pv 1) A8))) (A6 (Ah (i:=3) F4.nd rfl (Or.inl rfl) Hx) (A6 (Ah (i:=4) F4.nd rfl (Or.inl rfl) A9) (A6 (Oe (Fa (i:=5) F4.nd rfl (L3 (pv 1)) _ rfl Si rfl rfl (fun _ _ _ _=>(Ib K (n:=2) rfl (Cy (Aw (i:=0) Km rfl (Or.inl rfl)) (Cy (Aw (i:=1) Km rfl (Or.inl rfl)) Hh)))) (fun _ _ _ _=>(V7 (Fc (Uk (pv 1))))) (fun _ _ _ _=>(pv 0)) rfl rfl)) (A6 (Lc PassesOwn.never (Lk (pv 5) (by intro _; rfl)) (A6 (Cn PassesOwn.never rfl (D9 (w':=Pl K _) (Da (pv 5))) (Aw (i:=6) F4.nd rfl (Or.inl rfl)) (Ac (Ju (Fo hr) (pv 3) (pv 6) (pv 4) rfl))) (A6 (Ah (i:=5) F4.nd rfl (Or.inl rfl) (Am xh (hr.mono (by decide)) rfl T.RH T.k_x1 xi .nil Be (A0 (pv 1) (A0 (pv 2) (A0 (pv 5) A8))))) (Ac (Ah (i:=4) F4.nd rfl (Or.inl rfl) (Au Cf (pv 4) A9)))))) (Ac (Ar (pv 3))))))))),?_⟩
  refine ⟨_,rfl,a,ws,cm,rfl,ha,cS,uF,lE,nH,lU,hp,fun D kvs H1 hD s1 eD fG eK nR fB lK=>?_⟩
  have iX:=fG.ok
  refine ⟨_,rfl,D,kvs,ws,cm,rfl,eD,fG,lK,fun W wv H2 hW s2 eW rV UJ CF=>?_⟩
  refine fun T hT=>?_
  have s3:Ab H2 (upd H2 T (.dT [])):=Ab.upd hT
  have e3:(upd H2 T (.dT [])) T = some (.dT []):=A5
  generalize upd H2 T (.dT []) = H3 at s3 e3 ⊢
  have uL:=s2.trans s3
  have CV:=uL _ _ eD
  have hTD:T ≠ D:=(Ad (s2 _ _ eD) hT).symm
  refine ⟨D,.dT kvs,trivial,CV,_,rfl,D,.dT kvs,rfl,trivial,CV,fun o=>?_⟩
  have sL:=fG.keep (LT.of uL) (fun c cs e=>uL _ _ e)
  have UK:=sL.ok
  have GL:=nR.keep fG (fun c cs e=>uL _ _ e)
  have tF:LT H3 (upd H3 D (.bG o (.dT kvs))):=LT.dT CV
  have kF:∀ c cs,H3 c = some (.dK cs) -> (upd H3 D (.bG o (.dT kvs))) c = some (.dK cs):=fun c cs e=>by
   rw [Aa (Br e CV (by intro z; cases z))]
   exact e
  have bF:∀ b ob,b ≠ D -> H3 b = some ob -> (upd H3 D (.bG o (.dT kvs))) b = some ob:=fun b ob n e=>(Aa n).trans e
  have dF:(upd H3 D (.bG o (.dT kvs))) D = some (.bG o (.dT kvs)):=A5
  have sM:=sL.keep tF kF
  have uM:=GL.keep sL kF
  generalize upd H3 D (.bG o (.dT kvs)) = HF at tF kF bF dF sM uM ⊢
  refine fun R hR=>?_
  refine Tk (K:=K) (d:=D) (o:=o) (u := .dT kvs) (fun i zs H'=>∃ (bB:List (List Int × Int)),Ip (H' R = some (.lst zs)) (zs.length <= i) (Ae (Gd H') bB zs) (Ab HF H') (∀ k,k ∈ bB ↔ ∃ v,(k,v) ∈ kvs.take i /\ Yx HF v)) ⟨[],A5,Nat.le_refl _,Ae.nil,Ab.upd hR,fun k=>⟨(fun z=>by cases z),fun ⟨v,z,_⟩=>by rw [List.take_zero] at z; cases z⟩⟩ (by rintro i zs H' _ ⟨_,_,_,_,s,_⟩; exact s _ _ dF) ?_ ?_ ?_ ?_
  ·rintro i x y T2 zs H' hi hit ⟨bB,lB,CQ,qW,s',GN⟩ SQ
   have SG:i < 3000:=Nat.lt_of_lt_of_le hi lK
   obtain ⟨kk,bb,aJ,rfl,wC⟩ := hit
   obtain ⟨c,cs,ey,hc,jF,rU⟩ := sM.1 _ (List.mem_of_getElem? aJ)
   have SH:y = .ref c:=ey
   subst SH
   have s4:Ab H' (upd H' T2 (.tup [.ref bb,.ref c])):=Ab.upd SQ
   have e4:(upd H' T2 (.tup [.ref bb,.ref c])) T2 = some (.tup [.ref bb,.ref c]):=A5
   generalize upd H' T2 (.tup [.ref bb,.ref c]) = H4 at s4 e4 ⊢
   have CW:=s4 _ _ lB
   refine ⟨_,rfl,c,cs,rfl,.inl (s4 _ _ (s' _ _ hc)),?_⟩
   obtain ⟨ku,tU,rM⟩ := wC.up (An.of s4)
   refine Ly (fun NX=>?_) (fun NX=>?_)
   ·have jN : cs = [] := by
     have:cs.isEmpty = true:=by simpa using NX
     exact List.isEmpty_iff.mp this
    subst jN
    have tt:An H4 (upd H4 R (.lst (zs ++ [.ref bb]))):=An.lst CW
    refine ⟨_,rfl,CW,Cr (by omega),bB ++ [kk],A5,by rw [List.length_append,List.length_singleton]; omega,(qW.imp fun _ _ z=>Gd.up tt (Gd.up (An.of s4) z)).append (Ae.one ⟨bb,ku,rfl,tt _ _ tU,tt _ _ rM⟩),(s'.trans s4).new hR,fun k=>?_⟩
    rw [List.mem_append,GN,List.mem_singleton,List.take_add_one,aJ]
    constructor
    ·rintro (⟨v,z1,z2⟩ | z)
     ·exact ⟨v,List.mem_append_left _ z1,z2⟩
     ·subst z
      exact ⟨.ref c,by simp,c,rfl,hc⟩
    ·rintro ⟨v,z1,z2⟩
     rcases List.mem_append.mp z1 with y | y
     ·exact .inl ⟨v,y,z2⟩
     ·have e1:(k,v) = (kk,.ref c):=by simpa using y
      cases e1
      exact .inr rfl
   ·have bN : cs ≠ [] := fun z => by
     rw [z] at NX
     exact absurd NX (by decide)
    refine ⟨bB,CW,by omega,qW.imp fun _ _ z=>Gd.up (An.of s4) z,s'.trans s4,fun k=>?_⟩
    rw [GN,List.take_add_one,aJ]
    constructor
    ·rintro ⟨v,z1,z2⟩
     exact ⟨v,List.mem_append_left _ z1,z2⟩
    ·rintro ⟨v,z1,z2⟩
     rcases List.mem_append.mp z1 with y | y
     ·exact ⟨v,y,z2⟩
     ·have e1:(k,v) = (kk,.ref c):=by simpa using y
      cases e1
      obtain ⟨c',e2,e3⟩ := z2
      cases e2
      rw [hc] at e3
      cases e3
      exact absurd rfl bN
  ·rintro σ H1 Q1 Q2 hQ ⟨v,e1,c,cs,e2,r,z⟩
   exact ⟨v,e1,c,cs,e2,r,hQ _ _ z⟩
  ·rintro σ H1 Q1 Q2 hQ ⟨v,e1,z⟩
   exact ⟨v,e1,hQ _ _ z⟩
  rintro zs HG ⟨xj,hRG,CQ,qW,sG,uN⟩
  rw [show kvs.take (D7 (.dT kvs)) = kvs from List.take_length] at uN
  have xk:=Fe.start sM eK uM uN
  have GO:=sG _ _ dF
  have TQ:D7 (.dT kvs) <= 3000:=lK
  have tG:LT HG (upd HG D (.dT kvs)):=⟨fun b xs e=>by rw [Aa (Br e GO (by intro z; cases z))]; exact e,fun b xs e=>by rw [Aa (Br e GO (by intro z; cases z))]; exact e⟩
  have qX:Ab H3 (upd HG D (.dT kvs)):=fun b ob e=>by
   by_cases z:b = D
   ·subst z
    rw [CV] at e
    cases e
    exact A5
   ·exact (Aa z).trans (sG _ _ (bF b ob z e))
  refine ⟨o,GO,?_⟩
  have CW:=tG.1 _ _ hRG
  have GP:Ae (Gd (upd HG D (.dT kvs))) xj zs:=qW.imp fun _ _ z=>Gd.up tG.2 z
  have cG:∀ c cs,HF c = some (.dK cs) -> (upd HG D (.dT kvs)) c = some (.dK cs):=fun c cs e=>by
   rw [Aa (Br (sG _ _ e) GO (by intro z; cases z))]
   exact sG _ _ e
  have hR3:H3 R = none:=by
   cases hx:H3 R with
   | none=>rfl
   | some ob =>
    by_cases z:R = D
    ·rw [z,dF] at hR
     cases hR
    ·rw [bF R ob z hx] at hR
     cases hR
  generalize upd HG D (.dT kvs) = H4 at tG qX CW GP cG ⊢
  clear tG hRG qW sG GO
  have GQ:=sL.keep (LT.of qX) (fun c cs e=>qX _ _ e)
  have xl:=GQ.ok
  have UL:Fe ws cm [] xj 1 (Al H4 kvs):=by
   have e:Al H4 kvs = Al HF kvs:=by
    funext k who
    exact propext (Al.keep sM cG)
   rw [e]
   exact xk
  have UM:∀ k who later,Al H4 kvs k who -> some later ∈ Ay ws k.1 cm k.2 who -> Ck H4 wv later k who:=fun k who later z1 z2=>((UJ k who later ((Al.keep fG (fun c cs e=>qX _ _ (uL _ _ e))).mp z1) z2).up (LT.of s3)).up (LT.of qX)
  have eD4:=qX _ _ CV
  have eW4:=qX _ _ (s3 _ _ eW)
  have UN:=qX _ _ e3
  have UO:=rV.up ((LT.of s3).trans (LT.of qX)) (Nat.le_refl _)
  have hl4:Ce H4 kvs <= 24000:=by
   have:=Ky xl
   omega
  have hTv:∀ kv ∈ kvs,kv.2 ≠ .ref T:=fun kv aJ z=>by
   obtain ⟨c,cs,e1,e2,_⟩ := UK kv aJ
   rw [z] at e1
   cases e1
   rw [e3] at e2
   cases e2
  dsimp only
  refine Ko (fun σ' H'=>jl fun (R:Addr) (rs:List V) (bB:List (List Int × Int)) (tv:List ((List Int × Int) × V)) (rank:Int) (v6:Option V)=>Mw (σ' = [some (.ref a),some (.ref D),some (.ref W),some (.ref T),some (.int rank),some (.ref R),v6]) ((ui T kvs H4 H')) (Cj ws cm H' kvs) (H' T = some (.dT tv)) ((tv.map (·.1)).Nodup) (H' R = some (.lst rs)) (Ae (Gd H') bB rs) (Fe ws cm tv bB rank (Al H' kvs)) ((Zd kvs H' H4)) (tv.length + rs.length + Ce H' kvs <= 27000))
   (fun σ' H'=>2 * Ce H' kvs + match σ' with
    | [_,_,_,_,_,some (.ref R),_]=>(match H' R with
     | some (.lst [])=>0
     | _=>1)
    | _=>0) ⟨R,zs,xj,[],1,_,rfl,(fun b ob _ e _=>e),GQ,UN,List.Pairwise.nil,CW,GP,UL,(fun _ _ z=>z),by show 0 + zs.length + _ <= _; omega⟩ ?_ ?_
  ·rintro σ' H' ⟨R,rs,bB,tv,rank,v6,rfl,kp,eA,uO,htv,lB,qU,GR,rL,hsum⟩
   have sF:=eA.ok
   refine ⟨_,rfl,_,.inl ⟨_,B6.of lB,rfl⟩,?_⟩
   have lF:=kp D _ hTD.symm eD4 (fun kv aJ z=>by
    obtain ⟨c,cs,e1,e2,_⟩ := xl kv aJ
    rw [z] at e1
    cases e1
    rw [eD4] at e2
    cases e2)
   refine Ly (fun bN=>?_) (fun jN=>?_)
   ·have UP : 0 < rs.length := by
     cases rs with
     | nil=>exact absurd bN (by decide)
     | cons x xs=>simp
    have hRT:R ≠ T:=Br lB uO (by intro z; cases z)
    have mu0:(match H' R with
     | some (.lst [])=>0
     | _=>1) = 1:=by
     rw [lB]
     cases rs with
     | nil=>exact absurd UP (by decide)
     | cons x xs=>rfl
    refine ⟨_,rfl,R,rfl,.inl ⟨⟨_,B6.of lB⟩,?_⟩⟩
    refine Cq (K:=K) (a:=R) (xs:=rs) (fun i σ H5=>Q8 fun (nZ:List ((List Int × Int) × V)) (v6:Option V)=>ae (σ = [some (.ref a),some (.ref D),some (.ref W),some (.ref T),some (.int rank),some (.ref R),v6]) ((∀ b,b ≠ T -> H5 b = H' b)) (H5 T = some (.dT nZ)) ((nZ.map (·.1)).Nodup) ((∀ kv ∈ nZ,∃ n:Int,kv.2 = .int n /\ 1 <= n /\ n < rank + 1)) ((∀ k,Af nZ k = if k ∈ bB.take i then some (.int rank) else Af tv k)) (nZ.length <= tv.length + i))
     ⟨tv,_,rfl,(fun _ _=>rfl),uO,htv,(fun kv aJ=>by obtain ⟨n,e1,e2,e3⟩ := GR.2.1 kv aJ; exact ⟨n,e1,e2,by omega⟩),(fun k=>by rw [List.take_zero,if_neg (by simp)]),Nat.le_refl _⟩ (by rintro i σ H5 _ ⟨_,_,_,e,_⟩; exact B6.of ((e R hRT).trans lB)) ?_ ?_
    ·rintro i u σ H5 hu ⟨nZ,v6,rfl,k5,UQ,xm,xn,sO,hl5⟩
     have hi:=(List.getElem?_eq_some_iff.mp hu).1
     obtain ⟨k,UR,b,u1,rfl,lE,nH⟩ := qU.get hu
     have hbk:Dx H5 b k:=⟨u1,(k5 b (Br lE uO (by intro z; cases z))).trans lE,(k5 u1 (Br nH uO (by intro z; cases z))).trans nH⟩
     refine ⟨_,rfl,_,rfl,_,rfl,T,_,rfl,Lv.t UQ hbk (Cr (by omega)),?_⟩
     refine ⟨Bl nZ k (.int rank),_,rfl,(fun x n=>(Aa n).trans (k5 x n)),A5,g8 xm,Qb (P:=fun v=>∃ n:Int,v = .int n /\ 1 <= n /\ n < rank + 1) xn ⟨rank,rfl,GR.1,by omega⟩,(fun k'=>?_),Nat.le_trans (D1 _ _ _) (by omega)⟩
     rw [Fw,sO,List.take_add_one,UR]
     by_cases z:k' = k
     ·rw [if_pos z,if_pos (by rw [z]; simp)]
     ·rw [if_neg z]
      have e:(k' ∈ bB.take i ++ (some k).toList) ↔ k' ∈ bB.take i:=by simp [z]
      by_cases y:k' ∈ bB.take i
      ·rw [if_pos y,if_pos (e.mpr y)]
      ·rw [if_neg y,if_neg (fun x=>y (e.mp x))]
    rintro σ H5 ⟨nZ,v65,rfl,k5,UQ,xm,xn,sO,hl5⟩
    rw [qU.1,List.take_length] at sO
    have c5:∀ c cs,H' c = some (.dK cs) -> H5 c = some (.dK cs):=fun c cs e=>(k5 c (Br e uO (by intro z; cases z))).trans e
    have t5:LT H' H5:=⟨fun b xs e=>(k5 b (Br e uO (by intro z; cases z))).trans e,fun b xs e=>(k5 b (Br e uO (by intro z; cases z))).trans e⟩
    have GS:=eA.keep t5 c5
    have jK:=GS.ok
    have NY:∀ k who,Al H5 kvs k who ↔ Al H' kvs k who:=fun k who=>Al.keep eA c5
    have US:Al H5 kvs = Al H' kvs:=by
     funext k who
     exact propext (NY k who)
    have hl5e:=Dw sF c5
    have kp5:∀ b ob,b ≠ T -> H4 b = some ob -> (∀ kv ∈ kvs,kv.2 ≠ .ref b) -> H5 b = some ob:=fun b ob n e m=>(k5 b n).trans (kp b ob n e m)
    have oA:∀ b ob,b ≠ T -> H4 b = some ob -> (∀ cs,ob ≠ .dK cs) -> H5 b = some ob:=fun b ob n e m=>kp5 b ob n e fun kv aJ z=>by
     obtain ⟨c,cs,e1,e2,_⟩ := xl kv aJ
     rw [z] at e1
     cases e1
     rw [e] at e2
     exact m cs (Option.some.inj e2)
    have hWT:W ≠ T:=Ad eW hT
    have t45:LT H4 H5:=⟨fun b xs e=>oA b _ (Br e UN (by intro z; cases z)) e (fun cs z=>nomatch z),fun b xs e=>oA b _ (Br e UN (by intro z; cases z)) e (fun cs z=>nomatch z)⟩
    refine ⟨_,rfl,_,rfl,_,rfl,D,W,R,kvs,wv,rs,bB,H1,ws,cm,rfl,(k5 D hTD.symm).trans lF,GS,oA W _ hWT eW4 (fun cs z=>nomatch z),UO.up t45 (Nat.le_refl _),(fun k who later z1 z2=>(UM k who later (rL k who ((NY k who).mp z1)) z2).up t45),(k5 R hRT).trans lB,qU.imp (fun _ _ z=>Gd.up t5.2 z),Nat.le_trans (Ky jK) (by omega),fun B bs beta H6 hB ch6 UT hB6 UU GU GV UW=>?_⟩
    have UX:Fe ws cm nZ beta (rank + 1) (Al H6 kvs):=Fe.step GR sO xn (fun k who=>by rw [GV,NY]) (fun k=>by rw [UW,US])
    have hT6:H6 T = some (.dT nZ):=ch6 T _ UQ hTv
    refine ⟨_,rfl,_,_,rfl,rfl,⟨B,bs,beta,nZ,rank + 1,_,rfl,(fun b ob n e m=>ch6 b ob (kp5 b ob n e m) m),UT,hT6,xm,hB6,UU,UX,(fun k who z=>rL k who ((NY k who).mp ((GV k who).mp z).1)),by omega⟩,?_⟩
    show 2 * Ce H6 kvs + (match H6 B with
     | some (.lst [])=>0
     | _=>1) < 2 * Ce H' kvs + (match H' R with
     | some (.lst [])=>0
     | _=>1)
    rw [mu0,hB6]
    cases bs with
    | nil =>
     show 2 * Ce H6 kvs + 0 < _
     have:Ce H6 kvs + 0 <= Ce H5 kvs:=GU
     omega
    | cons x xs =>
     show 2 * Ce H6 kvs + 1 < _
     rw [List.length_cons] at GU
     omega
   ·have UY : rs = [] := by
     cases rs with
     | nil=>rfl
     | cons x xs=>exact absurd rfl jN
    have GW:bB = []:=by
     have:=qU.1
     rw [UY] at this
     exact List.length_eq_zero_iff.mp this.symm
    rw [GW] at GR
    refine ⟨_,rfl,q T tv H' (s1.free (s2.free hT)) (fun b ob e=>?_) uO GR.done htv (by omega)⟩
    have e4:=qX _ _ (uL _ _ (s1 _ _ e))
    refine kp b ob (fun z=>?_) e4 (fun kv aJ z=>?_)
    ·have:=s1.free (s2.free hT)
     rw [z,this] at e
     cases e
    ·rw [fB kv aJ b z] at e
     cases e
  ·intro σ H0 Q1 Q2 z h1
   obtain ⟨_,e,k,t,h2⟩ := h1
   exact ⟨_,e,k,t,z _ _ h2⟩
def Tp (K:PySem.W.Frag):Sp:=fun vs H Q _=>df fun (TB:Addr) (v:V) (o:Option (List Int × Int)) (tv:List ((List Int × Int) × V))=>Ip (vs = [.ref TB,v]) (H TB = some (.dT tv)) (Ht H o v) (Zo tv) (∀ (p:Addr) (H':Hp),Ab H H' -> H' p = some (.tup [.int (told tv o).1,.int (told tv o).2]) -> Q (.ref p) H')
theorem fm {fd  : FuncData} (T:Txt K mg ad aA aB) (F:Fk K "worth" "worth" Nv ad.cK fd):Ai P w K mg base Bm 1 ad.cK fd ["table","behind"] (Tp K):=by
 refine F.ok dq (fun vs H Q E h=>?_) (fun aP A outer s H vs Q E hr h=>?_)
 ·rcases h with ⟨TB,v,o,tv,rfl,hT,hv,qY,q⟩ <;> rfl
 ·obtain ⟨TB,v,o,tv,rfl,hT,hv,qY,q⟩ := h
  refine ⟨_,(A6 (Db (Bg S1 (pv 1) Ee (Ba _)) (Ac (Ar (Cw (A0 A9 (A0 A9 A8))))) Ax) (A6 (Db (Ic (Ov (Fo hr) (pv 1) (pv 0)) rfl) (Ac (Ar (Cw (A0 A9 (A0 (Hn (Fo hr) (pv 0) (pv 1) (fun _ _=>rfl)) A8))))) Ax) (Ac (Ar (Cw (A0 A9 (A0 A9 A8))))))),?_⟩
  cases o with
  | none =>
   have ev:v = .aL:=hv
   subst ev
   exact ⟨_,rfl,rfl,_,rfl,Pw rfl ⟨Bn,fun p hp=>q p _ (Ab.upd hp) A5⟩⟩
  | some k =>
   obtain ⟨p,ev,bS⟩ := hv
   subst ev
   refine ⟨_,rfl,rfl,_,rfl,E2 rfl ?_⟩
   refine ⟨_,rfl,_,rfl,TB,_,rfl,D8.t hT (show Dx H p k from bS),_,rfl,Ly (fun hn=>?_) (fun hn=>?_)⟩
   ·obtain ⟨v,hv⟩ := Option.isSome_iff_exists.mp hn
    obtain ⟨m,e⟩ := qY k v hv
    subst e
    have dg:D8 H TB (.ref p) (some (.int m)):=by
     rw [<- hv]
     exact D8.t hT bS
    refine ⟨_,rfl,_,rfl,TB,_,rfl,dg,Bn,fun p2 EE=>q p2 _ (Ab.upd EE) ?_⟩
    have e:told tv (some k) = (0,m):=by
     show N1 (Af tv k) = _
     rw [hv]
     rfl
    rw [e]
    exact A5
   ·refine ⟨Bn,fun p2 EE=>q p2 _ (Ab.upd EE) ?_⟩
    have e:told tv (some k) = (1,0):=by
     show N1 (Af tv k) = _
     cases hv:Af tv k with
     | none=>rfl
     | some v=>rw [hv] at hn; exact absurd rfl hn
    rw [e]
    exact A5
def S2 (K:PySem.W.Frag):Sp:=fun vs H Q _=>gu fun (a TB b:Addr) (ws ls:List Int) (cm:Option Int) (q w:Int) (who:Nat) (tv:List ((List Int × Int) × V))=>Rj (vs = [.ref a,.ref TB,.ref b,.int w]) (w = (who:Int)) (Bd H a ws cm) (Cu H b ls q) (H TB = some (.dT tv)) (Zo tv) (who < ws.length) (ls.length = ws.length) (ws.length <= 8) ((∀ x ∈ ws,1 <= x)) (∀ (p:Addr) (H':Hp),Ab H H' -> H' p = some (.tup [.int (Hv tv ws ls cm q who).1,.int (Hv tv ws ls cm q who).2]) -> Q (.ref p) H')
theorem gq {fd oB cB:FuncData} (T:Txt K mg ad aA aB) (F:Fk K "call_worth" "call_worth" Kb ad.cL fd) (oC:Ai P w K mg base Bm 1 ad.cK oB ["table","behind"] (Tp K)) (oE:Av K oB ["table","behind"] []) (dH:Ai P w K mg base Bm 5 ad.bQ cB ["hall","standing","who"] (Le K)) (dJ:Av K cB ["hall","standing","who"] []):Ai P w K mg base Bm 6 ad.cL fd ["hall","table","standing","who"] (S2 K):=by
 refine F.ok gf (fun vs H Q E h=>?_) (fun aP A outer s H vs Q E hr h=>?_)
 ·rcases h with ⟨a,TB,b,ws,ls,cm,n,w0,who,tv,rfl,rfl,ha,hb,hT,qY,hw,hl,h8,cS,q⟩ <;> rfl
 ·obtain ⟨a,TB,b,ws,ls,cm,n,w0,who,tv,rfl,rfl,ha,hb,hT,qY,hw,hl,h8,cS,q⟩ := h
  refine ⟨_,(Ac (Ar (Bi (Wf K hr rfl) (by rfl) T.tX boot_min (A0 (Fy (D9 (w':=Pl K _) (Da (Am dH (hr.mono (by decide)) rfl T.mV T.k_x14 dJ .nil Be (A0 (pv 0) (A0 (pv 2) (A0 (pv 3) A8)))))) _ rfl Jq rfl rfl (fun _ _ _ _=>(Aw (i:=0) Jp rfl (Or.inl rfl))) (fun _ _ _ _=>E8) (fun _ _ _ _=>(Am oC (hr.mono (by decide)) rfl T.FD T.k_x29 oE .nil Be (A0 (pv 1) (A0 (pv 0) A8))))) A8)))),?_⟩
  have hbl:(Ay ws ls cm n who).length <= 2:=by
   unfold Ay
   split <;> simp
  refine ⟨_,rfl,_,rfl,_,rfl,a,b,ws,ls,cm,n,_,who,rfl,rfl,ha,hb,hw,hl,h8,fun l us H1 rS s1 el iY=>⟨l,rfl,.inl ⟨⟨_,B6.of el⟩,fun W hW=>?_⟩⟩⟩
  have NZ:=iY.1
  refine G0 (K:=K) (a:=l) (xs:=us) (fun i zs H'=>zs.length = i /\ Sy H' (fun j=>told tv ((Ay ws ls cm n who).getD j none)) zs /\ H' W = some (.lst zs) /\ Ab H1 H') ⟨rfl,(fun j u h=>by simp at h),A5,Ab.upd hW⟩ (by rintro i zs H' _ ⟨_,_,_,s⟩; exact B6.of (s _ _ el)) ?_ ?_
  ·rintro i y zs H' hy ⟨CQ,qW,uG,s'⟩ Qe hQ
   obtain ⟨o,ho,hyo⟩ := iY.get hy
   have hi:=(List.getElem?_eq_some_iff.mp hy).1
   refine ⟨_,rfl,_,rfl,TB,y,o,tv,rfl,(s1.trans s') _ _ hT,hyo.up (An.of s'),qY,fun p H2 s2 e2=>?_⟩
   have uP:=s2 _ _ uG
   have tt:An H2 (upd H2 W (.lst (zs ++ [.ref p]))):=An.lst uP
   refine hQ _ _ uP (B8 (by omega)) ⟨by rw [List.length_append,List.length_singleton]; omega,qW.snoc ((An.of s2).trans tt) CQ (tt _ _ ?_),A5,(s'.trans s2).new hW⟩
   have eo:(Ay ws ls cm n who).getD i none = o:=by rw [List.getD_eq_getElem?_getD,ho]; rfl
   show H2 p = some (.tup [.int (told tv ((Ay ws ls cm n who).getD i none)).1,.int (told tv ((Ay ws ls cm n who).getD i none)).2])
   rw [eo]
   exact e2
  rintro zs H2 ⟨CQ,qW,uP,s2⟩
  have UZ:zs.length = (Ay ws ls cm n who).length:=by omega
  have eJ:=s1.trans s2
  have lE:0 < (Ay ws ls cm n who).length:=by
   unfold Ay
   simp
  refine ⟨W,_,_,rfl,B6.of uP,qW.rp UZ,by omega,Ue _ _,V6 _ _,fun v hv=>?_⟩
  obtain ⟨p,e1,e2⟩ := qW _ v hv
  subst e1
  refine q p H2 eJ ?_
  rw [e2]
  have key:told tv ((Ay ws ls cm n who).getD (Jt ((List.range (Ay ws ls cm n who).length).map fun i=>wd (told tv ((Ay ws ls cm n who).getD i none)))) none) = Hv tv ws ls cm n who:=by
   by_cases hm:L9 cm n = true
   ·have eb : Ay ws ls cm n who = [E4 ws ls cm n who false, E4 ws ls cm n who true] := by
     unfold Ay
     rw [if_pos hm]
    rw [eb]
    unfold Hv dr
    rw [if_pos hm]
    have el2:Jt ((List.range [E4 ws ls cm n who false,E4 ws ls cm n who true].length).map fun i=>wd (told tv ([E4 ws ls cm n who false,E4 ws ls cm n who true].getD i none))) = if Hd (told tv (E4 ws ls cm n who false)) (told tv (E4 ws ls cm n who true)) = true then 1 else 0:=by
     rw [<- i5]
     unfold Jt
     rw [show ((List.range [E4 ws ls cm n who false,E4 ws ls cm n who true].length).map fun i=>wd (told tv ([E4 ws ls cm n who false,E4 ws ls cm n who true].getD i none))).length - 1 = 0 + 1 from rfl,Ds]
     rfl
    rw [el2]
    by_cases y:Hd (told tv (E4 ws ls cm n who false)) (told tv (E4 ws ls cm n who true)) = true
    ·rw [if_pos y,if_pos y]
     rfl
    ·rw [if_neg y,if_neg y]
     rfl
   ·have eb : Ay ws ls cm n who = [E4 ws ls cm n who false] := by
     unfold Ay
     rw [if_neg hm]
    rw [eb]
    unfold Hv
    rw [if_neg hm]
    rfl
  rw [<- key]
def S4 (K:PySem.W.Frag):Sp:=fun vs H Q _=>c8 fun (a TB b:Addr) (ws ls:List Int) (cm:Option Int) (q:Int) (tv:List ((List Int × Int) × V))=>Mw (vs = [.ref a,.ref TB,.ref b]) (Bd H a ws cm) (Cu H b ls q) (H TB = some (.dT tv)) (Zo tv) (0 < ws.length) (ls.length = ws.length) (ws.length <= 8) ((∀ x ∈ ws,1 <= x)) (∀ (j:Nat) (H':Hp),Ab H H' -> Gk (fun i=>Hv tv ws ls cm q i) ws.length j -> Q (.int (j:Int)) H')
theorem et {fd oF:FuncData} (T:Txt K mg ad aA aB) (F:Fk K "best_call" "best_call" Ka ad.cM fd) (oG:Ai P w K mg base Bm 6 ad.cL oF ["hall","table","standing","who"] (S2 K)) (oH:Av K oF ["hall","table","standing","who"] []):Ai P w K mg base Bm 7 ad.cM fd ["hall","table","standing"] (S4 K):=by
 refine F.ok Xa (fun vs H Q E h=>?_) (fun aP A outer s H vs Q E hr h=>?_)
 ·rcases h with ⟨a,TB,b,ws,ls,cm,n,tv,rfl,ha,hb,hT,qY,wB,hl,h8,cS,q⟩ <;> rfl
 ·obtain ⟨a,TB,b,ws,ls,cm,n,tv,rfl,ha,hb,hT,qY,wB,hl,h8,cS,q⟩ := h
  refine ⟨_,(A6 (Fa (i:=3) Xa.nd rfl (G9 (by rfl) T.dC (A0 (Bi (Cd K) (by rfl) T.bZ PySem.boot_len (A0 (B0 (Az K) (pv 0) A9 (fun _ _=>rfl)) A8)) A8)) _ rfl Kq rfl rfl (fun _ _ _ _=>(Aw (i:=0) L4 rfl (Or.inl rfl))) (fun _ _ _ _=>E8) (fun _ _ _ _=>(Am oG (hr.mono (by decide)) rfl T.FE T.k_x15 oH .nil Be (A0 (pv 1) (A0 (pv 2) (A0 (pv 3) (A0 (pv 0) A8)))))) rfl rfl) (Ac (Ar (Dm (u':=Qx K _ _ _ _) (Dq PySem.F.plainAttrs_list PySem.F.slot_list_index PySem.F.type_list_index (W9 hr) (pv 3) (A0 (Bi (Wm K hr rfl) (by rfl) T.mX boot_max (A0 (pv 3) A8)) A8)))))),?_⟩
  obtain ⟨wt,dR,dD⟩ := id ha
  refine ⟨_,rfl,a,_,_,_,rfl,rfl,.inr (C0.of dR),rfl,wt,_,rfl,.inr (C0.of dD),_,rfl,by omega,by rw [List.length_map]; omega,fun D hD=>?_⟩
  refine Go (cnt:=((ws.map V.int).length:Int).toNat) (fun j ys H'=>ys.length = j /\ Sy H' (fun i=>Hv tv ws ls cm n i) ys /\ H' D = some (.lst ys) /\ Ab H H') ⟨rfl,(fun i u h=>by simp at h),A5,Ab.upd hD⟩ ?_ ?_
  ·rintro j ys H5 hj ⟨VA,GX,nS,s5⟩ Qe hQ
   rw [List.length_map] at hj
   have hj':j < ws.length:=by omega
   refine ⟨_,rfl,_,rfl,_,rfl,_,rfl,a,TB,b,ws,ls,cm,n,_,j,tv,rfl,Int.zero_add _,ha.same s5,hb.same s5,s5 _ _ hT,qY,hj',hl,h8,cS,fun p2 H6 s6 e6=>?_⟩
   have hD6:=s6 _ _ nS
   have tt:An H6 (upd H6 D (.lst (ys ++ [.ref p2]))):=An.lst hD6
   exact hQ _ _ hD6 (B8 (by omega)) ⟨by rw [List.length_append,List.length_singleton]; omega,GX.snoc ((An.of s6).trans tt) VA (tt _ _ e6),A5,(s5.trans s6).new hD⟩
  rintro ys H5 ⟨VA,GX,nS,s5⟩
  have GY:ys.length = ws.length:=by
   rw [VA,List.length_map]
   omega
  refine ⟨_,rfl,.inl ⟨rfl,_,B6.of nS⟩,_,rfl,D,_,_,rfl,B6.of nS,GX.rp GY,by omega,Ue _ _,V6 _ _,fun vb mK=>?_⟩
  obtain ⟨pb,OA,VB⟩ := GX _ vb mK
  subst OA
  obtain ⟨j,j1,j2,j3⟩ := nt (Pr:=fun m=>Hv tv ws ls cm n m = Hv tv ws ls cm n (Dg ((List.range ws.length).map fun i=>wd (Hv tv ws ls cm n i)))) _ rfl
  have hbi:Gk (fun i=>Hv tv ws ls cm n i) ws.length j:=Gk.of wB j1 j2 j3
  refine ⟨D,ys,_,wd (Hv tv ws ls cm n (Dg ((List.range ws.length).map fun i=>wd (Hv tv ws ls cm n i)))),_,j,rfl,rfl,B6.of nS,d5 VB,GX.rp GY,Qd _,⟨_,aq _ hbi.1,by rw [Y3]; exact decide_eq_true j2⟩,(fun m e hm he=>by rw [Ys he,Y3]; exact decide_eq_false (j3 m hm)),?_⟩
  exact q j H5 s5 hbi
def Tr (K:PySem.W.Frag):Sp:=fun vs H Q _=>Wg fun (a:Addr) (ws:List Int) (cm:Option Int)=>Ip (vs = [.ref a]) (Bd H a ws cm) (Fr ws cm) ((∀ (tv:List ((List Int × Int) × V)) (H':Hp),Ab H H' -> Ez ws cm tv -> (tv.map (·.1)).Nodup -> (Af tv (ws,0)).isSome = true -> Q .aL H')) (∀ (p:Addr) (us:List V) (ps tv:List ((List Int × Int) × V)) (H':Hp),Ab H H' -> H p = none -> H' p = some (.lst us) -> Ez ws cm tv -> (tv.map (·.1)).Nodup -> Af tv (ws,0) = none -> jb ws cm tv ps -> Ae (ms H') ps us -> Q (.ref p) H')
theorem i6 {fd oJ fN oK cB:FuncData} (T:Txt K mg ad aA aB) (F:Fk K "kept_paper" "kept_paper" Nb ad.cN fd) (oM:Ai P w K mg base Bm 7 ad.cJ oJ ["hall"] (Su K)) (oN:Av K oJ ["hall"] []) (fO:Ai P w K mg base Bm 1 ad.bU fN ["hall"] (Ow K)) (fP:Av K fN ["hall"] []) (oO:Ai P w K mg base Bm 7 ad.cM oK ["hall","table","standing"] (S4 K)) (oP:Av K oK ["hall","table","standing"] []) (dH:Ai P w K mg base Bm 5 ad.bQ cB ["hall","standing","who"] (Le K)) (dJ:Av K cB ["hall","standing","who"] []):Ai P w K mg base Bm 8 ad.cN fd ["hall"] (Tr K):=by
 refine F.ok Kv (fun vs H Q E h=>?_) (fun aP A outer s H vs Q E hr h=>?_)
 ·rcases h with ⟨a,ws,cm,rfl,ha,aH,q0,q⟩ <;> rfl
 ·obtain ⟨a,ws,cm,rfl,ha,aH,q0,q⟩ := h
  refine ⟨_,(A6 (Ah (i:=1) Kv.nd rfl (Or.inl rfl) (Am oM (hr.mono (by decide)) rfl T.FC T.k_x28 oN .nil Be (A0 (pv 0) A8))) (A6 (Db (Ic (Ov (Fo hr) (Am fO (hr.mono (by decide)) rfl T.mS T.k_x19 fP .nil Be (A0 (pv 0) A8)) (pv 1)) rfl) (Ac (Ar Ee)) Ax) (A6 (Ah (i:=2) Kv.nd rfl (Or.inl rfl) Hx) (A6 (Ah (i:=3) Kv.nd rfl (Or.inl rfl) (Ca (A0 (Am fO (hr.mono (by decide)) rfl T.mS T.k_x19 fP .nil Be (A0 (pv 0) A8)) A8))) (A6 (Lc PassesOwn.never (Lk (pv 3) (by intro _; rfl)) (A6 (Ah (i:=4) Kv.nd rfl (Or.inl rfl) (Dm (u':=mj K _ _ _) (Y4 PySem.F.plainAttrs_list PySem.F.slot_list_pop PySem.F.type_list_pop ef (pv 3)))) (Ac (Dd (Ic (Mp (Fo hr) (pv 4) (pv 2)) rfl) (A6 (Ju (Fo hr) (pv 2) (pv 4) (Am oO (hr.mono (by decide)) rfl T.FF T.k_x21 oP .nil Be (A0 (pv 0) (A0 (pv 1) (A0 (pv 4) A8)))) rfl) (Ac (Cb (Dm (u':=Qx K _ _ _ _) (Dq PySem.F.plainAttrs_list PySem.F.slot_list_extend PySem.F.type_list_extend Im (pv 3) (A0 (Am dH (hr.mono (by decide)) rfl T.mV T.k_x14 dJ .nil Be (A0 (pv 0) (A0 (pv 4) (A0 (Hn (Fo hr) (pv 2) (pv 4) (fun _ _=>rfl)) A8)))) A8)))))) Ax)))) (Ac (Ar (Bi (Rt hr rfl) (by rfl) T.mY boot_sorted (A0 (Y4 PySem.F.plainAttrs_dict PySem.F.slot_dict_items PySem.F.type_dict_items Vl (pv 2)) A8))))))))),?_⟩
  obtain ⟨wt,dR,dD⟩ := id ha
  have hq:=aH.qv
  have cS:∀ x ∈ ws,1 <= x:=fun x hx=>(aH.1 x hx).1
  have h8:=aH.2.2.2.1
  have wB:=aH.2.2.1
  refine ⟨_,rfl,a,ws,cm,rfl,ha,(fun w hw=>(aH.1 w hw).1),hq.1,(fun w hw=>R9 (by have:=aH.1 w hw; omega) (aH.1 w hw).2),R9 (by omega) hq.2,aH.2.2.2.1,(by have:=aH.2.2.2.2; omega),fun TB tv H1 hTB s1 OB wJ ER OC=>?_⟩
  have qY:Zo tv:=fun k v hv=>by
   obtain ⟨m,e,_⟩ := wJ.1 k v hv
   exact ⟨m,e⟩
  refine ⟨_,rfl,a,ws,cm,rfl,ha.same s1,fun b0 H2 s2 ND=>?_⟩
  have eJ:=s1.trans s2
  refine ⟨_,rfl,TB,_,rfl,D8.t (s2 _ _ OB) (show Dx H2 b0 (ws,0) from ND),_,rfl,?_⟩
  refine Ly (fun h=>q0 tv H2 eJ wJ ER h) (fun hnv=>?_)
  have lM:Af tv (ws,0) = none:=by
   cases e:Af tv (ws,0) with
   | none=>rfl
   | some v=>rw [e] at hnv; exact absurd rfl hnv
  have VC:Sf ws cm tv (ws,0):=⟨Re rfl (fun i hi=>⟨cS _ (by rw [List.getD_eq_getElem?_getD,List.getElem?_eq_getElem hi]; exact List.getElem_mem hi),Int.le_refl _⟩) (Int.le_refl _) (by have:=hq.1; show (0:Int) < qv cm; omega),lM,.base⟩
  refine fun C hC=>?_
  have s3:Ab H2 (upd H2 C (.dT [])):=Ab.upd hC
  have e3:(upd H2 C (.dT [])) C = some (.dT []):=A5
  generalize upd H2 C (.dT []) = H3 at s3 e3 ⊢
  refine ⟨_,rfl,a,ws,cm,rfl,(ha.same eJ).same s3,fun b1 H4 s4 lE=>?_⟩
  refine ⟨Bn,fun L hL=>?_⟩
  have s5:Ab H4 (upd H4 L (.lst [.ref b1])):=Ab.upd hL
  have e5:(upd H4 L (.lst [.ref b1])) L = some (.lst [.ref b1]):=A5
  generalize upd H4 L (.lst [.ref b1]) = H5 at s5 e5 ⊢
  have hC2:H2 C = none:=hC
  have xo:H2 L = none:=by
   cases e:H2 L with
   | none=>rfl
   | some o=>rw [s4 _ _ (s3 _ _ e)] at hL; cases hL
  have s25:Ab H2 H5:=(s3.trans s4).trans s5
  obtain ⟨bu,VD,VE⟩ := lE.same s5
  dsimp only
  refine oj ?_
  refine rg ?_
  refine Ko (fun σ' H'=>df fun (es:List V) (E:List (List Int × Int)) (cv:List ((List Int × Int) × V)) (v4:Option V)=>ae (σ' = [some (.ref a),some (.ref TB),some (.ref C),some (.ref L),v4]) (Ab H2 H') (H' L = some (.lst es)) (Ae (Gd H') E es) (H' C = some (.dT cv)) (Ph ws cm tv cv E) (E.length <= 2 * cv.length + 1))
   (fun _ H'=>3 * (301 - N0 (H' C)) + Wl (H' L)) ⟨[.ref b1],[(ws,0)],[],none,rfl,s25,e5,Ae.one ⟨b1,bu,rfl,VD,VE⟩,s5 _ _ (s4 _ _ e3),Ph.start VC,by simp⟩ ?_ ?_
  ·rintro σ' H' ⟨es,E,cv,v4,rfl,s',lW,wF,CY,jH,hEl⟩
   have jF:=jH.len aH
   refine ⟨_,rfl,_,.inl ⟨_,B6.of lW,rfl⟩,?_⟩
   refine Ly (fun bN=>?_) (fun jN=>?_)
   ·have VF : 0 < es.length := by
     cases es with
     | nil=>exact absurd bN (by decide)
     | cons x xs=>simp
    have hel:=wF.1
    obtain ⟨y,hy⟩ := Zz VF
    refine ⟨_,rfl,.inl ⟨rfl,_,B6.of lW⟩,L,es,y,rfl,rfl,lW,hy,?_⟩
    obtain ⟨k,UR,b,b2,rfl,VG,VH⟩ := wF.get hy
    have eE:E = E.take (es.length - 1) ++ [k]:=by
     have h1:=List.take_append_drop (es.length - 1) E
     have h2:E.drop (es.length - 1) = [k]:=by
      rw [List.drop_eq_getElem_cons (by omega),(List.getElem?_eq_some_iff.mp UR).2,List.drop_of_length_le (by omega)]
     rw [h2] at h1
     exact h1.symm
    have VI:C ≠ L:=Br CY lW (by intro z; cases z)
    have CZ:TB ≠ L:=fun z=>by rw [z] at OB; exact absurd (s2 _ _ OB) (by rw [xo]; exact fun h=>nomatch h)
    have t4:An H' (upd H' L (.lst es.dropLast)):=An.lst lW
    have OD:(upd H' L (.lst es.dropLast)) L = some (.lst es.dropLast):=A5
    have GZ:(upd H' L (.lst es.dropLast)) C = some (.dT cv):=(Aa VI).trans CY
    have HA:Ab H2 (upd H' L (.lst es.dropLast)):=s'.new xo
    generalize upd H' L (.lst es.dropLast) = H6 at t4 OD GZ HA ⊢
    have sP:Cu H6 b k.1 k.2:=⟨b2,t4 _ _ VG,t4 _ _ VH⟩
    have sQ:Ae (Gd H6) (E.take (es.length - 1)) es.dropLast:=by
     rw [List.dropLast_eq_take]
     exact (wF.imp (fun _ _ y=>Gd.up t4 y)).take _
    have hl6:(E.take (es.length - 1)).length = E.length - 1:=by rw [List.length_take]; omega
    rw [eE] at jH
    generalize E.take (es.length - 1) = E0 at jH sQ hl6 eE
    have hm0:Wl (H' L) = es.length:=by rw [lW]; rfl
    have lS:N0 (H' C) = cv.length:=by rw [CY]; rfl
    refine ⟨_,rfl,_,rfl,C,_,rfl,D8.t GZ (show Dx H6 b k from sP),_,rfl,(fun σ'' H7=>df fun (es:List V) (E:List (List Int × Int)) (VJ:List ((List Int × Int) × V)) (v4:Option V)=>Z4 (σ'' = [some (.ref a),some (.ref TB),some (.ref C),some (.ref L),v4]) (Ab H2 H7) (H7 L = some (.lst es)) (Ae (Gd H7) E es) (H7 C = some (.dT VJ)) (Ph ws cm tv VJ E) (E.length <= 2 * VJ.length + 1) (3 * (301 - N0 (H7 C)) + Wl (H7 L) < 3 * (301 - N0 (H' C)) + Wl (H' L))),fun h=>?_,fun h=>?_,?_⟩
    ·have hvn : Af cv k = none := by
      cases e:Af cv k with
      | none=>rfl
      | some v=>rw [e] at h; cases h
     have HB:Sf ws cm tv k:=jH.sf k (by simp)
     have lK:k.1.length = ws.length:=(Iv HB.1).1
     refine ⟨_,rfl,_,rfl,_,rfl,a,TB,b,ws,k.1,cm,k.2,tv,rfl,(ha.same eJ).same HA,sP,HA _ _ (s2 _ _ OB),qY,wB,lK,h8,cS,fun j H7 s7 cT=>?_⟩
     have hC7:=s7 _ _ GZ
     have hL7:=s7 _ _ OD
     refine ⟨_,rfl,_,rfl,C,_,rfl,Lv.t hC7 (show Dx H7 b k from sP.same s7) (Cr (by omega)),?_⟩
     have PL:L ≠ C:=fun z=>VI z.symm
     have k8:∀ b o,b ≠ C -> H7 b = some o -> (upd H7 C (.dT (Bl cv k (.int (j:Int))))) b = some o:=fun b o n e=>(Aa n).trans e
     have VL:(upd H7 C (.dT (Bl cv k (.int (j:Int))))) C = some (.dT (Bl cv k (.int (j:Int)))):=A5
     generalize upd H7 C (.dT (Bl cv k (.int (j:Int)))) = H8 at k8 VL ⊢
     have t8:An H7 H8:=fun b xs e=>k8 b _ (Br e hC7 (by intro z; cases z)) e
     have s8:Ab H2 H8:=fun b o e=>k8 b o (Ad e hC2) (s7 _ _ (HA _ _ e))
     have hL8:=k8 _ _ PL hL7
     have HC:Cu H8 b k.1 k.2:=(sP.same s7).up t8
     have ev:Af (Bl cv k (.int (j:Int))) k = some (.int (j:Int)):=by rw [Fw,if_pos rfl]
     refine ⟨_,rfl,.inl ⟨rfl,_,B6.of hL8⟩,_,rfl,_,rfl,_,rfl,_,rfl,C,.int (j:Int),rfl,(by rw [<- ev]; exact D8.t VL (show Dx H8 b k from HC)),a,b,ws,k.1,cm,k.2,(j:Int),j,rfl,rfl,(ha.same eJ).same s8,HC,cT.1,lK,h8,fun l us H9 hl9 s9 el9 hall=>?_⟩
     obtain ⟨Eb,OA,VB,eb3⟩ := ag wJ aH HB cT
     rw [OA] at hall
     have fW:=Xm hall
     have hL9:=s9 _ _ hL8
     have hel6:=sQ.1
     have NZ:=fW.1
     refine ⟨L,l,es.dropLast,us,rfl,rfl,hL9,el9,Nat.le_of_lt (Cr (by omega)),?_⟩
     have uI:An H9 (upd H9 L (.lst (es.dropLast ++ us))):=An.lst hL9
     have HD:(upd H9 L (.lst (es.dropLast ++ us))) C = some (.dT (Bl cv k (.int (j:Int)))):=(Aa VI).trans (s9 _ _ VL)
     have kR:(Bl cv k (.int (j:Int))).length = cv.length + 1:=by rw [Dk _ hvn,List.length_append,List.length_singleton]
     refine ⟨es.dropLast ++ us,E0 ++ Eb,Bl cv k (.int (j:Int)),_,rfl,(s8.trans s9).new xo,A5,((sQ.imp fun _ _ y=>Gd.up (((An.of s7).trans t8).trans ((An.of s9).trans uI)) y).append (fW.imp fun _ _ y=>Gd.up uI y)),HD,jH.put hvn cT OA VB,?_,?_⟩
     ·rw [List.length_append,kR,hl6]
      omega
     ·have m1:Wl ((upd H9 L (.lst (es.dropLast ++ us))) L) = (es.dropLast ++ us).length:=by rw [A5]; rfl
      have m2:N0 ((upd H9 L (.lst (es.dropLast ++ us))) C) = cv.length + 1:=by rw [HD]; exact kR
      rw [m1,m2,hm0,lS,List.length_append,List.length_dropLast]
      omega
    ·have gW : k ∈ cv.map (·.1) := by
      cases e:Af cv k with
      | none=>rw [e] at h; cases h
      | some v=>exact Ul e
     refine ⟨es.dropLast,E0,cv,_,rfl,HA,OD,sQ,GZ,jH.skip gW,by omega,?_⟩
     have m1:Wl (H6 L) = es.dropLast.length:=by rw [OD]; rfl
     have m2:N0 (H6 C) = cv.length:=by rw [GZ]; rfl
     rw [m1,m2,hm0,lS,List.length_dropLast]
     omega
    ·rintro σ'' H7 ⟨es7,E7,cv7,v47,rfl,a1,a2,a3,a4,a5,a6,a7⟩
     exact ⟨⟨es7,E7,cv7,v47,rfl,a1,a2,a3,a4,a5,a6⟩,a7⟩
   ·have VM : es = [] := by
     cases es with
     | nil=>rfl
     | cons x xs=>exact absurd rfl jN
    have hE1:E = []:=by
     have h1:=wF.1
     rw [VM] at h1
     exact List.length_eq_zero_iff.mp h1.symm
    subst hE1
    refine ⟨_,rfl,.inr (.inr (.inl ⟨rfl,.inr ⟨cv,CY⟩⟩)),C,cv,rfl,rfl,CY,fun vw hvw=>?_⟩
    have sV:Ab H' (upd H' vw (Ra vw C)):=Ab.upd hvw
    refine ⟨vw,C,cv,Gy,(fun kv=>(B9 ws (qv cm)).idxOf kv.1),rfl,A5,sV _ _ CY,(fun kv aJ=>?_),Tj jH,fun p us ps H9 s9 hp e9 fI mQ HE=>?_⟩
    ·obtain ⟨_,j,ej,_⟩ := jH.ent kv aJ
     have e:Gy kv = .int j:=by unfold Gy; rw [ej]
     rw [e,ej]
     exact ⟨J2 _,by show 0 <= 40; omega⟩
    ·have hpH : H p = none := by
      cases e:H p with
      | none=>rfl
      | some o=>rw [sV _ _ (s' _ _ (eJ _ _ e))] at hp; cases hp
     exact q p us ps tv H9 (((eJ.trans s').trans sV).trans s9) hpH e9 wJ ER lM (am jH fI mQ) (Ln HE)
  ·intro σ H0 Q1 Q2 z h1
   obtain ⟨_,e,k,t,h2⟩ := h1
   exact ⟨_,e,k,t,z _ _ h2⟩
def Ta (K:PySem.W.Frag):Sp:=fun vs H Q _=>Wg fun (b:Addr) (ls:List Int) (q:Int)=>Jm (vs = [.ref b]) (Cu H b ls q) (0 < ls.length) (∀ j:Nat,O5 ls j -> Q (.int j) H)
theorem dw {fd  : FuncData} (T:Txt K mg ad aA aB) (F:Fk K "least_left" "least_left" Nz ad.cO fd):Ai P w K mg base Bm 1 ad.cO fd ["standing"] (Ta K):=by
 refine F.ok fu (fun vs H Q E h=>?_) (fun aP A outer s H vs Q E hr h=>?_)
 ·rcases h with ⟨b,ls,n,rfl,⟨u,hb,hu⟩,uE,q⟩ <;> rfl
 ·obtain ⟨b,ls,n,rfl,⟨u,hb,hu⟩,uE,q⟩ := h
  refine ⟨_,(Ac (Ar (Dm (u':=Qx K _ _ _ _) (Dq PySem.F.plainAttrs_tuple PySem.F.slot_tuple_index PySem.F.type_tuple_index X0 (B0 (Az K) (pv 0) A9 (fun _ _=>rfl)) (A0 (Bi (Wu K rfl) (by rfl) T.tX boot_min (A0 (B0 (Az K) (pv 0) A9 (fun _ _=>rfl)) A8)) A8))))),?_⟩
  refine ⟨_,rfl,b,_,_,_,rfl,rfl,.inr (C0.of hb),rfl,.inr (.inl ⟨rfl,.inr ⟨_,hu⟩⟩),_,rfl,b,_,_,_,rfl,rfl,.inr (C0.of hb),rfl,u,ls,rfl,.inr (C0.of hu),uE,fun m hm VN=>?_⟩
  obtain ⟨j,h1,h2⟩ := Pt hm
  exact ⟨u,ls,m,j,rfl,rfl,C0.of hu,h1,h2,q j (Z9 VN h1 h2)⟩
def Yi (K:PySem.W.Frag) (aA aB:Addr):Sp:=fun vs H Q _=>c8 fun (x dx d b:Addr) (hv:V) (kvs:List ((List Int × Int) × V)) (ls:List Int) (q:Int)=>Lu (vs = [.ref x,hv,.ref b]) (H x = some (.ins aA dx [("paper",.ref d)])) (H d = some (.dT kvs)) (Cu H b ls q) (0 < ls.length) (∀ v,mf kvs (ls,q) v -> Q v H)
theorem lz {fd oQ:FuncData} (T:Txt K mg ad aA aB) (F:Fk K "call" "PaperCaller.call" Wy ad.gD fd) (oS:Ai P w K mg base Bm 1 ad.cO oQ ["standing"] (Ta K)) (oU:Av K oQ ["standing"] []):Ai P w K mg base Bm 2 ad.gD fd ["self","hall","standing"] (Yi K aA aB):=by
 refine F.ok kd (fun vs H Q E h=>?_) (fun aP A outer s H vs Q E hr h=>?_)
 ·rcases h with ⟨x,dx,d,b,hv,kvs,ls,n,rfl,hx,hd,hb,uE,q⟩ <;> rfl
 ·obtain ⟨x,dx,d,b,hv,kvs,ls,n,rfl,hx,hd,hb,uE,q⟩ := h
  refine ⟨_,(A6 (Db (Ic (Ov (Fo hr) (pv 2) (Lm (pv 0) rfl)) rfl) (Ac (Ar (Hn (Fo hr) (Lm (pv 0) rfl) (pv 2) (fun _ _=>rfl)))) Ax) (Ac (Ar (Am oS (hr.mono (by decide)) rfl T.FH T.k_x17 oU .nil Be (A0 (pv 2) A8))))),?_⟩
  refine ⟨_,rfl,_,rfl,x,_,dx,_,.ref d,rfl,hx,T.aV,T.aN,rfl,d,_,rfl,D8.t hd (Dx.of hb),_,rfl,?_⟩
  cases lM:Af kvs (ls,n) with
  | none =>
   refine E2 rfl ?_
   exact ⟨_,rfl,b,ls,n,rfl,hb,uE,fun j hj=>q _ (.inr ⟨lM,j,rfl,hj⟩)⟩
  | some v =>
   refine Pw rfl ?_
   refine ⟨_,rfl,x,_,dx,_,.ref d,rfl,hx,T.aV,T.aN,rfl,_,rfl,d,v,rfl,?_,q v (.inl lM)⟩
   rw [<- lM]
   exact D8.t hd (Dx.of hb)
def Xv (K:PySem.W.Frag) (aA aB:Addr):Sp:=fun vs H Q _=>mh fun (x dx r a b:Addr) (us:List Bool) (k:Nat) (wv:V) (ws ls:List Int) (calm:Option Int) (q:Int)=>Lu (vs = [.ref x,.ref a,.ref b,wv]) (H x = some (.ins aB dx (Fi r k))) (H r = some (.lst (us.map V.bl))) (Bd H a ws calm) (Cu H b ls q) (Q (.bl (decide (k < us.length) && us.getD k false && (!decide (calm = none) && decide (q = 0)))) (upd H x (.ins aB dx (Fi r (k + 1)))))
theorem mm {fd cA:FuncData} (T:Txt K mg ad aA aB) (F:Fk K "loses" "RowRoad.loses" Vj ad.gE fd) (dE:Ai P w K mg base Bm 1 ad.bO cA ["hall","standing"] (Kj K)) (dG:Av K cA ["hall","standing"] []):Ai P w K mg base Bm 2 ad.gE fd ["self","hall","standing","who"] (Xv K aA aB):=by
 refine F.ok bz (fun vs H Q E h=>?_) (fun aP A outer s H vs Q E hr h=>?_)
 ·rcases h with ⟨x,dx,r,a,b,us,k,wv,ws,ls,calm,n,rfl,hx,qT,ha,hb,q⟩ <;> rfl
 ·obtain ⟨x,dx,r,a,b,us,k,wv,ws,ls,calm,n,rfl,hx,qT,ha,hb,q⟩ := h
  refine ⟨_,(A6 (Ah (i:=4) bz.nd rfl (Or.inl rfl) (Lm (pv 0) rfl)) (A6 (Od (pv 0) (Au Cf (pv 4) A9) rfl) (Ac (Ar (K3 (D4 Pu (pv 4) (Bi (Cd K) (by rfl) T.bZ PySem.boot_len (A0 (Lm (pv 0) rfl) A8)) (Ba _)) (K3 (B0 (Az K) (Lm (pv 0) rfl) (pv 4) (fun _ _=>rfl)) (Pe (Am dE (hr.mono (by decide)) rfl T.mT T.k_x22 dG .nil Be (A0 (pv 1) (A0 (pv 2) A8)))))))))),?_⟩
  have s1:Bw H (upd H x (.ins aB dx (Fi r (k + 1)))):=Bw.ins hx
  have e1:(upd H x (.ins aB dx (Fi r (k + 1)))) x = some (.ins aB dx (Fi r (k + 1))):=A5
  refine ⟨_,rfl,x,_,dx,_,.int k,rfl,hx,T.aR,T.aX,rfl,?_⟩
  refine ⟨_,rfl,_,_,rfl,rfl,_,rfl,x,_,dx,_,rfl,hx,T.aR,T.aX,(by show 2 < 1000; decide),?_⟩
  rw [Vf r k ((k:Int) + 1) (by omega)]
  generalize upd H x (.ins aB dx (Fi r (k + 1))) = H1 at s1 e1 q ⊢
  have er:=s1.lst qT
  refine ⟨_,rfl,_,rfl,x,_,dx,_,.ref r,rfl,e1,T.aR,T.bC,rfl,r,_,rfl,.inl (B6.of er),_,_,rfl,rfl,_,(us.getD k false && (!decide (calm = none) && decide (n = 0))),rfl,fun h0 Q1 z1=>?_,?_⟩
  ·have hk:k < us.length:=by simpa using h0
   exact ⟨_,rfl,x,_,dx,_,.ref r,rfl,e1,T.aR,T.bC,rfl,_,rfl,r,_,_,_,rfl,rfl,.inl (B6.of er),d7 hk,_,(!decide (calm = none) && decide (n = 0)),rfl,fun _ Q2 z2=>⟨_,rfl,_,rfl,a,b,ws,ls,calm,n,rfl,ha.aI s1,hb.aI s1,z2⟩,z1⟩
  ·have e:decide ((k:Int) < ((us.map V.bl).length:Int)) = decide (k < us.length):=by simp
   show Q (.bl (decide ((k:Int) < ((us.map V.bl).length:Int)) && _)) H1
   rw [e,<- Bool.and_assoc]
   exact q
def Th (K : PySem.W.Frag) (aA aB : Addr) : Sp := fun vs H Q _ => li fun (h c g dc dg d qg : Addr) (ws : List Int) (cm : Option Int) (kvs : List ((List Int × Int) × V)) (tr : List Bool) (k : Nat) (T : Int) (N : Nat) => cj (vs = [.ref h, .ref c, .ref g, .int T]) (T = (N : Int)) (Bd H h ws cm) (c ≠ g) (H c = some (.ins aA dc [("paper", .ref d)])) (H d = some (.dT kvs)) (H g = some (.ins aB dg (Fi qg k))) (H qg = some (.lst (tr.map V.bl))) (0 < ws.length) (ws.length <= 8) (Ss ws cm kvs) (N <= 400) (∀ (p l b : Addr) (us : List V) (rs : List PR) (H' : Hp), (∀ xs, H l ≠ some (.lst xs)) -> Bw H H' -> H' c = some (.ins aA dc [("paper", .ref d)]) -> H' g = some (.ins aB dg (Fi qg (k + N))) ->
  H' p = some (.tup [.ref l,.ref b]) -> H' l = some (.lst us) -> Ae (I0 H') rs us -> H' b = some (.lst []) -> rs.length = N -> O6 ws cm kvs (fun i q=>Cv tr (k + i) cm q) rs -> Q (.ref p) H')
theorem gz {fd fN uQ uR jP cW:FuncData} (T:Txt K mg ad aA aB) (F:Fk K "play" "play" Nl ad.cP fd) (fO:Ai P w K mg base Bm 1 ad.bU fN ["hall"] (Ow K)) (fP:Av K fN ["hall"] []) (xp:Ai P w K mg base Bm 2 ad.gD uQ ["self","hall","standing"] (Yi K aA aB)) (xq:Av K uQ ["self","hall","standing"] []) (xr:Ai P w K mg base Bm 2 ad.gE uR ["self","hall","standing","who"] (Xv K aA aB)) (xt:Av K uR ["self","hall","standing","who"] []) (oV:Ai P w K mg base Bm 4 ad.bW jP ["hall","standing","who","lost"] (Tx K)) (oW:Av K jP ["hall","standing","who","lost"] []) (bR:Av K jP ["hall","standing","who","lost"] [Value.bool false]) (fM:Ai P w K mg base Bm 4 ad.bP cW ["hall","standing","who","lost"] (On K)) (gQ:Av K cW ["hall","standing","who","lost"] []) (bJ:Av K cW ["hall","standing","who","lost"] [Value.bool false]):Ai P w K mg base Bm 5 ad.cP fd ["hall","caller","road","turns"] (Th K aA aB):=by
 refine F.ok Gw (fun vs H Q E h=>?_) (fun aP A outer s H vs Q E hr h=>?_)
 ·rcases h with ⟨h,c,g,dc,dg,d,qg,ws,cm,kvs,tr,k,TT,N,rfl,rfl,hh,OE,hc,hd0,hg,VO,FR,lU,dW,hN,q⟩ <;> rfl
 ·obtain ⟨h,c,g,dc,dg,d,qg,ws,cm,kvs,tr,k,TT,N,rfl,rfl,hh,OE,hc,hd0,hg,VO,FR,lU,dW,hN,q⟩ := h
  refine ⟨_,(A6 (Ah (i:=4) Gw.nd rfl (Or.inl rfl) (Ca A8)) (A6 (Ah (i:=5) Gw.nd rfl (Or.inl rfl) (Am fO (hr.mono (by decide)) rfl T.mS T.k_x19 fP .nil Be (A0 (pv 0) A8))) (A6 (Lc PassesOwn.never (Bg Pu (Bi (Cd K) (by rfl) T.bZ PySem.boot_len (A0 (pv 4) A8)) (pv 3) (Ba _)) (A6 (Ah (i:=6) Gw.nd rfl (Or.inl rfl) (Uh (pv 1) T.aV T.RJ xp (hr.mono (by decide)) xq .nil Be (A0 (pv 0) (A0 (pv 5) A8)))) (A6 (Ah (i:=7) Gw.nd rfl (Or.inl rfl) (Uh (pv 2) T.aR T.RK xr (hr.mono (by decide)) xt .nil Be (A0 (pv 0) (A0 (pv 5) (A0 (pv 6) A8))))) (A6 (Cb (Dm (u':=Qx K _ _ _ _) (Dq PySem.F.plainAttrs_list PySem.F.slot_list_append PySem.F.type_list_append Cc (pv 4) (A0 (Cw (A0 (pv 5) (A0 (pv 6) (A0 (pv 7) A8)))) A8)))) (A6 (Ah (i:=8) Gw.nd rfl (Or.inl rfl) (Am oV (hr.mono (by decide)) rfl T.EV T.k_x12 oW .nil Be (A0 (pv 0) (A0 (pv 5) (A0 (pv 6) (A0 (pv 7) A8)))))) (A6 (Db (Lk (pv 8) (by intro _; rfl)) (Ac (Ar (Cw (A0 (pv 4) (A0 (pv 8) A8))))) Ax) (Ac (Ah (i:=5) Gw.nd rfl (Or.inl rfl) (Am fM (hr.mono (by decide)) rfl T.mU T.k_x27 gQ .nil Be (A0 (pv 0) (A0 (pv 5) (A0 (pv 6) (A0 (pv 7) A8))))))))))))) (Ac (Ar (Cw (A0 (pv 4) (A0 (Ca A8) A8)))))))),?_⟩
  refine ⟨Bn,fun L hL=>?_⟩
  have s1:Ab H (upd H L (.lst [])):=Ab.upd hL
  have e1:(upd H L (.lst [])) L = some (.lst []):=A5
  generalize upd H L (.lst []) = H1 at s1 e1 ⊢
  refine ⟨_,rfl,h,ws,cm,rfl,hh.same s1,fun b0 H2 s2 xk=>?_⟩
  have eJ:=s1.trans s2
  refine Ko (fun σ' H'=>jl fun (us:List V) (b:Addr) (done:List PR) (v6 v7 v8:Option V)=>Mw (σ' = [some (.ref h),some (.ref c),some (.ref g),some (.int N),some (.ref L),some (.ref b),v6,v7,v8]) (Bw H H') (H' L = some (.lst us)) (Ae (I0 H') done us) (Cu H' b (F5 ws cm done).1 (F5 ws cm done).2) (H' c = some (.ins aA dc [("paper",.ref d)])) (H' g = some (.ins aB dg (Fi qg (k + done.length)))) (O6 ws cm kvs (fun i q=>Cv tr (k + i) cm q) done) ((Af kvs (F5 ws cm done)).isSome = true) (done.length <= N))
   (fun (_:L2.St) (H':L2.Hp)=>match H' L with | some (.lst xs)=>N - xs.length | _=>0) ⟨[],b0,[],none,none,none,rfl,Ab.aI eJ,s2 _ _ e1,Ae.nil,xk,eJ _ _ hc,eJ _ _ hg,O6.nil,dW.1,Nat.zero_le _⟩ ?_ ?_
  ·rintro σ' H' ⟨us,b,done,v6,v7,v8,rfl,st,lW,fW,bS,eZ,uS,go,EO,hdN⟩
   have NZ:=fW.1
   have mu:∀ H2:Hp,∀ zs:List V,H2 L = some (.lst zs) -> (match H2 L with | some (.lst xs)=>N - xs.length | _=>0) = N - zs.length:=by
    intro H2 zs e
    rw [e]
   refine ⟨_,rfl,L,_,rfl,.inl (B6.of lW),_,rfl,_,_,rfl,rfl,_,rfl,?_⟩
   refine Ly (fun aM=>?_) (fun MW=>?_)
   ·have hd : done.length < N := by
     have:((us.length:Nat):Int) < (N:Int):=by simpa using aM
     omega
    obtain ⟨v0,lM⟩ := Option.isSome_iff_exists.mp EO
    obtain ⟨GG,rS,j,ej,hj,jF⟩ := dW.2 _ v0 lM
    rw [ej] at lM
    refine ⟨_,rfl,c,dc,_,rfl,eZ,rfl,_,rfl,_,rfl,c,dc,d,b,_,kvs,(F5 ws cm done).1,(F5 ws cm done).2,rfl,eZ,st.dT hd0,bS,by omega,fun v hv=>?_⟩
    have ev:v = .int (j:Nat):=by
     rcases hv with z | ⟨z,_⟩
     ·have z':Af kvs (F5 ws cm done) = some v:=z
      rw [lM] at z'
      exact (Option.some.inj z').symm
     ·have z':Af kvs (F5 ws cm done) = none:=z
      rw [lM] at z'
      cases z'
    subst ev
    refine ⟨_,rfl,g,dg,_,rfl,uS,rfl,_,rfl,_,rfl,_,rfl,g,dg,qg,h,b,tr,k + done.length,_,ws,(F5 ws cm done).1,cm,(F5 ws cm done).2,rfl,uS,st.lst VO,hh.aI st,bS,?_⟩
    rw [<- Ww tr (k + done.length) cm (F5 ws cm done).2]
    have lG:Ku cm (F5 ws cm done).2 (Cv tr (k + done.length) cm (F5 ws cm done).2):=R0
    generalize dM:Cv tr (k + done.length) cm (F5 ws cm done).2 = lost at lG ⊢
    obtain ⟨hz,OF⟩ := jF lost lG
    have t4:Bw H' (upd H' g (.ins aB dg (Fi qg (k + done.length + 1)))):=Bw.ins uS
    have g4:(upd H' g (.ins aB dg (Fi qg (k + done.length + 1)))) g = _:=A5
    have c4:(upd H' g (.ins aB dg (Fi qg (k + done.length + 1)))) c = _:=(Aa OE).trans eZ
    generalize upd H' g (.ins aB dg (Fi qg (k + done.length + 1))) = H4 at t4 g4 c4 ⊢
    have bD:=st.trans t4
    refine ⟨_,rfl,.inl ⟨rfl,_,B6.of (t4.lst lW)⟩,_,rfl,_,rfl,_,rfl,Bn,fun t ht=>?_⟩
    have s5:Ab H4 (upd H4 t (.tup [.ref b,.int (j:Nat),.bl lost])):=Ab.upd ht
    have e5:(upd H4 t (.tup [.ref b,.int (j:Nat),.bl lost])) t = some (.tup [.ref b,.int (j:Nat),.bl lost]):=A5
    have DA:=s5 _ _ (t4.lst lW)
    refine ⟨L,us,_,rfl,rfl,DA,B8 (by omega),?_⟩
    have OG:=s5 _ _ c4
    have OH:=s5 _ _ g4
    generalize upd H4 t (.tup [.ref b,.int (j:Nat),.bl lost]) = H5 at s5 e5 DA OG OH ⊢
    have vY:=bD.trans (Ab.aI s5)
    have xu:Bw H (upd H5 L (.lst (us ++ [.ref t]))):=vY.new hL
    have e6L:(upd H5 L (.lst (us ++ [.ref t]))) L = some (.lst (us ++ [.ref t])):=A5
    have t6:Ey H' (upd H5 L (.lst (us ++ [.ref t]))):=(t4.trans (Ab.aI s5)).aQ.trans (Ey.lst DA)
    have e6t:(upd H5 L (.lst (us ++ [.ref t]))) t = _:=Ey.lst (o := .lst (us ++ [.ref t])) DA _ _ e5
    have c6:(upd H5 L (.lst (us ++ [.ref t]))) c = _:=(Aa (fun z=>by rw [z,DA] at OG; cases OG)).trans OG
    have g6:(upd H5 L (.lst (us ++ [.ref t]))) g = _:=(Aa (fun z=>by rw [z,DA] at OH; cases OH)).trans OH
    generalize upd H5 L (.lst (us ++ [.ref t])) = H6 at xu e6L t6 e6t c6 g6 ⊢
    have aE:=bS.aQ t6
    have VP:Ae (I0 H6) (done ++ [(F5 ws cm done,j,lost)]) (us ++ [.ref t]):=(C8 t6 fW).append (Ae.one ⟨t,b,rfl,e6t,aE⟩)
    refine ⟨_,rfl,_,rfl,_,rfl,_,rfl,h,b,ws,(F5 ws cm done).1,cm,(F5 ws cm done).2,j,lost,rfl,hh.aI xu,aE,hj,GG,lU,lG,fun l H7 uE s7 el=>?_⟩
    have hlb:(Bu ws (F5 ws cm done).1 j lost).length = ws.length:=(F6 _ _ _ _).trans GG
    have iY:Fb (Bu ws (F5 ws cm done).1 j lost) ws.length = []:=(Rx (by omega)).mpr (by rw [<- hlb,List.take_length]; exact hz)
    rw [iY] at el
    have CH:=xu.trans (Ab.aI s7)
    have VQ:=C8 (Ab.aQ s7) VP
    refine ⟨_,rfl,_,.inl ⟨_,B6.of el,rfl⟩,E2 rfl ?_⟩
    refine ⟨_,rfl,_,rfl,_,rfl,_,rfl,h,b,ws,(F5 ws cm done).1,cm,(F5 ws cm done).2,j,lost,rfl,hh.aI CH,aE.same s7,hj,GG,lU,lG,(fun z=>absurd z hz),fun _ b2 H8 s8 st8=>?_⟩
    have hlen:(done ++ [(F5 ws cm done,j,lost)]).length = done.length + 1:=by rw [List.length_append]; rfl
    have e8L:=s8 _ _ (s7 _ _ e6L)
    have xv:F5 ws cm (done ++ [(F5 ws cm done,j,lost)]) = (Bu ws (F5 ws cm done).1 j lost,D3 cm (F5 ws cm done).2 lost):=Hk
    refine ⟨⟨us ++ [.ref t],b2,done ++ [(F5 ws cm done,j,lost)],_,_,_,rfl,CH.trans (Ab.aI s8),e8L,C8 (Ab.aQ s8) VQ,?_,s8 _ _ (s7 _ _ c6),?_,go.snoc lM dM.symm,?_,by omega⟩,?_⟩
    ·rw [xv]
     exact st8
    ·rw [hlen]
     exact s8 _ _ (s7 _ _ g6)
    ·rw [xv]
     exact OF
    ·rw [mu _ _ e8L,mu _ _ lW,List.length_append,List.length_singleton]
     omega
   ·have hge' : N <= done.length := by
     have:¬ ((us.length:Nat):Int) < (N:Int):=by simpa using MW
     omega
    have CL:done.length = N:=by omega
    refine ⟨_,rfl,Bn,fun l hl=>?_⟩
    have s5:=Ab.upd (o := .lst []) hl
    have e5:(upd H' l (.lst [])) l = some (.lst []):=A5
    generalize upd H' l (.lst []) = H5 at s5 e5 ⊢
    refine ⟨Bn,fun p hp=>?_⟩
    have s6:=Ab.upd (o := .tup [.ref L,.ref l]) hp
    rw [CL] at uS
    exact q p L l us done _ (fun xs z=>by rw [hL] at z; cases z) ((st.trans (Ab.aI s5)).trans (Ab.aI s6)) (s6 _ _ (s5 _ _ eZ)) (s6 _ _ (s5 _ _ uS)) A5 (s6 _ _ (s5 _ _ lW)) (C8 (Ab.aQ s6) (C8 (Ab.aQ s5) fW)) (s6 _ _ e5) CL go
  ·intro σ H0 Q1 Q2 z h1
   obtain ⟨_,e,L',us,e1,e2,v,e3,i,j,e4,e5,b,e6,h2⟩ := h1
   exact ⟨_,e,L',us,e1,e2,v,e3,i,j,e4,e5,b,e6,z _ _ h2⟩
def Ym (K:PySem.W.Frag) (aA aB:Addr):Sp:=fun vs H Q _=>nu fun (x dx l:Addr) (us:List V) (ps:List ((List Int × Int) × V))=>Ip (vs = [.ref x,.ref l]) (H x = some (.ins aA dx [])) (H l = some (.lst us)) (Ae (No H) ps us) (∀ (d:Addr) (H':Hp),H d = none -> H' x = some (.ins aA dx [("paper",.ref d)]) -> H' d = some (.dT (D6 [] ps)) -> (∀ b o,b ≠ x -> H b = some o -> H' b = some o) -> Q .aL H')
theorem m9 {fd  : FuncData} (T:Txt K mg ad aA aB) (F:Fk K "__init__" "PaperCaller.__init__" Vc ad.gF fd):Ai P w K mg base Bm 1 ad.gF fd ["self","paper"] (Ym K aA aB):=by
 refine F.ok nl (fun vs H Q E h=>?_) (fun aP A outer s H vs Q E hr h=>?_)
 ·rcases h with ⟨x,dx,l,us,ps,rfl,hx,hl,fG,q⟩ <;> rfl
 ·obtain ⟨x,dx,l,us,ps,rfl,hx,hl,fG,q⟩ := h
  refine ⟨_,(Ac (Od (pv 0) (Ct (Ki K (lh hr) rfl) (by rfl) T.mZ boot_dict (A0 (pv 1) A8)) rfl)),?_⟩
  refine ⟨_,rfl,l,us,ps,rfl,B6.of hl,fG.1,(fun j u p e1 e2=>fG.2 j p u e2 e1),fun d hd=>?_⟩
  have hxd:x ≠ d:=Ad hx hd
  have e1:(upd H d (.dT (D6 [] ps))) x = some (.ins aA dx []):=(Aa hxd).trans hx
  refine ⟨_,rfl,x,_,dx,_,rfl,e1,T.aV,T.aN,(by show 0 < 1000; decide),?_⟩
  refine q d _ hd A5 ((Aa hxd.symm).trans A5) fun b o hb e=>?_
  rw [Aa hb,Aa (Ad e hd)]
  exact e
def Xu (K:PySem.W.Frag) (aA aB:Addr):Sp:=fun vs H Q _=>df fun (x dx a:Addr) (us:List V)=>Jm (vs = [.ref x,.ref a]) (H x = some (.ins aB dx [])) (H a = some (.lst us)) (∀ (r:Addr) (H':Hp),H r = none -> H' x = some (.ins aB dx (Fi r 0)) -> H' r = some (.lst us) -> (∀ b o,b ≠ x -> H b = some o -> H' b = some o) -> Q .aL H')
theorem ko {fd  : FuncData} (T:Txt K mg ad aA aB) (F:Fk K "__init__" "RowRoad.__init__" Wc ad.gG fd):Ai P w K mg base Bm 1 ad.gG fd ["self","row"] (Xu K aA aB):=by
 refine F.ok jq (fun vs H Q E h=>?_) (fun aP A outer s H vs Q E hr h=>?_)
 ·rcases h with ⟨x,dx,a,us,rfl,hx,ha,q⟩ <;> rfl
 ·obtain ⟨x,dx,a,us,rfl,hx,ha,q⟩ := h
  refine ⟨_,(A6 (Od (pv 0) (Ct F9 (by rfl) T.gZ boot_list (A0 (pv 1) A8)) rfl) (Ac (Od (pv 0) A9 rfl))),?_⟩
  refine ⟨_,rfl,a,us,rfl,.inl (B6.of ha),fun r qT=>?_⟩
  have VR:x ≠ r:=Ad hx qT
  have e1:(upd H r (.lst us)) x = some (.ins aB dx []):=by rw [Aa VR]; exact hx
  refine ⟨_,rfl,x,_,dx,_,rfl,e1,T.aR,T.bC,(by show 0 < 1000; decide),?_⟩
  refine ⟨_,rfl,x,_,dx,_,rfl,A5,T.aR,T.aX,(by show 1 < 1000; decide),?_⟩
  show Q .aL (upd (upd (upd H r (.lst us)) x (.ins aB dx [("row",.ref r)])) x (.ins aB dx (Dz "asked" (.int 0) [("row",.ref r)])))
  rw [Yt]
  refine q r _ qT A5 ?_ fun b o hb e=>?_
  ·rw [Aa (Ne.symm VR),Aa (Ne.symm VR),A5]
  ·rw [Aa hb,Aa hb,Aa (Ad e qT)]
   exact e
def Oz (K:PySem.W.Frag):Sp:=fun vs H Q _=>Wg fun (a:Addr) (ns:List Int) (k:Int)=>Jm (vs = [.ref a,.int k]) (B6 K H a (ns.map V.int)) (0 <= k) (Q (.int (Gh ns k)) H)
theorem j0 {fd  : FuncData} (T:Txt K mg ad aA aB) (F:Fk K "_law_cell_at" "_law_cell_at" Nu ad.bX fd):Ai P w K mg base Bm 1 ad.bX fd ["script","k"] (Oz K):=by
 refine F.ok f9 (fun vs H Q E h=>?_) (fun aP A outer s H vs Q E hr h=>?_)
 ·rcases h with ⟨a,ns,k,rfl,hS,hk,q⟩ <;> rfl
 ·obtain ⟨a,ns,k,rfl,hS,hk,q⟩ := h
  refine ⟨_,(A6 (Db (Bg Pu (pv 1) (Bi (Cd K) (by rfl) T.bZ PySem.boot_len (A0 (pv 0) A8)) (Ba _)) (Ac (Ar (B0 (Az K) (pv 0) (pv 1) (fun _ _=>rfl)))) Ax) (Ac (Ar A9))),?_⟩
  refine ⟨_,rfl,_,rfl,a,_,rfl,.inl hS,_,_,rfl,rfl,_,rfl,?_⟩
  refine Ly (fun aM=>?_) (fun aM=>?_)
  ·have xw:k < ns.length:=by simpa using aM
   exact ⟨_,rfl,_,rfl,a,_,_,_,rfl,rfl,.inl hS,br hk xw,q⟩
  ·have xw:¬ k < ns.length:=by simpa using aM
   rw [Vx hk xw] at q
   exact q
def U4 (K:PySem.W.Frag):Sp:=fun vs H Q _=>Q8 fun (a:Addr) (ns:List Int)=>Jm (vs = [.ref a]) (B6 K H a (ns.map V.int)) ((∀ z ∈ ns,intBits z <= 2 ^ 20)) (∀ (p:Addr) (ws:List Int) (cm:Option Int) (H':Hp),Ab H H' -> Bd H' p ws cm -> Fr ws cm -> Q (.ref p) H')
theorem gv {fd fQ:FuncData} (T:Txt K mg ad aA aB) (F:Fk K "_law_hall" "_law_hall" Jg ad.cQ fd) (fR:Ai P w K mg base Bm 1 ad.bX fQ ["script","k"] (Oz K)) (fS:Av K fQ ["script","k"] []):Ai P w K mg base Bm 2 ad.cQ fd ["script"] (U4 K):=by
 refine F.ok De (fun vs H Q E h=>?_) (fun aP A outer s H vs Q E hr h=>?_)
 ·rcases h with ⟨a,ns,rfl,hS,hX,q⟩ <;> rfl
 ·obtain ⟨a,ns,rfl,hS,hX,q⟩ := h
  refine ⟨_,(A6 (Ah (i:=1) De.nd rfl (Or.inl rfl) (Au C7 (Am fR (hr.mono (by decide)) rfl T.mW T.k_x13 fS .nil Be (A0 (pv 0) (A0 A9 A8))) A9)) (A6 (Ah (i:=2) De.nd rfl (Or.inl rfl) (Am fR (hr.mono (by decide)) rfl T.mW T.k_x13 fS .nil Be (A0 (pv 0) (A0 A9 A8)))) (A6 (Ah (i:=3) De.nd rfl (Or.inl rfl) (Ca (A0 (Au C7 (Au I9 (pv 2) A9) A9) (A0 (Au C7 (Au I9 (pv 2) A9) A9) (A0 (Au C7 (Au I9 (pv 2) A9) A9) A8))))) (A6 (Ah (i:=4) De.nd rfl (Or.inl rfl) A9) (A6 (Ah (i:=5) De.nd rfl (Or.inl rfl) (Ca (A0 (Au Cf A9 (Au C7 (B0 (Az K) (pv 3) A9 (fun _ _=>rfl)) A9)) A8))) (A6 (Dd (PW.pt (X4 (Bg Fm (pv 1) A9 (Ba _)) (L7 (Bg Fm (pv 1) A9 (Ba _))))) (Ac (Ah (i:=5) De.nd rfl (Or.inl rfl) (Ca (A0 (Au Cf A9 (Au C7 (B0 (Az K) (pv 3) A9 (fun _ _=>rfl)) A9)) (A0 (Au Cf A9 (Au C7 (B0 (Az K) (pv 3) A9 (fun _ _=>rfl)) A9)) A8))))) Ax) (A6 (Dd (Bg Fm (pv 1) A9 (Ba _)) (Ac (Ah (i:=5) De.nd rfl (Or.inl rfl) (Ca (A0 (Au Cf A9 (Au C7 (B0 (Az K) (pv 3) A9 (fun _ _=>rfl)) A9)) (A0 (Au Cf A9 (Au C7 (B0 (Az K) (pv 3) A9 (fun _ _=>rfl)) A9)) A8))))) Ax) (A6 (Dd (Bg Fm (pv 1) A9 (Ba _)) (A6 (Ah (i:=5) De.nd rfl (Or.inl rfl) (Ca (A0 (Au Cf A9 (Au C7 (B0 (Az K) (pv 3) A9 (fun _ _=>rfl)) A9)) (A0 (Au Cf A9 (Au C7 (B0 (Az K) (pv 3) A9 (fun _ _=>rfl)) A9)) A8)))) (Ac (Cb (Dm (u':=Qx K _ _ _ _) (Dq PySem.F.plainAttrs_list PySem.F.slot_list_insert PySem.F.type_list_insert Wa (pv 5) (A0 (Au C7 (B0 (Az K) (pv 3) A9 (fun _ _=>rfl)) A9) (A0 A9 A8))))))) Ax) (A6 (Dd (Bg Fm (pv 1) A9 (Ba _)) (Ac (Fa (i:=5) De.nd rfl (D9 (w':=Pl K _) (Da (pv 3))) _ rfl M7 rfl rfl (fun _ _ _ _=>(Aw (i:=0) Lz rfl (Or.inl rfl))) (fun _ _ _ _=>E8) (fun _ _ _ _=>(Au Cf A9 (Au C7 (pv 0) A9))) rfl rfl)) Ax) (A6 (Dd (Bg Fm (pv 1) A9 (Ba _)) (Ac (Ah (i:=5) De.nd rfl (Or.inl rfl) (Hr (Hu K) (Fy (D9 (w':=Pl K _) (Da (pv 3))) _ rfl Me rfl rfl (fun _ _ _ _=>(Aw (i:=0) Mg rfl (Or.inl rfl))) (fun _ _ _ _=>E8) (fun _ _ _ _=>(Au Cf A9 (Au C7 (pv 0) A9)))) (Hl (Au C7 (pv 2) A9)) P0))) Ax) (A6 (Cn PassesOwn.never rfl (D9 (w':=Pl K _) (Da (pv 5))) (Aw (i:=6) De.nd rfl (Or.inl rfl)) (Ac (Ah (i:=4) De.nd rfl (Or.inl rfl) (Au V5 (pv 4) (pv 6))))) (A6 (Db (PW.pt (X4 (Bg Pu (pv 4) A9 (Ba _)) (L7 (PW.pt (V1 (Bg V0 (pv 1) A9 (Ba _)) (Pk (Bg Fm (Au C7 (pv 2) A9) A9 (Ba _)))))))) (Ac (Ar (Cw (A0 (Ct (Gb K) (by rfl) T.dB boot_tuple (A0 (pv 5) A8)) (A0 Ee A8))))) Ax) (Ac (Ar (Cw (A0 (Ct (Gb K) (by rfl) T.dB boot_tuple (A0 (pv 5) A8)) (A0 (Au Cf A9 (Au C7 (Au C7 (pv 2) A9) (Au Gz (pv 4) A9))) A8))))))))))))))))),?_⟩
  refine ⟨_,rfl,a,ns,_,rfl,hS,by decide,_,_,rfl,rfl,(by first | (show (0:Int) < _; decide) | simp),?_⟩
  refine ⟨_,rfl,a,ns,_,rfl,hS,by decide,?_⟩
  have xx:intBits (Gh ns 1) <= 2 ^ 20:=Rz hX
  dsimp only
  generalize Gh ns 0 % 7 = kind
  generalize Gh ns 1 = cell at xx ⊢
  refine ⟨_,rfl,_,_,rfl,rfl,Qt xx (F8 (by decide) (by decide)) (by decide),_,_,rfl,rfl,(by first | (show (0:Int) < _; decide) | simp),_,rfl,_,_,rfl,rfl,Qt xx (F8 (by decide) (by decide)) (by decide),_,_,rfl,rfl,(by first | (show (0:Int) < _; decide) | simp),_,rfl,_,_,rfl,rfl,Qt xx (F8 (by decide) (by decide)) (by decide),_,_,rfl,rfl,(by first | (show (0:Int) < _; decide) | simp),Bn,fun C hC=>?_⟩
  have s2:Ab H (upd H C (.lst [.int (cell * 48271 % 65537),.int (cell * 69621 % 65539),.int (cell * 40692 % 65543)])):=Ab.upd hC
  have e2:(upd H C (.lst [.int (cell * 48271 % 65537),.int (cell * 69621 % 65539),.int (cell * 40692 % 65543)])) C = some (.lst [.int (cell * 48271 % 65537),.int (cell * 69621 % 65539),.int (cell * 40692 % 65543)]):=A5
  generalize upd H C (.lst [.int (cell * 48271 % 65537),.int (cell * 69621 % 65539),.int (cell * 40692 % 65543)]) = H2 at s2 e2 ⊢
  generalize cell * 48271 % 65537 = c0 at e2
  generalize cell * 69621 % 65539 = c1 at e2
  generalize cell * 40692 % 65543 = c2 at e2
  have rJ:H2 C = some (.lst ([c0,c1,c2].map V.int)):=e2
  refine ⟨_,rfl,C,_,_,_,rfl,rfl,.inl (B6.of e2),rfl,_,_,rfl,rfl,(by first | (show (0:Int) < _; decide) | simp),_,_,rfl,rfl,Bn,fun W0 hW0=>?_⟩
  have b0:=Bb c0 (show (0:Int) < 39 by decide)
  refine ⟨_,rfl,rfl,_,rfl,_,fun _ Q' z=>⟨_,rfl,rfl,_,rfl,z⟩,(fun σ' H'=>Q8 fun (W:Addr) (ws:List Int)=>Jm (σ' = [some (.ref a),some (.int kind),some (.int cell),some (.ref C),some (.int 128),some (.ref W),none]) (H' W = some (.lst (ws.map V.int))) (Ab H2 H') (Zc ws)),fun _=>?_,fun _=>⟨W0,[2 + c0 % 39],rfl,A5,Ab.upd hW0,mw (by omega)⟩,?_⟩
  ·have d0:=Bb c0 (show (0:Int) < 5 by decide)
   have d1:=Bb c1 (show (0:Int) < 5 by decide)
   have sX:=Ab.upd (o := .lst [.int (2 + c0 % 39)]) hW0
   refine ⟨_,rfl,C,_,_,_,rfl,rfl,.inl (B6.of (sX _ _ e2)),rfl,_,_,rfl,rfl,(by first | (show (0:Int) < _; decide) | simp),_,_,rfl,rfl,_,rfl,C,_,_,_,rfl,rfl,.inl (B6.of (sX _ _ e2)),rfl,_,_,rfl,rfl,(by first | (show (0:Int) < _; decide) | simp),_,_,rfl,rfl,Bn,fun W1 xy=>?_⟩
   exact ⟨W1,[4 + c0 % 5,4 + c1 % 5],rfl,A5,sX.trans (Ab.upd xy),gi (a:=8) (b:=8) (by omega) (by omega) (by decide) (by decide) (by decide)⟩
  rintro σ1 H3 ⟨W3,ws3,rfl,FY,s3,DW⟩
  refine ⟨_,rfl,rfl,_,rfl,(fun σ' H'=>Q8 fun (W:Addr) (ws:List Int)=>Jm (σ' = [some (.ref a),some (.int kind),some (.int cell),some (.ref C),some (.int 128),some (.ref W),none]) (H' W = some (.lst (ws.map V.int))) (Ab H2 H') (Zc ws)),fun _=>?_,fun _=>⟨W3,ws3,rfl,FY,s3,DW⟩,?_⟩
  ·have d0:=Bb c0 (show (0:Int) < 7 by decide)
   have d1:=Bb c1 (show (0:Int) < 7 by decide)
   refine ⟨_,rfl,C,_,_,_,rfl,rfl,.inl (B6.of (s3 _ _ e2)),rfl,_,_,rfl,rfl,(by first | (show (0:Int) < _; decide) | simp),_,_,rfl,rfl,_,rfl,C,_,_,_,rfl,rfl,.inl (B6.of (s3 _ _ e2)),rfl,_,_,rfl,rfl,(by first | (show (0:Int) < _; decide) | simp),_,_,rfl,rfl,Bn,fun W1 xy=>?_⟩
   exact ⟨W1,[2 + c0 % 7,2 + c1 % 7],rfl,A5,s3.trans (Ab.upd xy),gi (a:=8) (b:=8) (by omega) (by omega) (by decide) (by decide) (by decide)⟩
  rintro σ2 H4 ⟨W4,ws4,rfl,hW4,s4,ok4⟩
  refine ⟨_,rfl,rfl,_,rfl,(fun σ' H'=>Q8 fun (W:Addr) (ws:List Int)=>Jm (σ' = [some (.ref a),some (.int kind),some (.int cell),some (.ref C),some (.int 128),some (.ref W),none]) (H' W = some (.lst (ws.map V.int))) (Ab H2 H') (Zc ws)),fun _=>?_,fun _=>⟨W4,ws4,rfl,hW4,s4,ok4⟩,?_⟩
  ·have d0:=Bb c0 (show (0:Int) < 2 by decide)
   have d1:=Bb c1 (show (0:Int) < 2 by decide)
   have d2:=Bb c2 (show (0:Int) < 3 by decide)
   refine ⟨_,rfl,C,_,_,_,rfl,rfl,.inl (B6.of (s4 _ _ e2)),rfl,_,_,rfl,rfl,(by first | (show (0:Int) < _; decide) | simp),_,_,rfl,rfl,_,rfl,C,_,_,_,rfl,rfl,.inl (B6.of (s4 _ _ e2)),rfl,_,_,rfl,rfl,(by first | (show (0:Int) < _; decide) | simp),_,_,rfl,rfl,Bn,fun W1 xy=>?_⟩
   have s5:Ab H4 (upd H4 W1 (.lst [.int (4 + c0 % 2),.int (4 + c1 % 2)])):=Ab.upd xy
   have e5:(upd H4 W1 (.lst [.int (4 + c0 % 2),.int (4 + c1 % 2)])) W1 = some (.lst [.int (4 + c0 % 2),.int (4 + c1 % 2)]):=A5
   generalize upd H4 W1 (.lst [.int (4 + c0 % 2),.int (4 + c1 % 2)]) = H5 at s5 e5 ⊢
   refine ⟨_,rfl,.inl ⟨rfl,_,B6.of e5⟩,_,rfl,C,_,_,_,rfl,rfl,.inl (B6.of (s5 _ _ (s4 _ _ e2))),rfl,_,_,rfl,rfl,(by first | (show (0:Int) < _; decide) | simp),W1,_,_,_,rfl,rfl,e5,d2.1,(by show c2 % 3 <= 2; omega),B8 (by simp),?_⟩
   have uP:H2 W1 = none:=by
    cases e:H2 W1 with
    | none=>rfl
    | some o=>rw [s4 _ _ e] at xy; cases xy
   have sY:Ab H2 H5:=s4.trans s5
   have d3:c2 % 3 = 0 \/ c2 % 3 = 1 \/ c2 % 3 = 2:=by omega
   rcases d3 with e | e | e
   ·rw [e]
    exact ⟨W1,[2,4 + c0 % 2,4 + c1 % 2],rfl,A5,sY.new uP,Xw (a:=2) (b:=5) (c:=5) (by omega) (by omega) (by omega) (by decide) (by decide) (by decide) (by decide)⟩
   ·rw [e]
    exact ⟨W1,[4 + c0 % 2,2,4 + c1 % 2],rfl,A5,sY.new uP,Xw (a:=5) (b:=2) (c:=5) (by omega) (by omega) (by omega) (by decide) (by decide) (by decide) (by decide)⟩
   ·rw [e]
    exact ⟨W1,[4 + c0 % 2,4 + c1 % 2,2],rfl,A5,sY.new uP,Xw (a:=5) (b:=5) (c:=2) (by omega) (by omega) (by omega) (by decide) (by decide) (by decide) (by decide)⟩
  rintro σ3 H5 ⟨W5,ws5,rfl,lV,s5,ok5⟩
  refine ⟨_,rfl,rfl,_,rfl,(fun σ' H'=>Q8 fun (W:Addr) (ws:List Int)=>Jm (σ' = [some (.ref a),some (.int kind),some (.int cell),some (.ref C),some (.int 128),some (.ref W),none]) (H' W = some (.lst (ws.map V.int))) (Ab H2 H') (Zc ws)),fun _=>?_,fun _=>⟨W5,ws5,rfl,lV,s5,ok5⟩,?_⟩
  ·have d0:=Bb c0 (show (0:Int) < 3 by decide)
   have d1:=Bb c1 (show (0:Int) < 3 by decide)
   have d2:=Bb c2 (show (0:Int) < 3 by decide)
   refine ⟨_,rfl,C,rfl,.inl ⟨⟨_,B6.of (s5 _ _ rJ)⟩,fun VV hV=>?_⟩⟩
   refine G0 (K:=K) (a:=C) (xs:=[c0,c1,c2].map V.int) (fun i zs H'=>zs = (([c0,c1,c2].take i).map fun x=>3 + x % 3).map V.int /\ H' VV = some (.lst zs) /\ Ab H5 H') ⟨rfl,A5,Ab.upd hV⟩ (by rintro i zs H' _ ⟨_,_,s⟩; exact B6.of (s _ _ (s5 _ _ rJ))) ?_ ?_
   ·rintro i y zs H' hy ⟨rfl,VS,s'⟩ Qe hQ
    have hi:=(List.getElem?_eq_some_iff.mp hy).1
    rw [List.getElem?_map] at hy
    obtain ⟨x,hx,rfl⟩ := Option.map_eq_some_iff.mp hy
    have SG:i < 3:=by simpa using hi
    refine ⟨_,rfl,_,_,rfl,rfl,(by first | (show (0:Int) < _; decide) | simp),_,_,rfl,rfl,?_⟩
    refine hQ _ _ VS (B8 (by rw [List.length_map,List.length_map,List.length_take]; omega)) ⟨?_,A5,s'.new hV⟩
    rw [Dr hx,List.map_append,List.map_append]
    rfl
   rintro zs G ⟨rfl,eV,sV⟩
   exact ⟨VV,[3 + c0 % 3,3 + c1 % 3,3 + c2 % 3],rfl,eV,s5.trans sV,Xw (a:=5) (b:=5) (c:=5) (by omega) (by omega) (by omega) (by decide) (by decide) (by decide) (by decide)⟩
  rintro σ4 H6 ⟨W6,ws6,rfl,GC,s6,ok6⟩
  refine ⟨_,rfl,rfl,_,rfl,(fun σ' H'=>Q8 fun (W:Addr) (ws:List Int)=>Jm (σ' = [some (.ref a),some (.int kind),some (.int cell),some (.ref C),some (.int 128),some (.ref W),none]) (H' W = some (.lst (ws.map V.int))) (Ab H2 H') (Zc ws)),fun _=>?_,fun _=>⟨W6,ws6,rfl,GC,s6,ok6⟩,?_⟩
  ·have d0:=Bb c0 (show (0:Int) < 4 by decide)
   have d1:=Bb c1 (show (0:Int) < 4 by decide)
   have d2:=Bb c2 (show (0:Int) < 4 by decide)
   have d3:=Bb cell (show (0:Int) < 3 by decide)
   refine ⟨_,rfl,C,rfl,.inl ⟨⟨_,B6.of (s6 _ _ rJ)⟩,fun VV hV=>?_⟩⟩
   refine G0 (K:=K) (a:=C) (xs:=[c0,c1,c2].map V.int) (fun i zs H'=>zs = (([c0,c1,c2].take i).map fun x=>1 + x % 4).map V.int /\ H' VV = some (.lst zs) /\ Ab H6 H') ⟨rfl,A5,Ab.upd hV⟩ (by rintro i zs H' _ ⟨_,_,s⟩; exact B6.of (s _ _ (s6 _ _ rJ))) ?_ ?_
   ·rintro i y zs H' hy ⟨rfl,VS,s'⟩ Qe hQ
    have hi:=(List.getElem?_eq_some_iff.mp hy).1
    rw [List.getElem?_map] at hy
    obtain ⟨x,hx,rfl⟩ := Option.map_eq_some_iff.mp hy
    have SG:i < 3:=by simpa using hi
    refine ⟨_,rfl,_,_,rfl,rfl,(by first | (show (0:Int) < _; decide) | simp),_,_,rfl,rfl,?_⟩
    refine hQ _ _ VS (B8 (by rw [List.length_map,List.length_map,List.length_take]; omega)) ⟨?_,A5,s'.new hV⟩
    rw [Dr hx,List.map_append,List.map_append]
    rfl
   rintro zs G ⟨rfl,eV,sV⟩
   refine ⟨_,rfl,_,_,rfl,rfl,(by first | (show (0:Int) < _; decide) | simp),_,rfl,VV,_,rfl,B6.of eV,fun U hU=>?_⟩
   rw [Mj d3.1 (by rw [List.length_map,List.length_map]; show cell % 3 <= 3; omega)]
   have d4:cell % 3 = 0 \/ cell % 3 = 1 \/ cell % 3 = 2:=by omega
   rcases d4 with e | e | e
   ·rw [e]
    exact ⟨U,[1 + c0 % 4,1 + c1 % 4,1 + c2 % 4],rfl,A5,(s6.trans sV).trans (Ab.upd hU),Xw (a:=4) (b:=4) (c:=4) (by omega) (by omega) (by omega) (by decide) (by decide) (by decide) (by decide)⟩
   ·rw [e]
    exact ⟨U,[1 + c1 % 4,1 + c2 % 4],rfl,A5,(s6.trans sV).trans (Ab.upd hU),gi (a:=4) (b:=4) (by omega) (by omega) (by decide) (by decide) (by decide)⟩
   ·rw [e]
    exact ⟨U,[1 + c2 % 4],rfl,A5,(s6.trans sV).trans (Ab.upd hU),mw (by omega)⟩
  rintro σ5 H7 ⟨W,ws,rfl,hW,s7,ok⟩
  have ok':=ok
  obtain ⟨k1,k2,k3,k4⟩ := ok'
  refine ⟨_,rfl,W,rfl,.inl ⟨⟨_,B6.of hW⟩,?_⟩⟩
  refine Cq (K:=K) (a:=W) (xs:=ws.map V.int) (fun i σ H'=>Q8 fun (room:Int) (v6:Option V)=>Lu (σ = [some (.ref a),some (.int kind),some (.int cell),some (.ref C),some (.int room),some (.ref W),v6]) (H' = H7) (0 <= room) (room <= 128) (1 <= Bc 1 (ws.take i)) (room * Bc 1 (ws.take i) <= 128)) ⟨128,none,rfl,rfl,by decide,by decide,(by show (1:Int) <= 1; decide),(by show (128:Int) * 1 <= 128; decide)⟩ (by rintro i σ H' _ ⟨_,_,_,e,_⟩; exact (by subst e; exact B6.of hW)) ?_ ?_
  ·rintro i y σ H' hy ⟨room,v6,rfl,rfl,r0,r1,r2,r3⟩
   rw [List.getElem?_map] at hy
   obtain ⟨x,hx,rfl⟩ := Option.map_eq_some_iff.mp hy
   have wK:=k3 x (List.mem_of_getElem? hx)
   refine ⟨_,rfl,_,rfl,_,_,rfl,rfl,⟨by omega,by omega⟩,room / x,_,rfl,rfl,Int.ediv_nonneg r0 (by omega),?_,?_,?_⟩
   ·exact Int.le_trans (Int.ediv_le_self _ r0) r1
   ·rw [Dr hx,Lp]
    have:=Int.mul_le_mul r2 wK.1 (by decide) (by omega)
    omega
   ·rw [Dr hx,Lp]
    exact Tf r0 r2 wK.1 r3
  rintro σ6 H7 ⟨room,v6,rfl,rfl,r0,r1,r2,r3⟩
  rw [List.length_map,List.take_length] at r2 r3
  refine ⟨_,rfl,_,_,rfl,rfl,_,rfl,_,fun _ Q' z=>⟨_,rfl,_,_,rfl,rfl,_,rfl,_,fun _ Q2 z2=>⟨_,rfl,_,_,rfl,rfl,(by first | (show (0:Int) < _; decide) | simp),rfl,_,rfl,z2⟩,z⟩,?_⟩
  refine Ly (fun _=>?_) (fun hn=>?_)
  ·refine ⟨_,rfl,W,_,rfl,.inl ⟨B6.of hW,fun t ht=>?_⟩⟩
   have s8:Ab H7 (upd H7 t (.tup (ws.map V.int))):=Ab.upd ht
   have e8:(upd H7 t (.tup (ws.map V.int))) t = some (.tup (ws.map V.int)):=A5
   generalize upd H7 t (.tup (ws.map V.int)) = H8 at s8 e8 ⊢
   refine ⟨Bn,fun p hp=>?_⟩
   exact q p ws none _ (((s2.trans s7).trans s8).trans (Ab.upd hp)) ⟨t,A5,(Ab.upd hp) _ _ e8⟩ ok.hall.1
  ·have uB : 2 <= room := by
    apply Classical.byContradiction
    intro z
    refine hn ?_
    rw [decide_eq_true (show room < 2 by omega)]
    rfl
   have dm:=Bb (cell % 997) (show (0:Int) < room - 1 by omega)
   refine ⟨_,rfl,W,_,rfl,.inl ⟨B6.of hW,fun t ht=>?_⟩⟩
   have s8:Ab H7 (upd H7 t (.tup (ws.map V.int))):=Ab.upd ht
   have e8:(upd H7 t (.tup (ws.map V.int))) t = some (.tup (ws.map V.int)):=A5
   generalize upd H7 t (.tup (ws.map V.int)) = H8 at s8 e8 ⊢
   refine ⟨_,rfl,_,_,rfl,rfl,(by first | (show (0:Int) < _; decide) | simp),_,rfl,_,_,rfl,rfl,_,_,rfl,rfl,(by show (0:Int) < room - 1; omega),_,_,rfl,rfl,Bn,fun p hp=>?_⟩
   exact q p ws (some (1 + cell % 997 % (room - 1))) _ (((s2.trans s7).trans s8).trans (Ab.upd hp)) ⟨t,A5,(Ab.upd hp) _ _ e8⟩ (ok.hall.2 _ room (by omega) (by omega) r1 r3)
def Tm (K:PySem.W.Frag):Sp:=fun vs H Q _=>Q8 fun (a:Addr) (ns:List Int)=>Ip (vs = [.ref a]) (B6 K H a (ns.map V.int)) (ns.length <= 63) ((∀ z ∈ ns,intBits z <= 2 ^ 20)) (∀ (p:Addr) (tr:List Bool) (H':Hp),Ab H H' -> H' p = some (.lst (tr.map V.bl)) -> Q (.ref p) H')
theorem g0 {fd fQ:FuncData} (T:Txt K mg ad aA aB) (F:Fk K "_law_truths" "_law_truths" Na ad.cR fd) (fR:Ai P w K mg base Bm 1 ad.bX fQ ["script","k"] (Oz K)) (fS:Av K fQ ["script","k"] []):Ai P w K mg base Bm 2 ad.cR fd ["script"] (Tm K):=by
 refine F.ok Sb (fun vs H Q E h=>?_) (fun aP A outer s H vs Q E hr h=>?_)
 ·rcases h with ⟨a,ns,rfl,hS,hlen,hX,q⟩ <;> rfl
 ·obtain ⟨a,ns,rfl,hS,hlen,hX,q⟩ := h
  refine ⟨_,(A6 (Ah (i:=1) Sb.nd rfl (Or.inl rfl) (Ca A8)) (A6 (Cn PassesOwn.never rfl (D9 (w':=Pl K _) (Da (Hr (Hu K) (pv 0) (Hl A9) (Hl A9)))) (Aw (i:=2) Sb.nd rfl (Or.inl rfl)) (Ac (Dd (Bg Fm (Au C7 (Au V5 (Am fR (hr.mono (by decide)) rfl T.mW T.k_x13 fS .nil Be (A0 (pv 0) (A0 A9 A8))) A9) A9) A9 (Ba _)) (Ac (Cb (Dm (u':=Qx K _ _ _ _) (Dq PySem.F.plainAttrs_list PySem.F.slot_list_append PySem.F.type_list_append Cc (pv 1) (A0 (D4 V0 (Au C7 (pv 2) A9) A9 (Ba _)) A8))))) (Ac (Cb (Dm (u':=Qx K _ _ _ _) (Dq PySem.F.plainAttrs_list PySem.F.slot_list_append PySem.F.type_list_append Cc (pv 1) (A0 (D4 Fm (Au C7 (Au C7 (Au I9 (pv 2) A9) A9) A9) A9 (Ba _)) A8)))))))) (Ac (Ar (pv 1))))),?_⟩
  refine ⟨Bn,fun O hO=>?_⟩
  have s1:Ab H (upd H O (.lst [])):=Ab.upd hO
  have e1:(upd H O (.lst [])) O = some (.lst []):=A5
  generalize upd H O (.lst []) = H1 at s1 e1 ⊢
  refine ⟨_,rfl,_,rfl,_,rfl,a,_,rfl,s1.seq hS,fun sl VT=>?_⟩
  rw [Wp]
  have jF:(Ru ns (some 2) (some 63)).length <= 63:=Nat.le_trans (Py _ _ _) hlen
  have xx:∀ z ∈ Ru ns (some 2) (some 63),intBits z <= 2 ^ 20:=fun z hz=>hX z (List.mem_of_mem_drop (List.mem_of_mem_take hz))
  generalize Ru ns (some 2) (some 63) = cs at jF xx ⊢
  have s2:Ab H1 (upd H1 sl (.lst (cs.map V.int))):=Ab.upd VT
  have e2:(upd H1 sl (.lst (cs.map V.int))) sl = some (.lst (cs.map V.int)):=A5
  generalize upd H1 sl (.lst (cs.map V.int)) = H2 at s2 e2 ⊢
  have hsO:sl ≠ O:=(Ad e1 VT).symm
  refine ⟨sl,rfl,.inl ⟨⟨_,B6.of e2⟩,?_⟩⟩
  refine Cq (K:=K) (a:=sl) (xs:=cs.map V.int) (fun i σ H'=>Q8 fun (tr:List Bool) (v2:Option V)=>Ip (σ = [some (.ref a),some (.ref O),v2]) (tr.length = i) (H' O = some (.lst (tr.map V.bl))) (H' sl = some (.lst (cs.map V.int))) (Ab H H')) ⟨[],none,rfl,rfl,s2 _ _ e1,e2,s1.trans s2⟩ (by rintro i σ H' _ ⟨_,_,_,_,_,e,_⟩; exact B6.of e) ?_ ?_
  ·rintro i y σ H' hy ⟨tr,v2,rfl,OC,sS,xA,s'⟩
   have hi:=(List.getElem?_eq_some_iff.mp hy).1
   rw [List.length_map] at hi
   rw [List.getElem?_map] at hy
   obtain ⟨x,hx,rfl⟩ := Option.map_eq_some_iff.mp hy
   refine ⟨_,rfl,a,ns,_,rfl,s'.seq hS,by decide,_,_,rfl,rfl,⟨by decide,by decide⟩,_,_,rfl,rfl,(by first | (show (0:Int) < _; decide) | simp),rfl,_,rfl,_,fun _=>?_,fun _=>?_,fun _ _ z=>z⟩
   ·refine ⟨_,rfl,.inl ⟨rfl,_,B6.of sS⟩,_,rfl,_,_,rfl,rfl,(by first | (show (0:Int) < _; decide) | simp),_,_,rfl,rfl,O,_,_,rfl,rfl,sS,B8 (by rw [List.length_map]; omega),?_⟩
    exact ⟨tr ++ [_],_,rfl,Rb OC,A5.trans (congrArg (fun z=>some (HO.lst z)) (Ur tr _)),(Aa hsO).trans xA,s'.new hO⟩
   ·refine ⟨_,rfl,.inl ⟨rfl,_,B6.of sS⟩,_,rfl,_,_,rfl,rfl,Qt (xx x (List.mem_of_getElem? hx)) (F8 (by decide) (by decide)) (by decide),_,_,rfl,rfl,(by first | (show (0:Int) < _; decide) | simp),_,_,rfl,rfl,(by first | (show (0:Int) < _; decide) | simp),rfl,O,_,_,rfl,rfl,sS,B8 (by rw [List.length_map]; omega),?_⟩
    exact ⟨tr ++ [_],_,rfl,Rb OC,A5.trans (congrArg (fun z=>some (HO.lst z)) (Ur tr _)),(Aa hsO).trans xA,s'.new hO⟩
  rintro σ H' ⟨tr,v2,rfl,OC,sS,xA,s'⟩
  exact ⟨_,rfl,q O tr H' s' sS⟩
def Z5 (K:PySem.W.Frag):Sp:=fun vs H Q _=>jv fun (h d t l:Addr) (ws:List Int) (cm:Option Int) (kvs:List ((List Int × Int) × V)) (tr:List Bool) (us:List V) (rs:List PR) (lo:Nat -> Int -> Bool)=>cc (vs = [.ref h,.ref d,.ref t,.ref l]) (Bd H h ws cm) (ws.length <= 8) ((∀ x ∈ ws,1 <= x)) ((∀ c,cm = some c -> 1 <= c)) (H d = some (.dT kvs)) (Ss ws cm kvs) (H t = some (.lst (tr.map V.bl))) (H l = some (.lst us)) (Ae (I0 H) rs us) (rs.length <= 64) (O6 ws cm kvs lo rs) ((∀ i q,lo i q = Cv tr i cm q)) (∀ H',Ab H H' -> Q (.bl true) H')
theorem lj {fd  : FuncData} (T:Txt K mg ad aA aB) (F:Fk K "_law_rows_due" "_law_rows_due" S0 ad.gH fd):Ai P w K mg base Bm 1 ad.gH fd ["hall","calls","truths","rows"] (Z5 K):=by
 refine F.ok Fu (fun vs H Q E h=>?_) (fun aP A outer s H vs Q E hr h=>?_)
 ·rcases h with ⟨h,d,t,l,ws,cm,kvs,tr,us,rs,lo,rfl,hh,lU,cS,RV,hd,dW,ht,hl,fW,qU,HH,EA,q⟩ <;> rfl
 ·obtain ⟨h,d,t,l,ws,cm,kvs,tr,us,rs,lo,rfl,hh,lU,cS,RV,hd,dW,ht,hl,fW,qU,HH,EA,q⟩ := h
  refine ⟨_,(A6 (Ah (i:=4) Fu.nd rfl (Or.inl rfl) (Ct F9 (by rfl) T.gZ boot_list (A0 (B0 (Az K) (pv 0) A9 (fun _ _=>rfl)) A8))) (A6 (Ah (i:=5) Fu.nd rfl (Or.inl rfl) A9) (A6 (Ah (i:=6) Fu.nd rfl (Or.inl rfl) (Ca A8)) (A6 (Cn PassesOwn.never rfl (D9 (w':=Pl K _) (Da (pv 3))) (Aw (i:=7) Fu.nd rfl (Or.inl rfl)) (A6 (Ah (i:=8) Fu.nd rfl (Or.inr rfl) (Au Cf (Bi (Cd K) (by rfl) T.bZ PySem.boot_len (A0 (pv 6) A8)) A9)) (A6 (Ah (i:=9) Fu.nd rfl (Or.inl rfl) (Ct (Gb K) (by rfl) T.dB boot_tuple (A0 (Fy (D9 (w':=Pl K _) (Da (pv 4))) _ rfl I8 rfl rfl (fun _ _ _ _=>(Aw (i:=0) Hi rfl (Or.inl rfl))) (fun _ _ _ _=>E8) (fun _ _ _ _=>(Au Cf (Au Gz (pv 0) (pv 1)) A9))) A8))) (A6 (Ah (i:=10) Fu.nd rfl (Or.inl rfl) (Cw (A0 (pv 9) (A0 (Bi (N9 rfl) (by rfl) T.mX boot_max (A0 A9 (A0 (Au Cf (Au Gz (pv 5) (pv 8)) A9) A8))) A8)))) (A6 (Ah (i:=11) Fu.nd rfl (Or.inl rfl) (P9 (D4 kz (pv 8) (Bi (Cd K) (by rfl) T.bZ PySem.boot_len (A0 (pv 2) A8)) (Ba _)) (P9 (B0 (Az K) (pv 2) (Au Gz (pv 8) A9) (fun _ _=>rfl)) (P9 (D4 U7 (B0 (Az K) (pv 0) A9 (fun _ _=>rfl)) Ee (Ba _)) (Pe (D4 V0 (pv 8) (pv 5) (Ba _))))))) (A6 (Db (PW.pt (L1 (Ic (Mp (Fo hr) (pv 10) (pv 1)) rfl) (L1 (Bg (Zb hr) (pv 7) (Cw (A0 (pv 10) (A0 (Hn (Fo hr) (pv 1) (pv 10) (fun _ _=>rfl)) (A0 (pv 11) A8)))) (Ba _)) (L7 (Fc (Dt (Bi (Il K) (by rfl) T.bM boot_isinstance (A0 (B0 (Az K) (pv 7) A9 (fun _ _=>rfl)) (A0 (Xy (by rfl) T.wG boot_bool) A8))))))))) (Ac (Ar Jc)) Ax) (A6 (Dd (Dt (pv 11)) (A6 (Cb (Dm (u':=Qx K _ _ _ _) (Dq PySem.F.plainAttrs_list PySem.F.slot_list_append PySem.F.type_list_append Cc (pv 6) (A0 Ee A8)))) (Ac (Ah (i:=5) Fu.nd rfl (Or.inl rfl) (Au Cf (pv 8) (B0 (Az K) (pv 0) A9 (fun _ _=>rfl)))))) (A6 (Cb (Dm (u':=Qx K _ _ _ _) (Dq PySem.F.plainAttrs_list PySem.F.slot_list_append PySem.F.type_list_append Cc (pv 6) (A0 (B0 (Az K) (pv 7) A9 (fun _ _=>rfl)) A8)))) (Ac (Y8 (Au Cf (pv 8) (B0 (Az K) (B0 (Az K) (pv 0) A9 (fun _ _=>rfl)) (B0 (Az K) (pv 7) A9 (fun _ _=>rfl)) (fun _ _=>rfl))) (Y6 (pv 4) (B0 (Az K) (pv 7) A9 (fun _ _=>rfl)) Qk))))) (Ac (Cn PassesOwn.never rfl (G9 (by rfl) T.dC (A0 (Bi (Cd K) (by rfl) T.bZ PySem.boot_len (A0 (B0 (Az K) (pv 0) A9 (fun _ _=>rfl)) A8)) A8)) (Aw (i:=12) Fu.nd rfl (Or.inl rfl)) (Ac (Db (PW.pt (Zm (Bg cq (pv 8) (B0 (Az K) (B0 (Az K) (pv 0) A9 (fun _ _=>rfl)) (pv 12) (fun _ _=>rfl)) (Ba _)) (Pk (Bg (N7 K hr) (pv 12) (Hr (Hu K) (pv 6) (Hl (Au Gz (pv 8) (B0 (Az K) (B0 (Az K) (pv 0) A9 (fun _ _=>rfl)) (pv 12) (fun _ _=>rfl)))) P0) rfl)))) (Ac (Ar Jc)) Ax))))))))))) (Ac (Ar Jc)))))),?_⟩
  obtain ⟨wt,xB,HI⟩ := id hh
  refine ⟨_,rfl,h,_,_,_,rfl,rfl,.inr (C0.of xB),rfl,wt,_,rfl,.inr (C0.of HI),fun M hM=>?_⟩
  have s1:Ab H (upd H M (.lst (ws.map V.int))):=Ab.upd hM
  have e1:(upd H M (.lst (ws.map V.int))) M = some (.lst (ws.map V.int)):=A5
  generalize upd H M (.lst (ws.map V.int)) = H1 at s1 e1 ⊢
  refine ⟨Bn,fun R hR=>?_⟩
  have s2:Ab H1 (upd H1 R (.lst [])):=Ab.upd hR
  have e2:(upd H1 R (.lst [])) R = some (.lst []):=A5
  generalize upd H1 R (.lst []) = H2 at s2 e2 ⊢
  have eJ:=s1.trans s2
  have VU:M ≠ R:=Ad e1 hR
  have hR0:H R = none:=s1.free hR
  refine ⟨_,rfl,l,rfl,.inl ⟨⟨_,B6.of (eJ _ _ hl)⟩,?_⟩⟩
  refine Cq (K:=K) (a:=l) (xs:=us) (fun i σ H'=>sd fun (lim:List Int) (ct:Int) (rc:List (Option Nat)) (v7 v8 v9 v10 v11 xC:Option V)=>Lu (σ = [some (.ref h),some (.ref d),some (.ref t),some (.ref l),some (.ref M),some (.int ct),some (.ref R),v7,v8,v9,v10,v11,xC]) (Ab H H') (H' M = some (.lst (lim.map V.int))) (H' R = some (.lst (rc.map Qr))) (Uj ws cm rs i lim ct rc) ((Af kvs (F5 ws cm (rs.take i))).isSome = true)) ⟨ws,0,[],none,none,none,none,none,none,rfl,eJ,s2 _ _ e1,e2,Uj.start,dW.1⟩ (by rintro i σ H' _ ⟨_,_,_,_,_,_,_,_,_,_,s,_⟩; exact B6.of (s _ _ hl)) ?_ ?_
  ·rintro i y σ H' hy ⟨lim,ct,rc,v7,v8,v9,v10,v11,xC,rfl,s',VW,lB,VX,EO⟩
   obtain ⟨r,hr,tt,ss,rfl,oX,bS⟩ := fW.get hy
   have hi:=(List.getElem?_eq_some_iff.mp hr).1
   obtain ⟨lD,uB,hr3⟩ := HH i r hr
   obtain ⟨xv,GG,CP,_⟩ := id VX
   rw [<- lD] at xv
   obtain ⟨VT,mB,j,ej,hj,OF⟩ := dW.2 r.1 _ uB
   have ej2:j = r.2.1:=by
    injection ej with z
    omega
   rw [ej2] at hj OF
   refine ⟨_,rfl,R,_,rfl,.inl (B6.of lB),_,_,rfl,rfl,?_⟩
   have hT:(((rc.map Qr).length:Nat):Int) + 1 = (i:Int) + 1:=by rw [List.length_map,CP]
   dsimp only
   rw [hT]
   refine ⟨_,rfl,M,rfl,.inl ⟨⟨_,B6.of VW⟩,fun W hW=>?_⟩⟩
   refine G0 (K:=K) (a:=M) (xs:=lim.map V.int) (fun m zs H5=>zs = ((lim.take m).map fun x=>x - ((i:Int) + 1) + 1).map V.int /\ H5 W = some (.lst zs) /\ Ab H' H5) ⟨rfl,A5,Ab.upd hW⟩ (by rintro m zs H5 _ ⟨_,_,s⟩; exact B6.of (s _ _ VW)) ?_ ?_
   ·rintro m y zs H5 hy ⟨rfl,lV,s5⟩ Qe hQ
    rw [List.getElem?_map] at hy
    obtain ⟨x,hx,rfl⟩ := Option.map_eq_some_iff.mp hy
    refine ⟨_,rfl,_,rfl,_,_,rfl,rfl,_,_,rfl,rfl,?_⟩
    refine hQ _ _ lV (B8 (by rw [List.length_map,List.length_map,List.length_take]; omega)) ⟨?_,A5,s5.new hW⟩
    rw [Dr hx,List.map_append,List.map_append]
    rfl
   rintro zs H5 ⟨rfl,lV,s5⟩
   rw [List.length_map,List.take_length] at lV
   have eL:(lim.map fun x=>x - ((i:Int) + 1) + 1) = r.1.1:=by
    rw [xv]
    refine List.map_congr_left fun x _=>?_
    show x - ((i:Int) + 1) + 1 = x - (i:Int)
    omega
   rw [eL] at lV
   refine ⟨W,_,rfl,.inl ⟨B6.of lV,fun TL CZ=>?_⟩⟩
   have s6:Ab H5 (upd H5 TL (.tup (r.1.1.map V.int))):=Ab.upd CZ
   have e6:(upd H5 TL (.tup (r.1.1.map V.int))) TL = some (.tup (r.1.1.map V.int)):=A5
   generalize upd H5 TL (.tup (r.1.1.map V.int)) = H6 at s6 e6 ⊢
   refine ⟨_,rfl,_,rfl,_,rfl,_,_,rfl,rfl,_,_,rfl,rfl,_,_,rfl,Bn,fun S hS=>?_⟩
   have eQ:(if ct - ((i:Int) + 1) + 1 > (0:Int) then ct - ((i:Int) + 1) + 1 else 0) = r.1.2:=by
    rw [xv]
    show _ = max 0 (ct - (i:Int))
    split <;> omega
   rw [eQ]
   have s7:Ab H6 (upd H6 S (.tup [.ref TL,.int r.1.2])):=Ab.upd hS
   have e7:(upd H6 S (.tup [.ref TL,.int r.1.2])) S = some (.tup [.ref TL,.int r.1.2]):=A5
   generalize upd H6 S (.tup [.ref TL,.int r.1.2]) = H7 at s7 e7 ⊢
   have CS:=(s5.trans s6).trans s7
   have DB:=s'.trans CS
   have HJ:Dx H7 S r.1:=⟨TL,e7,s7 _ _ e6⟩
   have q0:r.1.2 = 0 ↔ (i:Int) + 1 > ct:=by
    rw [xv]
    show max 0 (ct - (i:Int)) = 0 ↔ _
    omega
   have dM:r.2.2 = Cv tr i cm r.1.2:=hr3.trans (EA i _)
   refine ⟨_,rfl,_,rfl,t,_,rfl,.inl (B6.of (DB _ _ ht)),_,_,rfl,rfl,_,(fun b H8=>b = r.2.2 /\ H8 = H7),rfl,(fun z=>⟨?_,rfl⟩),(fun z=>?_),?_⟩
   ·rw [dM,a9 (by have:=of_decide_eq_false z; rw [List.length_map] at this; exact this)]
   ·have hit : i < tr.length := by
     have:=of_decide_eq_true z
     rw [List.length_map] at this
     omega
    rw [bp hit] at dM
    refine ⟨_,rfl,_,rfl,_,_,rfl,rfl,t,_,_,_,rfl,rfl,.inl (B6.of (DB _ _ ht)),(by rw [show (i:Int) + 1 - 1 = (i:Nat) by omega]; exact d7 hit),_,(fun b H8=>b = r.2.2 /\ H8 = H7),rfl,(fun z=>⟨?_,rfl⟩),(fun z=>?_),fun b H8 hb=>⟨_,rfl,hb⟩⟩
    ·rw [dM,z]
     rfl
    ·rw [z,Bool.true_and] at dM
     refine ⟨_,rfl,h,_,_,_,rfl,rfl,.inr (C0.of (DB _ _ xB)),rfl,rfl,_,(fun b H8=>b = r.2.2 /\ H8 = H7),rfl,(fun z=>⟨?_,rfl⟩),(fun z=>?_),fun b H8 hb=>⟨_,rfl,hb⟩⟩
     ·rw [dM,<- O3,z]
      rfl
     ·rw [<- O3,z,Bool.true_and] at dM
      refine ⟨_,rfl,_,rfl,_,_,rfl,rfl,_,rfl,?_,rfl⟩
      rw [dM]
      by_cases y:(i:Int) + 1 > ct
      ·rw [decide_eq_true y,decide_eq_true (q0.mpr y)]
      ·rw [decide_eq_false y,decide_eq_false (fun x=>y (q0.mp x))]
   rintro b H8 ⟨rfl,rfl⟩
   have hr2':=uB
   refine ⟨_,rfl,_,rfl,d,_,rfl,D8.t (DB _ _ hd) HJ,_,rfl,(fun b H9=>b = false /\ Ab H8 H9),(fun z=>?_),(fun z=>?_),?_⟩
   ·rw [uB] at z
    exact absurd z (by simp)
   ·refine ⟨_,rfl,_,rfl,_,rfl,_,rfl,d,.int (r.2.1:Nat),rfl,(by rw [<- uB]; exact D8.t (DB _ _ hd) HJ),_,rfl,Bn,fun T0 hT0=>?_⟩
    have s9:Ab H8 (upd H8 T0 (.tup [.ref S,.int (r.2.1:Nat),.bl r.2.2])):=Ab.upd hT0
    have e9:(upd H8 T0 (.tup [.ref S,.int (r.2.1:Nat),.bl r.2.2])) T0 = some (.tup [.ref S,.int (r.2.1:Nat),.bl r.2.2]):=A5
    generalize upd H8 T0 (.tup [.ref S,.int (r.2.1:Nat),.bl r.2.2]) = H9 at s9 e9 ⊢
    have xD:=DB.trans s9
    have HK:Rp H9 (Ge r) (.ref tt):=Sz ⟨tt,ss,rfl,xD _ _ oX,bS.same xD⟩
    have VY:Rp H9 (Ge r) (.ref T0):=Sz ⟨T0,S,rfl,e9,⟨TL,s9 _ _ e7,s9 _ _ (s7 _ _ e6)⟩⟩
    refine ⟨_,_,HK,VY,Nat.le_trans (Lb r) (by decide),_,rfl,(fun b H9=>b = false /\ Ab H8 H9),(fun z=>?_),(fun z=>?_),fun b H9 hb=>hb⟩
    ·rw [if_pos rfl,PySem.SeqAt.eqv_refl _ (Cl _ _ HK)] at z
     cases z
    ·exact ⟨_,rfl,tt,_,_,_,rfl,rfl,.inr (C0.of (xD _ _ oX)),rfl,_,"bool","bool",true,rfl,.bl _,Os,_,rfl,rfl,s9⟩
   rintro b H9 ⟨rfl,s9⟩
   refine E2 rfl ?_
   have VZ:=CS.trans s9
   have xD:=s'.trans VZ
   have hM9:=VZ _ _ VW
   have HL:=VZ _ _ lB
   have dY:∀ (HM:List Int) (ct':Int) (rc':List (Option Nat)),Uj ws cm rs (i + 1) HM ct' rc' -> Ku cm r.1.2 r.2.2 -> (Af kvs (F5 ws cm (rs.take (i + 1)))).isSome = true:=fun HM ct' rc' _ OI=>by
    rw [Dr hr,Hk,<- lD]
    exact (OF r.2.2 OI).2
   have OI:Ku cm r.1.2 r.2.2:=by
    rw [hr3,EA]
    exact R0
   refine ⟨_,rfl,_,rfl,(fun σ' H'=>Wg fun (lim:List Int) (ct:Int) (rc:List (Option Nat))=>Ip (σ' = [some (.ref h),some (.ref d),some (.ref t),some (.ref l),some (.ref M),some (.int ct),some (.ref R),some (.ref tt),some (.int ((i:Int) + 1)),some (.ref TL),some (.ref S),some (.bl r.2.2),xC]) (Ab H H') (H' M = some (.lst (lim.map V.int))) (H' R = some (.lst (rc.map Qr))) (Uj ws cm rs (i + 1) lim ct rc)),fun hb=>?_,fun hb=>?_,?_⟩
   ·have fF:r.2.2 = true:=hb
    obtain ⟨c,hc⟩ : ∃ c,cm = some c:=by
     cases cm with
     | none=>exact absurd rfl (OI fF).1
     | some c=>exact ⟨c,rfl⟩
    refine ⟨_,rfl,.inl ⟨rfl,_,B6.of HL⟩,R,_,_,rfl,rfl,HL,B8 (by rw [List.length_map]; omega),?_⟩
    have tR:An H9 (upd H9 R (.lst (rc.map Qr ++ [.aL]))):=An.lst HL
    have eR:(upd H9 R (.lst (rc.map Qr ++ [.aL]))) R = some (.lst ((rc ++ [none]).map Qr)):=by
     rw [A5,List.map_append]
     rfl
    have eM:(upd H9 R (.lst (rc.map Qr ++ [.aL]))) M = some (.lst (lim.map V.int)):=(Aa VU).trans hM9
    have sR:Ab H (upd H9 R (.lst (rc.map Qr ++ [.aL]))):=xD.new hR0
    generalize upd H9 R (.lst (rc.map Qr ++ [.aL])) = G at tR eR eM sR ⊢
    subst hc
    refine ⟨_,rfl,_,rfl,h,_,_,_,rfl,rfl,.inr (C0.of (sR _ _ xB)),rfl,_,_,rfl,rfl,?_⟩
    exact ⟨lim,(i:Int) + 1 + c,rc ++ [none],rfl,sR,eM,eR,VX.lost hr fF rfl (RV c rfl)⟩
   ·have fF:r.2.2 = false:=hb
    refine ⟨_,rfl,.inl ⟨rfl,_,B6.of HL⟩,_,rfl,tt,_,_,_,rfl,rfl,.inr (C0.of (xD _ _ oX)),rfl,R,_,_,rfl,rfl,HL,B8 (by rw [List.length_map]; omega),?_⟩
    have eR:(upd H9 R (.lst (rc.map Qr ++ [.int (r.2.1:Nat)]))) R = some (.lst ((rc ++ [some r.2.1]).map Qr)):=by
     rw [A5,List.map_append]
     rfl
    have eM:(upd H9 R (.lst (rc.map Qr ++ [.int (r.2.1:Nat)]))) M = some (.lst (lim.map V.int)):=(Aa VU).trans hM9
    have sR:Ab H (upd H9 R (.lst (rc.map Qr ++ [.int (r.2.1:Nat)]))):=xD.new hR0
    generalize upd H9 R (.lst (rc.map Qr ++ [.int (r.2.1:Nat)])) = G at eR eM sR ⊢
    refine ⟨_,rfl,_,rfl,h,_,_,_,rfl,rfl,.inr (C0.of (sR _ _ xB)),rfl,_,rfl,tt,_,_,_,rfl,rfl,.inr (C0.of (sR _ _ oX)),rfl,wt,_,_,_,rfl,rfl,.inr (C0.of (sR _ _ HI)),Pc hj,_,_,rfl,rfl,_,rfl,_,rfl,tt,_,_,_,rfl,rfl,.inr (C0.of (sR _ _ oX)),rfl,M,_,_,r.2.1,rfl,rfl,eM,Ua (by rw [List.length_map]; omega),?_⟩
    refine ⟨lim.set r.2.1 ((i:Int) + 1 + ws.getD r.2.1 0),ct,rc ++ [some r.2.1],rfl,sR.new hM,?_,(Aa VU.symm).trans eR,VX.FU hr fF hj⟩
    rw [A5,List.map_set]
   rintro σ' rK ⟨HN,WA,WB,rfl,CI,WC,HP,sT⟩
   have HQ:=dY HN WA WB sT OI
   obtain ⟨v2,wH⟩ := Option.isSome_iff_exists.mp HQ
   have WD:=(dW.2 _ _ wH).2.1
   have hrl2:=sT.2.2.1
   refine ⟨_,rfl,h,_,_,_,rfl,rfl,.inr (C0.of (CI _ _ xB)),rfl,wt,_,rfl,.inr (C0.of (CI _ _ HI)),_,rfl,by omega,(by rw [List.length_map]; omega),?_⟩
   refine Ng (n:=((ws.map V.int).length:Int).toNat) (fun m σ H'=>∃ (xC:Option V),σ = [some (.ref h),some (.ref d),some (.ref t),some (.ref l),some (.ref M),some (.int WA),some (.ref R),some (.ref tt),some (.int ((i:Int) + 1)),some (.ref TL),some (.ref S),some (.bl r.2.2),xC] /\ Ab rK H') ⟨xC,rfl,Ab.refl _⟩ ?_ ?_
   ·rintro m σ wj hm ⟨WE,rfl,gU⟩
    have fX:m < ws.length:=by
     rw [List.length_map] at hm
     omega
    have sA:=CI.trans gU
    have hwm:=cS _ (Gc fX)
    have dD:Xq (ws.map V.int) (0 + (m:Int)) = some (.int (ws.getD m 0)):=by
     rw [show (0:Int) + (m:Int) = (m:Nat) by omega]
     exact Pc fX
    refine ⟨_,rfl,_,rfl,h,_,_,_,rfl,rfl,.inr (C0.of (sA _ _ xB)),rfl,_,rfl,wt,_,_,_,rfl,rfl,.inr (C0.of (sA _ _ HI)),dD,_,_,rfl,rfl,_,rfl,(fun b H'=>b = false /\ Ab wj H'),(fun _=>⟨rfl,Ab.refl _⟩),(fun z=>?_),?_⟩
    ·have MW:ws.getD m 0 <= (i:Int) + 1:=of_decide_eq_true z
     refine ⟨_,rfl,_,rfl,_,rfl,_,rfl,h,_,_,_,rfl,rfl,.inr (C0.of (sA _ _ xB)),rfl,_,rfl,wt,_,_,_,rfl,rfl,.inr (C0.of (sA _ _ HI)),dD,_,_,rfl,rfl,_,rfl,R,_,rfl,B6.of (gU _ _ HP),fun U hU=>?_⟩
     rw [Mj (by omega) (by rw [List.length_map]; omega),<- List.map_drop]
     refine ⟨U,_,.int (m:Nat),(WB.drop ((i:Int) + 1 - ws.getD m 0).toNat).map ky,rfl,B6.of A5,(by rw [show (0:Int) + (m:Int) = (m:Nat) by omega]; exact J2 _),cu _,(by show 0 <= 50; omega),_,rfl,?_,Ab.upd hU⟩
     have hck:=sT.check WD fX (by omega)
     rw [show ((i + 1:Nat):Int) = (i:Int) + 1 by omega] at hck
     rw [ig hck]
     rfl
    ·rintro b H' ⟨rfl,eJ⟩
     exact E2 rfl ⟨_,rfl,gU.trans eJ⟩
   rintro σ wj ⟨WE,rfl,gU⟩
   exact ⟨HN,WA,WB,_,_,_,_,_,_,rfl,CI.trans gU,gU _ _ WC,gU _ _ HP,sT,HQ⟩
  rintro σ H' ⟨lim,ct,rc,v7,v8,v9,v10,v11,xC,rfl,s',_,_,_,_⟩
  exact q _ s'
def Ot (K:PySem.W.Frag):Sp:=fun vs H Q _=>Q8 fun (a:Addr) (ns:List Int)=>Ip (vs = [.ref a]) (B6 K H a (ns.map V.int)) (ns.length <= 63) ((∀ z ∈ ns,intBits z <= 2 ^ 20)) (∀ H',Q (.bl true) H')
theorem gm {fd uT uU oY oZ pA pB uV:FuncData} (T:Txt K mg ad aA aB) (F:Fk K "law" "law" Hj ad.eG fd) (xE:Ai P w K mg base Bm 1 ad.gF uT ["self","paper"] (Ym K aA aB)) (xF:Av K uT ["self","paper"] []) (xG:Ai P w K mg base Bm 1 ad.gG uU ["self","row"] (Xu K aA aB)) (xH:Av K uU ["self","row"] []) (pC:Ai P w K mg base Bm 2 ad.cQ oY ["script"] (U4 K)) (pD:Av K oY ["script"] []) (pE:Ai P w K mg base Bm 8 ad.cN oZ ["hall"] (Tr K)) (pF:Av K oZ ["hall"] []) (pG:Ai P w K mg base Bm 2 ad.cR pA ["script"] (Tm K)) (pH:Av K pA ["script"] []) (pI:Ai P w K mg base Bm 5 ad.cP pB ["hall","caller","road","turns"] (Th K aA aB)) (pJ:Av K pB ["hall","caller","road","turns"] []) (xI:Ai P w K mg base Bm 1 ad.gH uV ["hall","calls","truths","rows"] (Z5 K)) (xJ:Av K uV ["hall","calls","truths","rows"] []):Ai P w K mg base Bm 9 ad.eG fd ["script"] (Ot K):=by
 refine F.ok Dp (fun vs H Q E h=>?_) (fun aP A outer s H vs Q E hr h=>?_)
 ·rcases h with ⟨a,ns,rfl,hS,hlen,hX,q⟩ <;> rfl
 ·obtain ⟨a,ns,rfl,hS,hlen,hX,q⟩ := h
  refine ⟨_,(A6 (Ah (i:=1) Dp.nd rfl (Or.inl rfl) (Am pC (hr.mono (by decide)) rfl T.FJ T.k_x25 pD .nil Be (A0 (pv 0) A8))) (A6 (Ah (i:=2) Dp.nd rfl (Or.inl rfl) (Am pE (hr.mono (by decide)) rfl T.FG T.k_x16 pF .nil Be (A0 (pv 1) A8))) (A6 (Db (Bg S1 (pv 2) Ee (Ba _)) (Ac (Ar Jc)) Ax) (A6 (Ah (i:=3) Dp.nd rfl (Or.inl rfl) (Ct (Ki K (lh hr) rfl) (by rfl) T.mZ boot_dict (A0 (pv 2) A8))) (A6 (Ah (i:=4) Dp.nd rfl (Or.inl rfl) (Am pG (hr.mono (by decide)) rfl T.FK T.k_x18 pH .nil Be (A0 (pv 0) A8))) (A6 (Ah (i:=5) Dp.nd rfl (Or.inl rfl) (U6 T.fK xE (hr.mono (by decide)) (by rfl) T.gI xF .nil Be (A0 (pv 2) A8))) (A6 (Ah (i:=6) Dp.nd rfl (Or.inl rfl) (U6 T.jJ xG (hr.mono (by decide)) (by rfl) T.lC xH .nil Be (A0 (pv 4) A8))) (A6 (Ah (i:=7) Dp.nd rfl (Or.inl rfl) (Ca A8)) (A6 (Ah (i:=8) Dp.nd rfl (Or.inl rfl) (Ca A8)) (A6 (Cn PassesOwn.never rfl (D9 (w':=Pl K _) (Da (Ca (A0 A9 (A0 A9 A8))))) (Aw (i:=9) Dp.nd rfl (Or.inl rfl)) (A6 (Ah (i:=10) Dp.nd rfl (Or.inl rfl) (Am pI (hr.mono (by decide)) rfl T.FI T.k_x30 pJ .nil Be (A0 (pv 1) (A0 (pv 5) (A0 (pv 6) (A0 (pv 9) A8)))))) (A6 (Db (PW.pt (L1 (Fc (Dt (Bi (Il K) (by rfl) T.bM boot_isinstance (A0 (pv 10) (A0 (Xy (by rfl) T.dB boot_tuple) A8))))) (L1 (Bg de (Bi (Cd K) (by rfl) T.bZ PySem.boot_len (A0 (pv 10) A8)) A9 (Ba _)) (L7 (Bg (Zb hr) (B0 (Az K) (pv 10) A9 (fun _ _=>rfl)) (Ca A8) (Ba _)))))) (Ac (Ar Jc)) Ax) (A6 (Db (PW.pt (L1 (Fc (Dt (Bi (Il K) (by rfl) T.bM boot_isinstance (A0 (B0 (Az K) (pv 10) A9 (fun _ _=>rfl)) (A0 (Xy (by rfl) T.gZ boot_list) A8))))) (L7 (Bg de (Bi (Cd K) (by rfl) T.bZ PySem.boot_len (A0 (B0 (Az K) (pv 10) A9 (fun _ _=>rfl)) A8)) (pv 9) (Ba _))))) (Ac (Ar Jc)) Ax) (A6 (Db (Fc (Dt (Am xI (hr.mono (by decide)) rfl T.RI T.k_x9 xJ .nil Be (A0 (pv 1) (A0 (pv 3) (A0 (pv 4) (A0 (B0 (Az K) (pv 10) A9 (fun _ _=>rfl)) A8))))))) (Ac (Ar Jc)) Ax) (A6 (Ah (i:=4) Dp.nd rfl (Or.inl rfl) (Hr (Hu K) (pv 4) (Hl (pv 9)) P0)) (A6 (Cb (Dm (u':=Qx K _ _ _ _) (Dq PySem.F.plainAttrs_list PySem.F.slot_list_append PySem.F.type_list_append Cc (pv 7) (A0 (B0 (Az K) (pv 10) A9 (fun _ _=>rfl)) A8)))) (Ac (Cb (Dm (u':=Qx K _ _ _ _) (Dq PySem.F.plainAttrs_list PySem.F.slot_list_append PySem.F.type_list_append Cc (pv 8) (A0 (Ct F9 (by rfl) T.gZ boot_list (A0 (B0 (Az K) (pv 10) A9 (fun _ _=>rfl)) A8)) A8)))))))))))) (Ac (Ar (D4 (ij hr) (pv 7) (pv 8) (Ba _)))))))))))))),?_⟩
  refine ⟨_,rfl,a,ns,rfl,hS,hX,fun hp ws cm H1 s1 ha aH=>?_⟩
  have h8:=aH.2.2.2.1
  have FR:=aH.2.2.1
  have cS:∀ x ∈ ws,1 <= x:=fun x hx=>(aH.1 x hx).1
  refine ⟨_,rfl,hp,ws,cm,rfl,ha,aH,(fun tv H2 s2 _ _ _=>?_),fun p us ps tv H2 s2 hpn ep wJ ER lM uW hall=>?_⟩
  ·exact ⟨_,rfl,rfl,_,rfl,Pw rfl (q _)⟩
  refine ⟨_,rfl,rfl,_,rfl,E2 rfl ?_⟩
  have dW:=Xd uW
  have epa:D6 [] ps = ps:=Nk ps [] uW.1.nd
  refine ⟨_,rfl,p,us,ps,rfl,B6.of ep,hall.1,(fun j u p e1 e2=>hall.2 j p u e2 e1),fun d hd=>?_⟩
  rw [epa]
  have s3:Ab H2 (upd H2 d (.dT ps)):=Ab.upd hd
  have e3:(upd H2 d (.dT ps)) d = some (.dT ps):=A5
  generalize upd H2 d (.dT ps) = H3 at s3 e3 ⊢
  have SA:=(s1.trans s2).trans s3
  refine ⟨_,rfl,a,ns,rfl,SA.seq hS,hlen,hX,fun O tr H4 s4 eO=>?_⟩
  have WG:=s3.trans s4
  have HR:Ae (No H4) ps us:=hall.imp fun _ _ z=>No.same WG z
  refine ⟨_,rfl,fun c dc hc WH hnc=>⟨c,dc,p,us,ps,rfl,A5,K2 hc WH _ _ (WG _ _ ep),HR.imp (fun _ _ z=>z.same (K2 hc WH)),fun pd H5 hpd ec epd ho=>⟨rfl,?_⟩⟩⟩
  have s5:=Uq hc WH ho
  rw [epa] at epd
  refine ⟨_,rfl,fun g dg hg hdg hng=>⟨g,dg,O,_,rfl,A5,K2 hg hdg _ _ (s5 _ _ eO),fun qg H6 VO eg eqg hog=>⟨rfl,?_⟩⟩⟩
  have s6:=Uq hg hdg hog
  have OE:c ≠ g:=Ad ec hg
  have s26:=(WG.trans s5).trans s6
  have ha6:Bd H6 hp ws cm:=(ha.same s2).same s26
  refine ⟨Bn,fun TO hTO=>?_⟩
  have s7:Ab H6 (upd H6 TO (.lst [])):=Ab.upd hTO
  have e7:(upd H6 TO (.lst [])) TO = some (.lst []):=A5
  generalize upd H6 TO (.lst []) = H7 at s7 e7 ⊢
  refine ⟨Bn,fun KE WI=>?_⟩
  have s8:Ab H7 (upd H7 KE (.lst [])):=Ab.upd WI
  have e8:(upd H7 KE (.lst [])) KE = some (.lst []):=A5
  generalize upd H7 KE (.lst []) = H8 at s8 e8 ⊢
  refine ⟨Bn,fun TL CZ=>?_⟩
  have s9:Ab H8 (upd H8 TL (.lst [.int 64,.int 40])):=Ab.upd CZ
  have e9:(upd H8 TL (.lst [.int 64,.int 40])) TL = some (.lst [.int 64,.int 40]):=A5
  generalize upd H8 TL (.lst [.int 64,.int 40]) = H9 at s9 e9 ⊢
  have s79:=s8.trans s9
  have OJ:=s7.trans s79
  have nTK:TO ≠ KE:=Ad e7 WI
  have nTL:TL ≠ TO:=(Ad (s8 _ _ e7) CZ).symm
  have nKL:TL ≠ KE:=(Ad e8 CZ).symm
  have WJ:H6 KE = none:=s7.free WI
  refine ⟨TL,rfl,.inl ⟨⟨_,B6.of e9⟩,?_⟩⟩
  refine Cq (K:=K) (a:=TL) (xs:=[.int 64,.int 40]) (fun i σ H'=>pf fun (O:Addr) (k:Nat) (ls ks:List V) (lT:List (List PR)) (v9 v10:Option V)=>Rj (σ = [some (.ref a),some (.ref hp),some (.ref p),some (.ref d),some (.ref O),some (.ref c),some (.ref g),some (.ref TO),some (.ref KE),v9,v10]) (Bw H6 H') (H' c = some (.ins aA dc [("paper",.ref pd)])) (H' g = some (.ins aB dg (Fi qg k))) (H' O = some (.lst ((tr.drop k).map V.bl))) (H' TO = some (.lst ls)) (H' KE = some (.lst ks)) (H' TL = some (.lst [.int 64,.int 40])) (Ae (Cz TO KE H') lT ls) (Ae (Cz TO KE H') lT ks) (ls.length = i))
   ⟨O,0,[],[],[],none,none,rfl,Ab.aI OJ,OJ _ _ (s6 _ _ ec),OJ _ _ eg,OJ _ _ (s6 _ _ (s5 _ _ eO)),s79 _ _ e7,s9 _ _ e8,e9,Ae.nil,Ae.nil,rfl⟩ (by rintro i σ H' _ ⟨_,_,_,_,_,_,_,_,_,_,_,_,_,_,e,_⟩; exact B6.of e) ?_ ?_
  ·rintro i y σ H' hy ⟨O',k,ls,ks,lT,v9,v10,rfl,st,eZ,uS,sS,sU,sW,HS,OK,gW,hli⟩
   obtain ⟨N,rfl,hN⟩ : ∃ N:Nat,y = .int (N:Int) /\ N <= 64:=by
    match i,hy with
    | 0,hy=>exact ⟨64,(Option.some.inj hy).symm,by decide⟩
    | 1,hy=>exact ⟨40,(Option.some.inj hy).symm,by decide⟩
    | i + 2,hy=>cases hy
   have kZ:i < 2:=(List.getElem?_eq_some_iff.mp hy).1
   have lK:ks.length = ls.length:=by rw [gW.1,OK.1]
   refine ⟨_,rfl,_,rfl,_,rfl,_,rfl,hp,c,g,dc,dg,pd,qg,ws,cm,ps,tr,k,_,N,rfl,rfl,ha6.aI st,OE,eZ,st.dT (s6 _ _ epd),uS,st.lst eqg,FR,h8,dW,by omega,fun p3 l b sH rs rK HU jQ HV HW uX el sZ eb CP hkr=>?_⟩
   have xu:=st.trans jQ
   have HY:=jQ.lst sS
   have uY:=jQ.lst sU
   have uZ:=jQ.lst sW
   have HZ:=jQ.lst HS
   have nlT:l ≠ TO:=fun z=>HU ls (by rw [z]; exact sU)
   have nlK:l ≠ KE:=fun z=>HU ks (by rw [z]; exact sW)
   refine ⟨_,rfl,_,"tuple","tuple",true,rfl,.tup uX,Lr,_,rfl,(fun d H'=>d = false /\ Ab rK H'),(fun z=>by simp at z),(fun _=>⟨_,rfl,p3,_,rfl,.inr (C0.of uX),rfl,_,rfl,(fun d H'=>d = false /\ Ab rK H'),(fun z=>by simp at z),(fun _=>⟨_,rfl,p3,_,_,_,rfl,rfl,.inr (C0.of uX),rfl,Bn,fun e0 QO=>?_⟩),fun d H' hd=>hd⟩),fun d wj hd=>?_⟩
   ·have sE:Ab rK (upd rK e0 (.lst [])):=Ab.upd QO
    refine ⟨_,_,cn (ws:=[]) (sE _ _ eb),cn (ws:=[]) A5,by rw [Y1]; decide,_,rfl,?_,sE⟩
    rw [if_pos rfl,fw]
    rfl
   obtain ⟨rfl,gU⟩ := hd
   refine E2 rfl ?_
   have NZ:=sZ.1
   refine ⟨_,rfl,p3,_,_,_,rfl,rfl,.inr (C0.of (gU _ _ uX)),rfl,_,"list","list",true,rfl,.lst (gU _ _ el),Pd,_,rfl,(fun d H'=>d = false /\ H' = wj),(fun z=>by simp at z),(fun _=>⟨_,rfl,p3,_,_,_,rfl,rfl,.inr (C0.of (gU _ _ uX)),rfl,l,_,rfl,.inl (B6.of (gU _ _ el)),_,rfl,rfl,_,rfl,?_,rfl⟩),?_⟩
   ·rw [NZ,CP]
    simp
   rintro b0 H12 ⟨rfl,rfl⟩
   refine E2 rfl ?_
   have IA:=Ab.aI gU
   refine ⟨_,rfl,_,rfl,_,rfl,_,rfl,p3,_,_,_,rfl,rfl,.inr (C0.of (gU _ _ uX)),rfl,hp,d,O',l,ws,cm,ps,tr.drop k,sH,rs,_,rfl,(ha6.aI xu).aI IA,h8,cS,(fun c e=>(aH.2.1 c e).1),IA.dT (xu.dT (s6 _ _ (s5 _ _ (s4 _ _ e3)))),dW,gU _ _ HY,gU _ _ el,C8 (Ab.aQ gU) sZ,by omega,hkr,(fun i q=>W7.symm),fun OL uL=>⟨_,rfl,E2 rfl ?_⟩⟩
   have kN:=gU.trans uL
   refine ⟨_,rfl,_,rfl,_,rfl,O',_,rfl,B6.of (kN _ _ HY),fun O2 WK=>?_⟩
   rw [Wj,<- List.map_drop,List.drop_drop]
   have s14:Ab OL (upd OL O2 (.lst ((tr.drop (k + N)).map V.bl))):=Ab.upd WK
   have e14:(upd OL O2 (.lst ((tr.drop (k + N)).map V.bl))) O2 = some (.lst ((tr.drop (k + N)).map V.bl)):=A5
   generalize upd OL O2 (.lst ((tr.drop (k + N)).map V.bl)) = lX at s14 e14 ⊢
   have aZ:=kN.trans s14
   have WL:=xu.trans (Ab.aI aZ)
   have fT:=aZ _ _ uY
   refine ⟨_,rfl,.inl ⟨rfl,_,B6.of fT⟩,_,rfl,p3,_,_,_,rfl,rfl,.inr (C0.of (aZ _ _ uX)),rfl,TO,_,_,rfl,rfl,fT,B8 (by omega),?_⟩
   have IB:Cz TO KE lX rs (.ref l):=⟨l,sH,rfl,nlT,nlK,aZ _ _ el,C8 (Ab.aQ aZ) sZ⟩
   have IC:=OK.imp fun _ _ z=>(Cz.aI (jQ.trans (Ab.aI aZ)) z)
   have ID:=gW.imp fun _ _ z=>(Cz.aI (jQ.trans (Ab.aI aZ)) z)
   have vg:Ae (Cz TO KE (upd lX TO (.lst (ls ++ [.ref l])))) (lT ++ [rs]) (ls ++ [.ref l]):=(IC.append (Ae.one IB)).imp fun _ _ z=>Cz.put fT (.inl rfl) z
   have vh:Ae (Cz TO KE (upd lX TO (.lst (ls ++ [.ref l])))) lT ks:=ID.imp fun _ _ z=>Cz.put fT (.inl rfl) z
   have xK:∀ b o,b ≠ TO -> lX b = some o -> (upd lX TO (.lst (ls ++ [.ref l]))) b = some o:=fun b o n e=>(Aa n).trans e
   have WM:(upd lX TO (.lst (ls ++ [.ref l]))) TO = some (.lst (ls ++ [.ref l])):=A5
   have IE:Bw H6 (upd lX TO (.lst (ls ++ [.ref l]))):=WL.new hTO
   have IG:(upd lX TO (.lst (ls ++ [.ref l]))) p3 = some (.tup [.ref l,.ref b]):=Ey.lst fT _ _ (aZ _ _ uX)
   have t15:Ey lX (upd lX TO (.lst (ls ++ [.ref l]))):=Ey.lst fT
   generalize upd lX TO (.lst (ls ++ [.ref l])) = OM at vg vh xK WM IE IG t15 ⊢
   have pK:=xK _ _ nTK.symm (aZ _ _ uZ)
   refine ⟨_,rfl,.inl ⟨rfl,_,B6.of pK⟩,_,rfl,p3,_,_,_,rfl,rfl,.inr (C0.of IG),rfl,l,_,rfl,.inl (B6.of (xK _ _ nlT (aZ _ _ el))),fun L2 xo=>?_⟩
   have pL:Ab OM (upd OM L2 (.lst sH)):=Ab.upd xo
   have e16:(upd OM L2 (.lst sH)) L2 = some (.lst sH):=A5
   generalize upd OM L2 (.lst sH) = H16 at pL e16 ⊢
   have kO:=pL _ _ pK
   refine ⟨KE,_,_,rfl,rfl,kO,B8 (by omega),?_⟩
   have WN:L2 ≠ TO:=(Ad WM xo).symm
   have WO:L2 ≠ KE:=(Ad pK xo).symm
   have IH:Cz TO KE H16 rs (.ref L2):=⟨L2,sH,rfl,WN,WO,e16,C8 (Ab.aQ pL) (C8 t15 (C8 (Ab.aQ aZ) sZ))⟩
   have nc:∀ {x:Addr} {C dx:Addr} {fs:List (Str × V)},H16 x = some (.ins C dx fs) -> x ≠ KE:=fun e z=>by rw [z,kO] at e; cases e
   have ncT:∀ {x:Addr} {C dx:Addr} {fs:List (Str × V)},lX x = some (.ins C dx fs) -> x ≠ TO:=fun e z=>by rw [z,fT] at e; cases e
   have II:=pL _ _ (xK _ _ (ncT (aZ _ _ HV)) (aZ _ _ HV))
   have IJ:=pL _ _ (xK _ _ (ncT (aZ _ _ HW)) (aZ _ _ HW))
   have WQ:O2 ≠ TO:=(Ad (kN _ _ uY) WK).symm
   have WR:O2 ≠ KE:=(Ad (kN _ _ uZ) WK).symm
   refine ⟨O2,k + N,ls ++ [.ref l],ks ++ [.ref L2],lT ++ [rs],_,_,rfl,(IE.trans (Ab.aI pL)).new WJ,(Aa (nc II)).trans II,(Aa (nc IJ)).trans IJ,(Aa WR).trans (pL _ _ (xK _ _ WQ e14)),(Aa nTK).trans (pL _ _ WM),A5,(Aa nKL).trans (pL _ _ (xK _ _ nTL (aZ _ _ HZ))),?_,?_,by rw [List.length_append,List.length_singleton]; omega⟩
   ·exact (vg.imp fun _ _ z=>Cz.aI (Ab.aI pL) z).imp fun _ _ z=>Cz.put kO (.inr rfl) z
   ·exact ((vh.imp fun _ _ z=>Cz.aI (Ab.aI pL) z).append (Ae.one IH)).imp fun _ _ z=>Cz.put kO (.inr rfl) z
  rintro σ H' ⟨O',k,ls,ks,lT,v9,v10,rfl,st,eZ,uS,sS,sU,sW,HS,OK,gW,hli⟩
  have HK:=Uc sU OK
  have VY:=Uc sW gW
  have dpt:(PyData.list (lT.map fun rs=>PyData.list (rs.map Ge))).depth <= 60:=by
   have:=Jl (n:=4) (ds:=lT.map fun rs=>PyData.list (rs.map Ge)) fun d hd=>by
    obtain ⟨rs,_,rfl⟩ := List.mem_map.mp hd
    exact S5 rs
   simp only [PyData.depth]
   omega
  refine ⟨_,rfl,_,rfl,_,_,HK,VY,dpt,?_⟩
  rw [if_neg (by decide),PySem.SeqAt.eqv_refl _ (Cl _ _ HK)]
  exact q _
end
theorem all_mk {l : PySem.W.OpenLaw} {w : World} {K : PySem.W.Frag} {h : Heap} {mg : Str -> Option Value} {fa : Addr} (X : K.In h) (G : h.Ns mainGlobals mg) (hfa : mg "law" = some (.ref fa)) {bU bO cC fZ bV gA bP bQ bW fJ cD cE cF gB cH gC cJ cK cL cM cN cO gD gE cP gF gG bX cQ cR gH eG aA aB : Addr} {xM xN xO xP xQ xR IK IL xS xU IM IP xV jR xW xX xY jS IQ IT xZ y0 y6 y8 y9 ya IU IV yb yc IW IX yd ye yf yg yh yi yj yk yl ym yn yo IY IZ JA JB yp yq JC JD JE JF yr yt yu yv yw yx JG JH yy pM : Option Addr} {yz yA yB JI yC JJ yD yE yF JK yG yH yI JL yJ JM yK yL yM yN yO yP JN JO yQ JP JQ yR yS yT JR yU : Array (Option Value)} {yV yW yX yY pN yZ z5 z6 z7 z8 pO z9 za zb zc zd pP ze JS JT JU JV vk JW zf zg zh zi pQ zj JX JY JZ KA vn KC zk jT jU jV iA jW zl zm zo zp pR zq zr jX jY jZ iB kA KD KG KH KI vo KJ zt zu zv zw pS zx zy zz zA zB pT zC zD zE zF zG pU zH KL KN KO KP vp KQ zI zJ zK zL pV zM KR KS KU KW vq KY zN zO zP zQ pW zR zS zT zU zV pX zW zX zY zZ AA pY AB AD AE AF AG pZ AH AI AJ AK AL qA AM AN AO AQ AR qB AS KZ LA LB LC vt LD LF LG LH LI vv LJ AU AV AW AX qC AY LK LL LM LN vx LO LP LQ LR LS vy LU AZ BA BB BC qD BD BE BF BG BH qE BI BJ BK BL BM qF BN LV LW LX LY vz LZ BO qG qH qI kB qJ : Value} {iC : Addr} {BP : Value} {BQ : Option Addr} {BR : Nat} {BS : Array (Option Value)} {iD : Addr} {BU : Value} {BV : Option Addr} {BW : Nat} {BX : Array (Option Value)}
  (a_x19:PySem.W.nsIn K mainGlobals "beginning" = some (some (.ref bU))) (l_x19:K.lookup bU = some ⟨yV,xM,.func (PySem.W.fnOf "beginning" "beginning" (Ak O0) (Aj O0) (A7 O0) .none yW yX yY xN pN yZ),yz⟩) (c_x19:PySem.W.codeIn K pN "beginning" = true) (k_x19:PySem.W.keepIn K (.ref bU) = true)
  (a_x22:PySem.W.nsIn K mainGlobals "may_lose" = some (some (.ref bO))) (l_x22:K.lookup bO = some ⟨z5,xO,.func (PySem.W.fnOf "may_lose" "may_lose" (Ak O1) (Aj O1) (A7 O1) .none z6 z7 z8 xP pO z9),yA⟩) (c_x22:PySem.W.codeIn K pO "may_lose" = true) (k_x22:PySem.W.keepIn K (.ref bO) = true)
  (a_x10:PySem.W.nsIn K mainGlobals "is_listener" = some (some (.ref cC))) (l_x10:K.lookup cC = some ⟨za,xQ,.func (PySem.W.fnOf "is_listener" "is_listener" (Ak N6) (Aj N6) (A7 N6) .none zb zc zd xR pP ze),yB⟩) (c_x10:PySem.W.codeIn K pP "is_listener" = true) (k_x10:PySem.W.keepIn K (.ref cC) = true)
  (a_x2:PySem.W.nsIn K mainGlobals "refuse_wrong_turn" = some (some (.ref fZ))) (l_x2:K.lookup fZ = some ⟨JS,IK,.func (PySem.W.fnOf "refuse_wrong_turn" "refuse_wrong_turn" (Ak Wo) (Aj Wo) (A7 Wo) .none JT JU JV IL vk JW),JI⟩) (c_x2:PySem.W.codeIn K vk "refuse_wrong_turn" = true) (k_x2:PySem.W.keepIn K (.ref fZ) = true)
  (a_x11:PySem.W.nsIn K mainGlobals "left_behind" = some (some (.ref bV))) (l_x11:K.lookup bV = some ⟨zf,xS,.func (PySem.W.fnOf "left_behind" "left_behind" (Ak Kr) (Aj Kr) (A7 Kr) .none zg zh zi xU pQ zj),yC⟩) (c_x11:PySem.W.codeIn K pQ "left_behind" = true) (k_x11:PySem.W.keepIn K (.ref bV) = true)
  (a_x7:PySem.W.nsIn K mainGlobals "quiet_behind" = some (some (.ref gA))) (l_x7:K.lookup gA = some ⟨JX,IM,.func (PySem.W.fnOf "quiet_behind" "quiet_behind" (Ak W2) (Aj W2) (A7 W2) .none JY JZ KA IP vn KC),JJ⟩) (c_x7:PySem.W.codeIn K vn "quiet_behind" = true) (k_x7:PySem.W.keepIn K (.ref gA) = true)
  (a_x27:PySem.W.nsIn K mainGlobals "after" = some (some (.ref bP))) (l_x27:K.lookup bP = some ⟨zk,xV,.func (PySem.W.fnOf "after" "after" (Ak Fg) (Aj Fg) (A7 Fg) (.ref iC) jT jU jV jR iA jW),yD⟩) (c_x27:PySem.W.codeIn K iA "after" = true) (k_x27:PySem.W.keepIn K (.ref bP) = true) (t_x27:K.lookup iC = some ⟨BP,BQ,.seq #[Value.bool false] BR,BS⟩)
  (a_x14:PySem.W.nsIn K mainGlobals "all_behind" = some (some (.ref bQ))) (l_x14:K.lookup bQ = some ⟨zl,xW,.func (PySem.W.fnOf "all_behind" "all_behind" (Ak Nt) (Aj Nt) (A7 Nt) .none zm zo zp xX pR zq),yE⟩) (c_x14:PySem.W.codeIn K pR "all_behind" = true) (k_x14:PySem.W.keepIn K (.ref bQ) = true)
  (a_x12:PySem.W.nsIn K mainGlobals "broken_ones" = some (some (.ref bW))) (l_x12:K.lookup bW = some ⟨zr,xY,.func (PySem.W.fnOf "broken_ones" "broken_ones" (Ak El) (Aj El) (A7 El) (.ref iD) jX jY jZ jS iB kA),yF⟩) (c_x12:PySem.W.codeIn K iB "broken_ones" = true) (k_x12:PySem.W.keepIn K (.ref bW) = true) (t_x12:K.lookup iD = some ⟨BU,BV,.seq #[Value.bool false] BW,BX⟩)
  (a_x8:PySem.W.nsIn K mainGlobals "quiet_values" = some (some (.ref fJ))) (l_x8:K.lookup fJ = some ⟨KD,IQ,.func (PySem.W.fnOf "quiet_values" "quiet_values" (Ak Wz) (Aj Wz) (A7 Wz) .none KG KH KI IT vo KJ),JK⟩) (c_x8:PySem.W.codeIn K vo "quiet_values" = true) (k_x8:PySem.W.keepIn K (.ref fJ) = true)
  (a_x23:PySem.W.nsIn K mainGlobals "how_many" = some (some (.ref cD))) (l_x23:K.lookup cD = some ⟨zt,xZ,.func (PySem.W.fnOf "how_many" "how_many" (Ak Nm) (Aj Nm) (A7 Nm) .none zu zv zw y0 pS zx),yG⟩) (c_x23:PySem.W.codeIn K pS "how_many" = true) (k_x23:PySem.W.keepIn K (.ref cD) = true)
  (a_x24:PySem.W.nsIn K mainGlobals "all_left" = some (some (.ref cE))) (l_x24:K.lookup cE = some ⟨zy,y6,.func (PySem.W.fnOf "all_left" "all_left" (Ak Kn) (Aj Kn) (A7 Kn) .none zz zA zB y8 pT zC),yH⟩) (c_x24:PySem.W.codeIn K pT "all_left" = true) (k_x24:PySem.W.keepIn K (.ref cE) = true)
  (a_x20:PySem.W.nsIn K mainGlobals "standings" = some (some (.ref cF))) (l_x20:K.lookup cF = some ⟨zD,y9,.func (PySem.W.fnOf "standings" "standings" (Ak Kc) (Aj Kc) (A7 Kc) .none zE zF zG ya pU zH),yI⟩) (c_x20:PySem.W.codeIn K pU "standings" = true) (k_x20:PySem.W.keepIn K (.ref cF) = true)
  (a_x3:PySem.W.nsIn K mainGlobals "calls_by_standing" = some (some (.ref gB))) (l_x3:K.lookup gB = some ⟨KL,IU,.func (PySem.W.fnOf "calls_by_standing" "calls_by_standing" (Ak Wb) (Aj Wb) (A7 Wb) .none KN KO KP IV vp KQ),JL⟩) (c_x3:PySem.W.codeIn K vp "calls_by_standing" = true) (k_x3:PySem.W.keepIn K (.ref gB) = true)
  (a_x26:PySem.W.nsIn K mainGlobals "ways_to" = some (some (.ref cH))) (l_x26:K.lookup cH = some ⟨zI,yb,.func (PySem.W.fnOf "ways_to" "ways_to" (Ak Nn) (Aj Nn) (A7 Nn) .none zJ zK zL yc pV zM),yJ⟩) (c_x26:PySem.W.codeIn K pV "ways_to" = true) (k_x26:PySem.W.keepIn K (.ref cH) = true)
  (a_x1:PySem.W.nsIn K mainGlobals "without_calls_left" = some (some (.ref gC))) (l_x1:K.lookup gC = some ⟨KR,IW,.func (PySem.W.fnOf "without_calls_left" "without_calls_left" (Ak Vu) (Aj Vu) (A7 Vu) .none KS KU KW IX vq KY),JM⟩) (c_x1:PySem.W.codeIn K vq "without_calls_left" = true) (k_x1:PySem.W.keepIn K (.ref gC) = true)
  (a_x28:PySem.W.nsIn K mainGlobals "ranks" = some (some (.ref cJ))) (l_x28:K.lookup cJ = some ⟨zN,yd,.func (PySem.W.fnOf "ranks" "ranks" (Ak Kh) (Aj Kh) (A7 Kh) .none zO zP zQ ye pW zR),yK⟩) (c_x28:PySem.W.codeIn K pW "ranks" = true) (k_x28:PySem.W.keepIn K (.ref cJ) = true)
  (a_x29:PySem.W.nsIn K mainGlobals "worth" = some (some (.ref cK))) (l_x29:K.lookup cK = some ⟨zS,yf,.func (PySem.W.fnOf "worth" "worth" (Ak Nv) (Aj Nv) (A7 Nv) .none zT zU zV yg pX zW),yL⟩) (c_x29:PySem.W.codeIn K pX "worth" = true) (k_x29:PySem.W.keepIn K (.ref cK) = true)
  (a_x15:PySem.W.nsIn K mainGlobals "call_worth" = some (some (.ref cL))) (l_x15:K.lookup cL = some ⟨zX,yh,.func (PySem.W.fnOf "call_worth" "call_worth" (Ak Kb) (Aj Kb) (A7 Kb) .none zY zZ AA yi pY AB),yM⟩) (c_x15:PySem.W.codeIn K pY "call_worth" = true) (k_x15:PySem.W.keepIn K (.ref cL) = true)
  (a_x21:PySem.W.nsIn K mainGlobals "best_call" = some (some (.ref cM))) (l_x21:K.lookup cM = some ⟨AD,yj,.func (PySem.W.fnOf "best_call" "best_call" (Ak Ka) (Aj Ka) (A7 Ka) .none AE AF AG yk pZ AH),yN⟩) (c_x21:PySem.W.codeIn K pZ "best_call" = true) (k_x21:PySem.W.keepIn K (.ref cM) = true)
  (a_x16:PySem.W.nsIn K mainGlobals "kept_paper" = some (some (.ref cN))) (l_x16:K.lookup cN = some ⟨AI,yl,.func (PySem.W.fnOf "kept_paper" "kept_paper" (Ak Nb) (Aj Nb) (A7 Nb) .none AJ AK AL ym qA AM),yO⟩) (c_x16:PySem.W.codeIn K qA "kept_paper" = true) (k_x16:PySem.W.keepIn K (.ref cN) = true)
  (a_x17:PySem.W.nsIn K mainGlobals "least_left" = some (some (.ref cO))) (l_x17:K.lookup cO = some ⟨AN,yn,.func (PySem.W.fnOf "least_left" "least_left" (Ak Nz) (Aj Nz) (A7 Nz) .none AO AQ AR yo qB AS),yP⟩) (c_x17:PySem.W.codeIn K qB "least_left" = true) (k_x17:PySem.W.keepIn K (.ref cO) = true)
  (i_x4:PySem.W.isFn K (.ref gD) = true) (l_x4:K.lookup gD = some ⟨KZ,IY,.func (PySem.W.fnOf "call" "PaperCaller.call" (Ak Wy) (Aj Wy) (A7 Wy) .none LA LB LC IZ vt LD),JN⟩) (c_x4:PySem.W.codeIn K vt "PaperCaller.call" = true) (k_x4:PySem.W.keepIn K (.ref gD) = true)
  (i_x6:PySem.W.isFn K (.ref gE) = true) (l_x6:K.lookup gE = some ⟨LF,JA,.func (PySem.W.fnOf "loses" "RowRoad.loses" (Ak Vj) (Aj Vj) (A7 Vj) .none LG LH LI JB vv LJ),JO⟩) (c_x6:PySem.W.codeIn K vv "RowRoad.loses" = true) (k_x6:PySem.W.keepIn K (.ref gE) = true)
  (a_x30:PySem.W.nsIn K mainGlobals "play" = some (some (.ref cP))) (l_x30:K.lookup cP = some ⟨AU,yp,.func (PySem.W.fnOf "play" "play" (Ak Nl) (Aj Nl) (A7 Nl) .none AV AW AX yq qC AY),yQ⟩) (c_x30:PySem.W.codeIn K qC "play" = true) (k_x30:PySem.W.keepIn K (.ref cP) = true)
  (i_x0:PySem.W.isFn K (.ref gF) = true) (l_x0:K.lookup gF = some ⟨LK,JC,.func (PySem.W.fnOf "__init__" "PaperCaller.__init__" (Ak Vc) (Aj Vc) (A7 Vc) .none LL LM LN JD vx LO),JP⟩) (c_x0:PySem.W.codeIn K vx "PaperCaller.__init__" = true) (k_x0:PySem.W.keepIn K (.ref gF) = true)
  (i_x5:PySem.W.isFn K (.ref gG) = true) (l_x5:K.lookup gG = some ⟨LP,JE,.func (PySem.W.fnOf "__init__" "RowRoad.__init__" (Ak Wc) (Aj Wc) (A7 Wc) .none LQ LR LS JF vy LU),JQ⟩) (c_x5:PySem.W.codeIn K vy "RowRoad.__init__" = true) (k_x5:PySem.W.keepIn K (.ref gG) = true)
  (a_x13:PySem.W.nsIn K mainGlobals "_law_cell_at" = some (some (.ref bX))) (l_x13:K.lookup bX = some ⟨AZ,yr,.func (PySem.W.fnOf "_law_cell_at" "_law_cell_at" (Ak Nu) (Aj Nu) (A7 Nu) .none BA BB BC yt qD BD),yR⟩) (c_x13:PySem.W.codeIn K qD "_law_cell_at" = true) (k_x13:PySem.W.keepIn K (.ref bX) = true)
  (a_x25:PySem.W.nsIn K mainGlobals "_law_hall" = some (some (.ref cQ))) (l_x25:K.lookup cQ = some ⟨BE,yu,.func (PySem.W.fnOf "_law_hall" "_law_hall" (Ak Jg) (Aj Jg) (A7 Jg) .none BF BG BH yv qE BI),yS⟩) (c_x25:PySem.W.codeIn K qE "_law_hall" = true) (k_x25:PySem.W.keepIn K (.ref cQ) = true)
  (a_x18:PySem.W.nsIn K mainGlobals "_law_truths" = some (some (.ref cR))) (l_x18:K.lookup cR = some ⟨BJ,yw,.func (PySem.W.fnOf "_law_truths" "_law_truths" (Ak Na) (Aj Na) (A7 Na) .none BK BL BM yx qF BN),yT⟩) (c_x18:PySem.W.codeIn K qF "_law_truths" = true) (k_x18:PySem.W.keepIn K (.ref cR) = true)
  (a_x9:PySem.W.nsIn K mainGlobals "_law_rows_due" = some (some (.ref gH))) (l_x9:K.lookup gH = some ⟨LV,JG,.func (PySem.W.fnOf "_law_rows_due" "_law_rows_due" (Ak S0) (Aj S0) (A7 S0) .none LW LX LY JH vz LZ),JR⟩) (c_x9:PySem.W.codeIn K vz "_law_rows_due" = true) (k_x9:PySem.W.keepIn K (.ref gH) = true)
  (a_law:PySem.W.nsIn K mainGlobals "law" = some (some (.ref eG))) (l_law:K.lookup eG = some ⟨BO,yy,.func (PySem.W.fnOf "law" "law" (Ak Hj) (Aj Hj) (A7 Hj) .none qG qH qI pM kB qJ),yU⟩) (c_law:PySem.W.codeIn K kB "law" = true) (k_law:PySem.W.keepIn K (.ref eG) = true)
  (pg_PaperCaller:PySem.W.plainGet K aA Str.empty = true) (hd_PaperCaller:PySem.W.hasDictIn K aA = true) (po_PaperCaller:PySem.W.plainOver K aA = true) (sa_PaperCaller:PySem.W.findIn K (.ref aA) "__setattr__" = some (some (.builtin "object.__setattr__"))) (mm_PaperCaller:PySem.W.makesIn K aA = true) (kc_PaperCaller:PySem.W.keepIn K (.ref aA) = true) (fm_x4:PySem.W.findIn K (.ref aA) "call" = some (some (.ref gD))) (fm_x0:PySem.W.findIn K (.ref aA) "__init__" = some (some (.ref gF))) (nf_PaperCaller_paper:PySem.W.findIn K (.ref aA) "paper" = some none) (pg_RowRoad:PySem.W.plainGet K aB Str.empty = true) (hd_RowRoad:PySem.W.hasDictIn K aB = true) (po_RowRoad:PySem.W.plainOver K aB = true) (sa_RowRoad:PySem.W.findIn K (.ref aB) "__setattr__" = some (some (.builtin "object.__setattr__"))) (mm_RowRoad:PySem.W.makesIn K aB = true) (kc_RowRoad:PySem.W.keepIn K (.ref aB) = true) (fm_x6:PySem.W.findIn K (.ref aB) "loses" = some (some (.ref gE))) (fm_x5:PySem.W.findIn K (.ref aB) "__init__" = some (some (.ref gG))) (nf_RowRoad_row:PySem.W.findIn K (.ref aB) "row" = some none) (nf_RowRoad_asked:PySem.W.findIn K (.ref aB) "asked" = some none)
  {dN:Nat} (y_MOST_STANDINGS:PySem.W.nsIn K mainGlobals "MOST_STANDINGS" = some (some (.int 3000 dN))) (z_len:PySem.W.nsIn K mainGlobals "len" = some none) (z_max:PySem.W.nsIn K mainGlobals "max" = some none) (z_tuple:PySem.W.nsIn K mainGlobals "tuple" = some none) (z_enumerate:PySem.W.nsIn K mainGlobals "enumerate" = some none) (z_range:PySem.W.nsIn K mainGlobals "range" = some none) (z_min:PySem.W.nsIn K mainGlobals "min" = some none) (z_sorted:PySem.W.nsIn K mainGlobals "sorted" = some none) (z_dict:PySem.W.nsIn K mainGlobals "dict" = some none) (z_list:PySem.W.nsIn K mainGlobals "list" = some none) (z_isinstance:PySem.W.nsIn K mainGlobals "isinstance" = some none) (z_bool:PySem.W.nsIn K mainGlobals "bool" = some none) (ac_PaperCaller:PySem.W.nsIn K mainGlobals "PaperCaller" = some (some (.ref aA))) (ac_RowRoad:PySem.W.nsIn K mainGlobals "RowRoad" = some (some (.ref aB)))  :
  ∃ fd:FuncData,(∀ (s:Shared) (v:Value),BindsTo s fd ⟨[v],[]⟩ [("script",v)]) /\ ∀ base:Heap,K.In base -> base.Ns mainGlobals mg -> Ai l.prog w K mg base Bm 9 fa fd ["script"] (Ot K):=by
 have e:=hfa.symm.trans (PySem.W.mg_of X G a_law)
 cases e
 have T:Txt K mg ⟨bU,bO,cC,fZ,bV,gA,bP,bQ,bW,fJ,cD,cE,cF,gB,cH,gC,cJ,cK,cL,cM,cN,cO,gD,gE,cP,gF,gG,bX,cQ,cR,gH,fa⟩ aA aB:=⟨PySem.W.mg_of X G a_x19,k_x19,PySem.W.mg_of X G a_x22,k_x22,PySem.W.mg_of X G a_x10,k_x10,PySem.W.mg_of X G a_x2,k_x2,PySem.W.mg_of X G a_x11,k_x11,PySem.W.mg_of X G a_x7,k_x7,PySem.W.mg_of X G a_x27,k_x27,PySem.W.mg_of X G a_x14,k_x14,PySem.W.mg_of X G a_x12,k_x12,PySem.W.mg_of X G a_x8,k_x8,PySem.W.mg_of X G a_x23,k_x23,PySem.W.mg_of X G a_x24,k_x24,PySem.W.mg_of X G a_x20,k_x20,PySem.W.mg_of X G a_x3,k_x3,PySem.W.mg_of X G a_x26,k_x26,PySem.W.mg_of X G a_x1,k_x1,PySem.W.mg_of X G a_x28,k_x28,PySem.W.mg_of X G a_x29,k_x29,PySem.W.mg_of X G a_x15,k_x15,PySem.W.mg_of X G a_x21,k_x21,PySem.W.mg_of X G a_x16,k_x16,PySem.W.mg_of X G a_x17,k_x17,PySem.W.mg_of X G a_x30,k_x30,PySem.W.mg_of X G a_x13,k_x13,PySem.W.mg_of X G a_x25,k_x25,PySem.W.mg_of X G a_x18,k_x18,PySem.W.mg_of X G a_x9,k_x9,PySem.W.mg_of X G a_law,k_law,PySem.W.mg_none_of X G z_len,PySem.W.mg_none_of X G z_max,PySem.W.mg_none_of X G z_tuple,PySem.W.mg_none_of X G z_enumerate,PySem.W.mg_none_of X G z_range,PySem.W.mg_none_of X G z_min,PySem.W.mg_none_of X G z_sorted,PySem.W.mg_none_of X G z_dict,PySem.W.mg_none_of X G z_list,PySem.W.mg_none_of X G z_isinstance,PySem.W.mg_none_of X G z_bool,⟨_,PySem.W.mg_of X G y_MOST_STANDINGS⟩,PySem.W.mg_of X G ac_PaperCaller,PySem.W.mg_of X G ac_RowRoad,⟨pg_PaperCaller,hd_PaperCaller,po_PaperCaller,sa_PaperCaller⟩,⟨mm_PaperCaller,fm_x0,i_x0,kc_PaperCaller⟩,⟨fm_x4,i_x4,k_x4⟩,nf_PaperCaller_paper,⟨pg_RowRoad,hd_RowRoad,po_RowRoad,sa_RowRoad⟩,⟨mm_RowRoad,fm_x5,i_x5,kc_RowRoad⟩,⟨fm_x6,i_x6,k_x6⟩,nf_RowRoad_row,nf_RowRoad_asked⟩
 have vA:=Bk (st:=O0) l_x19 c_x19 k_x19
 have vB:=Bk (st:=O1) l_x22 c_x22 k_x22
 have vC:=Bk (st:=N6) l_x10 c_x10 k_x10
 have MA:=Bk (st:=Wo) l_x2 c_x2 k_x2
 have vD:=Bk (st:=Kr) l_x11 c_x11 k_x11
 have MB:=Bk (st:=W2) l_x7 c_x7 k_x7
 have MC:Vq K "after" "after" Fg bP _:=⟨⟨_,_,_,_,_,_,_,_,_,_,rfl,l_x27,c_x27⟩⟩
 have vE:=Bk (st:=Nt) l_x14 c_x14 k_x14
 have MD:Vq K "broken_ones" "broken_ones" El bW _:=⟨⟨_,_,_,_,_,_,_,_,_,_,rfl,l_x12,c_x12⟩⟩
 have ME:=Bk (st:=Wz) l_x8 c_x8 k_x8
 have vF:=Bk (st:=Nm) l_x23 c_x23 k_x23
 have vG:=Bk (st:=Kn) l_x24 c_x24 k_x24
 have vH:=Bk (st:=Kc) l_x20 c_x20 k_x20
 have MF:=Bk (st:=Wb) l_x3 c_x3 k_x3
 have vI:=Bk (st:=Nn) l_x26 c_x26 k_x26
 have MG:=Bk (st:=Vu) l_x1 c_x1 k_x1
 have vJ:=Bk (st:=Kh) l_x28 c_x28 k_x28
 have vK:=Bk (st:=Nv) l_x29 c_x29 k_x29
 have vL:=Bk (st:=Kb) l_x15 c_x15 k_x15
 have vM:=Bk (st:=Ka) l_x21 c_x21 k_x21
 have vN:=Bk (st:=Nb) l_x16 c_x16 k_x16
 have vP:=Bk (st:=Nz) l_x17 c_x17 k_x17
 have MJ:=Bk (st:=Wy) l_x4 c_x4 k_x4
 have MK:=Bk (st:=Vj) l_x6 c_x6 k_x6
 have vQ:=Bk (st:=Nl) l_x30 c_x30 k_x30
 have ML:=Bk (st:=Vc) l_x0 c_x0 k_x0
 have MM:=Bk (st:=Wc) l_x5 c_x5 k_x5
 have vR:=Bk (st:=Nu) l_x13 c_x13 k_x13
 have vS:=Bk (st:=Jg) l_x25 c_x25 k_x25
 have vT:=Bk (st:=Na) l_x18 c_x18 k_x18
 have MN:=Bk (st:=S0) l_x9 c_x9 k_x9
 have MO:=Bk (st:=Hj) l_law c_law k_law
 have fP:=vA.binds (ps:=["hall"]) fun _ _ _ _ _ _ us hl=>by obtain ⟨_,rfl⟩ := Id hl; rfl
 have dG:=vB.binds (ps:=["hall","standing"]) fun _ _ _ _ _ _ us hl=>by obtain ⟨_,_,rfl⟩ := Rr hl; rfl
 have nG:=vC.binds (ps:=["hall","who"]) fun _ _ _ _ _ _ us hl=>by obtain ⟨_,_,rfl⟩ := Rr hl; rfl
 have wM:=MA.binds (ps:=["hall","standing","who","lost"]) fun _ _ _ _ _ _ us hl=>by obtain ⟨_,_,_,_,rfl⟩ := Qn hl; rfl
 have gP:=vD.binds (ps:=["hall","standing","who","lost"]) fun _ _ _ _ _ _ us hl=>by obtain ⟨_,_,_,_,rfl⟩ := Qn hl; rfl
 have wO:=MB.binds (ps:=["hall","standing","lost"]) fun _ _ _ _ _ _ us hl=>by obtain ⟨_,_,_,rfl⟩ := Rk hl; rfl
 have gQ:Av K (PySem.W.fnOf "after" "after" (Ak Fg) (Aj Fg) (A7 Fg) (.ref iC) jT jU jV jR iA jW) ["hall","standing","who","lost"] []:=fun s us hK hl=>by
  have h4:us.length = 4:=by simpa using hl
  obtain ⟨_,_,_,_,rfl⟩ := Qn h4
  exact BindsTo.of_defaults rfl (hK _ _ t_x27) rfl rfl rfl
 have bJ:Av K (PySem.W.fnOf "after" "after" (Ak Fg) (Aj Fg) (A7 Fg) (.ref iC) jT jU jV jR iA jW) ["hall","standing","who","lost"] [Value.bool false]:=fun s us hK hl=>by
  have h4:us.length = 3:=by simpa using hl
  obtain ⟨_,_,_,rfl⟩ := Rk h4
  exact BindsTo.of_defaults rfl (hK _ _ t_x27) rfl rfl rfl
 have dJ:=vE.binds (ps:=["hall","standing","who"]) fun _ _ _ _ _ _ us hl=>by obtain ⟨_,_,_,rfl⟩ := Rk hl; rfl
 have oW:Av K (PySem.W.fnOf "broken_ones" "broken_ones" (Ak El) (Aj El) (A7 El) (.ref iD) jX jY jZ jS iB kA) ["hall","standing","who","lost"] []:=fun s us hK hl=>by
  have h4:us.length = 4:=by simpa using hl
  obtain ⟨_,_,_,_,rfl⟩ := Qn h4
  exact BindsTo.of_defaults rfl (hK _ _ t_x12) rfl rfl rfl
 have bR:Av K (PySem.W.fnOf "broken_ones" "broken_ones" (Ak El) (Aj El) (A7 El) (.ref iD) jX jY jZ jS iB kA) ["hall","standing","who","lost"] [Value.bool false]:=fun s us hK hl=>by
  have h4:us.length = 3:=by simpa using hl
  obtain ⟨_,_,_,rfl⟩ := Rk h4
  exact BindsTo.of_defaults rfl (hK _ _ t_x12) rfl rfl rfl
 have lI:=ME.binds (ps:=["hall"]) fun _ _ _ _ _ _ us hl=>by obtain ⟨_,rfl⟩ := Id hl; rfl
 have nN:=vF.binds (ps:=["hall"]) fun _ _ _ _ _ _ us hl=>by obtain ⟨_,rfl⟩ := Id hl; rfl
 have nL:=vG.binds (ps:=["waits"]) fun _ _ _ _ _ _ us hl=>by obtain ⟨_,rfl⟩ := Id hl; rfl
 have nQ:=vH.binds (ps:=["hall"]) fun _ _ _ _ _ _ us hl=>by obtain ⟨_,rfl⟩ := Id hl; rfl
 have xg:=MF.binds (ps:=["hall"]) fun _ _ _ _ _ _ us hl=>by obtain ⟨_,rfl⟩ := Id hl; rfl
 have nY:=vI.binds (ps:=["pending"]) fun _ _ _ _ _ _ us hl=>by obtain ⟨_,rfl⟩ := Id hl; rfl
 have xi:=MG.binds (ps:=["pending","ways","ranked"]) fun _ _ _ _ _ _ us hl=>by obtain ⟨_,_,_,rfl⟩ := Rk hl; rfl
 have oN:=vJ.binds (ps:=["hall"]) fun _ _ _ _ _ _ us hl=>by obtain ⟨_,rfl⟩ := Id hl; rfl
 have oE:=vK.binds (ps:=["table","behind"]) fun _ _ _ _ _ _ us hl=>by obtain ⟨_,_,rfl⟩ := Rr hl; rfl
 have oH:=vL.binds (ps:=["hall","table","standing","who"]) fun _ _ _ _ _ _ us hl=>by obtain ⟨_,_,_,_,rfl⟩ := Qn hl; rfl
 have oP:=vM.binds (ps:=["hall","table","standing"]) fun _ _ _ _ _ _ us hl=>by obtain ⟨_,_,_,rfl⟩ := Rk hl; rfl
 have pF:=vN.binds (ps:=["hall"]) fun _ _ _ _ _ _ us hl=>by obtain ⟨_,rfl⟩ := Id hl; rfl
 have oU:=vP.binds (ps:=["standing"]) fun _ _ _ _ _ _ us hl=>by obtain ⟨_,rfl⟩ := Id hl; rfl
 have xq:=MJ.binds (ps:=["self","hall","standing"]) fun _ _ _ _ _ _ us hl=>by obtain ⟨_,_,_,rfl⟩ := Rk hl; rfl
 have xt:=MK.binds (ps:=["self","hall","standing","who"]) fun _ _ _ _ _ _ us hl=>by obtain ⟨_,_,_,_,rfl⟩ := Qn hl; rfl
 have pJ:=vQ.binds (ps:=["hall","caller","road","turns"]) fun _ _ _ _ _ _ us hl=>by obtain ⟨_,_,_,_,rfl⟩ := Qn hl; rfl
 have xF:=ML.binds (ps:=["self","paper"]) fun _ _ _ _ _ _ us hl=>by obtain ⟨_,_,rfl⟩ := Rr hl; rfl
 have xH:=MM.binds (ps:=["self","row"]) fun _ _ _ _ _ _ us hl=>by obtain ⟨_,_,rfl⟩ := Rr hl; rfl
 have fS:=vR.binds (ps:=["script","k"]) fun _ _ _ _ _ _ us hl=>by obtain ⟨_,_,rfl⟩ := Rr hl; rfl
 have pD:=vS.binds (ps:=["script"]) fun _ _ _ _ _ _ us hl=>by obtain ⟨_,rfl⟩ := Id hl; rfl
 have pH:=vT.binds (ps:=["script"]) fun _ _ _ _ _ _ us hl=>by obtain ⟨_,rfl⟩ := Id hl; rfl
 have xJ:=MN.binds (ps:=["hall","calls","truths","rows"]) fun _ _ _ _ _ _ us hl=>by obtain ⟨_,_,_,_,rfl⟩ := Qn hl; rfl
 refine ⟨PySem.W.fnOf "law" "law" (Ak Hj) (Aj Hj) (A7 Hj) .none qG qH qI pM kB qJ,fun s v=>.of_eq rfl,fun base _ _=>?_⟩
 have fO:Ai l.prog w K mg base Bm 1 _ _ ["hall"] (Ow K):=gh T vA
 have dE:Ai l.prog w K mg base Bm 1 _ _ ["hall","standing"] (Kj K):=ii T vB
 have nF:Ai l.prog w K mg base Bm 1 _ _ ["hall","who"] (Rv K):=dy T vC
 have wL:Ai l.prog w K mg base Bm 2 _ _ ["hall","standing","who","lost"] (Yl K):=n9 T MA nF nG dE dG
 have gO:Ai l.prog w K mg base Bm 3 _ _ ["hall","standing","who","lost"] (Of K):=j6 T vD wL wM
 have wN:Ai l.prog w K mg base Bm 1 _ _ ["hall","standing","lost"] (Xg K):=md T MB
 have fM:Ai l.prog w K mg base Bm 4 _ _ ["hall","standing","who","lost"] (On K):=ip T MC gO gP wN wO
 have dH:Ai l.prog w K mg base Bm 5 _ _ ["hall","standing","who"] (Le K):=gd T vE dE dG fM gQ bJ
 have oV:Ai l.prog w K mg base Bm 4 _ _ ["hall","standing","who","lost"] (Tx K):=jh T MD gO gP
 have lH:Ai l.prog w K mg base Bm 1 _ _ ["hall"] (Up K):=l8 T ME
 have nM:Ai l.prog w K mg base Bm 2 _ _ ["hall"] (Ty K):=ge T vF lH lI
 have nK:Ai l.prog w K mg base Bm 1 _ _ ["waits"] (So K):=fz T vG
 have nP:Ai l.prog w K mg base Bm 3 _ _ ["hall"] (Ts K):=dk T vH nK nL nM nN lH lI
 have xf:Ai l.prog w K mg base Bm 6 _ _ ["hall"] (Xb K):=kn T MF nP nQ dH dJ
 have nX:Ai l.prog w K mg base Bm 1 _ _ ["pending"] (Tz K):=gr T vI
 have xh:Ai l.prog w K mg base Bm 1 _ _ ["pending","ways","ranked"] (Xi K):=jx T MG
 have oM:Ai l.prog w K mg base Bm 7 _ _ ["hall"] (Su K):=g7 T vJ xf xg nX nY xh xi
 have oC:Ai l.prog w K mg base Bm 1 _ _ ["table","behind"] (Tp K):=fm T vK
 have oG:Ai l.prog w K mg base Bm 6 _ _ ["hall","table","standing","who"] (S2 K):=gq T vL oC oE dH dJ
 have oO:Ai l.prog w K mg base Bm 7 _ _ ["hall","table","standing"] (S4 K):=et T vM oG oH
 have pE:Ai l.prog w K mg base Bm 8 _ _ ["hall"] (Tr K):=i6 T vN oM oN fO fP oO oP dH dJ
 have oS:Ai l.prog w K mg base Bm 1 _ _ ["standing"] (Ta K):=dw T vP
 have xp:Ai l.prog w K mg base Bm 2 _ _ ["self","hall","standing"] (Yi K aA aB):=lz T MJ oS oU
 have xr:Ai l.prog w K mg base Bm 2 _ _ ["self","hall","standing","who"] (Xv K aA aB):=mm T MK dE dG
 have pI:Ai l.prog w K mg base Bm 5 _ _ ["hall","caller","road","turns"] (Th K aA aB):=gz T vQ fO fP xp xq xr xt oV oW bR fM gQ bJ
 have xE:Ai l.prog w K mg base Bm 1 _ _ ["self","paper"] (Ym K aA aB):=m9 T ML
 have xG:Ai l.prog w K mg base Bm 1 _ _ ["self","row"] (Xu K aA aB):=ko T MM
 have fR:Ai l.prog w K mg base Bm 1 _ _ ["script","k"] (Oz K):=j0 T vR
 have pC:Ai l.prog w K mg base Bm 2 _ _ ["script"] (U4 K):=gv T vS fR fS
 have pG:Ai l.prog w K mg base Bm 2 _ _ ["script"] (Tm K):=g0 T vT fR fS
 have xI:Ai l.prog w K mg base Bm 1 _ _ ["hall","calls","truths","rows"] (Z5 K):=lj T MN
 exact gm T MO xE xF xG xH pC pD pE pF pG pH pI pJ xI xJ
theorem walk {l : PySem.W.OpenLaw} {q : Program} {loose : List Str} {XP : (Str -> Option Value) -> Heap -> Prop} {YP : World -> Heap -> Prop} {d : DefRec} {K : Params -> PySem.W.Frag} (hn : l.most = some 63) (PM : d.params.defaults = [])
  (hY:∀ (w:World) (h:Heap),YP w h -> (K w.params).In h)
  (F:∀ (w:World) (mg:Str -> Option Value) (fa:Addr) (h:Heap),(K w.params).In h -> h.Ns mainGlobals mg -> mg d.name = some (.ref fa) ->
   ∃ fd:FuncData,(∀ (s:Shared) (u:Value),BindsTo s fd ⟨[u],[]⟩ [("script",u)]) /\ ∀ base:Heap,(K w.params).In base -> base.Ns mainGlobals mg -> Ai l.prog w (K w.params) mg base Bm 9 fa fd ["script"] (Ot (K w.params))) :
  PySem.W.WalkO q loose XP YP l.row.toRowW d [] (fun f vs=>PySem.call f vs) :=
 L2.mG (n:=63) (k:=9) (x := "script") (CX:=fun _=>Bm) (sp:=fun w=>Ot (K w.params)) hn (by decide) PM ⟨rfl,by decide,by decide⟩ hY F (fun _ _ a ns hl hb _ hS=>⟨a,ns,rfl,hS,hl,hb,fun _=>rfl⟩) fun _ _ _ _ _ z=>z
end Law
namespace PySem.W.Fast
theorem tw5158871286504110132:True:=trivial
theorem tw3296970704902736963:True:=trivial
theorem tw12485396695223513388:True:=trivial
theorem tw10737273066123955182:True:=trivial
theorem tw6637456342030033832:True:=trivial
theorem tw16104701372422077399:True:=trivial
theorem tw9847693641660582334:True:=trivial
theorem tw4277165153398886789:True:=trivial
theorem tw6019328853005709729:True:=trivial
theorem tw14163453270822089920:True:=trivial
theorem tw18417919666273919995:True:=trivial
theorem tw1981445183377917827:True:=trivial
theorem tw10999388848734185041:True:=trivial
theorem tw5282847834823189669:True:=trivial
theorem tw3148322053435116655:True:=trivial
theorem tw478270407928372119:True:=trivial
theorem tw16962677944028413118:True:=trivial
theorem tw8924698108119581202:True:=trivial
theorem tw15820425199824479355:True:=trivial
theorem tw812115442343067205:True:=trivial
theorem tw2967745807852031182:True:=trivial
theorem tw5430874979734155266:True:=trivial
end PySem.W.Fast
open PySem PySem.W PyProof.Rows
set_option maxRecDepth 100000 in
set_option maxHeartbeats 0 in
theorem PySem.Challenge.cw_roundcall_k77_whole_kept_for_ever_holds : PySem.Challenge.rw_roundcall_k77_whole_kept_for_ever.Holds := by
 w_on; o_law; k_head; (case hw=>w_witness2)
 k_fill
 refine Law.walk (l:=PySem.Challenge.rw_roundcall_k77_whole_kept_for_ever) rfl rfl (fun w h Y=>PySem.W.kIn_of Y) ?F
 case F =>
  intro w mg fa h KX G hmg
  refine' Law.all_mk KX G hmg ?a_x19 ?l_x19 ?c_x19 ?k_x19 ?a_x22 ?l_x22 ?c_x22 ?k_x22 ?a_x10 ?l_x10 ?c_x10 ?k_x10 ?a_x2 ?l_x2 ?c_x2 ?k_x2 ?a_x11 ?l_x11 ?c_x11 ?k_x11 ?a_x7 ?l_x7 ?c_x7 ?k_x7 ?a_x27 ?l_x27 ?c_x27 ?k_x27 ?t_x27 ?a_x14 ?l_x14 ?c_x14 ?k_x14 ?a_x12 ?l_x12 ?c_x12 ?k_x12 ?t_x12 ?a_x8 ?l_x8 ?c_x8 ?k_x8 ?a_x23 ?l_x23 ?c_x23 ?k_x23 ?a_x24 ?l_x24 ?c_x24 ?k_x24 ?a_x20 ?l_x20 ?c_x20 ?k_x20 ?a_x3 ?l_x3 ?c_x3 ?k_x3 ?a_x26 ?l_x26 ?c_x26 ?k_x26 ?a_x1 ?l_x1 ?c_x1 ?k_x1 ?a_x28 ?l_x28 ?c_x28 ?k_x28 ?a_x29 ?l_x29 ?c_x29 ?k_x29 ?a_x15 ?l_x15 ?c_x15 ?k_x15 ?a_x21 ?l_x21 ?c_x21 ?k_x21 ?a_x16 ?l_x16 ?c_x16 ?k_x16 ?a_x17 ?l_x17 ?c_x17 ?k_x17 ?i_x4 ?l_x4 ?c_x4 ?k_x4 ?i_x6 ?l_x6 ?c_x6 ?k_x6 ?a_x30 ?l_x30 ?c_x30 ?k_x30 ?i_x0 ?l_x0 ?c_x0 ?k_x0 ?i_x5 ?l_x5 ?c_x5 ?k_x5 ?a_x13 ?l_x13 ?c_x13 ?k_x13 ?a_x25 ?l_x25 ?c_x25 ?k_x25 ?a_x18 ?l_x18 ?c_x18 ?k_x18 ?a_x9 ?l_x9 ?c_x9 ?k_x9 ?a_law ?l_law ?c_law ?k_law ?pg_PaperCaller ?hd_PaperCaller ?po_PaperCaller ?sa_PaperCaller ?mm_PaperCaller ?kc_PaperCaller ?fm_x4 ?fm_x0 ?nf_PaperCaller_paper ?pg_RowRoad ?hd_RowRoad ?po_RowRoad ?sa_RowRoad ?mm_RowRoad ?kc_RowRoad ?fm_x6 ?fm_x5 ?nf_RowRoad_row ?nf_RowRoad_asked ?y_MOST_STANDINGS ?z_len ?z_max ?z_tuple ?z_enumerate ?z_range ?z_min ?z_sorted ?z_dict ?z_list ?z_isinstance ?z_bool ?ac_PaperCaller ?ac_RowRoad
  (case ac_PaperCaller=>k_is)
  (case ac_RowRoad=>k_is)
  (case fm_x4=>k_is)
  (case fm_x0=>k_is)
  (case fm_x6=>k_is)
  (case fm_x5=>k_is)
  (case a_x19=>k_is)
  (case l_x19=>k_is)
  (case c_x19=>k_is)
  (case k_x19=>k_is)
  (case a_x22=>k_is)
  (case l_x22=>k_is)
  (case c_x22=>k_is)
  (case k_x22=>k_is)
  (case a_x10=>k_is)
  (case l_x10=>k_is)
  (case c_x10=>k_is)
  (case k_x10=>k_is)
  (case a_x2=>k_is)
  (case l_x2=>k_is)
  (case c_x2=>k_is)
  (case k_x2=>k_is)
  (case a_x11=>k_is)
  (case l_x11=>k_is)
  (case c_x11=>k_is)
  (case k_x11=>k_is)
  (case a_x7=>k_is)
  (case l_x7=>k_is)
  (case c_x7=>k_is)
  (case k_x7=>k_is)
  (case a_x27=>k_is)
  (case l_x27=>k_is)
  (case c_x27=>k_is)
  (case k_x27=>k_is)
  (case t_x27=>k_is)
  (case a_x14=>k_is)
  (case l_x14=>k_is)
  (case c_x14=>k_is)
  (case k_x14=>k_is)
  (case a_x12=>k_is)
  (case l_x12=>k_is)
  (case c_x12=>k_is)
  (case k_x12=>k_is)
  (case t_x12=>k_is)
  (case a_x8=>k_is)
  (case l_x8=>k_is)
  (case c_x8=>k_is)
  (case k_x8=>k_is)
  (case a_x23=>k_is)
  (case l_x23=>k_is)
  (case c_x23=>k_is)
  (case k_x23=>k_is)
  (case a_x24=>k_is)
  (case l_x24=>k_is)
  (case c_x24=>k_is)
  (case k_x24=>k_is)
  (case a_x20=>k_is)
  (case l_x20=>k_is)
  (case c_x20=>k_is)
  (case k_x20=>k_is)
  (case a_x3=>k_is)
  (case l_x3=>k_is)
  (case c_x3=>k_is)
  (case k_x3=>k_is)
  (case a_x26=>k_is)
  (case l_x26=>k_is)
  (case c_x26=>k_is)
  (case k_x26=>k_is)
  (case a_x1=>k_is)
  (case l_x1=>k_is)
  (case c_x1=>k_is)
  (case k_x1=>k_is)
  (case a_x28=>k_is)
  (case l_x28=>k_is)
  (case c_x28=>k_is)
  (case k_x28=>k_is)
  (case a_x29=>k_is)
  (case l_x29=>k_is)
  (case c_x29=>k_is)
  (case k_x29=>k_is)
  (case a_x15=>k_is)
  (case l_x15=>k_is)
  (case c_x15=>k_is)
  (case k_x15=>k_is)
  (case a_x21=>k_is)
  (case l_x21=>k_is)
  (case c_x21=>k_is)
  (case k_x21=>k_is)
  (case a_x16=>k_is)
  (case l_x16=>k_is)
  (case c_x16=>k_is)
  (case k_x16=>k_is)
  (case a_x17=>k_is)
  (case l_x17=>k_is)
  (case c_x17=>k_is)
  (case k_x17=>k_is)
  (case i_x4=>k_is)
  (case l_x4=>k_is)
  (case c_x4=>k_is)
  (case k_x4=>k_is)
  (case i_x6=>k_is)
  (case l_x6=>k_is)
  (case c_x6=>k_is)
  (case k_x6=>k_is)
  (case a_x30=>k_is)
  (case l_x30=>k_is)
  (case c_x30=>k_is)
  (case k_x30=>k_is)
  (case i_x0=>k_is)
  (case l_x0=>k_is)
  (case c_x0=>k_is)
  (case k_x0=>k_is)
  (case i_x5=>k_is)
  (case l_x5=>k_is)
  (case c_x5=>k_is)
  (case k_x5=>k_is)
  (case a_x13=>k_is)
  (case l_x13=>k_is)
  (case c_x13=>k_is)
  (case k_x13=>k_is)
  (case a_x25=>k_is)
  (case l_x25=>k_is)
  (case c_x25=>k_is)
  (case k_x25=>k_is)
  (case a_x18=>k_is)
  (case l_x18=>k_is)
  (case c_x18=>k_is)
  (case k_x18=>k_is)
  (case a_x9=>k_is)
  (case l_x9=>k_is)
  (case c_x9=>k_is)
  (case k_x9=>k_is)
  (case a_law=>k_is)
  (case l_law=>k_is)
  (case c_law=>k_is)
  (case k_law=>k_is)
  (case pg_PaperCaller=>k_is)
  (case hd_PaperCaller=>k_is)
  (case po_PaperCaller=>k_is)
  (case sa_PaperCaller=>k_is)
  (case mm_PaperCaller=>k_is)
  (case kc_PaperCaller=>k_is)
  (case nf_PaperCaller_paper=>k_is)
  (case pg_RowRoad=>k_is)
  (case hd_RowRoad=>k_is)
  (case po_RowRoad=>k_is)
  (case sa_RowRoad=>k_is)
  (case mm_RowRoad=>k_is)
  (case kc_RowRoad=>k_is)
  (case nf_RowRoad_row=>k_is)
  (case nf_RowRoad_asked=>k_is)
  (case y_MOST_STANDINGS=>k_is)
  (case z_len=>k_is)
  (case z_max=>k_is)
  (case z_tuple=>k_is)
  (case z_enumerate=>k_is)
  (case z_range=>k_is)
  (case z_min=>k_is)
  (case z_sorted=>k_is)
  (case z_dict=>k_is)
  (case z_list=>k_is)
  (case z_isinstance=>k_is)
  (case z_bool=>k_is)
