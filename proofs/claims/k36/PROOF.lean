import PyProof.Rows.All
import Wide.All
import OpenK.AllK
import Wide.FinOn
import Lean
import PyProof.EqAt
import PyProof.EqKinds
import PyProof.TupleCall
import PySem.Challenge.RW_roundcall_k36_broken_papers_let_by
/-! THE HAND LAYER, for ints, bools, texts, own classes, LISTS and tuples (index, slices, in, append, pop ..), calls, loops. Paste it whole ahead of your own text; what your proof does not reach may be deleted. -/
set_option Elab.async false
set_option linter.all false
set_option maxRecDepth 100000
set_option maxHeartbeats 4000000
set_option bootstrap.genMatcherCode false
namespace L2
local macro_rules | `(tactic| omega) => `(tactic| lia)
open PySem PySem.Spec PyProof.Rows
abbrev Dv:=Sum Int Str
def Ie:Dv -> Value -> Bool
 | .inl k,v=>Value.isInt k v
 | .inr x,v=>Value.isStrOf x v
def oq (w:World):Dv -> Int
 | .inl k=>hashInt k
 | .inr x=>hashStr w x
theorem Ci:∀ {k:Dv} {v:Value},Ie k v = true -> (∃ i t,k = Sum.inl i /\ v = Value.int i t) \/ (∃ x t,k = Sum.inr x /\ v = Value.str x t)
 | .inl i,v,h=>by
  obtain ⟨t,e⟩ := Value.isInt_shape (k:=i) (v:=v) h
  exact .inl ⟨i,t,rfl,e⟩
 | .inr x,v,h=>by
  obtain ⟨t,e⟩ := Value.isStrOf_shape (x:=x) (v:=v) h
  exact .inr ⟨x,t,rfl,e⟩
theorem Wd (i:Int) (t:Tok):Ie (.inl i) (.int i t) = true:=by simp [Ie,Value.isInt]
theorem Vk (x:Str) (t:Tok):Ie (.inr x) (.str x t) = true:=by simp [Ie,Value.isStrOf]
theorem dy (a b:Int):decide ((Sum.inl a:Dv) = Sum.inl b) = (a == b):=by
 by_cases e:a = b
 ·subst e; simp
 ·have h:¬ (Sum.inl a:Dv) = Sum.inl b:=fun q=>e (Sum.inl.inj q)
  rw [decide_eq_false h]
  exact (beq_eq_false_iff_ne.mpr e).symm
theorem g0 (a b:Str):decide ((Sum.inr a:Dv) = Sum.inr b) = decide (a = b):=by
 by_cases e:a = b
 ·subst e; simp
 ·have h:¬ (Sum.inr a:Dv) = Sum.inr b:=fun q=>e (Sum.inr.inj q)
  rw [decide_eq_false h,decide_eq_false e]
theorem c8 (a:Int) (b:Str):decide ((Sum.inl a:Dv) = Sum.inr b) = false:=decide_eq_false (fun q=>nomatch q)
theorem gw (a:Str) (b:Int):decide ((Sum.inr a:Dv) = Sum.inl b) = false:=decide_eq_false (fun q=>nomatch q)
def Dj (prog:Program) (w:World):PySem.KeyKind prog w Dv where
 is:=Ie
 hash:=oq w
 inj:=fun v a b ha hb=>by
  rcases Ci ha with ⟨i,t,rfl,rfl⟩ | ⟨x,t,rfl,rfl⟩
  ·rcases Ci hb with ⟨j,u,rfl,e⟩ | ⟨y,u,rfl,e⟩
   ·injection e with e1 _; rw [e1]
   ·exact nomatch e
  ·rcases Ci hb with ⟨j,u,rfl,e⟩ | ⟨y,u,rfl,e⟩
   ·exact nomatch e
   ·injection e with e1 _; rw [e1]
 byValue:=fun k v h=>by
  rcases Ci h with ⟨i,t,rfl,rfl⟩ | ⟨x,t,rfl,rfl⟩ <;> rfl
 pyHash:=fun hv h=>by
  rcases Ci hv with ⟨i,t,rfl,rfl⟩ | ⟨x,t,rfl,rfl⟩
  ·exact wpAny_pyHash_int h
  ·exact wpAny_pyHash_str h
 eqBool:=fun hu hv h=>by
  rcases Ci hu with ⟨i,t,rfl,rfl⟩ | ⟨x,t,rfl,rfl⟩
  ·rcases Ci hv with ⟨j,u,rfl,rfl⟩ | ⟨y,u,rfl,rfl⟩
   ·rw [dy] at h; exact wpAny_eqBool_int h
   ·rw [c8] at h; exact SeqAt.EqAt.int_str i t y u _ _ _ _ h
  ·rcases Ci hv with ⟨j,u,rfl,rfl⟩ | ⟨y,u,rfl,rfl⟩
   ·rw [gw] at h; exact SeqAt.EqAt.str_int x t j u _ _ _ _ h
   ·rw [g0] at h; exact wpAny_eqBool_str h
 «strs» := fun k x t v h=>by
  rcases Ci h with ⟨i,u,rfl,e⟩ | ⟨y,u,rfl,e⟩
  ·exact nomatch e
  ·injection e with e1 _
   subst e1
   cases v <;> rfl
theorem Rf (prog:Program) (w:World) (i:Int) (t:Tok):(Dj prog w).is (.inl i) (.int i t) = true:=Wd i t
theorem Q3 (prog:Program) (w:World) (x:Str) (t:Tok):(Dj prog w).is (.inr x) (.str x t) = true:=Vk x t
inductive V where
 | non | bl (b:Bool) | int (i:Int) | str (x:Str) | byt (b:Array UInt8) | flt (b:UInt64) | ref (a:Addr) | ty (n:String)
 deriving DecidableEq
def B6:V -> Value -> Prop
 | .non,u=>u = Value.none
 | .bl b,u=>u = Value.bool b
 | .int i,u=>∃ t,u = Value.int i t
 | .str x,u=>∃ t,u = Value.str x t
 | .byt b,u=>∃ t,u = Value.bytes b t
 | .flt b,u=>∃ t,u = Value.float b t
 | .ref a,u=>u = Value.ref a
 | .ty n,u=>u = Value.type n
abbrev B7:List V -> List Value -> Prop:=Paired B6
theorem B7.length {xs:List V} {us:List Value} (r:B7 xs us):xs.length = us.length:=Paired.length r
theorem B7.get:∀ {xs:List V} {us:List Value} {i:Nat} {x:V},B7 xs us -> xs[i]? = some x -> ∃ u,us[i]? = some u /\ B6 x u
 | _,_,_,_,.nil,e=>by simp at e
 | _,_,0,_,.cons r _,e=>by simp at e; subst e; exact ⟨_,rfl,r⟩
 | _,_,i + 1,x,.cons _ t,e=>by
  obtain ⟨u,h1,h2⟩ := B7.get (i:=i) (x:=x) t (by simpa using e)
  exact ⟨u,by simpa using h1,h2⟩
theorem B7.set {x:V} {u:Value} (r:B6 x u):∀ {xs:List V} {us:List Value} (i:Nat),B7 xs us -> B7 (xs.set i x) (us.set i u)
 | _,_,_,.nil=>.nil
 | _,_,0,.cons _ t=>.cons r t
 | _,_,i + 1,.cons q t=>.cons q (B7.set r i t)
theorem B7.append {xs ys:List V} {us ws:List Value} (h:B7 xs us) (s:B7 ys ws):B7 (xs ++ ys) (us ++ ws):=by
 induction h with
 | nil=>exact s
 | cons r t ih=>exact .cons r ih
theorem B7.take:∀ {xs:List V} {us:List Value} (n:Nat),B7 xs us -> B7 (xs.take n) (us.take n)
 | _,_,0,_=>.nil
 | _,_,_ + 1,.nil=>.nil
 | _,_,n + 1,.cons r t=>.cons r (B7.take n t)
theorem B7.drop:∀ {xs:List V} {us:List Value} (n:Nat),B7 xs us -> B7 (xs.drop n) (us.drop n)
 | _,_,0,r=>r
 | _,_,_ + 1,.nil=>.nil
 | _,_,n + 1,.cons _ t=>B7.drop n t
def Hu:Option V -> Option Value -> Prop
 | some v,some u=>B6 v u
 | none,none=>True
 | _,_=>False
def KV {κ:Type}:List (κ × V) -> List (κ × Value) -> Prop:=Paired fun (p:κ × V) (q:κ × Value)=>p.1 = q.1 /\ B6 p.2 q.2
def kV:Dv -> V
 | .inl i=>.int i
 | .inr x=>.str x
section
variable {prog:Program} {w:World}
def C0 (prog:Program) (w:World) (h:Heap) (k:List Int × Int) (a:Addr):Prop :=
 ∃ o n u t,h.get? a = some o /\ o.cls = .type "tuple" /\ o.data = .seq #[.ref u,.int k.2 t] n /\ IsTupleKey (intKind prog w) h k.1 u
theorem C0.typeIs {s:Shared} {k:List Int × Int} {a:Addr} (x:C0 prog w s.heap k a):s.TypeIs (.ref a) "tuple" := let ⟨o,_,_,_,ho,hc,_⟩ := x; ⟨o,ho,hc⟩
theorem C0.inj {h:Heap} {a:Addr} {x y:List Int × Int} (hx:C0 prog w h x a) (hy:C0 prog w h y a):x = y:=by
 obtain ⟨o,n,u,t,ho,_,hd,hi⟩ := hx
 obtain ⟨o',n',u',t',ho',_,hd',hi'⟩ := hy
 obtain rfl:o = o':=Option.some.inj (ho.symm.trans ho')
 rw [hd] at hd'
 injection hd' with h1 _
 simp only [Array.mk.injEq,List.cons.injEq,Value.ref.injEq,Value.int.injEq,and_true] at h1
 obtain ⟨rfl,h2,_⟩ := h1
 exact Prod.ext (hi.inj hi') h2
theorem C0.keeps {h h':Heap} {k:List Int × Int} {a d:Addr} {o:Obj} {es ep} (x:C0 prog w h k a) (ho:h.get? d = some o) (hd:o.data = .dict es ep) (hs:Heap.SameBut d h h'):C0 prog w h' k a:=by
 obtain ⟨o',n,u,t,ho',hc,hd',hi⟩ := x
 have hne:a ≠ d:=by
  rintro rfl
  obtain rfl:o' = o:=Option.some.inj (ho'.symm.trans ho)
  rw [hd] at hd'
  exact nomatch hd'
 exact ⟨o',n,u,t,(hs.2 a hne).trans ho',hc,hd',hi.keeps ho hd hs⟩
def Gp (prog:Program) (w:World) (k:List Int × Int):Int:=reduceHash (Builtin.Tuple.tupleHashOf [tupleKeyHash (intKind prog w) k.1,(intKind prog w).hash k.2])
theorem Rv {A : Around} {E : Value -> Shared -> Prop} {s : Shared} {k : List Int × Int} {a : Addr} {Q : Int -> Shared -> Prop} (hu : A.units + 8 < cLine) (hk : C0 prog w s.heap k a) (h : Q (Gp prog w k) { s with toks := s.toks + (k.1.length + 3) }) :
  wpAny (model prog w) A (pyHash (.ref a)) Q E s:=by
 have hT:=hk.typeIs
 obtain ⟨o,n,u,t,ho,_,hd,hi⟩ := hk
 unfold pyHash
 first | unfold pyHashByItsType | skip
 first | refine wpAny_bind (wpAny_cRoomFor_or (.inr (by omega)) ?_) | skip
 refine wpAny_bind (wpAny_specialOf hT F.slot_tuple_hash.lookup ?_)
 show wpAny _ _ (if (some (Value.builtin "tuple.__hash__") == some Value.none) = true then _ else _) Q E s
 rw [if_neg (by rw [beq_builtin_none]; exact Bool.false_ne_true)]
 refine wpAny_bind (wpAny_specialOf hT F.slot_tuple_hash.lookup ?_)
 show wpAny _ _ (callSpecialIfBoundUnlessNone? (.ref a) "__hash__" _ >>= _) Q E s
 refine wpAny_bind (wpAny_callSpecialIfBoundUnlessNone?_slot hT F.slot_tuple_hash (wpAny_call_entry F.slot_tuple_hash hT F.entry_tuple_hash ?_ (F.args_tuple_hash_1 _)))
 show wpAny _ _ (Builtin.Tuple.tupleItemsOf (.ref a) >>= _) _ _ s
 refine wpAny_bind (wpAny_tupleItemsOf ho hd ?_)
 refine wpAny_bind ?_
 rw [<- Array.forIn_toList]
 show wpAny _ _ (forIn [Value.ref u,Value.int k.2 t] _ _) _ _ _
 rw [List.forIn_cons]
 have hin:A.in1.units < cLine:=by
  first | (show A.units + 1 < cLine; omega) | (show A.units < cLine; omega) | (simp only [Around.in1]; omega)
 refine wpAny_bind (wpAny_bind (wpAny_pyHash_tuple (knd:=intKind prog w) hin hi ?_))
 refine wpAny_pure ?_
 show wpAny _ _ (forIn [Value.int k.2 t] _ _) _ _ _
 rw [List.forIn_cons]
 refine wpAny_bind (wpAny_bind ((intKind prog w).pyHash (k:=k.2) (by simp [intKind,Value.isInt]) ?_))
 refine wpAny_pure ?_
 show wpAny _ _ (forIn [] _ _) _ _ _
 rw [List.forIn_nil]
 refine wpAny_pure ?_
 show wpAny _ _ (retInt (Builtin.Tuple.tupleHashOf [tupleKeyHash (intKind prog w) k.1,(intKind prog w).hash k.2])) _ _ _
 refine wpAny_ret_mkInt ?_
 generalize e:Builtin.Tuple.tupleHashOf [tupleKeyHash (intKind prog w) k.1,(intKind prog w).hash k.2] = z
 show wpAny _ _ (if (decide (-(2:Int) ^ 63 <= z) && decide (z < 2 ^ 63)) = true then _ else _) Q E _
 unfold Gp reduceHash at h
 rw [e] at h
 by_cases hr:(decide (-(2:Int) ^ 63 <= z) && decide (z < 2 ^ 63)) = true
 ·rw [if_pos hr]
  rw [if_pos hr] at h
  exact wpAny_pure (by simpa [Nat.add_assoc] using h)
 ·rw [if_neg hr]
  rw [if_neg hr] at h
  exact wpAny_bind (wpAny_rule (wpAny_pure (by simpa [Nat.add_assoc] using h)))
theorem X4 {A : Around} {E : Value -> Shared -> Prop} {s : Shared} {x y : List Int × Int} {a b : Addr} {Q : Bool -> Shared -> Prop} (hu : A.units + 8 < cLine) (hx : C0 prog w s.heap x a) (hy : C0 prog w s.heap y b) (h : Q (decide (x = y)) s) :
  wpAny (model prog w) A (eqBool (.ref a) (.ref b)) Q E s:=by
 unfold eqBool
 try with_reducible refine wpAny_holding ?_
 show wpAny _ _ (if (Value.ref a == Value.ref b) = true then _ else _) Q E s
 by_cases hab:(Value.ref a == Value.ref b) = true
 ·rw [if_pos hab]
  have e:a = b:=by have:=eq_of_beq hab; injection this
  subst e
  obtain rfl:=hx.inj hy
  exact wpAny_bind (wpAny_rule (wpAny_pure (by simpa using h)))
 ·rw [if_neg hab]
  refine wpAny_bind (wpAny_richCompare_same_room (op := .Eq) hx.typeIs hy.typeIs F.slot_tuple_eq
   (wpAny_call_entry F.slot_tuple_eq hx.typeIs F.entry_tuple_eq ?_ (F.args_tuple_eq_2 _ _)) (by omega))
  have hTb:=hy.typeIs
  obtain ⟨oa,na,ua,ta,hoa,_,hda,hia⟩ := hx
  obtain ⟨ob,nb,ub,tb,hob,_,hdb,hib⟩ := hy
  show wpAny _ _ (isInstance (.ref b) (.type "tuple") >>= _) _ _ s
  refine wpAny_bind (wpAny_isInstance hTb isSubtype_tuple_tuple ?_)
  simp only [Bool.not_true,Bool.false_eq_true,if_false]
  refine wpAny_bind (wpAny_tupleItemsOf hoa hda ?_)
  refine wpAny_bind (wpAny_tupleItemsOf hob hdb ?_)
  refine wpAny_bind ?_
  show wpAny _ _ (forIn [(Value.ref ua,Value.ref ub),(Value.int x.2 ta,Value.int y.2 tb)] _ _) _ _ _
  rw [List.forIn_cons]
  have hin:A.in1.units < cLine:=by
   first | (show A.units + 1 < cLine; omega) | (show A.units < cLine; omega) | (simp only [Around.in1]; omega)
  refine wpAny_bind (wpAny_bind (wpAny_eqBool_tuple (knd:=intKind prog w) hin hia hib ?_))
  by_cases h1:x.1 = y.1
  ·rw [decide_eq_true h1]
   simp only [Bool.not_true,Bool.false_eq_true,if_false]
   refine wpAny_pure ?_
   show wpAny _ _ (forIn [(Value.int x.2 ta,Value.int y.2 tb)] _ _) _ _ _
   rw [List.forIn_cons]
   refine wpAny_bind (wpAny_bind ((intKind prog w).eqBool (a:=x.2) (b:=y.2) (by simp [intKind,Value.isInt]) (by simp [intKind,Value.isInt]) ?_))
   by_cases h2:x.2 = y.2
   ·rw [decide_eq_true h2]
    simp only [Bool.not_true,Bool.false_eq_true,if_false]
    refine wpAny_pure ?_
    show wpAny _ _ (forIn [] _ _) _ _ _
    rw [List.forIn_nil]
    refine wpAny_pure ?_
    have e:decide (x = y) = true:=decide_eq_true (Prod.ext h1 h2)
    rw [e] at h
    exact wpAny_pure ⟨_,rfl,(fun e=>nomatch e),wpAny_truthy_bool h⟩
   ·rw [decide_eq_false h2]
    simp only [Bool.not_false,if_true]
    have e:decide (x = y) = false:=decide_eq_false fun z=>h2 (by rw [z])
    rw [e] at h
    exact wpAny_bind (wpAny_pure (wpAny_pure (wpAny_pure (wpAny_pure ⟨_,rfl,(fun e=>nomatch e),wpAny_truthy_bool h⟩))))
  ·rw [decide_eq_false h1]
   simp only [Bool.not_false,if_true]
   have e:decide (x = y) = false:=decide_eq_false fun z=>h1 (by rw [z])
   rw [e] at h
   exact wpAny_bind (wpAny_pure (wpAny_pure (wpAny_pure (wpAny_pure ⟨_,rfl,(fun e=>nomatch e),wpAny_truthy_bool h⟩))))
theorem gi {A:Around} {E:Value -> Shared -> Prop} {s:Shared} {ks:List Int} {a:Addr} {Q:Bool -> Shared -> Prop} (hk:IsTupleKey (intKind prog w) s.heap ks a) (h:Q true s):wpAny (model prog w) A (eqIsQuiet 7 (.ref a)) Q E s:=by
 have hT:=hk.typeIs
 obtain ⟨o,items,n,ho,_,hd,hi⟩ := hk
 unfold eqIsQuiet
 refine wpAny_bind (wpAny_specialOf hT F.slot_tuple_eq.lookup ?_)
 show wpAny _ _ (isInstance (.ref a) (.type "tuple") >>= _) _ _ s
 refine wpAny_bind (wpAny_isInstance hT isSubtype_tuple_tuple ?_)
 simp only [Bool.not_true,Bool.false_eq_true,if_false]
 refine wpAny_bind (wpAny_seqItems ho hd ?_)
 refine wpAny_bind ?_
 show wpAny _ _ (forIn items _ _) _ _ s
 rw [<- Array.forIn_toList]
 refine wpAny_forIn_list _ (fun rest r s'=>r.1 = none /\ s' = s /\ ∀ v ∈ rest,carriedByValue v = true) _ ?_ ?_ _ _ ⟨rfl,rfl,hi.byValue⟩
 ·rintro v rest r s' ⟨hr,rfl,hall⟩
  rw [eqIsQuiet_byValue _ (hall v List.mem_cons_self)]
  refine wpAny_bind (wpAny_pure ?_)
  simp only [Bool.not_true,Bool.false_eq_true,if_false]
  exact wpAny_pure ⟨rfl,rfl,fun u hu'=>hall u (List.mem_cons_of_mem _ hu')⟩
 ·rintro ⟨r1,r2⟩ s' ⟨hr,rfl,_⟩
  simp only at hr
  subst hr
  exact wpAny_pure h
theorem Q0 {A:Around} {E:Value -> Shared -> Prop} {s:Shared} {k:List Int × Int} {a:Addr} {Q:Bool -> Shared -> Prop} (hk:C0 prog w s.heap k a) (h:Q true s):wpAny (model prog w) A (eqIsQuiet 8 (.ref a)) Q E s:=by
 have hT:=hk.typeIs
 obtain ⟨o,n,u,t,ho,_,hd,hi⟩ := hk
 unfold eqIsQuiet
 refine wpAny_bind (wpAny_specialOf hT F.slot_tuple_eq.lookup ?_)
 show wpAny _ _ (isInstance (.ref a) (.type "tuple") >>= _) _ _ s
 refine wpAny_bind (wpAny_isInstance hT isSubtype_tuple_tuple ?_)
 simp only [Bool.not_true,Bool.false_eq_true,if_false]
 refine wpAny_bind (wpAny_seqItems ho hd ?_)
 refine wpAny_bind ?_
 show wpAny _ _ (forIn #[Value.ref u,Value.int k.2 t] _ _) _ _ s
 rw [<- Array.forIn_toList]
 show wpAny _ _ (forIn [Value.ref u,Value.int k.2 t] _ _) _ _ s
 rw [List.forIn_cons]
 refine wpAny_bind (wpAny_bind (gi hi ?_))
 simp only [Bool.not_true,Bool.false_eq_true,if_false]
 refine wpAny_pure ?_
 show wpAny _ _ (forIn [Value.int k.2 t] _ _) _ _ s
 rw [List.forIn_cons,eqIsQuiet_byValue _ rfl]
 refine wpAny_bind (wpAny_bind (wpAny_pure ?_))
 simp only [Bool.not_true,Bool.false_eq_true,if_false]
 refine wpAny_pure ?_
 show wpAny _ _ (forIn [] _ _) _ _ s
 rw [List.forIn_nil]
 exact wpAny_pure (wpAny_pure h)
def Ce (prog:Program) (w:World):HeapKind prog w (List Int × Int) where
 is:=C0 prog w
 hash:=Gp prog w
 draws:=fun k=>k.1.length + 3
 room:=fun A=>A.units + 8 < cLine
 inj:=fun hx hy=>hx.inj hy
 keeps:=fun x ho hd hs=>x.keeps ho hd hs
 pyHash:=fun hu hk h=>Rv hu hk h
 eqBool:=fun hu hx hy h=>X4 hu hx hy h
 quiet:=fun hk h=>Q0 hk h
end
set_option genInjectivity false in
set_option genSizeOf false in
inductive HO where
  | lst (xs:List V)
  | tup (xs:List V)
  | dK (kvs:List (Dv × V)) | dT (kvs:List ((List Int × Int) × V))
  | set (S:Int -> Bool) (n:Nat)
  | ins (C dx:Addr) (fs:List (Str × V))
  | own (x:Addr)
  | xd (fs:List (Str × V))
  | met (f x:Addr)
  | rng (lo hi:Int)
  | frz (o:Obj) (u:HO)
  | tbl (ps:Array Value)
  | ext (φ:Heap -> Prop)
abbrev Hp:=Addr -> Option HO
def E5 (H:Hp) (b:Addr) (k:List Int × Int):Prop := ∃ u,H b = some (.tup [.ref u,.int k.2]) /\ H u = some (.tup (k.1.map V.int))
theorem E5.up {H H2:Hp} {b:Addr} {k:List Int × Int} (ht:∀ b xs,H b = some (.tup xs) -> H2 b = some (.tup xs)) (h:E5 H b k):E5 H2 b k:=let ⟨u,a1,a2⟩ := h; ⟨u,ht _ _ a1,ht _ _ a2⟩
def upd (H:Hp) (a:Addr) (o:HO):Hp:=fun b=>if b = a then some o else H b
theorem A5 {H:Hp} {a:Addr} {o:HO}:upd H a o a = some o:=by unfold upd; rw [if_pos rfl]
theorem Ac {H:Hp} {a b:Addr} {o:HO} (h:b ≠ a):upd H a o b = H b:=by unfold upd; rw [if_neg h]
theorem Bz {H:Hp} {a b:Addr} {o u:HO} (h:H a = some o) (h':H b = some u) (d:o ≠ u):a ≠ b:=by
 intro e; subst e; rw [h] at h'; exact d (Option.some.inj h')
theorem An {H:Hp} {a b:Addr} {o:HO} (h:H a = some o) (h':H b = none):a ≠ b:=by
 intro e; subst e; rw [h] at h'; cases h'
section
variable (P:Program) (w:World)
def Bw (H:Hp) (h:Heap) (a:Addr):HO -> Prop
 | .lst xs=>xs.length <= sizeLine /\ ∃ (its:List Value) (n:Nat),B7 xs its /\ h.get? a = some { cls := .type "list",data := .seq its.toArray n }
 | .tup xs=>(xs.length <= sizeLine /\ ∃ o,h.get? a = some o /\ o.dict = none) /\ ∃ its:List Value,B7 xs its /\ IsTup h a its.toArray
 | .dK kvs=>kvs.length <= sizeLine /\ (a == sysModules) = false /\ ∃ vs,KV kvs vs /\ h.DictOf (Dj P w) a vs
 | .dT kvs => kvs.length <= sizeLine /\ (a == sysModules) = false /\ ∃ xs : List ((List Int × Int) × Addr × Value),
   Paired (fun (p:(List Int × Int) × V) (q:(List Int × Int) × Addr × Value)=>p.1 = q.1 /\ E5 H q.2.1 p.1 /\ B6 p.2 q.2.2) kvs xs /\
   ∃ o es ep,h.get? a = some o /\ o.ExactDict /\ o.data = .dict es ep /\ es.toList = xs.map (entryOfKey (Ce P w)) /\ (xs.map (·.1)).Nodup
 | .set S n=>h.SetOf (intKind P w) a S n
 | .ins C dx fs => H dx = some (.own a) /\ fs.length <= 1000 /\ dx ≠ a /\ h.get? a = some (PySem.W.instObj C dx) /\
   ∃ mA,h.Ns1 dx mA /\ (∀ f,Hu (fs.lookup f) (mA f)) /\ PySem.Within mA (fs.map (·.1))
 | .own _=>∃ o,h.get? a = some o
 | .xd fs=>∃ mA,h.Ns1 a mA /\ ∀ f,Hu (fs.lookup f) (mA f)
 | .rng lo hi=>∃ t u v,h.get? a = some { cls := .type "range",data := .fields #[.int lo t,.int hi u,.int 1 v] }
 | .frz o u=>h.get? a = some o /\ Bw H h a u
 | .tbl ps=>h.get? a = some { cls := .none,data := .fields ps }
 | .met f x=>h.get? a = some (PySem.W.methodObj (.ref f) (.ref x))
 | .ext φ=>φ h /\ (∃ o,h.get? a = some o) /\ ∀ h1 h2:Heap,φ h1 -> (∀ o,h1.get? a = some o -> h2.get? a = some o) -> φ h2
def Fx (H:Hp) (h:Heap):Prop := ∀ a o,H a = some o -> Bw P w H h a o
end
section
variable {P:Program} {w:World} {H H':Hp} {h h':Heap} {a:Addr} {o:HO}
theorem Bw.lt (x:Bw P w H h a o):a < h.objs.size:=by
 cases o with
 | lst xs=>obtain ⟨_,_,_,_,e⟩ := x; exact Heap.lt_size e
 | tup xs=>obtain ⟨_,_,_,p⟩ := x; exact p.lt
 | dK kvs=>obtain ⟨_,_,_,_,o,_,_,e,_⟩ := x; exact Heap.lt_size e
 | dT kvs=>obtain ⟨_,_,_,_,o,_,_,e,_⟩ := x; exact Heap.lt_size e
 | set S n=>obtain ⟨o,_,_,_,e,_⟩ := x; exact Heap.lt_size e
 | ins C dx fs=>obtain ⟨_,_,_,e,_⟩ := x; exact Heap.lt_size e
 | own y=>obtain ⟨_,e⟩ := x; exact Heap.lt_size e
 | xd fs=>obtain ⟨_,⟨_,_,_,e,_⟩,_⟩ := x; exact Heap.lt_size e
 | rng lo hi=>obtain ⟨_,_,_,e⟩ := x; exact Heap.lt_size e
 | frz ob u=>obtain ⟨e,_⟩ := x; exact Heap.lt_size e
 | tbl ps=>exact Heap.lt_size (show h.get? a = some _ from x)
 | met f y=>exact Heap.lt_size (show h.get? a = some _ from x)
 | ext φ=>obtain ⟨_,⟨_,e⟩,_⟩ := x; exact Heap.lt_size e
theorem Paired.mapP {α β:Type} {F G:α -> β -> Prop} {l₁:List α} {l₂:List β} (h:Paired F l₁ l₂) (f:∀ a b,F a b -> G a b):Paired G l₁ l₂:=by
 induction h with
 | nil=>exact .nil
 | cons r t ih=>exact .cons (f _ _ r) ih
theorem Bw.stay (x : Bw P w H h a o) (k : ∀ b u, (b = a \/ H b = some (.own a)) -> h.get? b = some u -> h'.get? b = some u)
  (ho:∀ b,H b = some (.own a) -> H' b = some (.own a)) (ht:∀ b xs,H b = some (.tup xs) -> H' b = some (.tup xs)):Bw P w H' h' a o:=by
 induction o with
 | lst xs=>obtain ⟨z,its,n,r,e⟩ := x; exact ⟨z,its,n,r,k _ _ (.inl rfl) e⟩
 | tup xs=>obtain ⟨z,its,r,ob,e,c⟩ := x; exact ⟨⟨z.1,let ⟨o,e2,d⟩ := z.2; ⟨o,k _ _ (.inl rfl) e2,d⟩⟩,its,r,ob,k _ _ (.inl rfl) e,c⟩
 | dK kvs=>obtain ⟨z,y,vs,r,ob,es,ep,e,c⟩ := x; exact ⟨z,y,vs,r,ob,es,ep,k _ _ (.inl rfl) e,c⟩
 | dT kvs =>
  obtain ⟨z,y,xs,r,ob,es,ep,e,c⟩ := x
  exact ⟨z,y,xs,Paired.mapP r fun p q z=>⟨z.1,z.2.1.up ht,z.2.2⟩,ob,es,ep,k _ _ (.inl rfl) e,c⟩
 | set S n=>obtain ⟨ob,es,ep,t,e,c⟩ := x; exact ⟨ob,es,ep,t,k _ _ (.inl rfl) e,c⟩
 | ins C dx fs =>
  obtain ⟨d,z,ne,e,mA,⟨od,es,ep,e2,c⟩,r⟩ := x
  exact ⟨ho _ d,z,ne,k _ _ (.inl rfl) e,mA,⟨od,es,ep,k _ _ (.inr d) e2,c⟩,r⟩
 | own y=>obtain ⟨ob,e⟩ := x; exact ⟨ob,k _ _ (.inl rfl) e⟩
 | xd fs=>obtain ⟨mA,⟨od,es,ep,e,c⟩,r⟩ := x; exact ⟨mA,⟨od,es,ep,k _ _ (.inl rfl) e,c⟩,r⟩
 | rng lo hi=>obtain ⟨t,u,v,e⟩ := x; exact ⟨t,u,v,k _ _ (.inl rfl) e⟩
 | frz ob u ih=>obtain ⟨e,q⟩ := x; exact ⟨k _ _ (.inl rfl) e,ih q⟩
 | tbl ps =>
  have e:h.get? a = some { cls := .none,data := .fields ps }:=x
  show h'.get? a = some { cls := .none,data := .fields ps }
  exact k a _ (.inl rfl) e
 | met f y =>
  have e:h.get? a = some (PySem.W.methodObj (.ref f) (.ref y)):=x
  show h'.get? a = some (PySem.W.methodObj (.ref f) (.ref y))
  exact k a _ (.inl rfl) e
 | ext φ=>obtain ⟨p,⟨o,e⟩,st⟩ := x; exact ⟨st _ _ p fun o q=>k _ _ (.inl rfl) q,⟨o,k _ _ (.inl rfl) e⟩,st⟩
theorem Fx.lt (x:Fx P w H h) (e:H a = some o):a < h.objs.size:=(x a o e).lt
theorem Fx.fresh (x:Fx P w H h) (e:h.objs.size <= a):H a = none:=by
 cases q:H a with
 | none=>rfl
 | some u=>exact absurd (Nat.lt_of_lt_of_le (x.lt q) e) (Nat.lt_irrefl _)
theorem Fx.kept (x:Fx P w H h) (k:∀ b u,h.get? b = some u -> h'.get? b = some u):Fx P w H h':=fun a o e =>
 (x a o e).stay (fun b u _ q=>k b u q) (fun _ q=>q) fun _ _ q=>q
theorem Fx.laid (x:Fx P w H h) (k:∀ b u,h.get? b = some u -> h'.get? b = some u) (hp:h.objs.size <= a) (new:Bw P w (upd H a o) h' a o):Fx P w (upd H a o) h':=fun b u e=>by
 have hn:=x.fresh hp
 by_cases hb:b = a
 ·subst hb; rw [A5] at e; cases e; exact new
 ·rw [Ac hb] at e
  exact (x b u e).stay (fun c v _ q=>k c v q) (fun c q=>by rw [Ac (An q hn)]; exact q) fun c xs q=>by rw [Ac (An q hn)]; exact q
end
def Rd (H:Hp) (a:Addr) (u:HO):Prop:=H a = some u \/ ∃ o,H a = some (.frz o u)
theorem Rd.ok {P:Program} {w:World} {H:Hp} {h:Heap} {a:Addr} {u:HO} (r:Rd H a u) (x:Fx P w H h):Bw P w H h a u:=by
 rcases r with r | ⟨o,r⟩
 ·exact x a u r
 ·obtain ⟨_,q⟩ := x a _ r
  exact q
def ie:Option HO -> Prop
 | some (.lst _)=>True
 | some (.dK _)=>True
 | some (.dT _)=>True
 | some (.set _ _)=>True
 | some (.ins _ _ _)=>True
 | some (.ext _)=>True
 | _=>False
section
variable {P:Program} {w:World} {H:Hp} {h h':Heap} {x e:Addr} {o':HO}
theorem Fx.write (ok : Fx P w H h) (mu : ie (H x)) (he : e = x \/ H e = some (.own x)) (k : ∀ b u, b ≠ e -> h.get? b = some u -> h'.get? b = some u) (heo : ∃ u, h'.get? e = some u)
  (new:Bw P w (upd H x o') h' x o'):Fx P w (upd H x o') h':=fun b u q=>by
 have nown:∀ c y,H c = some (.own y) -> c ≠ x:=fun c y r z=>by subst z; rw [r] at mu; exact mu
 have ntup:∀ c xs,H c = some (.tup xs) -> c ≠ x:=fun c xs r z=>by subst z; rw [r] at mu; exact mu
 by_cases hb:b = x
 ·subst hb; rw [A5] at q; cases q; exact new
 ·rw [Ac hb] at q
  by_cases hbe:b = e
  ·have q' : H b = some (.own x) := by
    rcases he with z | z
    ·exact absurd (hbe.trans z) hb
    ·rw [hbe]; exact z
   rw [q] at q'; cases q'
   obtain ⟨v,hv⟩ := heo
   exact ⟨v,by rw [hbe]; exact hv⟩
  ·refine (ok b u q).stay (fun c v hc r=>k c v ?_ r) (fun c r=>by rw [Ac (nown c b r)]; exact r) fun c xs r=>by rw [Ac (ntup c xs r)]; exact r
   rcases hc with rfl | hc
   ·exact hbe
   ·rintro rfl
    rcases he with z | z
    ·exact nown c b hc z
    ·rw [hc] at z; cases z; exact hb rfl
end
structure Un (fs ex:List Addr) (H H':Hp) (h h':Heap):Prop where
 keep:∀ b o,h.get? b = some o -> H b = none -> b ∉ fs -> b ∉ ex -> h'.get? b = some o
 slot:∀ b o,h.get? b = some o -> H b = none -> b ∈ fs -> b ∉ ex -> ∃ sl,h'.get? b = some { o with slots:=sl }
 free:∀ b o,h.get? b = some o -> H b = none -> b ∉ ex -> H' b = none
 there:∀ b o,h.get? b = some o -> b ∉ ex -> ∃ o',h'.get? b = some o'
 tups:∀ b xs,H b = some (.tup xs) -> H' b = some (.tup xs)
 frzs:∀ b o u,H b = some (.frz o u) -> H' b = some (.frz o u)
 tbls:∀ b ps,H b = some (.tbl ps) -> ∃ more,H' b = some (.tbl (ps ++ more))
section
variable {fs fs' ex ex':List Addr} {H H1 H2:Hp} {h h1 h2 h':Heap} {a x e:Addr} {o:HO}
theorem Un.any (u:Un fs ex H H1 h h1) {b:Addr} {ob:Obj} (q:h.get? b = some ob) (n:H b = none) (hx:b ∉ ex):∃ sl,h1.get? b = some { ob with slots:=sl }:=by
 by_cases hb:b ∈ fs
 ·exact u.slot b ob q n hb hx
 ·exact ⟨ob.slots,u.keep b ob q n hb hx⟩
theorem Un.trans (a:Un fs ex H H1 h h1) (b:Un fs ex H1 H2 h1 h2):Un fs ex H H2 h h2 where
 keep:=fun c ob q n hc hx=>b.keep c ob (a.keep c ob q n hc hx) (a.free c ob q n hx) hc hx
 slot:=fun c ob q n hc hx=>by
  obtain ⟨sl,e1⟩ := a.slot c ob q n hc hx
  obtain ⟨sl',e2⟩ := b.slot c _ e1 (a.free c ob q n hx) hc hx
  exact ⟨sl',e2⟩
 free:=fun c ob q n hx=>by
  obtain ⟨o',e1⟩ := a.there c ob q hx
  exact b.free c o' e1 (a.free c ob q n hx) hx
 there:=fun c ob q hx=>by
  obtain ⟨o',e1⟩ := a.there c ob q hx
  exact b.there c o' e1 hx
 tups:=fun c xs q=>b.tups c xs (a.tups c xs q)
 frzs:=fun c ob xs q=>b.frzs c ob xs (a.frzs c ob xs q)
 tbls:=fun c ps q=>by
  obtain ⟨m1,e1⟩ := a.tbls c ps q
  obtain ⟨m2,e2⟩ := b.tbls c _ e1
  exact ⟨m1 ++ m2,by rw [e2,Array.append_assoc]⟩
theorem Un.kept (k:∀ b u,h.get? b = some u -> h'.get? b = some u):Un fs ex H H h h' :=
 ⟨fun b ob q _ _ _=>k b ob q,fun b ob q _ _ _=>⟨ob.slots,k b ob q⟩,fun _ _ _ n _=>n,fun b ob q _=>⟨ob,k b ob q⟩,fun _ _ q=>q,fun _ _ _ q=>q,fun _ ps q=>⟨#[],by rw [q]; simp⟩⟩
theorem Un.refl:Un fs ex H H h h:=Un.kept fun _ _ q=>q
theorem Un.laid (k:∀ b u,h.get? b = some u -> h'.get? b = some u) (hp:h.objs.size <= a) (hn:H a = none):Un fs ex H (upd H a o) h h' where
 keep:=fun b u q _ _ _=>k b u q
 slot:=fun b u q _ _ _=>⟨u.slots,k b u q⟩
 free:=fun b u q n _=>by rw [Ac (Nat.ne_of_lt (Nat.lt_of_lt_of_le (Heap.lt_size q) hp))]; exact n
 there:=fun b u q _=>⟨u,k b u q⟩
 tups:=fun b xs q=>by rw [Ac (An q hn)]; exact q
 frzs:=fun b u xs q=>by rw [Ac (An q hn)]; exact q
 tbls:=fun b ps q=>⟨#[],by rw [Ac (An q hn),q]; simp⟩
theorem Un.write (mu:ie (H x)) (he:e = x \/ H e = some (.own x)) (k:∀ b u,b ≠ e -> h.get? b = some u -> h'.get? b = some u) (heo:∃ u,h'.get? e = some u):Un fs ex H (upd H x o) h h':=by
 have hx:∀ b,H b = none -> b ≠ x:=fun b n z=>by subst z; rw [n] at mu; exact mu
 have hb:∀ b,H b = none -> b ≠ e:=fun b n z=>by
  subst z
  rcases he with r | r
  ·exact hx b n r
  ·rw [n] at r; cases r
 have hm:∀ b u,H b = some u -> ¬ ie (some u) -> b ≠ x:=fun b u q nm z=>by subst z; rw [q] at mu; exact nm mu
 refine ⟨fun b u q n _ _=>k b u (hb b n) q,fun b u q n _ _=>⟨u.slots,k b u (hb b n) q⟩,fun b u q n _=>by rw [Ac (hx b n)]; exact n,fun b u q _=>?_,
  fun b xs q=>by rw [Ac (hm b _ q fun z=>z)]; exact q,fun b u xs q=>by rw [Ac (hm b _ q fun z=>z)]; exact q,fun b ps q=>⟨#[],by rw [Ac (hm b _ q fun z=>z),q]; simp⟩⟩
 by_cases hbe:b = e
 ·subst hbe; exact heo
 ·exact ⟨u,k b u hbe q⟩
end
def lg (h:Heap) (H:Hp):List Addr:=(List.range h.objs.size).filter fun a=>(H a).isSome
def Pb (h:Heap) (H:Hp):Heap:=PySem.W.hideAll h (lg h H)
theorem V6 (h:Heap) (H:Hp):(Pb h H).objs.size = h.objs.size:=PySem.W.hideAll_size _ _
theorem Y0 {h:Heap} {H:Hp} {b:Addr} {o:Obj} (e:h.get? b = some o) (n:H b = none):(Pb h H).get? b = some o :=
 PySem.W.hideAll_get _ e fun hm=>by
  have q:(H b).isSome = true:=(List.mem_filter.mp hm).2
  rw [n] at q; simp at q
theorem Zv {h:Heap} {H:Hp} {b:Addr} {o:Obj} (e:(Pb h H).get? b = some o):h.get? b = some o /\ H b = none:=by
 have e':h.get? b = some o:=PySem.W.of_hideAll (lg h H) e
 refine ⟨e',?_⟩
 cases q:H b with
 | none=>rfl
 | some x =>
  have hm:b ∈ lg h H:=List.mem_filter.mpr ⟨List.mem_range.mpr (Heap.lt_size e'),by simp [q]⟩
  have z:(Pb h H).get? b = none:=PySem.W.hideAll_none (lg h H) hm
  rw [z] at e; cases e
structure Mod (K:PySem.W.Frag) (mg:Str -> Option Value) (base:Heap):Prop where
 kin:K.In base
 glob:base.Ns mainGlobals mg
 blt:∃ mb,base.Ns builtinsNs mb /\ ∀ x:Str,x ≠ "__name__" -> mb x = bootBuiltins x
 nolimit:base.NoLimit
set_option genInjectivity false in
set_option genSizeOf false in
structure Cx where
 prog:Program
 w:World
 K:PySem.W.Frag
 mg:Str -> Option Value
 base:Heap
 A:Around
 N:List Str
 s₀:Shared
 H₀:Hp
 env:Env
 outer:List Env
 stack:List Env
 ex:List Addr
 fn:Str -> Bool
 calm:Bool
 pn:List (Addr × Obj)
 xe:Value -> Shared -> Prop
def frs (l:List Env):List Addr:=l.filterMap (·.frame)
abbrev Cx.fs (X:Cx):List Addr:=frs X.outer
def mj (sc:Scope) (x:Str):Prop:=sc.names.lookup x = some .local \/ sc.names.lookup x = some .cell \/ sc.names.lookup x = some .free
def lp (sc:Scope) (x:Str):Prop:=sc.names.lookup x = some .local \/ sc.names.lookup x = some .cell
def mw (env:Env) (h:Heap) (m:Str -> Option Value) (x:Str) (u:Value):Prop :=
 (env.kindOf x = some .local /\ m x = some u) \/ ((env.kindOf x = some .cell \/ env.kindOf x = some .free) /\ ∃ c,env.cells.lookup x = some c /\ h.IsCell c (some u))
structure Cx.Ok (X:Cx):Prop where
 mod:Mod X.K X.mg X.base
 kind:X.env.scope.kind = .function
 glob:X.env.globals = mainGlobals
 blt:X.env.builtins = builtinsNs
 above:X.s₀.heap.objs.size <= X.env.locals
 inj:∀ x y c,X.env.cells.lookup x = some c -> X.env.cells.lookup y = some c -> x = y
 has:∀ x,(X.env.kindOf x = some .cell \/ X.env.kindOf x = some .free) -> ∃ c,X.env.cells.lookup x = some c
 cab:∀ x c,X.fn x = true -> X.env.cells.lookup x = some c -> X.s₀.heap.objs.size <= c
 hd:X.calm = true -> X.A.handled = none
 frames:X.A.frames = some X.stack
 stk:X.stack = X.outer \/ (X.stack = X.env :: X.outer /\ X.env.frame = some X.env.locals)
 exf:∀ b ∈ X.ex,b ≠ X.env.locals /\ ∀ x c,X.env.cells.lookup x = some c -> c ≠ b
 bs:∀ b o,X.base.get? b = some o -> X.s₀.heap.get? b = some o /\ X.H₀ b = none
 bsz:X.base.objs.size <= X.s₀.heap.objs.size
 noex:∀ b o,X.base.get? b = some o -> b ∉ X.ex
 exfs:∀ b ∈ X.ex,b ∉ X.fs
 funs:X.s₀.heap.FunFrames X.base X.outer
 frf:∀ b ∈ X.fs,X.H₀ b = none
structure Am (X:Cx) (pins:List (Addr × Obj)) (σ:List (Option V)) (H:Hp) (s:Shared):Prop where
 ok:X.Ok
 os:s.os = X.s₀.os
 bare:AllBare s.gens
 base:Un X.fs X.ex X.H₀ H X.s₀.heap s.heap
 loc:∃ m,s.heap.Ns X.env.locals m /\ ∀ (i:Nat) (x:Str) (v:V),X.N[i]? = some x -> σ[i]? = some (some v) -> mj X.env.scope x -> ∃ u,B6 v u /\ mw X.env s.heap m x u
 cell:∀ x c,X.env.cells.lookup x = some c -> ∃ v,s.heap.IsCell c v
 free:H X.env.locals = none
 freeC:∀ x c,X.env.cells.lookup x = some c -> H c = none
 pin:∀ p ∈ X.pn ++ pins,s.heap.get? p.1 = some p.2 /\ H p.1 = none /\ p.1 ≠ X.env.locals /\ p.1 ∉ X.fs /\ ∀ v,p.2.data ≠ .cell v
 hok:Fx X.prog X.w H s.heap
 len:σ.length = X.N.length
section
variable {X:Cx} {pins:List (Addr × Obj)} {σ:List (Option V)} {H H':Hp} {s:Shared} {h':Heap}
theorem Cx.Ok.nofr (ok:X.Ok) {b:Addr} {o:Obj} (e:X.base.get? b = some o):b ∉ X.fs:=fun hb=>by
 have:=(ok.funs.mem hb).1
 rw [e] at this; cases this
theorem Am.bs (I:Am X pins σ H s):∀ b o,X.base.get? b = some o -> s.heap.get? b = some o /\ H b = none:=fun b o e =>
 ⟨I.base.keep b o (I.ok.bs b o e).1 (I.ok.bs b o e).2 (I.ok.nofr e) (I.ok.noex b o e),I.base.free b o (I.ok.bs b o e).1 (I.ok.bs b o e).2 (I.ok.noex b o e)⟩
theorem Am.bk (I:Am X pins σ H s):∀ b o,X.base.get? b = some o -> s.heap.get? b = some o:=fun b o e=>(I.bs b o e).1
theorem Am.mod (I:Am X pins σ H s):Mod X.K X.mg X.base:=I.ok.mod
theorem Am.kIn (I:Am X pins σ H s):X.K.In s.heap:=I.ok.mod.kin.keeps I.bk
theorem Am.lt (I:Am X pins σ H s):X.env.locals < s.heap.objs.size:=let ⟨_,hn,_⟩ := I.loc; hn.lt
theorem Am.sz (I:Am X pins σ H s):X.s₀.heap.objs.size <= s.heap.objs.size:=Nat.le_trans I.ok.above (Nat.le_of_lt I.lt)
theorem Am.nofs (I:Am X pins σ H s) {a:Addr} (h:s.heap.objs.size <= a):a ∉ X.fs:=fun hb=>by
 obtain ⟨_,o,ho,_⟩ := I.ok.funs.mem hb
 exact absurd (Nat.lt_of_lt_of_le (Heap.lt_size ho) (Nat.le_trans I.sz h)) (Nat.lt_irrefl _)
theorem Am.cne (I:Am X pins σ H s):∀ x c,X.env.cells.lookup x = some c -> c ≠ X.env.locals:=fun x c e z=>by
 obtain ⟨v,o,ho,hd⟩ := I.cell x c e
 obtain ⟨m,⟨o',es,ep,ho',hd',_⟩,_⟩ := I.loc
 rw [z,ho'] at ho; cases ho; rw [hd'] at hd; cases hd
theorem Am.funs (I:Am X pins σ H s):s.heap.FunFrames X.base X.outer:=by
 have all:∀ (l:List Env),(∀ b ∈ frs l,b ∈ X.fs) -> X.s₀.heap.FunFrames X.base l -> s.heap.FunFrames X.base l:=by
  intro l
  induction l with
  | nil=>intro _ _; trivial
  | cons env r ih =>
   intro hs hl
   obtain ⟨hk,⟨L,o,hf,hn,ho,hd⟩,hr⟩ := hl
   have hL:L ∈ X.fs:=hs L (by unfold frs; rw [List.filterMap_cons,hf]; exact List.mem_cons_self)
   obtain ⟨sl,e⟩ := I.base.slot L o ho (I.ok.frf L hL) hL fun z=>I.ok.exfs L z hL
   exact ⟨hk,⟨L,_,hf,hn,e,hd⟩,ih (fun b hb=>hs b (by unfold frs; rw [List.filterMap_cons,hf]; exact List.mem_cons_of_mem _ hb)) hr⟩
 exact all X.outer (fun _ hb=>hb) I.ok.funs
theorem Am.stack (I:Am X pins σ H s):s.heap.FunFrames X.base X.stack:=by
 rcases I.ok.stk with e | ⟨e,hf⟩
 ·rw [e]; exact I.funs
 ·rw [e]
  obtain ⟨m,hn,_⟩ := I.loc
  refine .cons (by rw [I.ok.kind]; decide) hf hn ?_ I.funs
  exact Heap.get?_none_of_le (Nat.le_trans I.ok.bsz I.ok.above)
theorem Am.stkSub (I:Am X pins σ H s):∀ b ∈ frs X.stack,b ∈ X.env.locals :: X.fs:=fun b hb=>by
 rcases I.ok.stk with e | ⟨e,hf⟩
 ·rw [e] at hb; exact List.mem_cons_of_mem _ hb
 ·rw [e] at hb
  unfold frs at hb
  rw [List.filterMap_cons,hf] at hb
  exact hb
theorem Am.stkFree (I:Am X pins σ H s):∀ b ∈ frs X.stack,H b = none:=fun b hb=>by
 rcases List.mem_cons.mp (I.stkSub b hb) with e | hb
 ·rw [e]; exact I.free
 ·obtain ⟨_,o,ho,_⟩ := I.ok.funs.mem hb
  exact I.base.free b o ho (I.ok.frf b hb) fun z=>I.ok.exfs b z hb
theorem Am.step {g' : Array GenState} {t' : Nat} {d' : Drawn} {ch : List Addr} (I : Am X pins σ H s)
  (hch:∀ b ∈ ch,(b ∈ X.ex \/ X.s₀.heap.objs.size <= b) /\ b ≠ X.env.locals /\ (∀ x c,X.env.cells.lookup x = some c -> c ≠ b) /\ ∀ p ∈ X.pn ++ pins,p.1 ≠ b)
  (keep:∀ b o,b ≠ X.env.locals -> b ∉ X.fs -> b ∉ ch -> s.heap.get? b = some o -> H b = none -> h'.get? b = some o)
  (slot:∀ b o,b ≠ X.env.locals -> b ∈ X.fs -> b ∉ ch -> s.heap.get? b = some o -> H b = none -> ∃ sl,h'.get? b = some { o with slots:=sl }) (free:∀ b o,b ∉ ch -> s.heap.get? b = some o -> H b = none -> H' b = none)
  (there:∀ b o,b ∉ ch -> s.heap.get? b = some o -> ∃ o',h'.get? b = some o')
  (tups:∀ b xs,H b = some (.tup xs) -> H' b = some (.tup xs)) (frzs:∀ b o u,H b = some (.frz o u) -> H' b = some (.frz o u)) (tbls:∀ b ps,H b = some (.tbl ps) -> ∃ more,H' b = some (.tbl (ps ++ more)))
  (ns:∀ m,s.heap.Ns X.env.locals m -> h'.Ns X.env.locals m) (hok:Fx X.prog X.w H' h') (hg:AllBare g') :
  Am X pins σ H' { s with heap:=h',gens:=g',drawn:=d',toks:=t' }:=by
 have neL:∀ b o,X.s₀.heap.get? b = some o -> b ≠ X.env.locals:=fun b o e=>Nat.ne_of_lt (Nat.lt_of_lt_of_le (Heap.lt_size e) I.ok.above)
 have neC:∀ b o,X.s₀.heap.get? b = some o -> b ∉ X.ex -> b ∉ ch:=fun b o e hx hb=>by
  rcases (hch b hb).1 with z | z
  ·exact hx z
  ·exact absurd (Nat.lt_of_lt_of_le (Heap.lt_size e) z) (Nat.lt_irrefl _)
 have cellK:∀ x c,X.env.cells.lookup x = some c -> ∀ v,s.heap.IsCell c v -> h'.IsCell c v:=fun x c e v ⟨o,ho,hd⟩=>by
  have nch:c ∉ ch:=fun z=>(hch c z).2.2.1 x c e rfl
  by_cases hc:c ∈ X.fs
  ·obtain ⟨sl,q⟩ := slot c o (I.cne x c e) hc nch ho (I.freeC x c e)
   exact ⟨_,q,hd⟩
  ·exact ⟨o,keep c o (I.cne x c e) hc nch ho (I.freeC x c e),hd⟩
 refine ⟨I.ok,I.os,hg,⟨fun b o e n hb hx=>?_,fun b o e n hb hx=>?_,fun b o e n hx=>?_,fun b o e hx=>?_,fun b xs e=>tups b xs (I.base.tups b xs e),fun b o xs e=>frzs b o xs (I.base.frzs b o xs e),fun b ps e=>?_⟩,?_,fun x c e=>?_,?_,fun x c e=>?_,fun p hp=>?_,hok,I.len⟩
 ·exact keep b o (neL b o e) hb (neC b o e hx) (I.base.keep b o e n hb hx) (I.base.free b o e n hx)
 ·obtain ⟨sl,e1⟩ := I.base.slot b o e n hb hx
  obtain ⟨sl',e2⟩ := slot b _ (neL b o e) hb (neC b o e hx) e1 (I.base.free b o e n hx)
  exact ⟨sl',e2⟩
 ·obtain ⟨o',e1⟩ := I.base.there b o e hx
  exact free b o' (neC b o e hx) e1 (I.base.free b o e n hx)
 ·obtain ⟨o',e1⟩ := I.base.there b o e hx
  exact there b o' (neC b o e hx) e1
 ·obtain ⟨m1,e1⟩ := I.base.tbls b ps e
  obtain ⟨m2,e2⟩ := tbls b _ e1
  exact ⟨m1 ++ m2,by rw [e2,Array.append_assoc]⟩
 ·obtain ⟨m,hn,hl⟩ := I.loc
  refine ⟨m,ns m hn,fun i x v e1 e2 e3=>?_⟩
  obtain ⟨u,r,l⟩ := hl i x v e1 e2 e3
  refine ⟨u,r,?_⟩
  rcases l with l | ⟨k,c,e,z⟩
  ·exact .inl l
  ·exact .inr ⟨k,c,e,cellK x c e _ z⟩
 ·obtain ⟨v,z⟩ := I.cell x c e
  exact ⟨v,cellK x c e v z⟩
 ·obtain ⟨m,⟨o,_,_,ho,_⟩,_⟩ := I.loc
  exact free _ o (fun z=>(hch _ z).2.1 rfl) ho I.free
 ·obtain ⟨v,o,ho,hd⟩ := I.cell x c e
  exact free c o (fun z=>(hch c z).2.2.1 x c e rfl) ho (I.freeC x c e)
 ·obtain ⟨e,n,ne,nf,d⟩ := I.pin p hp
  have nch:p.1 ∉ ch:=fun z=>(hch p.1 z).2.2.2 p hp rfl
  exact ⟨keep p.1 p.2 ne nf nch e n,free p.1 p.2 nch e n,ne,nf,d⟩
theorem Am.un {t':Nat} (I:Am X pins σ H s) (u:Un X.fs [] H H' s.heap h') (hok:Fx X.prog X.w H' h'):Am X pins σ H' { s with heap:=h',toks:=t' }:=by
 obtain ⟨m,⟨o,es,ep,ho,r⟩,_⟩ := id I.loc
 obtain ⟨sl,hL⟩ := u.any ho I.free (by simp)
 exact I.step (g':=s.gens) (d':=s.drawn) (ch:=[]) (fun _ z=>nomatch z) (fun b o _ hb _ e n=>u.keep b o e n hb (by simp)) (fun b o _ hb _ e n=>u.slot b o e n hb (by simp)) (fun b o _ e n=>u.free b o e n (by simp)) (fun b o _ e=>u.there b o e (by simp)) u.tups u.frzs u.tbls (fun m' hm=>by
  obtain ⟨o',es',ep',ho',r'⟩ := hm
  rw [ho] at ho'; cases ho'
  exact ⟨_,es',ep',hL,r'⟩) hok I.bare
theorem Am.call {g' : Array GenState} {t' : Nat} {d' : Drawn} {ch : List Addr} (I : Am X pins σ H s) (u : Un (frs X.stack) ch H H' s.heap h') (hok : Fx X.prog X.w H' h') (hg : AllBare g')
  (hch:∀ b ∈ ch,(b ∈ X.ex \/ X.s₀.heap.objs.size <= b) /\ b ≠ X.env.locals /\ (∀ x c,X.env.cells.lookup x = some c -> c ≠ b) /\ ∀ p ∈ X.pn ++ pins,p.1 ≠ b) :
  Am X pins σ H' { s with heap:=h',gens:=g',drawn:=d',toks:=t' }:=by
 obtain ⟨m,⟨o,es,ep,ho,r⟩,_⟩ := id I.loc
 obtain ⟨sl,hL⟩ := u.any ho I.free fun z=>(hch _ z).2.1 rfl
 exact I.step (ch:=ch) hch (fun b o hL hb hc e n=>u.keep b o e n (fun z=>(List.mem_cons.mp (I.stkSub b z)).elim hL hb) hc) (fun b o _ _ hc e n=>u.any e n hc) (fun b o hc e n=>u.free b o e n hc) (fun b o hc e=>u.there b o e hc) u.tups u.frzs u.tbls (fun m' hm=>by
  obtain ⟨o',es',ep',ho',r'⟩ := hm
  rw [ho] at ho'; cases ho'
  exact ⟨_,es',ep',hL,r'⟩) hok hg
theorem Am.turned {t' : Nat} {it : Addr} (I : Am X pins σ H s) (k : ∀ b o, b ≠ it -> s.heap.get? b = some o -> h'.get? b = some o) (hn : H it = none) (hL : it ≠ X.env.locals)
  (h1:it ∈ X.ex \/ X.s₀.heap.objs.size <= it) (h2:∀ x c,X.env.cells.lookup x = some c -> c ≠ it) (h3:∀ p ∈ X.pn ++ pins,p.1 ≠ it):Am X pins σ H { s with heap:=h',toks:=t' }:=by
 have nit:∀ b u,H b = some u -> b ≠ it:=fun b u e z=>by rw [z,hn] at e; cases e
 refine I.step (g':=s.gens) (d':=s.drawn) (ch:=[it]) (fun b hb=>?_) (fun b o _ _ hc e _=>k b o (fun z=>hc (by simp [z])) e) (fun b o _ _ hc e _=>⟨o.slots,k b o (fun z=>hc (by simp [z])) e⟩) (fun _ _ _ _ n=>n)
  (fun b o hc e=>⟨o,k b o (fun z=>hc (by simp [z])) e⟩) (fun _ _ e=>e) (fun _ _ _ e=>e) (fun b ps e=>⟨#[],by rw [e]; simp⟩) (fun m hm=>?_) (fun b u e=>?_) I.bare
 ·have e:b = it:=by simpa using hb
  subst e
  exact ⟨h1,hL,h2,h3⟩
 ·obtain ⟨o,es,ep,ho,r⟩ := hm
  exact ⟨o,es,ep,k _ o (Ne.symm hL) ho,r⟩
 ·refine (I.hok b u e).stay (fun c v hc q=>k c v ?_ q) (fun _ q=>q) fun _ _ q=>q
  rcases hc with z | z
  ·rw [z]; exact nit b u e
  ·exact nit c _ z
theorem Am.tok (I:Am X pins σ H s) (t:Nat):Am X pins σ H { s with toks:=t }:=I.un (h':=s.heap) (t':=t) Un.refl I.hok
theorem Am.kept {t':Nat} (I:Am X pins σ H s) (k:∀ b u,s.heap.get? b = some u -> h'.get? b = some u):Am X pins σ H { s with heap:=h',toks:=t' }:=I.un (Un.kept k) (I.hok.kept k)
theorem Am.laid {a : Addr} {o : HO} {t' : Nat} (I : Am X pins σ H s) (k : ∀ b u, s.heap.get? b = some u -> h'.get? b = some u) (hp : s.heap.objs.size <= a) (new : Bw X.prog X.w (upd H a o) h' a o) :
  Am X pins σ (upd H a o) { s with heap:=h',toks:=t' }:=I.un (Un.laid k hp (I.hok.fresh hp)) (I.hok.laid k hp new)
theorem Am.write {x e : Addr} {o : HO} {t' : Nat} (I : Am X pins σ H s) (mu : ie (H x)) (he : e = x \/ H e = some (.own x)) (k : ∀ b u, b ≠ e -> s.heap.get? b = some u -> h'.get? b = some u) (heo : ∃ u, h'.get? e = some u)
  (new:Bw X.prog X.w (upd H x o) h' x o):Am X pins σ (upd H x o) { s with heap:=h',toks:=t' }:=I.un (Un.write mu he k heo) (I.hok.write mu he k heo new)
theorem Am.weak {σ':List (Option V)} (I:Am X pins σ H s) (hl:σ'.length = σ.length) (w:∀ (i:Nat) v,σ'[i]? = some (some v) -> σ[i]? = some (some v)):Am X pins σ' H s :=
 ⟨I.ok,I.os,I.bare,I.base,let ⟨m,hn,hl'⟩ := I.loc; ⟨m,hn,fun i x v e1 e2 e3=>hl' i x v e1 (w i v e2) e3⟩,I.cell,I.free,I.freeC,I.pin,I.hok,hl.trans I.len⟩
theorem Am.pins_of {pins':List (Addr × Obj)} (I:Am X pins σ H s) (h:∀ p ∈ pins',s.heap.get? p.1 = some p.2 /\ H p.1 = none /\ p.1 ≠ X.env.locals /\ p.1 ∉ X.fs /\ ∀ v,p.2.data ≠ .cell v):Am X pins' σ H s :=
 ⟨I.ok,I.os,I.bare,I.base,I.loc,I.cell,I.free,I.freeC,fun p hp=>(List.mem_append.mp hp).elim (fun z=>I.pin p (List.mem_append_left _ z)) (h p),I.hok,I.len⟩
theorem Qq {N:List Str} (hN:N.Nodup) {i j:Nat} {x:Str} (a:N[i]? = some x) (b:N[j]? = some x):i = j:=by
 obtain ⟨h1,e1⟩ := List.getElem?_eq_some_iff.mp a
 obtain ⟨h2,e2⟩ := List.getElem?_eq_some_iff.mp b
 exact (List.getElem_inj hN).mp (e1.trans e2.symm)
theorem O6 {M : Model} {A : Around} {E : Value -> Shared -> Prop} {i : Nat} {x : Str} {v : V} {u : Value} {Q : Unit -> Shared -> Prop} (I : Am X pins σ H s) (hN : X.N.Nodup) (hi : X.N[i]? = some x) (hx : lp X.env.scope x) (r : B6 v u)
  (h:∀ s',Am X pins (σ.set i (some v)) H s' -> (∃ a,Heap.SameBut a s.heap s'.heap /\ (a = X.env.locals \/ X.env.cells.lookup x = some a)) -> Q () s') (hf:X.fn x = true \/ X.env.scope.names.lookup x = some .local:=by first | exact .inl rfl | exact .inr rfl | assumption):wpAny M A (storeName X.env x u) Q E s:=by
 obtain ⟨m,hn,hl⟩ := id I.loc
 have hcls:(X.env.scope.kind == .class || (X.env.scope.kind == .module && X.env.locals != X.env.globals)) = false:=by rw [I.ok.kind]; rfl
 have hiσ:i < σ.length:=by rw [I.len]; exact (List.getElem?_eq_some_iff.mp hi).1
 have cne:=I.cne
 have tracked:∀ {a:Addr} {h':Heap},(∃ o,s.heap.get? a = some o /\ H a = none) -> Heap.SameBut a s.heap h' -> Fx X.prog X.w H h':=fun {a h'} ha hs b ob e=>by
  obtain ⟨_,_,hfree⟩ := ha
  refine (I.hok b ob e).stay (fun c w' hc q=>(hs.2 c ?_).trans q) (fun _ q=>q) fun _ _ q=>q
  rintro rfl
  rcases hc with rfl | hc
  ·rw [hfree] at e; cases e
  ·rw [hfree] at hc; cases hc
 rcases hx with hk | hk
 ·refine wpAny_storeName_local hk hn (fun h' hn' hs=>?_) hcls
  obtain ⟨oL,_,_,hoL,_⟩ := id hn
  refine h _ ⟨I.ok,I.os,I.bare,⟨fun b o e n hb hx=>?_,fun b o e n hb hx=>?_,I.base.free,fun b o e hx=>?_,I.base.tups,I.base.frzs,I.base.tbls⟩,⟨_,hn',fun j y v' e1 e2 e3=>?_⟩,fun y c e=>?_,I.free,I.freeC,fun p hp=>?_,tracked ⟨oL,hoL,I.free⟩ hs,by simpa using I.len⟩ ⟨_,hs,.inl rfl⟩
  ·exact (hs.2 b (Nat.ne_of_lt (Nat.lt_of_lt_of_le (Heap.lt_size e) I.ok.above))).trans (I.base.keep b o e n hb hx)
  ·obtain ⟨sl,e1⟩ := I.base.slot b o e n hb hx
   exact ⟨sl,(hs.2 b (Nat.ne_of_lt (Nat.lt_of_lt_of_le (Heap.lt_size e) I.ok.above))).trans e1⟩
  ·obtain ⟨o',e1⟩ := I.base.there b o e hx
   exact ⟨o',(hs.2 b (Nat.ne_of_lt (Nat.lt_of_lt_of_le (Heap.lt_size e) I.ok.above))).trans e1⟩
  ·by_cases hj:j = i
   ·subst hj
    rw [hi] at e1; cases e1
    rw [List.getElem?_set_self hiσ] at e2
    cases e2
    exact ⟨u,r,.inl ⟨hk,by simp⟩⟩
   ·rw [List.getElem?_set_ne (Ne.symm hj)] at e2
    obtain ⟨u',r',q⟩ := hl j y v' e1 e2 e3
    refine ⟨u',r',?_⟩
    rcases q with ⟨k,e⟩ | ⟨k,c,e,z⟩
    ·refine .inl ⟨k,?_⟩
     have:y ≠ x:=fun e=>hj (Qq hN e1 (e ▸ hi))
     simp [this,e]
    ·exact .inr ⟨k,c,e,z.sameBut hs (cne y c e)⟩
  ·obtain ⟨w',z⟩ := I.cell y c e
   exact ⟨w',z.sameBut hs (cne y c e)⟩
  ·obtain ⟨e,n,ne,nf,d⟩ := I.pin p hp
   exact ⟨(hs.2 p.1 ne).trans e,n,ne,nf,d⟩
 ·have hfn : X.fn x = true := by
   rcases hf with z | z
   ·exact z
   ·rw [z] at hk; cases hk
  obtain ⟨c,hc⟩ := I.ok.has x (.inl hk)
  obtain ⟨w',z⟩ := I.cell x c hc
  refine wpAny_storeName_cell I.ok.kind hk hc z (fun h' hc' hs=>?_)
  obtain ⟨oc,hoc,hocd⟩ := id z
  refine h { s with heap:=h' } ⟨I.ok,I.os,I.bare,⟨fun b o e n hb hx=>?_,fun b o e n hb hx=>?_,I.base.free,fun b o e hx=>?_,I.base.tups,I.base.frzs,I.base.tbls⟩,⟨m,hn.sameBut hs (Ne.symm (cne x c hc)),fun j y v' e1 e2 e3=>?_⟩,fun y c' e=>?_,I.free,I.freeC,fun p hp=>?_,tracked ⟨oc,hoc,I.freeC x c hc⟩ hs,by simpa using I.len⟩ ⟨c,hs,.inr hc⟩
  ·exact (hs.2 b (Nat.ne_of_lt (Nat.lt_of_lt_of_le (Heap.lt_size e) (I.ok.cab x c hfn hc)))).trans (I.base.keep b o e n hb hx)
  ·obtain ⟨sl,e1⟩ := I.base.slot b o e n hb hx
   exact ⟨sl,(hs.2 b (Nat.ne_of_lt (Nat.lt_of_lt_of_le (Heap.lt_size e) (I.ok.cab x c hfn hc)))).trans e1⟩
  ·obtain ⟨o',e1⟩ := I.base.there b o e hx
   exact ⟨o',(hs.2 b (Nat.ne_of_lt (Nat.lt_of_lt_of_le (Heap.lt_size e) (I.ok.cab x c hfn hc)))).trans e1⟩
  ·by_cases hj:j = i
   ·subst hj
    rw [hi] at e1; cases e1
    rw [List.getElem?_set_self hiσ] at e2
    cases e2
    exact ⟨u,r,.inr ⟨.inl hk,c,hc,hc'⟩⟩
   ·rw [List.getElem?_set_ne (Ne.symm hj)] at e2
    obtain ⟨u',r',q⟩ := hl j y v' e1 e2 e3
    refine ⟨u',r',?_⟩
    rcases q with q | ⟨k,c',e,z'⟩
    ·exact .inl q
    ·refine .inr ⟨k,c',e,z'.sameBut hs ?_⟩
     rintro rfl
     exact hj (Qq hN e1 (I.ok.inj _ _ _ e hc ▸ hi))
  ·by_cases hcc:c' = c
   ·subst hcc; exact ⟨_,hc'⟩
   ·obtain ⟨w2,z2⟩ := I.cell y c' e
    exact ⟨w2,z2.sameBut hs hcc⟩
  ·obtain ⟨e,n,ne,nf,d⟩ := I.pin p hp
   refine ⟨(hs.2 p.1 ?_).trans e,n,ne,nf,d⟩
   intro q
   rw [q,hoc] at e
   have q':oc = p.2:=Option.some.inj e
   exact d w' (by rw [<- q']; exact hocd)
theorem Pm {M : Model} {A : Around} {E : Value -> Shared -> Prop} {i : Nat} {x : Str} {v : V} {u : Value} {Q : Unit -> Shared -> Prop} (I : Am X pins σ H s) (hN : X.N.Nodup) (hi : X.N[i]? = some x) (hx : lp X.env.scope x) (r : B6 v u)
  (h:∀ s',Am X pins (σ.set i (some v)) H s' -> Q () s') (hf:X.fn x = true \/ X.env.scope.names.lookup x = some .local:=by first | exact .inl rfl | exact .inr rfl | assumption):wpAny M A (storeName X.env x u) Q E s :=
 O6 I hN hi hx r (fun s' I' _=>h s' I') hf
theorem Am.call' {s' : Shared} {ch : List Addr} (I : Am X pins σ H s) (ho : s'.os = s.os) (u : Un (frs X.stack) ch H H' s.heap s'.heap) (hok : Fx X.prog X.w H' s'.heap) (hg : AllBare s'.gens)
  (hch:∀ b ∈ ch,(b ∈ X.ex \/ X.s₀.heap.objs.size <= b) /\ b ≠ X.env.locals /\ (∀ x c,X.env.cells.lookup x = some c -> c ≠ b) /\ ∀ p ∈ X.pn ++ pins,p.1 ≠ b):Am X pins σ H' s':=by
 obtain ⟨h',g',d',t',o'⟩ := s'
 have e:o' = s.os:=ho
 subst e
 exact I.call (g':=g') (t':=t') (d':=d') u hok hg hch
end
abbrev XK:=Value -> Option Addr -> Hp -> Prop
abbrev St:=List (Option V)
abbrev VK:=V -> Hp -> Prop
abbrev TE:=St -> Hp -> VK -> Prop
abbrev TT:=St -> Hp -> (Bool -> Hp -> Prop) -> Prop
abbrev TA:=St -> Hp -> (List V -> Hp -> Prop) -> Prop
set_option genInjectivity false in
set_option genSizeOf false in
structure Gz where
 nx:St -> Hp -> Prop
 rt:VK
 bk:St -> Hp -> Prop:=fun _ _=>False
 ct:St -> Hp -> Prop:=fun _ _=>False
abbrev TS:=Gz -> St -> Hp -> Prop
def EP (X:Cx) (pins:List (Addr × Obj)) (σ:St) (Q:VK) (u:Value) (s':Shared):Prop := ∃ v H',Am X pins σ H' s' /\ B6 v u /\ Q v H'
def TP (X:Cx) (pins:List (Addr × Obj)) (σ:St) (Q:Bool -> Hp -> Prop) (b:Bool) (s':Shared):Prop := ∃ H',Am X pins σ H' s' /\ Q b H'
def AP (X:Cx) (pins:List (Addr × Obj)) (σ:St) (Q:List V -> Hp -> Prop) (us:List Value) (s':Shared):Prop := ∃ vs H',Am X pins σ H' s' /\ B7 vs us /\ Q vs H'
def SP (X:Cx) (pins:List (Addr × Obj)) (D:Gz) (f:Flow) (s':Shared):Prop :=
 match f with
 | .next=>∃ σ' H',Am X pins σ' H' s' /\ D.nx σ' H'
 | .brk=>∃ σ' H',Am X pins σ' H' s' /\ D.bk σ' H'
 | .cont=>∃ σ' H',Am X pins σ' H' s' /\ D.ct σ' H'
 | .ret u=>∃ v σ' H',Am X pins σ' H' s' /\ B6 v u /\ D.rt v H'
def PE (X:Cx) (e:Expr) (t:TE):Prop :=
 ∀ (pins:List (Addr × Obj)) (s:Shared) (σ:St) (H:Hp) (Q:VK),Am X pins σ H s -> t σ H Q -> wpAny (model X.prog X.w) X.A (eval e X.env) (EP X pins σ Q) X.xe s
def PT (X:Cx) (e:Expr) (t:TT):Prop :=
 ∀ (pins:List (Addr × Obj)) (s:Shared) (σ:St) (H:Hp) (Q:Bool -> Hp -> Prop),Am X pins σ H s -> t σ H Q -> wpAny (model X.prog X.w) X.A (isTrue e X.env (eval e X.env)) (TP X pins σ Q) X.xe s
def PW (X:Cx) (e:Expr) (t:TT):Prop :=
 ∀ (whole:Sem Value) (pins:List (Addr × Obj)) (s:Shared) (σ:St) (H:Hp) (Q:Bool -> Hp -> Prop),Am X pins σ H s -> t σ H Q -> wpAny (model X.prog X.w) X.A (isTrue e X.env whole) (TP X pins σ Q) X.xe s
theorem PW.pt {X:Cx} {e:Expr} {t:TT} (h:PW X e t):PT X e t:=h _
def PA (X:Cx) (es:List Expr) (t:TA):Prop :=
 ∀ (pos:Pos) (pins:List (Addr × Obj)) (s:Shared) (σ:St) (H:Hp) (Q:List V -> Hp -> Prop),Am X pins σ H s -> t σ H Q -> wpAny (model X.prog X.w) X.A (spliced (backTo pos (starEach es X.env))) (AP X pins σ Q) X.xe s
def PS (X:Cx) (st:Stmt) (t:TS):Prop :=
 ∀ (pins:List (Addr × Obj)) (s:Shared) (σ:St) (H:Hp) (D:Gz),Am X pins σ H s -> t D σ H -> wpAny (model X.prog X.w) X.A (exec st X.env) (SP X pins D) X.xe s
def Rk (X:Cx) (st:List Stmt) (t:TS):Prop :=
 ∀ (pins:List (Addr × Obj)) (s:Shared) (σ:St) (H:Hp) (D:Gz),Am X pins σ H s -> t D σ H -> wpAny (model X.prog X.w) X.A (execs st X.env) (SP X pins D) X.xe s
theorem Cf {α:Type} {t:Sem α} {Q Q':α -> Shared -> Prop} {M:Model} {A:Around} {E:Value -> Shared -> Prop} {s:Shared} (h:wpAny M A t Q E s) (hQ:∀ a s,Q a s -> Q' a s):wpAny M A t Q' E s:=wpAny_mono h hQ fun _ _ x=>x
section
variable {X:Cx}
def j5 (i:Nat):TE:=fun σ H Q=>∃ v,σ[i]? = some (some v) /\ Q v H
def tC (v:V):TE:=fun _ H Q=>Q v H
theorem cw {i:Nat} {x:Str} {pos:Pos} (hN:X.N[i]? = some x) (hv:mj X.env.scope x) (hd:(x == ("__debug__" : Str)) = false:=by decide) (hcd:(x == ("__classdict__" : Str)) = false:=by decide):PE X (.Name x pos) (j5 i):=by
 intro pins s σ H Q I h
 obtain ⟨v,e,h⟩ := h
 obtain ⟨m,hn,hl⟩ := I.loc
 obtain ⟨u,r,l⟩ := hl i x v hN e hv
 have fin:EP X pins σ Q u s:=⟨v,H,I,r,h⟩
 rcases l with ⟨hk,hm⟩ | ⟨hk,c,hc,hcell⟩
 ·exact wpAny_Name (wpAny_loadName_local I.ok.kind hk hn hm fin) hd
 ·rcases hk with hk | hk
  ·exact wpAny_Name (wpAny_loadName_cell I.ok.kind hk hc hcell fin) hd
  ·exact wpAny_Name (wpAny_loadName_free I.ok.kind hk hc hcell fin hcd) hd
theorem A9 {i j pos}:PE X (.Constant (.int i) j pos) (tC (.int i)):=fun _ _ _ H _ I h=>wpAny_Constant_int ⟨.int i,H,I.tok _,⟨_,rfl⟩,h⟩
theorem Cr {b j pos}:PE X (.Constant (.bool b) j pos) (tC (.bl b)):=fun _ _ _ H _ I h=>Constant_bool ⟨.bl b,H,I,rfl,h⟩
theorem D7 {j pos}:PE X (.Constant .none j pos) (tC .non):=fun _ _ _ H _ I h=>Constant_none ⟨.non,H,I,rfl,h⟩
def Gl (X:Cx) (x:Str):Prop:=X.env.kindOf x = some .globalImplicit
theorem Ub {E : Value -> Shared -> Prop} {pins : List (Addr × Obj)} {s : Shared} {σ : St} {H : Hp} {x : Str} {u : Value} {pos : Pos} {Q : Value -> Shared -> Prop} (I : Am X pins σ H s) (hg : Gl X x) (hm : X.mg x = some u) (h : Q u s)
  (hd:(x == ("__debug__" : Str)) = false:=by decide):wpAny (model X.prog X.w) X.A (eval (.Name x pos) X.env) Q E s :=
 Calls.Name_function_global I.ok.kind hg (Calls.loadGlobal_global (by rw [I.ok.glob]; exact I.mod.glob.keeps I.bk) hm h) hd
theorem Jc {E : Value -> Shared -> Prop} {pins : List (Addr × Obj)} {s : Shared} {σ : St} {H : Hp} {x : Str} {u : Value} {pos : Pos} {Q : Value -> Shared -> Prop} (I : Am X pins σ H s) (hg : Gl X x) (hm : X.mg x = none) (hv : bootBuiltins x = some u) (h : Q u s)
  (hn:x ≠ "__name__" := by decide) (hd:(x == ("__debug__" : Str)) = false:=by decide):wpAny (model X.prog X.w) X.A (eval (.Name x pos) X.env) Q E s:=by
 obtain ⟨mb,h1,h2⟩ := I.mod.blt
 exact Calls.Name_function_global I.ok.kind hg (Calls.loadGlobal_builtin (by rw [I.ok.glob]; exact I.mod.glob.keeps I.bk) hm (by rw [I.ok.blt]; exact h1.keeps I.bk) ((h2 x hn).trans hv) h) hd
theorem Zb {x:Str} {v:V} {u:Value} {pos:Pos} (hg:Gl X x) (hm:X.mg x = some u) (r:B6 v u) (hd:(x == ("__debug__" : Str)) = false:=by decide):PE X (.Name x pos) (tC v) :=
 fun _ _ _ H _ I h=>Ub I hg hm ⟨v,H,I,r,h⟩ hd
theorem Zw {x:Str} {v:V} {u:Value} {pos:Pos} (hg:Gl X x) (hm:X.mg x = none) (hv:bootBuiltins x = some u) (r:B6 v u) (hn:x ≠ "__name__" := by decide) (hd:(x == ("__debug__" : Str)) = false:=by decide):PE X (.Name x pos) (tC v) :=
 fun _ _ _ H _ I h=>Jc I hg hm hv ⟨v,H,I,r,h⟩ hn hd
variable {a b:Expr} {ta tb:TE} {pos:Pos}
def PC (X:Cx) (op:CmpOp) (a b:Expr) (t:TE):Prop :=
 ∀ (pins:List (Addr × Obj)) (s:Shared) (σ:St) (H:Hp) (Q:VK),Am X pins σ H s -> t σ H Q ->
  wpAny (model X.prog X.w) X.A (eval a X.env) (fun v s₁=>wpAny (model X.prog X.w) X.A (eval b X.env) (fun u s₂=>wpAny (model X.prog X.w) X.A (compareOp op v u) (EP X pins σ Q) X.xe s₂) X.xe s₁) X.xe s
def tB (t:TE):TT:=fun σ H Q=>t σ H fun x H1=>∃ c,x = .bl c /\ Q c H1
theorem Ho {op:CmpOp} {t:TE} (h:PC X op a b t) (h1:behindInMarks op b = false:=by first | exact nobehind _ (by decide) (by decide) | rfl):PT X (.Compare a [op] [b] pos) (tB t):=by
 intro pins s σ H Q I hw
 refine wpAny_isTrue_Compare1 (Cf (h pins s σ H _ I hw) fun v s1 h1=>Cf h1 fun u s2 h2=>Cf h2 fun c s3 ⟨x,H1,I1,r1,q1⟩=>?_) h1
 obtain ⟨d,rfl,q⟩ := q1
 cases r1
 exact wpAny_truthy_bool ⟨H1,I1,q⟩
theorem Dl {e:Expr} {t:TE} (h:PE X e t) (he:∀ whole,isTrue e X.env whole = (do let v <- whole; standAt e.pos; holding [v] (truthy v)):=by intro _; rfl):PT X e (tB t):=by
 intro pins s σ H Q I hw
 refine isTrue_plain (Cf (h pins s σ H _ I hw) fun v s1 ⟨x,H1,I1,r1,q1⟩=>?_) (he _)
 obtain ⟨d,rfl,q⟩ := q1
 cases r1
 exact wpAny_truthy_bool ⟨H1,I1,q⟩
variable {tA tB':TT} {rest:List Expr}
def o9 (t:TT):TT:=fun σ H Q=>t σ H fun c H1=>Q (!c) H1
theorem Go (ha:PT X a tA):PW X (.BoolOp .And [a] pos) tA:=by
 intro wh pins s σ H Q I h
 refine isTrue_and (Cf (ha pins s σ H Q I h) fun c s1 e=>?_)
 cases c with
 | true=>exact isTrue_and_nil e
 | false=>exact e
theorem Hq (ha:PT X a tA):PW X (.BoolOp .Or [a] pos) tA:=by
 intro wh pins s σ H Q I h
 refine isTrue_or (Cf (ha pins s σ H Q I h) fun c s1 e=>?_)
 cases c with
 | false=>exact isTrue_or_nil e
 | true=>exact e
theorem E3 (ha:PT X a tA):PT X (.UnaryOp .Not a pos) (o9 tA):=by
 intro pins s σ H Q I h
 exact isTrue_not (ha pins s σ H (fun c H1=>Q (!c) H1) I h)
def ji (ta:TE):TE:=fun σ H Q=>ta σ H fun x H1=>∃ c,x = .bl c /\ Q (.bl (!c)) H1
theorem On {op} {t:TE} (h:PE X a t):PE X (.BoolOp op [a] pos) t:=fun pins s σ H Q I hw=>BoolOp_one (h pins s σ H Q I hw)
theorem bw (ha:PE X a ta):PE X (.UnaryOp .Not a pos) (ji ta):=by
 intro pins s σ H Q I h
 refine UnaryOp_ (Cf (ha pins s σ H _ I h) fun v s1 hz0=>?_)
 obtain ⟨x,H1,I1,r1,q1⟩ := hz0
 obtain ⟨c,rfl,q1⟩ := q1
 cases r1
 exact not_of (wpAny_truthy_bool ⟨.bl (!c),H1,I1,rfl,q1⟩)
def r6 (t:TT) (ta tb:TE):TE:=fun σ H Q=>t σ H fun c H1=>if c = true then ta σ H1 Q else tb σ H1 Q
theorem Wu {c:Expr} (hc:PT X c tA) (ha:PE X a ta) (hb:PE X b tb):PE X (.IfExp c a b pos) (r6 tA ta tb):=by
 intro pins s σ H Q I h
 refine wpAny_IfExp (Cf (hc pins s σ H _ I h) fun d s1 hz0=>?_)
 obtain ⟨H1,I1,q1⟩ := hz0
 cases d with
 | true=>exact ha pins s1 σ H1 Q I1 q1
 | false=>exact hb pins s1 σ H1 Q I1 q1
end
def B9 (K:PySem.W.Frag) (H:Hp) (a:Addr) (xs:List V):Prop :=
 Rd H a (.lst xs) \/
  ∃ (o:Obj) (its:Array Value) (n:Nat),K.lookup a = some o /\ o.cls = .type "list" /\ o.dict = none /\ o.data = .seq its n /\ its.size <= sizeLine /\ B7 xs its.toList
def Br (K:PySem.W.Frag) (H:Hp) (a:Addr) (xs:List V):Prop :=
 Rd H a (.tup xs) \/
  ∃ (o:Obj) (its:Array Value) (n:Nat),K.lookup a = some o /\ o.cls = .type "tuple" /\ o.data = .seq its n /\ its.size <= sizeLine /\ B7 xs its.toList
def mf:Value -> Option V
 | .none=>some .non
 | .bool b=>some (.bl b)
 | .int i _=>some (.int i)
 | .str x _=>some (.str x)
 | .bytes b _=>some (.byt b)
 | .float b _=>some (.flt b)
 | .ref a=>some (.ref a)
 | .type n=>some (.ty n)
 | _=>none
theorem B6.abs {x:V} {u:Value} (r:B6 x u):mf u = some x:=by
 cases x with
 | non=>cases r; rfl
 | bl _=>cases r; rfl
 | int _=>obtain ⟨t,rfl⟩ := r; rfl
 | str _=>obtain ⟨t,rfl⟩ := r; rfl
 | byt _=>obtain ⟨t,rfl⟩ := r; rfl
 | flt _=>obtain ⟨t,rfl⟩ := r; rfl
 | ref _=>cases r; rfl
 | ty _=>cases r; rfl
theorem B6.inj {x y:V} {u:Value} (r:B6 x u) (q:B6 y u):x = y:=Option.some.inj (r.abs.symm.trans q.abs)
theorem B7.inj {xs ys:List V} {us:List Value} (h:B7 xs us) (g:B7 ys us):xs = ys:=by
 induction h generalizing ys with
 | nil =>
  cases g
  rfl
 | cons r t ih =>
  cases g with
  | cons r' t'=>rw [r.inj r',ih t']
section
variable {X:Cx} {pins:List (Addr × Obj)} {σ:St} {H:Hp} {s:Shared} {a:Addr} {xs ys:List V}
theorem B9.of {K:PySem.W.Frag} (h:H a = some (.lst xs)):B9 K H a xs := .inl (.inl h)
theorem Br.of {K:PySem.W.Frag} (h:H a = some (.tup xs)):Br K H a xs := .inl (.inl h)
theorem Am.list (I:Am X pins σ H s) (h:B9 X.K H a xs):∃ its:List Value,B7 xs its /\ PlainL s.heap a its.toArray /\ xs.length <= sizeLine:=by
 rcases h with h | ⟨o,its,n,hk,hc,hd,hs,hz,r⟩
 ·obtain ⟨z,its,n,r,e⟩ := h.ok I.hok
  exact ⟨its,r,⟨_,n,e,rfl,rfl,rfl⟩,z⟩
 ·refine ⟨its.toList,r,⟨o,n,I.kIn a o hk,hc,hd,by simpa using hs⟩,?_⟩
  have e:=r.length
  simp only [Array.length_toList] at e
  omega
theorem Am.tuple (I:Am X pins σ H s) (h:Br X.K H a xs):∃ its:List Value,B7 xs its /\ IsTup s.heap a its.toArray /\ xs.length <= sizeLine:=by
 rcases h with h | ⟨o,its,n,hk,hc,hs,hz,r⟩
 ·obtain ⟨z,its,r,p⟩ := h.ok I.hok
  exact ⟨its,r,p,z.1⟩
 ·refine ⟨its.toList,r,⟨o,I.kIn a o hk,hc,n,by simpa using hs⟩,?_⟩
  have e:=r.length
  simp only [Array.length_toList] at e
  omega
theorem Am.list_inj (I:Am X pins σ H s) (h:B9 X.K H a xs) (h':B9 X.K H a ys):xs = ys:=by
 obtain ⟨its,r,⟨o,n,e,_,_,d⟩,_⟩ := I.list h
 obtain ⟨its',r',⟨o',n',e',_,_,d'⟩,_⟩ := I.list h'
 rw [e] at e'; cases e'
 rw [d] at d'
 injection d' with d1 _
 have:its = its':=by simpa using congrArg Array.toList d1
 subst this
 exact r.inj r'
theorem Am.tuple_inj (I:Am X pins σ H s) (h:Br X.K H a xs) (h':Br X.K H a ys):xs = ys:=by
 obtain ⟨its,r,⟨o,e,_,n,d⟩,_⟩ := I.tuple h
 obtain ⟨its',r',⟨o',e',_,n',d'⟩,_⟩ := I.tuple h'
 rw [e] at e'; cases e'
 rw [d] at d'
 injection d' with d1 _
 have:its = its':=by simpa using congrArg Array.toList d1
 subst this
 exact r.inj r'
end
abbrev Cx.wish (X:Cx) (E:Value -> Shared -> Prop):Cx:={ X with xe:=E }
abbrev Cx.nox (X:Cx):Cx:=X.wish fun _ _=>False
theorem Cx.Ok.wish {X:Cx} (ok:X.Ok) (E:Value -> Shared -> Prop):(X.wish E).Ok :=
 ⟨ok.mod,ok.kind,ok.glob,ok.blt,ok.above,ok.inj,ok.has,ok.cab,ok.hd,ok.frames,ok.stk,ok.exf,ok.bs,ok.bsz,ok.noex,ok.exfs,ok.funs,ok.frf⟩
theorem Cx.Ok.unwish {X:Cx} {E:Value -> Shared -> Prop} (ok:(X.wish E).Ok):X.Ok :=
 ⟨ok.mod,ok.kind,ok.glob,ok.blt,ok.above,ok.inj,ok.has,ok.cab,ok.hd,ok.frames,ok.stk,ok.exf,ok.bs,ok.bsz,ok.noex,ok.exfs,ok.funs,ok.frf⟩
section
variable {X:Cx} {pins:List (Addr × Obj)} {σ:St} {H:Hp} {s:Shared} {E:Value -> Shared -> Prop}
theorem Am.wish (I:Am X pins σ H s) (E:Value -> Shared -> Prop):Am (X.wish E) pins σ H s:=⟨I.ok.wish E,I.os,I.bare,I.base,I.loc,I.cell,I.free,I.freeC,I.pin,I.hok,I.len⟩
theorem Am.unwish (I:Am (X.wish E) pins σ H s):Am X pins σ H s:=⟨I.ok.unwish,I.os,I.bare,I.base,I.loc,I.cell,I.free,I.freeC,I.pin,I.hok,I.len⟩
theorem SP.unwish {D:Gz} {f:Flow} {s':Shared} (h:SP (X.wish E) pins D f s'):SP X pins D f s':=by
 cases f with
 | next=>obtain ⟨σ',H',I,q⟩ := h; exact ⟨σ',H',I.unwish,q⟩
 | brk=>obtain ⟨σ',H',I,q⟩ := h; exact ⟨σ',H',I.unwish,q⟩
 | cont=>obtain ⟨σ',H',I,q⟩ := h; exact ⟨σ',H',I.unwish,q⟩
 | ret u=>obtain ⟨v,σ',H',I,r,q⟩ := h; exact ⟨v,σ',H',I.unwish,r,q⟩
theorem Rk.nox {st:List Stmt} {t:TS} (h:Rk X.nox st t):Rk X st t:=fun pins s σ H D I hw =>
 wpAny_mono (h pins s σ H D (I.wish _) hw) (fun _ _ q=>q.unwish) fun _ _ z=>False.elim z
end
section
variable {X:Cx} {st:Stmt} {rest:List Stmt} {t u:TS} {e:Expr} {te:TE} {pos:Pos}
def kq:TS:=fun D σ H=>D.nx σ H
def kd (t u:TS):TS:=fun D σ H=>t { D with nx:=u D } σ H
theorem Ak:Rk X [] kq:=fun _ _ σ H _ I h=>wpAny_execs_nil ⟨σ,H,I,h⟩
theorem A6 (h1:PS X st t) (h2:Rk X rest u):Rk X (st :: rest) (kd t u):=by
 intro pins s σ H D I h
 refine wpAny_execs_cons (Cf (h1 pins s σ H { D with nx:=u D } I h) fun f s1 q=>?_)
 cases f with
 | next =>
  obtain ⟨σ',H',I',q⟩ := q
  exact h2 pins s1 σ' H' D I' q
 | ret v=>exact q
 | brk=>exact q
 | cont=>exact q
theorem Ab (h1:PS X st t):Rk X [st] t:=by
 intro pins s σ H D I h
 refine wpAny_execs_cons (Cf (h1 pins s σ H D I h) fun f s1 q=>?_)
 cases f with
 | next=>exact wpAny_execs_nil q
 | ret v=>exact q
 | brk=>exact q
 | cont=>exact q
theorem Am.quiet {pins:List (Addr × Obj)} {σ:St} {H:Hp} {s:Shared} (I:Am X pins σ H s):interactive X.env = false:=by simp [interactive,I.ok.kind]
def ip (te:TE):TS:=fun D σ H=>te σ H fun _ H1=>D.nx σ H1
theorem Db (he:PE X e te) (hs:swapsWith e none pos.line X.env = pure false:=by rfl):PS X (.Expr e pos) (ip te):=by
 intro pins s σ H D I h
 exact wpAny_Expr_any (Cf (he pins s σ H _ I h) fun v s1 ⟨x,H1,I1,r1,q1⟩=>⟨σ,H1,I1,q1⟩) I.quiet hs
def mq (te:TE):TS:=fun D σ H=>te σ H D.rt
theorem Ad (he:PE X e te):PS X (.Return (some e) pos) (mq te):=by
 intro pins s σ H D I h
 exact wpAny_Return_some (Cf (he pins s σ H _ I h) fun v s1 ⟨x,H1,I1,r1,q1⟩=>⟨x,σ,H1,I1,r1,q1⟩)
def m9 (c:TT) (t u:TS):TS:=fun D σ H=>c σ H fun b H1=>if b = true then t D σ H1 else u D σ H1
theorem Bp {c:Expr} {a b:List Stmt} {tc:TT} (hc:PT X c tc) (ha:Rk X a t) (hb:Rk X b u):PS X (.If c a b pos) (m9 tc t u):=by
 intro pins s σ H D I h
 refine wpAny_If (Cf (hc pins s σ H _ I h) fun d s1 hz0=>?_)
 obtain ⟨H1,I1,q1⟩ := hz0
 cases d with
 | true=>exact ha pins s1 σ H1 D I1 q1
 | false=>exact hb pins s1 σ H1 D I1 q1
def d8:TS:=fun _ _ _=>False
theorem Kh:PS X st d8:=fun _ _ _ _ _ _ h=>h.elim
end
abbrev TG:=V -> St -> Hp -> (St -> Hp -> Prop) -> Prop
abbrev Zk:=List V -> St -> Hp -> (St -> Hp -> Prop) -> Prop
def PG (X:Cx) (target:Expr) (t:TG):Prop :=
 ∀ (pins:List (Addr × Obj)) (s:Shared) (σ:St) (H:Hp) (v:V) (u:Value) (Q:St -> Hp -> Prop),Am X pins σ H s -> B6 v u -> t v σ H Q ->
  wpAny (model X.prog X.w) X.A (assign target X.env u) (fun _ s'=>∃ σ' H',Am X pins σ' H' s' /\ Q σ' H') X.xe s
def ii (X:Cx) (ts:List Expr) (t:Zk):Prop :=
 ∀ (pins:List (Addr × Obj)) (s:Shared) (σ:St) (H:Hp) (vs:List V) (us:List Value) (Q:St -> Hp -> Prop),Am X pins σ H s -> B7 vs us -> t vs σ H Q ->
  wpAny (model X.prog X.w) X.A (assignInOrder ((assignEach ts X.env).map (·.2)) us) (fun _ s'=>∃ σ' H',Am X pins σ' H' s' /\ Q σ' H') X.xe s
abbrev d5:=V -> V -> V -> Hp -> (Hp -> Prop) -> Prop
def l5 (X:Cx) (t:d5):Prop :=
 ∀ (pins:List (Addr × Obj)) (s:Shared) (σ:St) (H:Hp) (o i v:V) (ov iv u:Value) (Q:Hp -> Prop),Am X pins σ H s -> B6 o ov -> B6 i iv -> B6 v u -> t o i v H Q ->
  wpAny (model X.prog X.w) X.A (setItem ov iv u) (fun _ s'=>∃ H',Am X pins σ H' s' /\ Q H') X.xe s
section
variable {X:Cx} {pos:Pos}
def Ft (i:Nat):TG:=fun v σ H Q=>Q (σ.set i (some v)) H
theorem Af {i:Nat} {x:Str} (hN:X.N.Nodup) (hi:X.N[i]? = some x) (hx:lp X.env.scope x) (hf:X.fn x = true \/ X.env.scope.names.lookup x = some .local:=by first | exact .inl rfl | exact .inr rfl | assumption):PG X (.Name x pos) (Ft i):=by
 intro pins s σ H v u Q I r h
 exact wpAny_assign_Name (Pm I hN hi hx r (fun s' I'=>⟨_,H,I',h⟩) hf)
def c9:Zk:=fun vs σ H Q=>vs = [] /\ Q σ H
def Na (t:TG) (u:Zk):Zk:=fun vs σ H Q=>∃ v r,vs = v :: r /\ t v σ H fun σ' H'=>u r σ' H' Q
theorem D2:ii X [] c9:=by
 intro pins s σ H vs us Q I r h
 obtain ⟨e,h⟩ := h
 subst e
 cases r
 exact assignInOrder_nil ⟨σ,H,I,h⟩
theorem Ax {e : Expr} {es : List Expr} {t : TG} {u : Zk} (h1 : PG X e t) (h2 : ii X es u)
  (hs:(assignEach (e :: es) X.env).map (·.2) = assign e X.env :: (assignEach es X.env).map (·.2):=by rfl):ii X (e :: es) (Na t u):=by
 intro pins s σ H vs us Q I r h
 obtain ⟨v,vr,e1,h⟩ := h
 subst e1
 cases r with
 | cons r rr =>
  rw [hs]
  refine assignInOrder_cons (Cf (h1 pins s σ H _ _ _ I r h) fun _ s1 hz0=>?_)
  obtain ⟨σ1,H1,I1,q1⟩ := hz0
  exact h2 pins s1 σ1 H1 _ _ Q I1 rr q1
def Z0 (K:PySem.W.Frag) (n:Nat) (t:Zk):TG:=fun v σ H Q=>∃ a xs,v = .ref a /\ Br K H a xs /\ xs.length = n /\ t xs σ H Q
theorem bj {es : List Expr} {k : Nat} {t : Zk} {n : Nat} (hc : X.calm = true) (h : ii X es t)
  (hn:(assignEach es X.env).length = n:=by rfl) (hst:(assignEach es X.env).findIdx? (·.1) = none:=by rfl):PG X (.Tuple es k pos) (Z0 X.K n t):=by
 intro pins s σ H v u Q I r hw
 obtain ⟨a,xs,e1,hq,hl,hw⟩ := hw
 subst e1
 cases r
 obtain ⟨its,rv,ht,hz⟩ := I.tuple hq
 refine assign_Tuple_tuple (I.ok.hd hc) ht (by simp [hn,<- hl,rv.length]) hst fun h' hx=>?_
 have I1:Am X pins σ H { s with heap:=h' }:=I.kept (t':=s.toks) fun b o e=>hx b o (Nat.ne_of_lt (Heap.lt_size e)) e
 exact h pins _ σ H xs _ Q I1 (by simpa using rv) hw
def o6 (to ti:TE) (t:d5):TG:=fun v σ H Q=>to σ H fun o H1=>ti σ H1 fun i H2=>t o i v H2 fun H3=>Q σ H3
theorem Pg {o i : Expr} {to ti : TE} {t : d5} (ho : PE X o to) (hi : PE X i ti) (hs : l5 X t)
  (ha:∀ v,assign (.Subscript o i pos) X.env v = (do
   let ov <- holding [v] (eval o X.env)
   let iv <- holding [v,ov] (eval i X.env)
   standAt pos
   holding [v,ov,iv] (setItem ov iv v)
   release [v,ov,iv] []):=by intro _; rfl):PG X (.Subscript o i pos) (o6 to ti t):=by
 intro pins s σ H v u Q I r h
 rw [ha]
 refine wpAny_bind (wpAny_holding (Cf (ho pins s σ H _ I h) fun ov s1 hz0=>?_))
 obtain ⟨x,H1,I1,r1,q1⟩ := hz0
 refine wpAny_bind (wpAny_holding (Cf (hi pins s1 σ H1 _ I1 q1) fun iv s2 hz0=>?_))
 obtain ⟨y,H2,I2,r2,q2⟩ := hz0
 refine wpAny_bind (wpAny_standAt (wpAny_bind (wpAny_holding (Cf (hs pins s2 σ H2 x y v ov iv u _ I2 r1 r2 r q2) fun _ s3 hz0=>?_))))
 obtain ⟨H3,I3,q3⟩ := hz0
 exact wpAny_release ⟨σ,H3,I3,q3⟩
def kb (te:TE) (g:TG):TS:=fun D σ H=>te σ H fun x H1=>g x σ H1 D.nx
theorem L5 {tg e : Expr} {te : TE} {g : TG} (he : PE X e te) (hg : PG X tg g) (hs : swapsWithSole [tg] e pos.line X.env = pure false := by rfl) (hw : swappedStores [tg] e X.env = pure none := by rfl)
  (h1:(assignEach [tg] X.env).map (·.2) = [assign tg X.env]:=by rfl):PS X (.Assign [tg] e pos) (kb te g):=by
 intro pins s σ H D I h
 refine wpAny_Assign_stores (Cf (he pins s σ H _ I h) fun v s1 ⟨x,H1,I1,r1,q1⟩=>?_) hs hw
 rw [h1]
 exact Cf (hg pins s1 σ H1 x v _ I1 r1 q1) fun _ s2 q=>q
theorem Ao {i : Nat} {x : Str} {e : Expr} {te : TE} {pos' : Pos} (hN : X.N.Nodup) (hi : X.N[i]? = some x) (hx : lp X.env.scope x) (he : PE X e te) (hs : swapsWith e (some (.Name x pos')) pos.line X.env = pure false := by rfl) (hf : X.fn x = true \/ X.env.scope.names.lookup x = some .local := by first | exact .inl rfl | exact .inr rfl | assumption) :
  PS X (.Assign [.Name x pos'] e pos) (kb te (Ft i)):=by
 intro pins s σ H D I h
 refine wpAny_Assign_Name (Cf (he pins s σ H _ I h) fun v s1 ⟨y,H1,I1,r1,q1⟩=>?_) hs
 exact Pm I1 hN hi hx r1 (fun s2 I2=>⟨_,H1,I2,q1⟩) hf
end
section
variable {X:Cx} {pos:Pos}
def P9 (c:TT) (tb:TS):TS:=fun D σ H=>∃ W:Nat -> St -> Hp -> Prop,(∃ m,W m σ H) /\ ∀ m σ H,W m σ H ->
 c σ H fun b H1=>if b = true then ∃ N:St -> Hp -> Prop,(∀ σ' H',N σ' H' -> ∃ m',m' < m /\ W m' σ' H') /\ tb { D with nx:=N,ct:=N,bk:=D.nx } σ H1 else D.nx σ H1
theorem Re {c:Expr} {body:List Stmt} {tc:TT} {tb:TS} (hp:PassesOwn (model X.prog X.w) X.A X.env X.xe) (hc:PT X c tc) (hb:Rk X body tb):PS X (.While c body [] pos) (P9 tc tb):=by
 intro pins s σ H D I h
 obtain ⟨W,⟨m0,w0⟩,turn⟩ := h
 refine wpAny_While (codeAny_whileLoop (fun n s'=>∃ σ' H',Am X pins σ' H' s' /\ W n σ' H') ?_ m0 ⟨σ,H,I,w0⟩)
 rintro n s1 ⟨σ1,H1,I1,w1⟩
 refine wpAny_passesOwn hp (Cf (hc pins s1 σ1 H1 _ I1 (turn n σ1 H1 w1)) fun b s2 hz0=>?_)
 obtain ⟨H2,I2,q2⟩ := hz0
 cases b with
 | true =>
  obtain ⟨N,hN,q2⟩ := q2
  rw [if_pos rfl]
  refine wpAny_passesOwn hp (Cf (hb pins s2 σ1 H2 _ I2 q2) fun f s3 q3=>?_)
  cases f with
  | next =>
   obtain ⟨σ3,H3,I3,n3⟩ := q3
   obtain ⟨m',hm,w3⟩ := hN σ3 H3 n3
   exact ⟨m',hm,σ3,H3,I3,w3⟩
  | cont =>
   obtain ⟨σ3,H3,I3,n3⟩ := q3
   obtain ⟨m',hm,w3⟩ := hN σ3 H3 n3
   exact ⟨m',hm,σ3,H3,I3,w3⟩
  | brk=>exact q3
  | ret v=>exact q3
 | false =>
  rw [if_neg Bool.false_ne_true]
  exact wpAny_execs_nil ⟨σ1,H2,I2,q2⟩
end
set_option genInjectivity false in
set_option genSizeOf false in
structure It where
 go:Nat -> Hp -> Prop
 yld:Nat -> Hp -> V -> Hp -> Prop
 stop:Nat -> Hp -> Prop
def La (X:Cx) (pins:List (Addr × Obj)) (H:Hp) (b:Addr):Prop :=
 H b = none /\ b ≠ X.env.locals /\ b ∉ X.fs /\ (b ∈ X.ex \/ X.s₀.heap.objs.size <= b) /\ (∀ x c,X.env.cells.lookup x = some c -> c ≠ b) /\ ∀ p ∈ X.pn ++ pins,p.1 ≠ b
theorem Am.fpOk {X:Cx} {pins:List (Addr × Obj)} {σ:St} {H H':Hp} {s:Shared} {b:Addr} (I:Am X pins σ H s) (hb:s.heap.objs.size <= b) (hn:H' b = none):La X pins H' b:=by
 refine ⟨hn,Nat.ne_of_gt (Nat.lt_of_lt_of_le I.lt hb),I.nofs hb,.inr (Nat.le_trans I.sz hb),fun x c e z=>?_,fun p hp z=>?_⟩
 ·obtain ⟨v,q⟩ := I.cell x c e
  exact absurd (Nat.lt_of_lt_of_le q.lt (by rw [z]; exact hb)) (Nat.lt_irrefl _)
 ·exact absurd (Nat.lt_of_lt_of_le (Heap.lt_size (I.pin p hp).1) (by rw [z]; exact hb)) (Nat.lt_irrefl _)
structure Si (P:Program) (w:World) (K:PySem.W.Frag) (tg:Expr) (J:It) (fp:List Addr) (it:Addr) (tn:Nat -> Heap -> Prop):Prop where
 mem:it ∈ fp
 obj:∀ i h,tn i h -> ∀ b ∈ fp,∃ o,h.get? b = some o /\ ∀ v,o.data ≠ .cell v
 keep:∀ i h h',tn i h -> (∀ b ∈ fp,∀ o,h.get? b = some o -> h'.get? b = some o) -> tn i h'
 item:∀ (X:Cx),X.prog = P -> X.w = w -> X.K = K -> X.calm = true -> ∀ (i:Nat) (pins:List (Addr × Obj)) (s:Shared) (σ:St) (H:Hp) (E:Value -> Shared -> Prop),Am X pins σ H s -> (∀ b ∈ fp,La X pins H b) -> tn i s.heap -> J.go i H ->
  wpAny (model P w) X.A (pyNext (.ref it)) (fun r s1=>∃ u,r = some u /\
   wpAny (model P w) X.A (letOwnedTupleGo tg (.ref it) u) (fun _ s2=>∃ x H',Am X pins σ H' s2 /\ B6 x u /\ J.yld i H x H' /\ tn (i + 1) s2.heap /\ ∀ b ∈ fp,H' b = none) E s1) E s
 done:∀ (X:Cx),X.prog = P -> X.w = w -> X.K = K -> X.calm = true -> ∀ (i:Nat) (pins:List (Addr × Obj)) (s:Shared) (σ:St) (H:Hp) (E:Value -> Shared -> Prop),Am X pins σ H s -> (∀ b ∈ fp,La X pins H b) -> tn i s.heap -> J.stop i H ->
  wpAny (model P w) X.A (pyNext (.ref it)) (fun r s1=>r = none /\ Am X pins σ H s1) E s
 self:∀ (A:Around) (i:Nat) (s:Shared) (Q:Value -> Shared -> Prop) (E:Value -> Shared -> Prop),tn i s.heap -> Q (.ref it) s -> wpAny (model P w) A (pyIter (.ref it)) Q E s
abbrev TI:=St -> Hp -> (It -> Hp -> Prop) -> Prop
def n9 (X:Cx) (pins:List (Addr × Obj)) (σ:St) (tg:Expr) (R:It -> Hp -> Prop) (itv:Value) (s2:Shared):Prop :=
 ∃ (it:Addr) (fp:List Addr) (tn:Nat -> Heap -> Prop) (J:It) (H':Hp),itv = .ref it /\ Am X pins σ H' s2 /\ Si X.prog X.w X.K tg J fp it tn /\ tn 0 s2.heap /\ (∀ b ∈ fp,La X pins H' b) /\ R J H'
def PI (X:Cx) (tg iter:Expr) (wi:TI):Prop :=
 ∀ (pins:List (Addr × Obj)) (s:Shared) (σ:St) (H:Hp) (R:It -> Hp -> Prop),Am X pins σ H s -> wi σ H R ->
  wpAny (model X.prog X.w) X.A (eval iter X.env) (fun v s1=>wpAny (model X.prog X.w) X.A (pyIter v) (n9 X pins σ tg R) X.xe s1) X.xe s
theorem Xv {M : Model} {A : Around} {E : Value -> Shared -> Prop} {s : Shared} {tg : Expr} {it : Addr} {u : Value} {o : Obj} {n : String} {vs : Array Value} {Q : Unit -> Shared -> Prop} (ho : s.heap.get? it = some o) (hc : o.cls = .type n) (hd : o.data = .fields vs)
  (hn:["enumerate","zip","dict_itemiterator","dict_reverseitemiterator","odict_iterator","itertools.zip_longest","itertools.pairwise"].contains n = false) (hQ:Q () s):wpAny M A (letOwnedTupleGo tg (.ref it) u) Q E s:=by
 unfold letOwnedTupleGo
 cases tg <;> first
  | exact wpAny_pure hQ
  | (cases u <;> first
    | exact wpAny_pure hQ
    | (refine wpAny_bind (wpAny_load ho ?_)
       rw [hc,hd]
       show wpAny M A (if (["enumerate","zip","dict_itemiterator","dict_reverseitemiterator","odict_iterator","itertools.zip_longest","itertools.pairwise"].contains n && vs[0]? == some (rawInt _)) = true then _ else _) Q E s
       rw [if_neg (by intro h; rw [hn,Bool.false_and] at h; cases h)]
       exact wpAny_pure hQ))
def bd (K:PySem.W.Frag) (a:Addr):It :=
 ⟨fun i H=>∃ xs x,B9 K H a xs /\ xs[i]? = some x,fun i H x H'=>H' = H /\ ∀ xs,B9 K H a xs -> xs[i]? = some x,fun i H=>∃ xs,B9 K H a xs /\ xs.length <= i⟩
def i5 (K:PySem.W.Frag) (a:Addr):It :=
 ⟨fun i H=>∃ xs x,Br K H a xs /\ xs[i]? = some x,fun i H x H'=>H' = H /\ ∀ xs,Br K H a xs -> xs[i]? = some x,fun i H=>∃ xs,Br K H a xs /\ xs.length <= i⟩
def aj (lo:Int) (n:Nat):It:=⟨fun i _=>i < n,fun i H x H'=>H' = H /\ x = .int (lo + i),fun i _=>n <= i⟩
theorem Va {P:Program} {w:World} {K:PySem.W.Frag} {tg:Expr} (a it:Addr):Si P w K tg (bd K a) [it] it (fun i h=>h.IsListIter it a i) where
 mem:=by simp
 obj:=fun i h st b hb=>by
  have e:b = it:=by simpa using hb
  subst e
  obtain ⟨o,e,c,d⟩ := st
  exact ⟨o,e,fun v z=>by rw [d] at z; cases z⟩
 keep:=fun i h h' st k=>st.at fun o e=>k it (by simp) o e
 item:=by
  intro X hP hw hK hc i pins s σ H E I hf st hg
  subst hP hw hK
  obtain ⟨xs,x,hq,hx⟩ := hg
  obtain ⟨its,rv,p,hz⟩ := I.list hq
  obtain ⟨u,hu,ru⟩ := rv.get hx
  obtain ⟨f0,f1,f2,f3,f4,f5⟩ := hf it (by simp)
  refine wpAny_pyNext_list_item st p.isList (x:=u) (by simpa using hu) fun h' st' sb=>?_
  have I1:Am X pins σ H { s with heap:=h' }:=I.turned (t':=s.toks) (fun b o hb e=>(sb.2 b hb).trans e) f0 f1 f3 f4 f5
  obtain ⟨o,e,c,d⟩ := id st'
  exact ⟨u,rfl,Xv (s:={ s with heap:=h' }) e c d (by decide) ⟨x,H,I1,ru,⟨rfl,fun ys hy=>by rw [I.list_inj hy hq]; exact hx⟩,st',fun b hb=>(hf b hb).1⟩⟩
 done:=by
  intro X hP hw hK hc i pins s σ H E I hf st hg
  subst hP hw hK
  obtain ⟨xs,hq,hx⟩ := hg
  obtain ⟨its,rv,p,hz⟩ := I.list hq
  obtain ⟨f0,f1,f2,f3,f4,f5⟩ := hf it (by simp)
  have hl:=rv.length
  exact wpAny_pyNext_list_end (I.ok.hd hc) st p.isList (by simp; omega) fun h' eb=>⟨rfl,I.turned (t':=s.toks) (fun b o hb e=>eb b o hb e) f0 f1 f3 f4 f5⟩
 self:=fun _ _ _ _ _ st h=>wpAny_pyIter_listiter st h
theorem S8 {P:Program} {w:World} {K:PySem.W.Frag} {tg:Expr} (a it:Addr):Si P w K tg (i5 K a) [it] it (fun i h=>h.IsTupleIter it a i) where
 mem:=by simp
 obj:=fun i h st b hb=>by
  have e:b = it:=by simpa using hb
  subst e
  obtain ⟨o,e,c,d⟩ := st
  exact ⟨o,e,fun v z=>by rw [d] at z; cases z⟩
 keep:=fun i h h' st k=>st.at fun o e=>k it (by simp) o e
 item:=by
  intro X hP hw hK hc i pins s σ H E I hf st hg
  subst hP hw hK
  obtain ⟨xs,x,hq,hx⟩ := hg
  obtain ⟨its,rv,p,hz⟩ := I.tuple hq
  obtain ⟨u,hu,ru⟩ := rv.get hx
  obtain ⟨f0,f1,f2,f3,f4,f5⟩ := hf it (by simp)
  refine wpAny_pyNext_tuple_item st (show s.heap.IsTuple a its.toArray from p) (x:=u) (by simpa using hu) fun h' st' sb=>?_
  have I1:Am X pins σ H { s with heap:=h' }:=I.turned (t':=s.toks) (fun b o hb e=>(sb.2 b hb).trans e) f0 f1 f3 f4 f5
  obtain ⟨o,e,c,d⟩ := id st'
  exact ⟨u,rfl,Xv (s:={ s with heap:=h' }) e c d (by decide) ⟨x,H,I1,ru,⟨rfl,fun ys hy=>by rw [I.tuple_inj hy hq]; exact hx⟩,st',fun b hb=>(hf b hb).1⟩⟩
 done:=by
  intro X hP hw hK hc i pins s σ H E I hf st hg
  subst hP hw hK
  obtain ⟨xs,hq,hx⟩ := hg
  obtain ⟨its,rv,p,hz⟩ := I.tuple hq
  obtain ⟨f0,f1,f2,f3,f4,f5⟩ := hf it (by simp)
  have hl:=rv.length
  exact wpAny_pyNext_tuple_end (I.ok.hd hc) st (show s.heap.IsTuple a its.toArray from p) (by simp; omega) fun h' eb=>⟨rfl,I.turned (t':=s.toks) (fun b o hb e=>eb b o hb e) f0 f1 f3 f4 f5⟩
 self:=fun _ _ _ _ _ st h=>wpAny_pyIter_tupleiter st h
theorem Tk {P:Program} {w:World} {K:PySem.W.Frag} {tg:Expr} (it:Addr) (lo:Int) (n:Nat):Si P w K tg (aj lo n) [it] it (fun i h=>IsRangeIter h it (lo + (i:Nat) * 1) ((n:Int) - (i:Nat)) 1) where
 mem:=by simp
 obj:=fun i h st b hb=>by
  have e:b = it:=by simpa using hb
  subst e
  exact ⟨_,st,fun v z=>by
   have z':Data.fields _ = Data.cell v:=z
   cases z'⟩
 keep:=fun i h h' st k=>k it (by simp) _ st
 item:=by
  intro X hP hw hK hc i pins s σ H E I hf st hg
  subst hP hw hK
  obtain ⟨f0,f1,f2,f3,f4,f5⟩ := hf it (by simp)
  have W:=Walks.range (prog:=X.prog) (w:=X.w) (I.ok.hd hc) it lo 1 n
  refine W.item i s _ _ hg st fun v h' tk hv st' kk=>?_
  obtain ⟨t,rfl⟩ := hv
  have I1:Am X pins σ H { s with heap:=h',toks:=tk }:=I.turned (fun b o hb e=>kk b o (by simpa using hb) e) f0 f1 f3 f4 f5
  refine ⟨_,rfl,Xv (s:={ s with heap:=h',toks:=tk }) (n := "range_iterator") st' rfl rfl (by decide) ⟨.int (lo + i),H,I1,⟨t,?_⟩,⟨rfl,rfl⟩,st',fun b hb=>(hf b hb).1⟩⟩
  rw [Int.mul_one]
 done:=by
  intro X hP hw hK hc i pins s σ H E I hf st hg
  subst hP hw hK
  obtain ⟨f0,f1,f2,f3,f4,f5⟩ := hf it (by simp)
  exact wpAny_pyNext_range_end (I.ok.hd hc) st (by have:n <= i:=hg; omega) fun h' eb=>⟨rfl,I.turned (t':=s.toks) (fun b o hb e=>eb b o hb e) f0 f1 f3 f4 f5⟩
 self:=fun _ _ _ _ _ st h=>wpAny_pyIter_rangeiter st h
section
variable {X:Cx} {tg:Expr}
theorem Pw {pins : List (Addr × Obj)} {σ : St} {H : Hp} {s : Shared} {R : It -> Hp -> Prop} {E : Value -> Shared -> Prop} {lo hi : Int} {t u v : Tok} {tk : Nat} (I : Am X pins σ H s) (h1 : -(2 ^ 62) <= lo) (h2 : lo < 2 ^ 62) (h3 : -(2 ^ 62) <= hi) (h4 : hi < 2 ^ 62)
  (q:R (aj lo (hi - lo).toNat) H):wpAny (model X.prog X.w) X.A (pyIter (.ref s.heap.objs.size)) (n9 X pins σ tg R) E { s with heap:=s.heap.push { cls := .type "range",data := .fields #[.int lo t,.int hi u,.int 1 v] },toks:=tk }:=by
 refine wpAny_pyIter_range (IsRange.new ..) (small_one h1 h2 h3 h4) ?_
 have I1:Am X pins σ H { s with heap:=s.heap.push { cls := .type "range",data := .fields #[.int lo t,.int hi u,.int 1 v] },toks:=tk }:=I.kept fun b o e=>Heap.get?_push_of_some _ e
 refine ⟨(s.heap.push { cls := .type "range",data := .fields #[.int lo t,.int hi u,.int 1 v] }).objs.size,[(s.heap.push { cls := .type "range",data := .fields #[.int lo t,.int hi u,.int 1 v] }).objs.size],_,_,H,rfl,
  I1.kept (t':=tk) fun b o e=>Heap.get?_push_of_some _ e,Tk _ lo (hi - lo).toNat,?_,fun b hb=>?_,q⟩
 ·have e1:lo + ((0:Nat):Int) * 1 = lo:=by simp
  have e2:(((hi - lo).toNat:Nat):Int) - ((0:Nat):Int) = Builtin.Range.rangeSize lo hi 1:=by rw [rangeSize_one]; split <;> omega
  show IsRangeIter _ _ (lo + ((0:Nat):Int) * 1) ((((hi - lo).toNat:Nat):Int) - ((0:Nat):Int)) 1
  rw [e1,e2]
  exact Heap.get?_push_size _ rfl
 ·have e:b = (s.heap.push { cls := .type "range",data := .fields #[.int lo t,.int hi u,.int 1 v] }).objs.size:=by simpa using hb
  subst e
  exact I1.fpOk (Nat.le_refl _) (I1.hok.fresh (Nat.le_refl _))
def l8 (ta:TA):TI:=fun σ H R=>ta σ H fun vs H1=>∃ j:Int,vs = [.int j] /\ -(2 ^ 62) <= j /\ j < 2 ^ 62 /\ R (aj 0 j.toNat) H1
def ka (ta:TA):TI:=fun σ H R=>ta σ H fun vs H1=>∃ i j:Int,vs = [.int i,.int j] /\ (-(2 ^ 62) <= i /\ i < 2 ^ 62 /\ -(2 ^ 62) <= j /\ j < 2 ^ 62) /\ R (aj i (j - i).toNat) H1
theorem Dq {a:Expr} {ta:TA} {p pos:Pos} (hg:Gl X "range") (hm:X.mg "range" = none) (ha:PA X [a] ta) (hs:starEach [a] X.env = [(false,eval a X.env)]:=by rfl):PI X tg (.Call (.Name "range" p) [a] [] pos) (l8 ta):=by
 intro pins s σ H R I h
 refine Call_ (Jc I hg hm boot_range (PyProof.Rows.callWith_type1 (Cf (ha pos pins s σ H _ I h) fun us s1 ⟨vs,H1,I1,r1,q1⟩=>?_) hs rfl))
 obtain ⟨j,e,q1,q2,q⟩ := q1
 subst e
 cases r1 with
 | cons r rr =>
  cases rr
  obtain ⟨t,rfl⟩ := r
  exact call_range_1 (Pw I1 (by omega) (by omega) q1 q2 (by simpa using q))
theorem Vg {a b : Expr} {ta : TA} {p pos : Pos} (hg : Gl X "range") (hm : X.mg "range" = none) (ha : PA X [a, b] ta) (hs : starEach [a, b] X.env = [(false, eval a X.env), (false, eval b X.env)] := by rfl) (hs2 : starEach [b] X.env = [(false, eval b X.env)] := by rfl) :
  PI X tg (.Call (.Name "range" p) [a,b] [] pos) (ka ta):=by
 intro pins s σ H R I h
 refine Call_ (Jc I hg hm boot_range (PyProof.Rows.callWith_type1 (Cf (ha pos pins s σ H _ I h) fun us s1 ⟨vs,H1,I1,r1,q1⟩=>?_) (by rw [hs,hs2]) (by rw [hs2]; rfl)))
 obtain ⟨i,j,e,⟨q1,q2,q3,q4⟩,q⟩ := q1
 subst e
 cases r1 with
 | cons r rr =>
  cases rr with
  | cons r' rr =>
   cases rr
   obtain ⟨t,rfl⟩ := r
   obtain ⟨t',rfl⟩ := r'
   exact call_range_2 (Pw I1 q1 q2 q3 q4 q)
def mx (wi:TI) (g:TG) (tb:TS):TS:=fun D σ H=>wi σ H fun J H1=>∃ W:Nat -> Nat -> St -> Hp -> Prop,(∃ m,W 0 m σ H1) /\ ∀ i m σ H,W i m σ H ->
 (J.stop i H /\ D.nx σ H) \/ (J.go i H /\ ∃ N:St -> Hp -> Prop,(∀ σ' H',N σ' H' -> ∃ m',m' < m /\ W (i + 1) m' σ' H') /\ ∀ x H',J.yld i H x H' -> g x σ H' fun σ2 H2=>tb { D with nx:=N,ct:=N,bk:=D.nx } σ2 H2)
def L8 (fp:List Addr) (h:Heap):List (Addr × Obj):=fp.filterMap fun b=>(h.get? b).map fun o=>(b,o)
theorem Fm {fp:List Addr} {h:Heap} {b:Addr} {o:Obj} (hb:b ∈ fp) (e:h.get? b = some o):(b,o) ∈ L8 fp h:=List.mem_filterMap.mpr ⟨b,hb,by rw [e]; rfl⟩
theorem W9 {fp:List Addr} {h:Heap} {p:Addr × Obj} (hp:p ∈ L8 fp h):p.1 ∈ fp /\ h.get? p.1 = some p.2:=by
 obtain ⟨b,hb,e⟩ := List.mem_filterMap.mp hp
 cases q:h.get? b with
 | none=>rw [q] at e; cases e
 | some o =>
  rw [q] at e
  have e':(b,o) = p:=Option.some.inj e
  subst e'
  exact ⟨hb,q⟩
theorem Am.pinned {pins:List (Addr × Obj)} {σ:St} {H:Hp} {s:Shared} {fp:List Addr} (I:Am X pins σ H s) (hf:∀ b ∈ fp,La X pins H b) (ho:∀ b ∈ fp,∃ o,s.heap.get? b = some o /\ ∀ v,o.data ≠ .cell v):Am X (pins ++ L8 fp s.heap) σ H s :=
 I.pins_of fun p hp=>(List.mem_append.mp hp).elim (fun z=>I.pin p (List.mem_append_right _ z)) fun z=>by
  obtain ⟨hb,e⟩ := W9 z
  obtain ⟨f0,f1,f2,_⟩ := hf p.1 hb
  obtain ⟨o,e',d⟩ := ho p.1 hb
  rw [e] at e'; cases e'
  exact ⟨e,f0,f1,f2,d⟩
theorem Am.unpinned {pins pl:List (Addr × Obj)} {σ:St} {H:Hp} {s:Shared} (I:Am X (pins ++ pl) σ H s):Am X pins σ H s:=I.pins_of fun p hp=>I.pin p (List.mem_append_right _ (List.mem_append_left _ hp))
theorem Cc {iter : Expr} {body : List Stmt} {wi : TI} {g : TG} {tb : TS} {pos : Pos} (hp : PassesOwn (model X.prog X.w) X.A X.env X.xe) (hc : X.calm = true) (hi : PI X tg iter wi) (hg : PG X tg g) (hb : Rk X body tb)
  (hs:∀ x,foldedSetIterable iter X.env x = pure x:=by intro _; rfl):PS X (.For tg iter body [] pos) (mx wi g tb):=by
 intro pins s σ H D I h
 refine wpAny_For (Cf (hi pins s σ H _ I h) fun v s1 h1=>Cf h1 fun itv s2 h2=>?_) hs
 obtain ⟨it,fp,tn,J,H2,e,I2,T,st2,f2,W,⟨m0,w0⟩,turn⟩ := h2
 subst e
 have stat:∀ {H':Hp},(∀ b ∈ fp,H' b = none) -> ∀ b ∈ fp,La X pins H' b:=fun hn b hb=>⟨hn b hb,(f2 b hb).2⟩
 refine codeAny_forLoop_any (fun n s'=>∃ i σ' H',Am X pins σ' H' s' /\ tn i s'.heap /\ (∀ b ∈ fp,H' b = none) /\ W i n σ' H') ?_ m0 ⟨0,σ,H2,I2,st2,fun b hb=>(f2 b hb).1,w0⟩
 rintro n s3 ⟨i,σ3,H3,I3,st3,fr3,w3⟩
 rcases turn i n σ3 H3 w3 with ⟨stop,qn⟩ | ⟨go,N,hN,step⟩
 ·refine wpAny_passesOwn hp (Cf (T.done X rfl rfl rfl hc i pins s3 σ3 H3 X.xe I3 (stat fr3) st3 stop) fun r s4 hz0=>?_)
  obtain ⟨hr,I4⟩ := hz0
  subst hr
  exact wpAny_execs_nil ⟨σ3,H3,I4,qn⟩
 ·refine wpAny_passesOwn hp (Cf (T.item X rfl rfl rfl hc i pins s3 σ3 H3 X.xe I3 (stat fr3) st3 go) fun r s4 hz0=>?_)
  obtain ⟨u,hr,h4⟩ := hz0
  subst hr
  refine wpAny_passesOwn hp (Cf h4 fun _ s5 hz0=>?_)
  obtain ⟨x,H5,I5,r5,y5,st5,fr5⟩ := hz0
  have I5':=I5.pinned (stat fr5) (T.obj _ _ st5)
  refine wpAny_passesOwn hp (Cf (hg _ s5 σ3 H5 x u _ I5' r5 (step x H5 y5)) fun _ s6 hz0=>?_)
  obtain ⟨σ6,H6,I6,q6⟩ := hz0
  refine wpAny_passesOwn hp (Cf (hb _ s6 σ6 H6 _ I6 q6) fun f s7 q7=>?_)
  have again:∀ {σ7:St} {H7:Hp},Am X (pins ++ L8 fp s5.heap) σ7 H7 s7 -> N σ7 H7 -> ∃ m,m < n /\ ∃ i σ' H',Am X pins σ' H' s7 /\ tn i s7.heap /\ (∀ b ∈ fp,H' b = none) /\ W i m σ' H':=fun {σ7 H7} I7 n7=>by
   obtain ⟨m',hm,w7⟩ := hN σ7 H7 n7
   refine ⟨m',hm,i + 1,σ7,H7,I7.unpinned,T.keep _ _ _ st5 fun b hb o e=>(I7.pin (b,o) (List.mem_append_right _ (List.mem_append_right _ (Fm hb e)))).1,fun b hb=>?_,w7⟩
   obtain ⟨o,e,d⟩ := T.obj _ _ st5 b hb
   exact (I7.pin (b,o) (List.mem_append_right _ (List.mem_append_right _ (Fm hb e)))).2.1
  cases f with
  | next=>obtain ⟨σ7,H7,I7,n7⟩ := q7; exact again I7 n7
  | cont=>obtain ⟨σ7,H7,I7,n7⟩ := q7; exact again I7 n7
  | brk=>obtain ⟨σ7,H7,I7,q7⟩ := q7; exact ⟨σ7,H7,I7.unpinned,q7⟩
  | ret v=>obtain ⟨x7,σ7,H7,I7,r7,q7⟩ := q7; exact ⟨x7,σ7,H7,I7.unpinned,r7,q7⟩
end
theorem Cq {K : PySem.W.Frag} {a : Addr} {xs : List V} {g : TG} {tb : TS} {D : Gz} {σ : St} {H : Hp} (Pv : Nat -> St -> Hp -> Prop) (h0 : Pv 0 σ H) (hl : ∀ i σ H, i <= xs.length -> Pv i σ H -> B9 K H a xs)
  (hs:∀ i x σ H,xs[i]? = some x -> Pv i σ H -> g x σ H fun σ2 H2=>tb { D with nx:=Pv (i + 1),ct:=Pv (i + 1),bk:=D.nx } σ2 H2) (hd:∀ σ H,Pv xs.length σ H -> D.nx σ H) :
  ∃ W:Nat -> Nat -> St -> Hp -> Prop,(∃ m,W 0 m σ H) /\ ∀ i m σ H,W i m σ H ->
   ((bd K a).stop i H /\ D.nx σ H) \/ ((bd K a).go i H /\ ∃ N:St -> Hp -> Prop,(∀ σ' H',N σ' H' -> ∃ m',m' < m /\ W (i + 1) m' σ' H') /\ ∀ x H',(bd K a).yld i H x H' -> g x σ H' fun σ2 H2=>tb { D with nx:=N,ct:=N,bk:=D.nx } σ2 H2):=by
 refine ⟨fun i m σ H=>m = xs.length - i /\ i <= xs.length /\ Pv i σ H,⟨xs.length,by simp,Nat.zero_le _,h0⟩,?_⟩
 rintro i m σ H ⟨rfl,hi,p⟩
 have q:=hl i σ H hi p
 by_cases hlt:i < xs.length
 ·refine .inr ⟨⟨xs,xs[i],q,by simp [hlt]⟩,Pv (i + 1),fun σ' H' p'=>⟨xs.length - (i + 1),by omega,rfl,hlt,p'⟩,fun x H' y=>?_⟩
  obtain ⟨e,y⟩ := y
  subst e
  exact hs i x σ _ (y xs q) p
 ·have e:i = xs.length:=by omega
  subst e
  exact .inl ⟨⟨xs,q,Nat.le_refl _⟩,hd σ H p⟩
theorem Of {K : PySem.W.Frag} {a : Addr} {xs : List V} {g : TG} {tb : TS} {D : Gz} {σ : St} {H : Hp} (Pv : Nat -> St -> Hp -> Prop) (h0 : Pv 0 σ H) (hl : ∀ i σ H, i <= xs.length -> Pv i σ H -> Br K H a xs)
  (hs:∀ i x σ H,xs[i]? = some x -> Pv i σ H -> g x σ H fun σ2 H2=>tb { D with nx:=Pv (i + 1),ct:=Pv (i + 1),bk:=D.nx } σ2 H2) (hd:∀ σ H,Pv xs.length σ H -> D.nx σ H) :
  ∃ W:Nat -> Nat -> St -> Hp -> Prop,(∃ m,W 0 m σ H) /\ ∀ i m σ H,W i m σ H ->
   ((i5 K a).stop i H /\ D.nx σ H) \/ ((i5 K a).go i H /\ ∃ N:St -> Hp -> Prop,(∀ σ' H',N σ' H' -> ∃ m',m' < m /\ W (i + 1) m' σ' H') /\ ∀ x H',(i5 K a).yld i H x H' -> g x σ H' fun σ2 H2=>tb { D with nx:=N,ct:=N,bk:=D.nx } σ2 H2):=by
 refine ⟨fun i m σ H=>m = xs.length - i /\ i <= xs.length /\ Pv i σ H,⟨xs.length,by simp,Nat.zero_le _,h0⟩,?_⟩
 rintro i m σ H ⟨rfl,hi,p⟩
 have q:=hl i σ H hi p
 by_cases hlt:i < xs.length
 ·refine .inr ⟨⟨xs,xs[i],q,by simp [hlt]⟩,Pv (i + 1),fun σ' H' p'=>⟨xs.length - (i + 1),by omega,rfl,hlt,p'⟩,fun x H' y=>?_⟩
  obtain ⟨e,y⟩ := y
  subst e
  exact hs i x σ _ (y xs q) p
 ·have e:i = xs.length:=by omega
  subst e
  exact .inl ⟨⟨xs,q,Nat.le_refl _⟩,hd σ H p⟩
theorem Gv {lo : Int} {n : Nat} {g : TG} {tb : TS} {D : Gz} {σ : St} {H : Hp} (Pv : Nat -> St -> Hp -> Prop) (h0 : Pv 0 σ H)
  (hs:∀ i σ H,i < n -> Pv i σ H -> g (.int (lo + i)) σ H fun σ2 H2=>tb { D with nx:=Pv (i + 1),ct:=Pv (i + 1),bk:=D.nx } σ2 H2) (hd:∀ σ H,Pv n σ H -> D.nx σ H) :
  ∃ W:Nat -> Nat -> St -> Hp -> Prop,(∃ m,W 0 m σ H) /\ ∀ i m σ H,W i m σ H ->
   ((aj lo n).stop i H /\ D.nx σ H) \/ ((aj lo n).go i H /\ ∃ N:St -> Hp -> Prop,(∀ σ' H',N σ' H' -> ∃ m',m' < m /\ W (i + 1) m' σ' H') /\ ∀ x H',(aj lo n).yld i H x H' -> g x σ H' fun σ2 H2=>tb { D with nx:=N,ct:=N,bk:=D.nx } σ2 H2):=by
 refine ⟨fun i m σ H=>m = n - i /\ i <= n /\ Pv i σ H,⟨n,by simp,Nat.zero_le _,h0⟩,?_⟩
 rintro i m σ H ⟨rfl,hi,p⟩
 by_cases hlt:i < n
 ·refine .inr ⟨hlt,Pv (i + 1),fun σ' H' p'=>⟨n - (i + 1),by omega,rfl,hlt,p'⟩,fun x H' y=>?_⟩
  obtain ⟨e,y⟩ := y
  subst e y
  exact hs i σ _ hlt p
 ·have e:i = n:=by omega
  subst e
  exact .inl ⟨Nat.le_refl _,hd σ H p⟩
theorem R9 {c : TT} {tb : TS} {D : Gz} {σ : St} {H : Hp} (Pv : St -> Hp -> Prop) (μ : St -> Hp -> Nat) (h0 : Pv σ H)
  (hs:∀ σ H,Pv σ H -> c σ H fun b H1=>if b = true then tb { D with nx:=fun σ' H'=>Pv σ' H' /\ μ σ' H' < μ σ H,ct:=fun σ' H'=>Pv σ' H' /\ μ σ' H' < μ σ H,bk:=D.nx } σ H1 else D.nx σ H1)
  (mono:∀ σ H Q Q',(∀ b H1,Q b H1 -> Q' b H1) -> c σ H Q -> c σ H Q'):P9 c tb D σ H:=by
 refine ⟨fun m σ H=>m = μ σ H /\ Pv σ H,⟨_,rfl,h0⟩,?_⟩
 rintro m σ H ⟨rfl,p⟩
 refine mono σ H _ _ (fun b H1 q=>?_) (hs σ H p)
 cases b with
 | true=>exact ⟨_,fun σ' H' ⟨p',l⟩=>⟨_,l,rfl,p'⟩,q⟩
 | false=>exact q
abbrev R2:=V -> V -> Hp -> VK -> Prop
def Hn (X:Cx) (f:Value -> Value -> Sem Value) (r:R2):Prop :=
 ∀ (pins:List (Addr × Obj)) (s:Shared) (σ:St) (H:Hp) (x y:V) (v u:Value) (Q:VK),Am X pins σ H s -> B6 x v -> B6 y u -> r x y H Q ->
  wpAny (model X.prog X.w) X.A (f v u) (EP X pins σ Q) X.xe s
def oy (X:Cx) (f:Value -> Sem Value) (r:V -> Hp -> VK -> Prop):Prop :=
 ∀ (pins:List (Addr × Obj)) (s:Shared) (σ:St) (H:Hp) (x:V) (v:Value) (Q:VK),Am X pins σ H s -> B6 x v -> r x H Q ->
  wpAny (model X.prog X.w) X.A (f v) (EP X pins σ Q) X.xe s
def Es (X:Cx) (f:Value) (r:List V -> Hp -> VK -> Prop):Prop :=
 ∀ (pins:List (Addr × Obj)) (s:Shared) (σ:St) (H:Hp) (xs:List V) (us:List Value) (Q:VK),Am X pins σ H s -> B7 xs us -> r xs H Q ->
  wpAny (model X.prog X.w) X.A (call f us) (EP X pins σ Q) X.xe s
def ng (X:Cx) (r:V -> Hp -> (Bool -> Hp -> Prop) -> Prop):Prop :=
 ∀ (pins:List (Addr × Obj)) (s:Shared) (σ:St) (H:Hp) (x:V) (v:Value) (Q:Bool -> Hp -> Prop),Am X pins σ H s -> B6 x v -> r x H Q ->
  wpAny (model X.prog X.w) X.A (truthy v) (TP X pins σ Q) X.xe s
def lj (r:R2) (ta tb:TE):TE:=fun σ H Q=>ta σ H fun x H1=>tb σ H1 fun y H2=>r x y H2 Q
def sh (r:V -> Hp -> VK -> Prop) (ta:TE):TE:=fun σ H Q=>ta σ H fun x H1=>r x H1 Q
def rI (C:Int -> Int -> Prop) (g:Int -> Int -> V):R2:=fun x y H Q=>∃ i j,x = .int i /\ y = .int j /\ C i j /\ Q (g i j) H
def c6 (g:Int -> Int -> V):R2:=fun x y H Q=>∃ i j,x = .int i /\ y = .int j /\ Q (g i j) H
def rU (g:Int -> V):V -> Hp -> VK -> Prop:=fun x H Q=>∃ i,x = .int i /\ Q (g i) H
section
variable {X:Cx} {a b c:Expr} {ta tb tc:TE} {pos:Pos}
theorem fi (ha : PE X a ta) (hb : PE X b tb) {pins : List (Addr × Obj)} {s : Shared} {σ : St} {H : Hp} {R : V -> V -> Hp -> Prop} (I : Am X pins σ H s)
  (h:ta σ H fun x H1=>tb σ H1 fun y H2=>R x y H2) {Q:Value -> Shared -> Prop} {f:Value -> Value -> Sem Value}
  (hf:∀ v u s2 x y H2,Am X pins σ H2 s2 -> B6 x v -> B6 y u -> R x y H2 -> wpAny (model X.prog X.w) X.A (f v u) Q X.xe s2) :
  wpAny (model X.prog X.w) X.A (eval a X.env) (fun v s₁=>wpAny (model X.prog X.w) X.A (eval b X.env) (fun u s₂=>wpAny (model X.prog X.w) X.A (f v u) Q X.xe s₂) X.xe s₁) X.xe s:=by
 refine Cf (ha pins s σ H _ I h) fun v s1 hz0=>?_
 obtain ⟨x,H1,I1,r1,q1⟩ := hz0
 refine Cf (hb pins s1 σ H1 _ I1 q1) fun u s2 hz0=>?_
 obtain ⟨y,H2,I2,r2,q2⟩ := hz0
 exact hf v u s2 x y H2 I2 r1 r2 q2
theorem Ag {op:Operator} {r:R2} (ho:Hn X (binaryOp op) r) (ha:PE X a ta) (hb:PE X b tb):PE X (.BinOp a op b pos) (lj r ta tb):=by
 intro pins s σ H Q I h
 exact wpAny_BinOp (fi ha hb I h fun v u s2 x y H2 I2 rx ry q=>ho pins s2 σ H2 x y v u Q I2 rx ry q)
theorem iu {op:UnaryOp} {r:V -> Hp -> VK -> Prop} (ho:oy X (unaryOp op) r) (ha:PE X a ta):PE X (.UnaryOp op a pos) (sh r ta):=by
 intro pins s σ H Q I h
 exact UnaryOp_ (Cf (ha pins s σ H _ I h) fun v s1 ⟨x,H1,I1,r1,q1⟩=>ho pins s1 σ H1 x v Q I1 r1 q1)
theorem ll {f : Value -> Value -> Sem Value} {C : Int -> Int -> Prop} {g : Int -> Int -> Int}
  (rule:∀ (i j:Int) (t u:Tok) (s:Shared) (Q:Value -> Shared -> Prop) (E:Value -> Shared -> Prop),C i j -> Q (.int (g i j) s.toks) { s with toks:=s.toks + 1 } -> wpAny (model X.prog X.w) X.A (f (.int i t) (.int j u)) Q E s) :
  Hn X f (rI C fun i j=>.int (g i j)):=by
 intro pins s σ H x y v u Q I rx ry h
 obtain ⟨i,j,rfl,rfl,hc,q⟩ := h
 obtain ⟨t,rfl⟩ := rx
 obtain ⟨t',rfl⟩ := ry
 exact rule i j t t' s _ _ hc ⟨.int (g i j),H,I.tok _,⟨_,rfl⟩,q⟩
theorem ix {f : Value -> Value -> Sem Value} {g : Int -> Int -> Int}
  (rule:∀ (i j:Int) (t u:Tok) (s:Shared) (Q:Value -> Shared -> Prop) (E:Value -> Shared -> Prop),Q (.int (g i j) s.toks) { s with toks:=s.toks + 1 } -> wpAny (model X.prog X.w) X.A (f (.int i t) (.int j u)) Q E s) :
  Hn X f (c6 fun i j=>.int (g i j)):=by
 intro pins s σ H x y v u Q I rx ry h
 obtain ⟨i,j,rfl,rfl,q⟩ := h
 obtain ⟨t,rfl⟩ := rx
 obtain ⟨t',rfl⟩ := ry
 exact rule i j t t' s _ _ ⟨.int (g i j),H,I.tok _,⟨_,rfl⟩,q⟩
theorem fu {f : Value -> Value -> Sem Value} {g : Int -> Int -> Bool}
  (rule:∀ (i j:Int) (t u:Tok) (s:Shared) (Q:Value -> Shared -> Prop) (E:Value -> Shared -> Prop),Q (.bool (g i j)) s -> wpAny (model X.prog X.w) X.A (f (.int i t) (.int j u)) Q E s) :
  Hn X f (c6 fun i j=>.bl (g i j)):=by
 intro pins s σ H x y v u Q I rx ry h
 obtain ⟨i,j,rfl,rfl,q⟩ := h
 obtain ⟨t,rfl⟩ := rx
 obtain ⟨t',rfl⟩ := ry
 exact rule i j t t' s _ _ ⟨.bl (g i j),H,I,rfl,q⟩
def n0 (i j:Int):Prop:=0 < j /\ j < 1073741824
def om (i j:Int):Prop:=0 <= j /\ j <= 1000000 /\ i.natAbs < 2 ^ 64
theorem C7:Hn X (binaryOp .Add) (c6 fun i j=>.int (i + j)):=ix fun _ _ _ _ _ _ _ q=>add_int q
theorem Eu:Hn X (binaryOp .Sub) (c6 fun i j=>.int (i - j)):=ix fun _ _ _ _ _ _ _ q=>sub_int q
theorem Di:Hn X (binaryOp .FloorDiv) (rI n0 fun i j=>.int (i / j)):=ll fun i j _ _ _ _ _ hc q=>by
 have h1:(0:Int) < j:=hc.1
 have h2:j < 1073741824:=hc.2
 exact floordiv_int (by omega) (by rw [Int.fdiv_eq_ediv_of_nonneg i (by omega)]; exact q) (.inl (PyProof.noPylong_small (by omega)))
theorem Bu:Hn X (binaryOp .Mod) (rI (fun _ j=>0 < j) fun i j=>.int (i % j)):=ll fun i j _ _ _ _ _ hc q=>by
 have h1:(0:Int) < j:=hc
 exact mod_int' (by omega) (by rw [Int.fmod_eq_emod_of_nonneg i (by omega)]; exact q)
theorem Xd:Hn X (binaryOp .Pow) (rI om fun i j=>.int (i ^ j.toNat)):=ll fun _ _ _ _ _ _ _ hc q=>pow_int_small hc.1 hc.2.1 hc.2.2 q
theorem qx {f : Value -> Sem Value} {g : Int -> Int}
  (rule:∀ (i:Int) (t:Tok) (s:Shared) (Q:Value -> Shared -> Prop) (E:Value -> Shared -> Prop),Q (.int (g i) s.toks) { s with toks:=s.toks + 1 } -> wpAny (model X.prog X.w) X.A (f (.int i t)) Q E s) :
  oy X f (rU fun i=>.int (g i)):=by
 intro pins s σ H x v Q I rx h
 obtain ⟨i,rfl,q⟩ := h
 obtain ⟨t,rfl⟩ := rx
 exact rule i t s _ _ ⟨.int (g i),H,I.tok _,⟨_,rfl⟩,q⟩
theorem gy:oy X (unaryOp .USub) (rU fun i=>.int (-i)):=qx fun _ _ _ _ _ q=>neg_int q
end
def jw:V -> V -> Bool
 | .non,.non=>true | .non,.int _=>true | .int _,.non=>true | .non,.bl _=>true | .bl _,.non=>true | .non,.str _=>true | .str _,.non=>true
 | .int _,.int _=>true | .bl _,.bl _=>true | .str _,.str _=>true | .byt _,.byt _=>true
 | .int _,.str _=>true | .str _,.int _=>true | .bl _,.str _=>true | .str _,.bl _=>true
 | _,_=>false
def sg:R2:=fun x y H Q=>jw x y = true /\ Q (.bl (decide (x = y))) H
def qy:R2:=fun x y H Q=>jw x y = true /\ Q (.bl (!decide (x = y))) H
theorem Um {i j:Int}:decide (V.int i = V.int j) = (i == j):=by
 rw [Bool.eq_iff_iff]
 simp
theorem Wo {i j:Bool}:decide (V.bl i = V.bl j) = (i == j):=by
 rw [Bool.eq_iff_iff]
 simp
theorem Ug {i j:Str}:decide (V.str i = V.str j) = (i == j):=by
 rw [Bool.eq_iff_iff]
 simp
theorem Uc {i j:Array UInt8}:decide (V.byt i = V.byt j) = (i.toList == j.toList):=by
 rw [Bool.eq_iff_iff]
 cases i
 cases j
 simp
section
variable {X:Cx} {a b c:Expr} {ta tb tc:TE} {pos:Pos}
theorem Bn {pins:List (Addr × Obj)} {σ:St} {H:Hp} {s:Shared} {Q:VK} {k k':Bool} (I:Am X pins σ H s) (q:Q (.bl k) H) (e:k = k'):EP X pins σ Q (.bool k') s:=by
 subst e
 exact ⟨.bl k,H,I,rfl,q⟩
theorem Dm:Hn X (compareOp .Eq) sg:=by
 intro pins s σ H x y v u Q I rx ry h
 obtain ⟨hs,q⟩ := h
 cases x with
 | non =>
  cases rx
  cases y with
  | non=>cases ry; exact PySem.EqNone.eq_none_none (Bn I q (by simp))
  | bl j=>cases ry; exact PySem.EqNone.eq_none_bool (Bn I q (by simp))
  | int j=>obtain ⟨t',rfl⟩ := ry; exact PySem.EqNone.eq_none_int (Bn I q (by simp))
  | str j=>obtain ⟨t',rfl⟩ := ry; exact PySem.EqNone.eq_none_str (Bn I q (by simp))
  | _=>exact absurd (show false = true from hs) Bool.false_ne_true
 | bl i =>
  cases rx
  cases y with
  | non=>cases ry; exact PySem.EqNone.eq_bool_none (Bn I q (by simp))
  | bl j=>cases ry; exact eq_bool (Bn I q Wo)
  | str j=>obtain ⟨t',rfl⟩ := ry; exact PySem.EqMixed.eq_bool_str (Bn I q (by simp))
  | _=>exact absurd (show false = true from hs) Bool.false_ne_true
 | int i =>
  obtain ⟨t,rfl⟩ := rx
  cases y with
  | non=>cases ry; exact PySem.EqNone.eq_int_none (Bn I q (by simp))
  | int j=>obtain ⟨t',rfl⟩ := ry; exact eq_int (Bn I q Um)
  | str j=>obtain ⟨t',rfl⟩ := ry; exact PySem.EqMixed.eq_int_str (Bn I q (by simp))
  | _=>exact absurd (show false = true from hs) Bool.false_ne_true
 | str i =>
  obtain ⟨t,rfl⟩ := rx
  cases y with
  | non=>cases ry; exact PySem.EqNone.eq_str_none (Bn I q (by simp))
  | bl j=>cases ry; exact PySem.EqMixed.eq_str_bool (Bn I q (by simp))
  | int j=>obtain ⟨t',rfl⟩ := ry; exact PySem.EqMixed.eq_str_int (Bn I q (by simp))
  | str j=>obtain ⟨t',rfl⟩ := ry; exact eq_str (Bn I q Ug)
  | _=>exact absurd (show false = true from hs) Bool.false_ne_true
 | byt i =>
  obtain ⟨t,rfl⟩ := rx
  cases y with
  | byt j=>obtain ⟨t',rfl⟩ := ry; exact PySem.W.eq_bytes (Bn I q Uc)
  | _=>exact absurd (show false = true from hs) Bool.false_ne_true
 | _=>cases y <;> exact absurd (show false = true from hs) Bool.false_ne_true
theorem az:Hn X (compareOp .NotEq) qy:=by
 intro pins s σ H x y v u Q I rx ry h
 obtain ⟨hs,q⟩ := h
 cases x with
 | non =>
  cases rx
  cases y with
  | non=>cases ry; exact PySem.EqNone.ne_none_none (Bn I q (by simp))
  | bl j=>cases ry; exact PySem.EqNone.ne_none_bool (Bn I q (by simp))
  | int j=>obtain ⟨t',rfl⟩ := ry; exact PySem.EqNone.ne_none_int (Bn I q (by simp))
  | str j=>obtain ⟨t',rfl⟩ := ry; exact PySem.EqNone.ne_none_str (Bn I q (by simp))
  | _=>exact absurd (show false = true from hs) Bool.false_ne_true
 | bl i =>
  cases rx
  cases y with
  | non=>cases ry; exact PySem.EqNone.ne_bool_none (Bn I q (by simp))
  | bl j=>cases ry; exact ne_bool (Bn I q (congrArg not Wo))
  | str j=>obtain ⟨t',rfl⟩ := ry; exact PySem.EqMixed.ne_bool_str (Bn I q (by simp))
  | _=>exact absurd (show false = true from hs) Bool.false_ne_true
 | int i =>
  obtain ⟨t,rfl⟩ := rx
  cases y with
  | non=>cases ry; exact PySem.EqNone.ne_int_none (Bn I q (by simp))
  | int j=>obtain ⟨t',rfl⟩ := ry; exact ne_int (Bn I q (congrArg not Um))
  | str j=>obtain ⟨t',rfl⟩ := ry; exact PySem.EqMixed.ne_int_str (Bn I q (by simp))
  | _=>exact absurd (show false = true from hs) Bool.false_ne_true
 | str i =>
  obtain ⟨t,rfl⟩ := rx
  cases y with
  | non=>cases ry; exact PySem.EqNone.ne_str_none (Bn I q (by simp))
  | bl j=>cases ry; exact PySem.EqMixed.ne_str_bool (Bn I q (by simp))
  | int j=>obtain ⟨t',rfl⟩ := ry; exact PySem.EqMixed.ne_str_int (Bn I q (by simp))
  | str j=>obtain ⟨t',rfl⟩ := ry; exact ne_str (Bn I q (congrArg not Ug))
  | _=>exact absurd (show false = true from hs) Bool.false_ne_true
 | byt i =>
  obtain ⟨t,rfl⟩ := rx
  cases y with
  | byt j=>obtain ⟨t',rfl⟩ := ry; exact PySem.W.ne_bytes (Bn I q (congrArg not Uc))
  | _=>exact absurd (show false = true from hs) Bool.false_ne_true
 | _=>cases y <;> exact absurd (show false = true from hs) Bool.false_ne_true
theorem Hx:Hn X (compareOp .Lt) (c6 fun i j=>.bl (decide (i < j))):=fu fun _ _ _ _ _ _ _ q=>lt_int q
theorem N1:Hn X (compareOp .Gt) (c6 fun i j=>.bl (decide (j < i))):=fu fun _ _ _ _ _ _ _ q=>gt_int q
theorem Xn:Hn X (compareOp .GtE) (c6 fun i j=>.bl (decide (j <= i))):=fu fun _ _ _ _ _ _ _ q=>ge_int q
theorem Oo:Hn X (compareOp .Is) (fun x y H Q=>y = .non /\ Q (.bl (decide (x = .non))) H):=by
 intro pins s σ H x y v u Q I rx ry h
 obtain ⟨rfl,q⟩ := h
 cases ry
 refine is_none_gen (Bn I q ?_)
 cases x <;> first
  | (cases rx; rfl)
  | (obtain ⟨t,rfl⟩ := rx; rfl)
theorem Ij:Hn X (compareOp .IsNot) (fun x y H Q=>y = .non /\ Q (.bl (!decide (x = .non))) H):=by
 intro pins s σ H x y v u Q I rx ry h
 obtain ⟨rfl,q⟩ := h
 cases ry
 refine isnot_none_gen (Bn I q ?_)
 cases x <;> first
  | (cases rx; rfl)
  | (obtain ⟨t,rfl⟩ := rx; rfl)
theorem Aw (b:Expr) {op:CmpOp} (h:op ≠ .In:=by decide) (h2:op ≠ .NotIn:=by decide):behindInMarks op b = false:=by
 have e1:(op == CmpOp.In) = false:=by cases op <;> first | rfl | exact absurd rfl h
 have e2:(op == CmpOp.NotIn) = false:=by cases op <;> first | rfl | exact absurd rfl h2
 cases b <;> simp [behindInMarks,e1,e2]
theorem E8 {op:CmpOp} {r:R2} (ho:Hn X (compareOp op) r) (ha:PE X a ta) (hb:PE X b tb) (hm:behindInMarks op b = false):PE X (.Compare a [op] [b] pos) (lj r ta tb):=by
 intro pins s σ H Q I h
 exact wpAny_Compare1 (fi ha hb I h fun v u s2 x y H2 I2 rx ry q=>ho pins s2 σ H2 x y v u Q I2 rx ry q) hm
def jg (t:TE):TT:=fun σ H Q=>t σ H fun x H'=>∃ k,x = .bl k /\ Q k H'
theorem Ar {op:CmpOp} {r:R2} (ho:Hn X (compareOp op) r) (ha:PE X a ta) (hb:PE X b tb) (hm:behindInMarks op b = false):PT X (.Compare a [op] [b] pos) (jg (lj r ta tb)):=by
 intro pins s σ H Q I h
 refine wpAny_isTrue_Compare1 (Cf (ha pins s σ H _ I h) fun v s1 ⟨x,H1,I1,r1,q1⟩=>Cf (hb pins s1 σ H1 _ I1 q1) fun u s2 ⟨y,H2,I2,r2,q2⟩ =>
  Cf (ho pins s2 σ H2 x y v u _ I2 r1 r2 q2) fun c s3 ⟨z,H3,I3,r3,k,e,q3⟩=>?_) hm
 subst e
 cases r3
 exact wpAny_truthy_bool ⟨H3,I3,q3⟩
def ky (K:PySem.W.Frag) (x:V) (H:Hp) (k:Bool):Prop :=
 match x with
 | .non=>k = false
 | .bl b=>k = b
 | .int i=>k = (i != 0)
 | .str y=>y.length <= sizeLine /\ k = ((y.length:Int) != 0)
 | .byt y=>y.size <= sizeLine /\ k = ((y.size:Int) != 0)
 | .ref p=>(∃ xs,B9 K H p xs /\ k = !xs.isEmpty) \/ (∃ xs,Br K H p xs /\ k = !xs.isEmpty) \/ ∃ kvs,H p = some (.dK kvs) /\ k = !kvs.isEmpty
 | _=>False
theorem Sv {κ:Type} {kvs:List (κ × V)} {vs:List (κ × Value)} (r:KV kvs vs):(!vs.isEmpty) = !kvs.isEmpty:=by
 cases r <;> rfl
theorem K8 {xs:List V} {its:List Value} (r:B7 xs its):(!its.toArray.isEmpty) = !xs.isEmpty:=by
 cases r <;> simp
theorem Iq:(sizeLine:Nat) < 2 ^ 63:=by rw [sizeLine_eq]; decide
theorem du:ng X (fun x H Q=>∃ k,ky X.K x H k /\ Q k H):=by
 intro pins s σ H x v Q I rx h
 obtain ⟨k,e,q⟩ := h
 have hl:=Iq
 have hs:sizeLine = 16777216:=sizeLine_eq
 cases x with
 | non =>
  cases rx
  have e':k = false:=e
  subst e'
  exact truthy_none ⟨H,I,q⟩
 | bl b =>
  cases rx
  have e':k = b:=e
  subst e'
  exact wpAny_truthy_bool ⟨H,I,q⟩
 | int i =>
  obtain ⟨t,rfl⟩ := rx
  have e':k = (i != 0):=e
  subst e'
  exact PySem.P.truthy_int ⟨H,I,q⟩
 | str y =>
  obtain ⟨t,rfl⟩ := rx
  obtain ⟨hy,e'⟩ : y.length <= sizeLine /\ k = ((y.length:Int) != 0):=e
  subst e'
  exact PySem.P.truthy_str (by omega) ⟨H,I.tok _,q⟩
 | byt y =>
  obtain ⟨t,rfl⟩ := rx
  obtain ⟨hy,e'⟩ : y.size <= sizeLine /\ k = ((y.size:Int) != 0):=e
  subst e'
  exact PySem.W.truthy_bytes (by omega) ⟨H,I.tok _,q⟩
 | ref p =>
  cases rx
  have e':(∃ xs,B9 X.K H p xs /\ k = !xs.isEmpty) \/ (∃ xs,Br X.K H p xs /\ k = !xs.isEmpty) \/ ∃ kvs,H p = some (.dK kvs) /\ k = !kvs.isEmpty:=e
  rcases e' with ⟨xs,hx,e'⟩ | ⟨xs,hx,e'⟩ | ⟨kvs,hx,e'⟩
  ·subst e'
   obtain ⟨its,r,pl,hz⟩ := I.list hx
   have hlen:=r.length
   exact wpAny_truthy_list pl.isList (by simp only [List.size_toArray]; omega) ⟨H,I.tok _,by rw [K8 r]; exact q⟩
  ·subst e'
   obtain ⟨its,r,pl,hz⟩ := I.tuple hx
   have hlen:=r.length
   exact truthy_tuple pl (by simp only [List.size_toArray]; omega) ⟨H,I.tok _,by rw [K8 r]; exact q⟩
  ·subst e'
   obtain ⟨hz,hS,vs,r,m⟩ : kvs.length <= sizeLine /\ (p == sysModules) = false /\ ∃ vs,KV kvs vs /\ s.heap.DictOf (Dj X.prog X.w) p vs:=I.hok p _ hx
   have hlen:kvs.length = vs.length:=Paired.length r
   exact wpAny_truthy_dict hS m (by omega) ⟨H,I.tok _,by rw [Sv r]; exact q⟩
 | _=>exact (show False from e).elim
theorem Qs (ha : PE X a ta) (he : ∀ whole, isTrue a X.env whole = (do let v <- whole; standAt a.pos; holding [v] (truthy v))) :
  PT X a (fun σ H Q=>ta σ H fun x H'=>∃ k,ky X.K x H' k /\ Q k H'):=by
 intro pins s σ H Q I h
 exact isTrue_plain (Cf (ha pins s σ H _ I h) fun v s1 ⟨x,H1,I1,r1,q1⟩=>du pins s1 σ H1 x v Q I1 r1 q1) (he _)
theorem Pp {x:V} {us:List Value} (r:B7 [x] us):∃ u,us = [u] /\ B6 x u:=by
 cases r with
 | cons r1 r2=>cases r2; exact ⟨_,rfl,r1⟩
theorem Xi {x y:V} {us:List Value} (r:B7 [x,y] us):∃ u w',us = [u,w'] /\ B6 x u /\ B6 y w':=by
 cases r with
 | cons r1 r2 =>
  cases r2 with
  | cons r3 r4=>cases r4; exact ⟨_,_,rfl,r1,r3⟩
theorem Fb (hc:X.calm = true):Es X (.builtin "max") (fun xs H Q=>∃ i j,xs = [.int i,.int j] /\ Q (.int (if j > i then j else i)) H):=by
 intro pins s σ H xs us Q I r h
 obtain ⟨i,j,rfl,q⟩ := h
 obtain ⟨u,w',rfl,⟨t,rfl⟩,⟨t',rfl⟩⟩ := Xi r
 refine max_two_ints (I.ok.hd hc) fun h' tk k=>⟨_,H,I.kept k,?_,q⟩
 by_cases hj:j > i
 ·rw [if_pos hj,if_pos hj]; exact ⟨_,rfl⟩
 ·rw [if_neg hj,if_neg hj]; exact ⟨_,rfl⟩
theorem Ve (hc:X.calm = true):Es X (.builtin "min") (fun xs H Q=>∃ i j,xs = [.int i,.int j] /\ Q (.int (if j < i then j else i)) H):=by
 intro pins s σ H xs us Q I r h
 obtain ⟨i,j,rfl,q⟩ := h
 obtain ⟨u,w',rfl,⟨t,rfl⟩,⟨t',rfl⟩⟩ := Xi r
 refine min_two_ints (I.ok.hd hc) fun h' tk k=>⟨_,H,I.kept k,?_,q⟩
 by_cases hj:j < i
 ·rw [if_pos hj,if_pos hj]; exact ⟨_,rfl⟩
 ·rw [if_neg hj,if_neg hj]; exact ⟨_,rfl⟩
end
structure ci (h:Heap) (x dx C:Addr) (mA:Str -> Option Value):Prop where
 obj:h.get? x = some (PySem.W.instObj C dx)
 ns:h.Ns1 dx mA
 ne:dx ≠ x
theorem W2 {h:Heap} {dx:Addr} {mA:Str -> Option Value} (n:h.Ns1 dx mA):∃ od,h.get? dx = some od /\ ∀ name,PySem.W.lookIn name od = some (mA name):=by
 obtain ⟨o,es,ep,ho,hd,hk,_,hm⟩ := n
 refine ⟨o,ho,fun name=>?_⟩
 have e:=hm name
 unfold nsFind findBy at e
 rw [<- Array.find?_toList] at e
 unfold PySem.W.lookIn
 rw [hd]
 dsimp only
 split
 ·rename_i y q
  rw [q] at e
  exact congrArg some e
 ·rename_i q
  rw [q] at e
  have a:es.toList.any (·.refKey) = false:=by
   rw [List.any_eq_false]
   intro y hy
   obtain ⟨z,t,hkey⟩ := hk y (Array.mem_toList_iff.mp hy)
   simp [DictEntry.refKey,hkey]
  have a':¬ es.toList.any (·.refKey) = true:=by rw [a]; exact Bool.false_ne_true
  rw [if_neg a']
  exact congrArg some e
theorem ci.look {h:Heap} {x dx C:Addr} {mA:Str -> Option Value} (I:ci h x dx C mA):∃ od,PySem.W.InstAt h x (PySem.W.instObj C dx) C (some od) /\ ∀ name,PySem.W.lookIn name od = some (mA name) :=
 let ⟨od,ho,hl⟩ := W2 I.ns
 ⟨od,⟨I.obj,rfl,rfl,ho⟩,hl⟩
section
variable {prog:Program} {w:World} {A:Around} {E:Value -> Shared -> Prop} {s:Shared} {K:PySem.W.Frag} {x dx C f:Addr} {mA:Str -> Option Value} {name:Str} {v:Value}
end
theorem Hu.some_of {v:V} {o:Option Value} (r:Hu (some v) o):∃ u,o = some u /\ B6 v u:=by
 cases o with
 | none=>exact (show False from r).elim
 | some u=>exact ⟨u,rfl,r⟩
section
variable {P:Program} {w:World} {H H':Hp} {h h':Heap} {a C dx:Addr} {fs fs':List (Str × V)}
theorem Zj (hok:Fx P w H h) (e:H a = some (.ins C dx fs)):∃ mA,ci h a dx C mA /\ (∀ f,Hu (fs.lookup f) (mA f)) /\ PySem.Within mA (fs.map (·.1)) /\ fs.length <= 1000 /\ H dx = some (.own a):=by
 obtain ⟨d,z,ne,ob,mA,n,r,q⟩ := (show Bw P w H h a (.ins C dx fs) from hok a _ e)
 exact ⟨mA,⟨ob,n,ne⟩,r,q,z,d⟩
end
structure nt (K:PySem.W.Frag) (C:Addr):Prop where
 pg:PySem.W.plainGet K C Str.empty = true
 hd:PySem.W.hasDictIn K C = true
 po:PySem.W.plainOver K C = true
 sa:PySem.W.findIn K (.ref C) "__setattr__" = some (some (.builtin "object.__setattr__"))
theorem nt.get {K:PySem.W.Frag} {C:Addr} (c:nt K C) (f:Str):PySem.W.plainGet K C f = true:=c.pg
section
variable {X:Cx} {pins:List (Addr × Obj)} {σ:St} {H:Hp} {s:Shared} {a C dx:Addr} {fs:List (Str × V)} {f:Str} {v:V} {A:Around} {E:Value -> Shared -> Prop}
end
section
variable {X:Cx} {o e value:Expr} {f:Str} {pos pos' tpos:Pos} {ta tv:TE}
end
section
variable {X:Cx} {pins:List (Addr × Obj)} {σ:St} {H:Hp} {s:Shared} {A:Around} {E:Value -> Shared -> Prop} {Q:Value -> Shared -> Prop} {c:Value} {b:Bool}
inductive Ip (K:PySem.W.Frag) (H:Hp):V -> Value -> Prop where
 | non:Ip K H .non (.type "NoneType")
 | bl (x:Bool):Ip K H (.bl x) (.type "bool")
 | int (i:Int):Ip K H (.int i) (.type "int")
 | str (x:Str):Ip K H (.str x) (.type "str")
 | flt (x:UInt64):Ip K H (.flt x) (.type "float")
 | lst {a:Addr} {xs:List V} (e:H a = some (.lst xs)):Ip K H (.ref a) (.type "list")
 | frz {a:Addr} {o:Obj} {xs:List V} (e:H a = some (.frz o (.lst xs))):Ip K H (.ref a) (.type "list")
 | tup {a:Addr} {xs:List V} (e:H a = some (.tup xs)):Ip K H (.ref a) (.type "tuple")
 | dK {a:Addr} {kvs:List (Dv × V)} (e:H a = some (.dK kvs)):Ip K H (.ref a) (.type "dict")
 | dT {a:Addr} {kvs:List ((List Int × Int) × V)} (e:H a = some (.dT kvs)):Ip K H (.ref a) (.type "dict")
 | ins {a C dx : Addr} {fs : List (Str × V)} (e : H a = some (.ins C dx fs)) (cl : nt K C) (ha : PySem.W.findIn K (.ref C) "__class__" = some (some (.builtin "object.__class__")))
   (hn:PySem.W.specialIn K (.builtin "object.__class__") "__get__" = some (some (.builtin "getset_descriptor.__get__"))) (htk:PySem.W.takesIn K (.builtin "object.__class__") = some true)
   (hm:PySem.W.mroIn K C (.type "object") = some true):Ip K H (.ref a) (.ref C)
theorem V1 {x : V} {u t : Value} (I : Am X pins σ H s) (rx : B6 x u) (ty : Ip X.K H x t) (e : PySem.W.kitOne X.K t c = some b) (h : ∀ tk, Q (.bool b) { s with toks := tk }) :
  wpAny (model X.prog X.w) A (call (.builtin "isinstance") [u,c]) Q E s:=by
 cases ty with
 | non=>cases (show u = Value.none from rx); exact PySem.W.kia_one PySem.W.kitx_none I.kIn True.intro e (fun z=>nomatch z) h
 | bl y=>cases (show u = Value.bool y from rx); exact PySem.W.kia_one PySem.W.kitx_bool I.kIn True.intro e (fun z=>nomatch z) h
 | int i=>obtain ⟨t,q⟩ := (show ∃ t,u = Value.int i t from rx); cases q; exact PySem.W.kia_one PySem.W.kitx_int I.kIn True.intro e (fun z=>nomatch z) h
 | str y=>obtain ⟨t,q⟩ := (show ∃ t,u = Value.str y t from rx); cases q; exact PySem.W.kia_one PySem.W.kitx_str I.kIn True.intro e (fun z=>nomatch z) h
 | flt y=>obtain ⟨t,q⟩ := (show ∃ t,u = Value.float y t from rx); cases q; exact PySem.W.kia_one PySem.W.kitx_float I.kIn True.intro e (fun z=>nomatch z) h
 | @lst a xs ea =>
  cases (show u = Value.ref a from rx)
  obtain ⟨_,_,n,_,h1⟩ := (show Bw X.prog X.w H s.heap a (.lst xs) from I.hok a _ ea)
  exact PySem.W.kia_one PySem.W.kitx_list I.kIn ⟨_,h1,rfl⟩ e (fun z=>nomatch z) h
 | @frz a ob xs ea =>
  cases (show u = Value.ref a from rx)
  obtain ⟨_,_,_,n,_,h1⟩ := (show Bw X.prog X.w H s.heap a (.frz ob (.lst xs)) from I.hok a _ ea)
  exact PySem.W.kia_one PySem.W.kitx_list I.kIn ⟨_,h1,rfl⟩ e (fun z=>nomatch z) h
 | @tup a xs ea =>
  cases (show u = Value.ref a from rx)
  obtain ⟨_,_,_,p⟩ := (show Bw X.prog X.w H s.heap a (.tup xs) from I.hok a _ ea)
  obtain ⟨o,h1,h2,_⟩ := p
  exact PySem.W.kia_one PySem.W.kitx_tuple I.kIn ⟨o,h1,h2⟩ e (fun z=>nomatch z) h
 | @dK a kvs ea =>
  cases (show u = Value.ref a from rx)
  obtain ⟨_,_,vs,_,p⟩ := (show Bw X.prog X.w H s.heap a (.dK kvs) from I.hok a _ ea)
  obtain ⟨o,es,ep,h1,h2,_⟩ := p
  exact PySem.W.kia_one PySem.W.kitx_dict I.kIn ⟨o,h1,h2.1⟩ e (fun z=>nomatch z) h
 | @dT a kvs ea =>
  cases (show u = Value.ref a from rx)
  obtain ⟨_,_,xs,_,o,es,ep,h1,h2,_⟩ := (show Bw X.prog X.w H s.heap a (.dT kvs) from I.hok a _ ea)
  exact PySem.W.kia_one PySem.W.kitx_dict I.kIn ⟨o,h1,h2.1⟩ e (fun z=>nomatch z) h
 | @ins a C dx fs ea cl ha hn htk hm =>
  cases (show u = Value.ref a from rx)
  obtain ⟨mA,O,_⟩ := Zj I.hok ea
  obtain ⟨od,J,_⟩ := O.look
  exact PySem.W.kia_one (PySem.W.kitx_own (cl.get _) cl.hd ha hn htk hm) I.kIn J e (fun z=>nomatch z) h
end
structure E9 (k:Nat) (A:Around):Prop where
 hd:A.handled = none
 dp:A.depth + 3 * k + 5 < recursionLimit
 un:A.units + 16 * k + 200 < cLine
theorem E9.mono {j k:Nat} {A:Around} (r:E9 k A) (h:j <= k):E9 j A:=⟨r.hd,by have:=r.dp; omega,by have:=r.un; omega⟩
theorem E9.deeper {k:Nat} {A:Around} (r:E9 (k + 1) A) (env:Env):E9 k (A.deeper env) :=
 ⟨r.hd,by have:=r.dp; show A.depth + 1 + 3 * k + 5 < _; omega,by have:=r.un; show A.units + 3 + 16 * k + 200 < _; omega⟩
theorem E9.depth {k:Nat} {A:Around} (r:E9 k A):A.depth < recursionLimit:=by have:=r.dp; omega
theorem E9.units {k:Nat} {A:Around} (r:E9 k A):A.units + 64 < cLine:=by have:=r.un; omega
def jl:TA:=fun _ H Q=>Q [] H
def ag (ta:TE) (tr:TA):TA:=fun σ H Q=>ta σ H fun x H1=>tr σ H1 fun xs H2=>Q (x :: xs) H2
section
variable {X:Cx} {e:Expr} {es:List Expr} {te:TE} {t:TA} {pos:Pos}
theorem A8:PA X [] jl:=fun _ _ _ _ H Q I h=>Calls.spliced_nil ⟨[],H,I,.nil,h⟩
theorem A0 (ha:PE X e te) (hr:PA X es t) (hs:starEach (e :: es) X.env = (false,eval e X.env) :: starEach es X.env:=by rfl):PA X (e :: es) (ag te t):=by
 intro pos pins s σ H Q I h
 rw [hs]
 show wpAny _ _ (spliced ((false,eval e X.env) :: backTo pos (starEach es X.env))) _ _ s
 refine Calls.spliced_cons (Cf (ha pins s σ H _ I h) fun u s1 hz0=>?_)
 obtain ⟨x,H1,I1,r1,q1⟩ := hz0
 exact Cf (hr pos pins s1 σ H1 _ I1 q1) fun us s2 ⟨xs,H2,I2,r2,q2⟩=>⟨x :: xs,H2,I2,.cons r1 r2,q2⟩
def nv (t:TA):TE:=fun σ H Q=>t σ H fun xs H1=>xs.length <= sizeLine /\ ∀ p,H1 p = none -> Q (.ref p) (upd H1 p (.tup xs))
def ou (t:TA):TE:=fun σ H Q=>t σ H fun xs H1=>xs.length <= sizeLine /\ ∀ p,H1 p = none -> Q (.ref p) (upd H1 p (.lst xs))
theorem Bh {x1} (h:PA X es t):PE X (.Tuple es x1 pos) (nv t):=by
 intro pins s σ H Q I hq
 refine wpAny_Tuple_spliced (Cf (h pos pins s σ H _ I hq) fun us s1 ⟨xs,H1,I1,r,z,q⟩=>⟨by rw [<- r.length]; exact z,?_⟩)
 have hf:H1 s1.heap.objs.size = none:=I1.hok.fresh (Nat.le_refl _)
 refine ⟨.ref s1.heap.objs.size,upd H1 s1.heap.objs.size (.tup xs),I1.laid (t':=s1.toks) (fun b u e=>Heap.get?_push_of_some _ e) (Nat.le_refl _) ?_,rfl,q _ hf⟩
 exact ⟨⟨z,⟨_,Heap.get?_push_size _ rfl,rfl⟩⟩,us,r,⟨_,Heap.get?_push_size _ rfl,rfl,_,rfl⟩⟩
theorem Cl (h:PA X es t):PE X (.List es pos) (ou t):=by
 intro pins s σ H Q I hq
 refine wpAny_List_spliced (Cf (h pos pins s σ H _ I hq) fun us s1 ⟨xs,H1,I1,r,z,q⟩=>⟨by rw [<- r.length]; exact z,?_⟩)
 have hf:H1 s1.heap.objs.size = none:=I1.hok.fresh (Nat.le_refl _)
 refine ⟨.ref s1.heap.objs.size,upd H1 s1.heap.objs.size (.lst xs),I1.laid (t':=s1.toks) (fun b u e=>Heap.get?_push_of_some _ e) (Nat.le_refl _) ?_,rfl,q _ hf⟩
 exact ⟨z,us,0,r,Heap.get?_push_size _ rfl⟩
end
abbrev Sp:=List V -> Hp -> VK -> XK -> Prop
abbrev Wf:=List Env -> Hp -> Shared -> XK -> Value -> Shared -> Prop
structure Za (P:Program) (w:World) (K:PySem.W.Frag) (mg:Str -> Option Value) (base:Heap) (A:Around) (outer:List Env) (s:Shared) (H:Hp):Prop where
 frames:A.frames = some outer
 mod:Mod K mg base
 bs:∀ b o,base.get? b = some o -> s.heap.get? b = some o /\ H b = none
 bsz:base.objs.size <= s.heap.objs.size
 funs:s.heap.FunFrames base outer
 frf:∀ b ∈ frs outer,H b = none
 hok:Fx P w H s.heap
 bare:AllBare s.gens
def CE (outer:List Env) (P:Program) (w:World) (H:Hp) (s:Shared) (Q:VK) (u:Value) (s':Shared):Prop :=
 ∃ v H',s'.os = s.os /\ AllBare s'.gens /\ Un (frs outer) [] H H' s.heap s'.heap /\ Fx P w H' s'.heap /\ B6 v u /\ Q v H'
def CR (CX:Wf) (outer:List Env) (P:Program) (w:World) (H:Hp) (s:Shared) (Q:VK) (E:XK) (r:Result) (s':Shared):Prop :=
 match r with
 | .ok (.ret u)=>CE outer P w H s Q u s'
 | .ok _=>False
 | .error e=>CX outer H s E e s'
structure Al (P:Program) (w:World) (K:PySem.W.Frag) (mg:Str -> Option Value) (base:Heap) (CX:Wf) (k:Nat) (f:Addr) (fd:FuncData) (ps:List Str) (sp:Sp):Prop where
 len:∀ vs H Q E,sp vs H Q E -> vs.length = ps.length
 run:∀ (A:Around) (outer:List Env) (s:Shared) (H:Hp) (args:Args) (us:List Value) (vs:List V) (Q:VK) (E:XK),E9 k A -> Za P w K mg base A outer s H -> BindsTo s fd args (ps.zip us) -> B7 vs us -> sp vs H Q E ->
  codeAny (model P w) A (.call (.ref f) args) (CR CX outer P w H s Q E) s
section
variable {X:Cx} {pins:List (Addr × Obj)} {σ:St} {H:Hp} {s s':Shared}
theorem Am.env0 (I:Am X pins σ H s):Za X.prog X.w X.K X.mg X.base X.A X.stack s H :=
 ⟨I.ok.frames,I.ok.mod,I.bs,Nat.le_trans I.ok.bsz I.sz,I.stack,I.stkFree,I.hok,I.bare⟩
theorem Am.after {Q:VK} {u:Value} (I:Am X pins σ H s) (h:CE X.stack X.prog X.w H s Q u s'):EP X pins σ Q u s':=by
 obtain ⟨v,H',os,bare,un,hok,r,q⟩ := h
 obtain ⟨hh,g,d,t,os'⟩ := s'
 obtain rfl:os' = s.os:=os
 exact ⟨v,H',I.call (h':=hh) (g':=g) (d':=d) (t':=t) (ch:=[]) un hok bare (fun b z=>absurd z (by simp)),r,q⟩
end
def ko (sp:Sp) (dvs:List V) (E:XK) (t:TA):TE:=fun σ H Q=>t σ H fun vs H1=>sp (vs ++ dvs) H1 Q E
def B8 (K:PySem.W.Frag) (fd:FuncData) (ps:List Str) (ds:List Value):Prop :=
 ∀ (s:Shared) (us:List Value),K.In s.heap -> (us ++ ds).length = ps.length -> BindsTo s fd ⟨us,[]⟩ (ps.zip (us ++ ds))
theorem B8.all {K:PySem.W.Frag} {fd:FuncData} {ps:List Str} (h:∀ us:List Value,us.length = ps.length -> bindArgs fd ⟨us,[]⟩ = pure (ps.zip us)):B8 K fd ps []:=fun s us _ hl=>by
 rw [List.append_nil] at hl ⊢
 exact .of_eq (h us hl)
def Rm (CX:Wf) (X:Cx) (E:XK):Prop := ∀ (pins:List (Addr × Obj)) (σ:St) (H:Hp) (s:Shared) (e:Value) (s':Shared),Am X pins σ H s -> CX X.stack H s E e s' -> X.xe e s'
section
variable {X:Cx} {CX:Wf} {k:Nat} {f C:Addr} {fd:FuncData} {ps:List Str} {sp:Sp} {dvs:List V} {ds:List Value} {E:XK} {x m:Str} {p pos apos:Pos} {e o:Expr} {es:List Expr} {ta:TE} {t:TA}
theorem gz {pins : List (Addr × Obj)} {σ : St} {H : Hp} {s : Shared} {Q : VK} {us : List Value} {vs : List V} (F : Al X.prog X.w X.K X.mg X.base CX k f fd ps sp) (hr : E9 k X.A) (hb : B8 X.K fd ps ds) (hd : B7 dvs ds) (hx : Rm CX X E)
  (I:Am X pins σ H s) (r:B7 vs us) (h:sp (vs ++ dvs) H Q E):wpAny (model X.prog X.w) X.A (call (.ref f) us) (EP X pins σ Q) X.xe s:=by
 have r2:B7 (vs ++ dvs) (us ++ ds):=r.append hd
 have hl:(us ++ ds).length = ps.length:=by rw [<- r2.length]; exact F.len _ _ _ _ h
 refine wpAny_call (codeAny_mono (F.run X.A X.stack s H ⟨us,[]⟩ (us ++ ds) (vs ++ dvs) Q E hr I.env0 (hb s us I.kIn hl) r2 h) fun r s' hq=>?_)
 cases r with
 | error e=>exact hx pins σ H s e s' I hq
 | ok fl =>
  cases fl with
  | ret u=>exact I.after hq
  | next=>exact False.elim hq
  | brk=>exact False.elim hq
  | cont=>exact False.elim hq
theorem Aj (F : Al X.prog X.w X.K X.mg X.base CX k f fd ps sp) (hr : E9 k X.A) (hg : Gl X x) (hm : X.mg x = some (.ref f)) (hk : PySem.W.keepIn X.K (.ref f) = true) (hb : B8 X.K fd ps ds) (hd : B7 dvs ds) (hx : Rm CX X E)
  (ha:PA X (e :: es) t) (hdb:(x == ("__debug__" : Str)) = false:=by decide) (he:starEach (e :: es) X.env = (false,eval e X.env) :: starEach es X.env:=by rfl) (hpl:(backTo pos (starEach es X.env)).any (·.1) = false:=by rfl) :
  PE X (.Call (.Name x p) (e :: es) [] pos) (ko sp dvs E t):=by
 intro pins s σ H Q I h
 refine wpAny_Call_Name_kw (Ub I hg hm ?_ hdb)
 refine PySem.W.callWith_K (h₀:=X.base) I.ok.mod.kin hk (Cf (ha pos pins s σ H _ I h) fun us s1 ⟨vs,H1,I1,r,q⟩=>⟨I1.kIn,?_⟩) he hpl
 exact gz F hr hb hd hx I1 r q
end
section
variable {X:Cx} {CX:Wf} {k:Nat} {f C:Addr} {fd:FuncData} {ps ks:List Str} {sp:Sp} {E:XK} {x m:Str} {p pos apos kpos:Pos} {e o:Expr} {es:List Expr} {kws:List Keyword} {te ta:TE} {t tk:TA} {nm:Option Str}
variable {g:List Value -> List Value -> List Value} {gV:List V -> List V -> List V}
end
structure Av (N P:List Str) (sc:Scope):Prop where
 kind:sc.kind = .function
 co:sc.isCoroutine = false
 gen:sc.isGenerator = false
 nd:N.Nodup
 pre:N.take P.length = P
 par:∀ x ∈ P,sc.names.lookup x = some .local \/ sc.names.lookup x = some .cell
 nofree:∀ y ∈ sc.names,y.2 ≠ .free
theorem Nz {kindOf:Str -> Option NameKind} {x:Str}:∀ {binds:List (Str × Value)} {m:Str -> Option Value},(∀ v,(x,v) ∉ binds) -> bindL kindOf binds m x = m x
 | [],_,_=>rfl
 | (n,v) :: r,m,h=>by
  unfold bindL
  rw [Nz fun w hw=>h w (List.mem_cons_of_mem _ hw)]
  split
  ·have:x ≠ n:=by rintro rfl; exact h v List.mem_cons_self
   simp [this]
  ·rfl
theorem Mk {kindOf:Str -> Option NameKind} {x:Str}:∀ {binds:List (Str × Value)} {m:Str -> Option Value},(∀ v,(x,v) ∉ binds) -> bindC kindOf binds m x = m x
 | [],_,_=>rfl
 | (n,v) :: r,m,h=>by
  unfold bindC
  rw [Mk fun w hw=>h w (List.mem_cons_of_mem _ hw)]
  split
  ·rfl
  ·have:x ≠ n:=by rintro rfl; exact h v List.mem_cons_self
   simp [this]
theorem O1 {kindOf : Str -> Option NameKind} {x : Str} {v : Value} : ∀ {P : List Str} {vs : List Value} {i : Nat} {m : Str -> Option Value}, P.Nodup -> P[i]? = some x -> vs[i]? = some v -> kindOf x = some .local ->
  bindL kindOf (P.zip vs) m x = some v
 | [],_,_,_,_,h,_,_=>by simp at h
 | _ :: _,[],_,_,_,_,h,_=>by simp at h
 | p :: P,w :: vs,0,m,nd,h1,h2,hk=>by
  simp at h1 h2; subst h1; subst h2
  show bindL kindOf ((p,w) :: P.zip vs) m p = _
  unfold bindL
  rw [Nz fun v hv=>(List.nodup_cons.mp nd).1 (List.of_mem_zip hv).1,if_pos hk]
  simp
 | p :: P,w :: vs,i + 1,m,nd,h1,h2,hk=>by
  show bindL kindOf ((p,w) :: P.zip vs) m x = _
  unfold bindL
  exact O1 (i:=i) (List.nodup_cons.mp nd).2 (by simpa using h1) (by simpa using h2) hk
theorem Nw {kindOf : Str -> Option NameKind} {x : Str} {v : Value} : ∀ {P : List Str} {vs : List Value} {i : Nat} {m : Str -> Option Value}, P.Nodup -> P[i]? = some x -> vs[i]? = some v -> kindOf x ≠ some .local ->
  bindC kindOf (P.zip vs) m x = some v
 | [],_,_,_,_,h,_,_=>by simp at h
 | _ :: _,[],_,_,_,_,h,_=>by simp at h
 | p :: P,w :: vs,0,m,nd,h1,h2,hk=>by
  simp at h1 h2; subst h1; subst h2
  show bindC kindOf ((p,w) :: P.zip vs) m p = _
  unfold bindC
  rw [Mk fun v hv=>(List.nodup_cons.mp nd).1 (List.of_mem_zip hv).1,if_neg hk]
  simp
 | p :: P,w :: vs,i + 1,m,nd,h1,h2,hk=>by
  show bindC kindOf ((p,w) :: P.zip vs) m x = _
  unfold bindC
  exact Nw (i:=i) (List.nodup_cons.mp nd).2 (by simpa using h1) (by simpa using h2) hk
def start (N:List Str) (vs:List V):St:=vs.map some ++ List.replicate (N.length - vs.length) none
def S9 (CX:Wf) (P:Program) (w:World) (K:PySem.W.Frag) (mg:Str -> Option Value) (base:Heap) (N:List Str) (qual:Str) (scope:Scope) (f:Addr) (cd:Value) (A:Around) (outer:List Env) (s:Shared) (H:Hp) (E:XK):Cx where
 prog:=P
 w:=w
 K:=K
 mg:=mg
 base:=base
 A:=A.deeper (envOfC qual scope s.heap.objs.size f cd)
 N:=N
 s₀:=s
 H₀:=H
 env:=envOfC qual scope s.heap.objs.size f cd
 outer:=outer
 stack:=envOfC qual scope s.heap.objs.size f cd :: outer
 ex:=[]
 calm:=true
 fn:=fun _=>true
 pn:=[]
 xe:=fun e s'=>wpAny (model P w) (A.deeper (envOfC qual scope s.heap.objs.size f cd)) (leaving (envOfC qual scope s.heap.objs.size f cd) e) (fun _ s''=>CX outer H s E e s'') (fun e' s''=>CX outer H s E e' s'') s'
theorem Qy {sc:Scope} {n:Nat} {x:Str} (h:sc.names.lookup x = some .cell):∃ c,(cellsFrom n sc.names []).lookup x = some c:=by
 have q:=PySem.W.cellsFrom_some sc.names n [] (.inl h)
 exact Option.isSome_iff_exists.mp q
theorem V5 {CX : Wf} {P : Program} {w : World} {K : PySem.W.Frag} {mg : Str -> Option Value} {base : Heap} {N ps : List Str} {qual : Str} {scope : Scope} {f : Addr} {cd : Value} {A : Around} {outer : List Env} {s s1 : Shared} {H : Hp} {E : XK} {us : List Value} {vs : List V}
  (S:Av N ps scope) (hd:A.handled = none) (e0:Za P w K mg base A outer s H) (hl:vs.length = ps.length) (r:B7 vs us)
  (x:InCallC s s.heap.objs.size (bindL (envOfC qual scope s.heap.objs.size f cd).kindOf (ps.zip us) fun _=>none) (cellsFrom (s.heap.objs.size + 1) scope.names []) (bindC (envOfC qual scope s.heap.objs.size f cd).kindOf (ps.zip us) fun _=>none) s1) :
  Am (S9 CX P w K mg base N qual scope f cd A outer s H E) [] (start N vs) H s1:=by
 have hpl:ps.length <= N.length:=by have:=congrArg List.length S.pre; rw [List.length_take] at this; omega
 obtain ⟨h1,tk,rfl,hk⟩ := x.done
 have noA:∀ b:Addr,b ∉ (S9 CX P w K mg base N qual scope f cd A outer s H E).ex:=fun b z=>absurd (show b ∈ ([]:List Addr) from z) (by simp)
 refine ⟨⟨e0.mod,S.kind,rfl,rfl,Nat.le_refl _,fun y z c h1 h2=>?_,fun y hy=>?_,fun y c _ h=>?_,fun _=>hd,Around.frames_deeper e0.frames,.inr ⟨rfl,rfl⟩,fun b z=>absurd z (noA b),e0.bs,e0.bsz,fun b _ _=>noA b,fun b z=>absurd z (noA b),e0.funs,e0.frf⟩,
  rfl,e0.bare,Un.kept hk,⟨_,x.toInCall.ns,fun i y v h1 h2 h3=>?_⟩,fun y c h=>⟨_,x.cell y c h⟩,e0.hok.fresh (Nat.le_refl _),fun y c h=>?_,fun p hp=>absurd (show p ∈ ([]:List (Addr × Obj)) from hp) (by simp),e0.hok.kept hk,?_⟩
 ·exact name_of_addr x.apart (PySem.mem_of_lookup h1) (PySem.mem_of_lookup h2)
 ·have hy:scope.names.lookup y = some .cell \/ scope.names.lookup y = some .free:=hy
  rcases hy with hy | hy
  ·exact Qy hy
  ·exact absurd rfl (S.nofree _ (PySem.mem_of_lookup hy))
 ·exact Nat.le_of_lt (x.above y c (PySem.mem_of_lookup h))
 ·have hi : i < vs.length := by
   unfold start at h2
   by_cases hi:i < vs.length
   ·exact hi
   ·rw [List.getElem?_append_right (by simpa using hi)] at h2
    rw [List.getElem?_replicate] at h2
    split at h2 <;> cases h2
  have ha:vs[i]? = some v:=by
   unfold start at h2
   rw [List.getElem?_append_left (by simpa using hi),List.getElem?_map] at h2
   cases e:vs[i]? with
   | none=>rw [e] at h2; cases h2
   | some a=>rw [e] at h2; cases h2; rfl
  obtain ⟨u,hu,rv⟩ := r.get ha
  have hp:ps[i]? = some y:=by
   rw [<- S.pre,List.getElem?_take_of_lt (by omega)]; exact h1
  have ndP:ps.Nodup:=by rw [<- S.pre]; exact S.nd.sublist (List.take_sublist _ _)
  refine ⟨u,rv,?_⟩
  rcases S.par y (List.mem_of_getElem? hp) with k | k
  ·exact .inl ⟨k,O1 ndP hp hu k⟩
  ·obtain ⟨c,e⟩ := Qy (n:=s.heap.objs.size + 1) k
   refine .inr ⟨.inl k,c,e,?_⟩
   have q:=x.cell y c e
   rw [Nw ndP hp hu (by show scope.names.lookup y ≠ _; rw [k]; decide)] at q
   exact q
 ·exact e0.hok.fresh (Nat.le_of_lt (x.above y c (PySem.mem_of_lookup h)))
 ·unfold start
  show _ = N.length
  rw [List.length_append,List.length_map,List.length_replicate]
  omega
theorem ar {CX : Wf} {P : Program} {w : World} {K : PySem.W.Frag} {mg : Str -> Option Value} {base : Heap} {k : Nat} {f : Addr} {name qual : Str} {params : Arguments} {body : List Stmt} {scope : Scope} {dV kV doc pm cdv ct oc : Value} {an od : Option Addr}
  {osl:Array (Option Value)} {N ps:List Str} {sp:Sp} (lk:K.lookup f = some ⟨oc,od,.func (PySem.W.fnOf name qual params body scope dV kV doc pm an cdv ct),osl⟩) (hcd:PySem.W.codeIn K cdv qual = true) (S:Av N ps scope)
  (len:∀ vs H Q E,sp vs H Q E -> vs.length = ps.length)
  (hbody:∀ (A:Around) (outer:List Env) (s:Shared) (H:Hp) (vs:List V) (Q:VK) (E:XK),E9 k (A.deeper (envOfC qual scope s.heap.objs.size f cdv)) -> sp vs H Q E ->
   ∃ t,Rk (S9 CX P w K mg base N qual scope f cdv A outer s H E) body t /\ t { nx:=fun _ H'=>Q .non H',rt:=Q } (start N vs) H) :
  Al P w K mg base CX (k + 1) f (PySem.W.fnOf name qual params body scope dV kV doc pm an cdv ct) ps sp:=by
 refine ⟨len,fun A outer s H args us vs Q E hr e0 hb r hsp=>?_⟩
 have hl:=len _ _ _ _ hsp
 have KX:K.In s.heap:=e0.mod.kin.keeps fun b o e=>(e0.bs b o e).1
 have lim:s.heap.NoLimit:=e0.mod.nolimit.keeps fun b o e=>(e0.bs b o e).1
 have hkind:∀ y ∈ ps.zip us,scope.names.lookup y.1 = some .local \/ (scope.names.lookup y.1 = some .cell /\ ((cellsFrom (s.heap.objs.size + 1) scope.names []).lookup y.1).isSome = true):=fun ⟨n,v⟩ hy=>by
  rcases S.par n (List.of_mem_zip hy).1 with q | q
  ·exact .inl q
  ·exact .inr ⟨q,PySem.W.cellsFrom_some _ _ _ (.inl q)⟩
 refine codeAny_call_function hr.depth (KX _ _ lk) rfl S.co S.gen rfl (PySem.W.codeRec_of KX hcd) (hb _ _ _ _ ?_)
 refine wpAny_newFunctionEnv_cells S.kind hkind fun env he s1 x=>?_
 subst he
 refine ⟨lim.keeps x.toInCall.keep,codeAny_func ?_⟩
 obtain ⟨t,ht,hq⟩ := hbody A outer s H vs Q E (hr.deeper _) hsp
 have I:Am (S9 CX P w K mg base N qual scope f cdv A outer s H E) [] (start N vs) H s1:=V5 S hr.hd e0 hl r x
 refine wpAny_mono (ht [] s1 (start N vs) H _ I hq) (fun fl s' hs=>?_) fun e s' hs=>hs
 have fin:∀ {σ':St} {H':Hp} {v:V} {u:Value},Am (S9 CX P w K mg base N qual scope f cdv A outer s H E) [] σ' H' s' -> B6 v u -> Q v H' -> CE outer P w H s Q u s' :=
  fun {σ' H' v u} J rv q=>⟨v,H',J.os,J.bare,J.base,J.hok,rv,q⟩
 cases fl with
 | ret u =>
  obtain ⟨v,σ',H',J,rv,q⟩ := hs
  exact fin J rv q
 | next =>
  obtain ⟨σ',H',J,q⟩ := hs
  exact fin (v:=V.non) (u:=Value.none) J rfl q
 | brk =>
  obtain ⟨_,_,_,q⟩ := hs
  exact False.elim q
 | cont =>
  obtain ⟨_,_,_,q⟩ := hs
  exact False.elim q
section
variable {X:Cx} {x:Str} {p pos:Pos} {e:Expr} {es:List Expr} {t:TA} {id T:String} {r:List V -> Hp -> VK -> Prop}
def qg (r:List V -> Hp -> VK -> Prop) (t:TA):TE:=fun σ H Q=>t σ H fun vs H1=>r vs H1 Q
theorem Ay (hc : Es X (.builtin id) r) (hg : Gl X x) (hm : X.mg x = none) (hv : bootBuiltins x = some (.builtin id)) (ha : PA X (e :: es) t) (hn : x ≠ "__name__" := by decide) (hdb : (x == ("__debug__" : Str)) = false := by decide)
  (he:starEach (e :: es) X.env = (false,eval e X.env) :: starEach es X.env:=by rfl) (hpl:(backTo pos (starEach es X.env)).any (·.1) = false:=by rfl):PE X (.Call (.Name x p) (e :: es) [] pos) (qg r t):=by
 intro pins s σ H Q I h
 refine wpAny_Call_Name_kw (Jc I hg hm hv ?_ hn hdb)
 exact PyProof.Rows.callWith_builtin1 (Cf (ha pos pins s σ H _ I h) fun us s1 ⟨vs,H1,I1,r1,q1⟩=>hc pins s1 σ H1 vs us Q I1 r1 q1) he hpl
theorem Bt (hc : Es X (.type T) r) (hg : Gl X x) (hm : X.mg x = none) (hv : bootBuiltins x = some (.type T)) (ha : PA X (e :: es) t) (hn : x ≠ "__name__" := by decide) (hdb : (x == ("__debug__" : Str)) = false := by decide)
  (he:starEach (e :: es) X.env = (false,eval e X.env) :: starEach es X.env:=by rfl) (hpl:(backTo pos (starEach es X.env)).any (·.1) = false:=by rfl):PE X (.Call (.Name x p) (e :: es) [] pos) (qg r t):=by
 intro pins s σ H Q I h
 refine wpAny_Call_Name_kw (Jc I hg hm hv ?_ hn hdb)
 exact PyProof.Rows.callWith_type1 (Cf (ha pos pins s σ H _ I h) fun us s1 ⟨vs,H1,I1,r1,q1⟩=>hc pins s1 σ H1 vs us Q I1 r1 q1) he hpl
end
end L2
namespace HT
local macro_rules | `(tactic| omega) => `(tactic| lia)
open PySem PyProof.Rows
section
open PySem.SeqAt
open PySem.AutoSeq1 (wpAny_loadPart')
open PySem.MeetsSeq PySem.MeetsSeq2 PySem.MeetsSeq3
end
section
variable {prog:Program} {w:World} {A:Around} {E:Value -> Shared -> Prop} {s:Shared}
theorem cat_tup {t b : Addr} {vs ws : List Value} {Q : Value -> Shared -> Prop} (ht : IsTup s.heap t vs.toArray) (hb : IsTup s.heap b ws.toArray) (hv : vs ≠ [])
  (h1:ws = [] -> Q (.ref t) s) (h2:ws ≠ [] -> Q (.ref s.heap.objs.size) { s with heap:=s.heap.push { cls := .type "tuple",data := .seq (vs ++ ws).toArray } })
  (hsz:vs.length + ws.length <= sizeLine):wpAny (model prog w) A (binaryOp .Add (.ref t) (.ref b)) Q E s:=by
 obtain ⟨⟨cls,dd,data,sl⟩,ho,hc,n,hd⟩ := id ht
 obtain ⟨⟨cls2,dd2,data2,sl2⟩,ho2,hc2,n2,hd2⟩ := id hb
 simp only at hc hd hc2 hd2
 subst hc hd hc2 hd2
 have e:vs.toArray ++ ws.toArray = (vs ++ ws).toArray:=by simp
 by_cases hw:ws = []
 ·exact concat_meets ⟨_, ho, rfl⟩ ⟨_, ho2, rfl⟩ noFill_tuple_add seq_tuple_add PySem.F.slot_tuple_add PySem.F.entry_tuple_add (PySem.F.args_tuple_add_2 _ _)
   (tuple_addW1 t b vs.toArray ws.toArray n n2 dd dd2 sl sl2 (by simpa using hv) (by simp [hw])) ⟨ho,ho2,h1 hw⟩
 ·refine concat_meets ⟨_, ho, rfl⟩ ⟨_, ho2, rfl⟩ noFill_tuple_add seq_tuple_add PySem.F.slot_tuple_add PySem.F.entry_tuple_add (PySem.F.args_tuple_add_2 _ _)
   (tuple_addW2 t b vs.toArray ws.toArray n n2 dd dd2 sl sl2 (by simpa using hv) (by simpa using hw) (by rw [List.size_toArray,List.size_toArray]; exact hsz)) ⟨ho,ho2,?_⟩
  rw [e]
  exact h2 hw
def sIx (n d:Nat):Option Int -> Nat
 | none=>d
 | some v=>if v < 0 then (v + (n:Int)).toNat else min v.toNat n
theorem sIx_none (n d:Nat):sIx n d none = d:=rfl
theorem sIx_nat (n d k:Nat):sIx n d (some (k:Int)) = min k n:=by
 show (if (k:Int) < 0 then ((k:Int) + (n:Int)).toNat else min (k:Int).toNat n) = min k n
 rw [if_neg (by omega),Int.toNat_natCast]
theorem dl (n d:Nat) (hd:d <= n) (o:Option Int):sIx n d o <= n:=by
 cases o with
 | none=>exact hd
 | some v =>
  show (if v < 0 then (v + (n:Int)).toNat else min v.toNat n) <= n
  by_cases hv:v < 0
  ·rw [if_pos hv]; omega
  ·rw [if_neg hv]; exact Nat.min_le_right _ _
theorem Uk (v:Int) (n d:Nat):(if v < 0 then max (v + (n:Int)) 0 else min v (n:Int)) = ((sIx n d (some v):Nat):Int):=by
 show (if v < 0 then max (v + (n:Int)) 0 else min v (n:Int)) = (((if v < 0 then (v + (n:Int)).toNat else min v.toNat n):Nat):Int)
 by_cases hv:v < 0
 ·simp only [if_pos hv]; omega
 ·simp only [if_neg hv]; omega
theorem Sk (lo hi:Option Int) (n:Nat):Builtin.Slice.sliceAdjust lo hi 1 (n:Int) = (((sIx n 0 lo:Nat):Int),((sIx n n hi:Nat):Int)):=by
 have h1:¬ ((1:Int) < 0):=by omega
 unfold Builtin.Slice.sliceAdjust
 simp only [h1,if_false]
 refine Prod.ext ?_ ?_
 ·cases lo with
  | none=>rfl
  | some v=>exact Uk v n 0
 ·cases hi with
  | none=>rfl
  | some v=>exact Uk v n n
theorem Rz (i j:Nat):Builtin.Slice.slicePlaces (i:Int) (j:Int) 1 = j - i:=by
 unfold Builtin.Slice.slicePlaces
 have h1:(1:Int) > 0:=by omega
 simp only [h1,if_true,Int.ediv_one]
 split <;> omega
theorem Ks {v:Value} {o:Option Int} {Q:Option Int -> Shared -> Prop} (p:IsPart v o) (h:Q o s):wpAny (model prog w) A (Builtin.Slice.slicePartIndex v) Q E s:=by
 cases p with
 | none=>exact slicePart_none h
 | int i t=>exact slicePart_int h
theorem Jk {sl : Addr} {vl vu : Value} {lo hi : Option Int} {n : Nat} {Q : Int × Int × Nat -> Shared -> Prop} (hs : s.heap.IsSliceOf sl vl vu .none) (pl : IsPart vl lo) (pu : IsPart vu hi)
  (h:Q (((sIx n 0 lo:Nat):Int),1,sIx n n hi - sIx n 0 lo) s):wpAny (model prog w) A (Builtin.Slice.sliceApplied (.ref sl) (pure (n:Int))) Q E s:=by
 obtain ⟨os,hos,hcs,hds⟩ := id hs
 unfold Builtin.Slice.sliceApplied Builtin.Slice.sliceFields
 refine wpAny_bind (wpAny_bind (wpAny_field hos hds (x:=vl) rfl (wpAny_bind (wpAny_field hos hds (x:=vu) rfl (wpAny_bind (wpAny_field hos hds (x := .none) rfl (wpAny_pure ?_)))))))
 refine wpAny_bind (slicePart_none ?_)
 show wpAny _ _ (if ((1:Int) == 0) = true then _ else _) _ _ s
 rw [if_neg (by decide)]
 refine wpAny_bind (Ks pl (wpAny_bind (Ks pu (wpAny_bind (wpAny_pure ?_)))))
 show wpAny _ _ (match Builtin.Slice.sliceAdjust lo hi 1 (n:Int) with | (lo,hi)=>pure (lo,(1:Int),Builtin.Slice.slicePlaces lo hi 1)) _ _ s
 rw [Sk lo hi n]
 show wpAny _ _ (pure (((sIx n 0 lo:Nat):Int),(1:Int),Builtin.Slice.slicePlaces ((sIx n 0 lo:Nat):Int) ((sIx n n hi:Nat):Int) 1)) _ _ s
 rw [Rz]
 exact wpAny_pure h
theorem Ww (xs:Array Value) (i k:Nat):((List.range k).filterMap fun (m:Nat)=>xs[((i:Int) + (m:Int) * 1).toNat]?).toArray = ((xs.toList.drop i).take k).toArray:=by
 have e:(fun (m:Nat)=>xs[((i:Int) + (m:Int) * 1).toNat]?) = fun m=>xs[i + m]?:=by
  funext m
  have:((i:Int) + (m:Int) * 1).toNat = i + m:=by omega
  rw [this]
 rw [e]
 have:=pick_run xs i k
 rw [List.filterMap_map] at this
 have e2:((fun x=>xs[x]?) ∘ fun x=>i + x) = fun m=>xs[i + m]?:=rfl
 rw [e2] at this
 rw [this]
theorem getItem_tuple_cut {t sl : Addr} {items : Array Value} {vl vu : Value} {lo hi : Option Int} {Q : Value -> Shared -> Prop} (ht : IsTup s.heap t items) (hs : s.heap.IsSliceOf sl vl vu .none) (pl : IsPart vl lo) (pu : IsPart vu hi)
  (hw:¬ (sIx items.size 0 lo = 0 /\ sIx items.size items.size hi = items.size))
  (h:Q (.ref s.heap.objs.size) { s with heap:=s.heap.push { cls := .type "tuple",data := .seq ((items.toList.drop (sIx items.size 0 lo)).take (sIx items.size items.size hi - sIx items.size 0 lo)).toArray } })
  (hsz:items.size <= sizeLine):wpAny (model prog w) A (getItem (.ref t) (.ref sl)) Q E s:=by
 have htake:sizeOk (.seq ((items.toList.drop (sIx items.size 0 lo)).take (sIx items.size items.size hi - sIx items.size 0 lo)).toArray):=by
  show ((items.toList.drop (sIx items.size 0 lo)).take (sIx items.size items.size hi - sIx items.size 0 lo)).toArray.size <= sizeLine
  rw [List.size_toArray,List.length_take,List.length_drop,Array.length_toList]
  omega
 have hj:sIx items.size items.size hi <= items.size:=dl _ _ (Nat.le_refl _) hi
 obtain ⟨os,hos,hcs,hds⟩ := id hs
 have hTs:s.TypeIs (.ref sl) "slice" := ⟨os,hos,hcs⟩
 unfold getItem
 try with_reducible refine wpAny_holding ?_
 first | refine wpAny_bind (wpAny_pure ?_) | skip
 refine wpAny_bind (wpAny_sequenceKey ht.typeIs (by decide) ?_)
 refine wpAny_bind (wpAny_callSpecial?_slot (name:=Str.ofString "__getitem__") ht.typeIs PyProof.Rows.slot_tuple_getitem
  (wpAny_call_entry PyProof.Rows.slot_tuple_getitem ht.typeIs entry_tuple_getitem ?_ (args_tuple_getitem _ _)))
 show wpAny _ _ (Builtin.Tuple.tupleItemsOf (.ref t) >>= _) _ _ s
 refine wpAny_bind (tupleItemsOf_ ht ?_)
 refine wpAny_bind (wpAny_typeOf hTs ?_)
 rw [if_pos (by decide)]
 refine wpAny_bind (Jk hs pl pu ?_)
 have hno:¬ ((((sIx items.size 0 lo:Nat):Int) == 0 && (1:Int) == 1 && (sIx items.size items.size hi - sIx items.size 0 lo) == items.size) = true):=by
  intro q
  rw [Bool.and_eq_true,Bool.and_eq_true] at q
  have q1:((sIx items.size 0 lo:Nat):Int) = 0:=eq_of_beq q.1.1
  have q2:sIx items.size items.size hi - sIx items.size 0 lo = items.size:=eq_of_beq q.2
  exact hw ⟨by omega,by omega⟩
 show wpAny _ _ (if (((sIx items.size 0 lo:Nat):Int) == 0 && (1:Int) == 1 && (sIx items.size items.size hi - sIx items.size 0 lo) == items.size) = true then _ else _) _ _ s
 rw [if_neg hno,Ww]
 first
  | exact wpAny_bind (m:=Builtin.Tuple.tupleExact _) (wpAny_newObj_type (wpAny_pure ⟨_,rfl,wpAny_pure h⟩) htake)
  | exact wpAny_bind (m:=Builtin.Tuple.tupleExact _) (wpAny_newObj_type (wpAny_bind (wpAny_pure (wpAny_pure ⟨_,rfl,wpAny_pure h⟩))) htake)
  | exact wpAny_bind (wpAny_bind (m:=Builtin.Tuple.tupleExact _) (wpAny_newObj_type (wpAny_pure (wpAny_pure ⟨_,rfl,wpAny_pure h⟩)) htake))
  | exact wpAny_bind (wpAny_bind (m:=Builtin.Tuple.tupleExact _) (wpAny_newObj_type (wpAny_pure ⟨_,rfl,wpAny_pure h⟩) htake))
end
end HT
namespace L2
local macro_rules | `(tactic| omega) => `(tactic| lia)
open PySem PySem.Spec PyProof.Rows
abbrev TO:=St -> Hp -> (Option Int -> Hp -> Prop) -> Prop
def PO (X:Cx) (e:Option Expr) (t:TO):Prop :=
 ∀ (pins:List (Addr × Obj)) (s:Shared) (σ:St) (H:Hp) (Q:Option Int -> Hp -> Prop),Am X pins σ H s -> t σ H Q ->
  wpAny (model X.prog X.w) X.A (evalPart e X.env) (fun u s'=>∃ o H',Am X pins σ H' s' /\ IsPart u o /\ Q o H') X.xe s
def Yz:TO:=fun _ H Q=>Q none H
def iy (t:TE):TO:=fun σ H Q=>t σ H fun x H1=>∃ i,x = .int i /\ Q (some i) H1
section
variable {X:Cx} {e:Expr} {te:TE} {lo hi:Option Expr} {tl th:TO} {pos p2:Pos}
theorem Cp:PO X none Yz:=by
 intro pins s σ H Q I h
 rw [evalPart_none]
 exact wpAny_pure ⟨none,H,I,.none,h⟩
theorem Cg (h:PE X e te):PO X (some e) (iy te):=by
 intro pins s σ H Q I hw
 rw [evalPart_some]
 refine Cf (h pins s σ H _ I hw) fun u s1 hz0=>?_
 obtain ⟨x,H1,I1,r1,q1⟩ := hz0
 obtain ⟨i,rfl,q⟩ := q1
 obtain ⟨t,rfl⟩ := r1
 exact ⟨some i,H1,I1,.int i t,q⟩
def jx (X:Cx) (r:V -> Option Int -> Option Int -> Hp -> VK -> Prop):Prop :=
 ∀ (pins:List (Addr × Obj)) (s:Shared) (σ:St) (H:Hp) (x:V) (v vl vu:Value) (lo hi:Option Int) (sl:Addr) (Q:VK),Am X pins σ H s -> B6 x v -> s.heap.IsSliceOf sl vl vu .none -> IsPart vl lo -> IsPart vu hi -> r x lo hi H Q ->
  ∃ T id,typeLookup (.type T) "__getitem__" = pure (some (.builtin id)) /\ s.TypeIs v T /\ wpAny (model X.prog X.w) X.A (getItem v (.ref sl)) (EP X pins σ Q) X.xe s
def rj (r:V -> Option Int -> Option Int -> Hp -> VK -> Prop) (te:TE) (tl th:TO):TE:=fun σ H Q=>te σ H fun x H1=>tl σ H1 fun l H2=>th σ H2 fun u H3=>r x l u H3 Q
theorem C5 {r:V -> Option Int -> Option Int -> Hp -> VK -> Prop} (hr:jx X r) (he:PE X e te) (hl:PO X lo tl) (hu:PO X hi th):PE X (.Subscript e (.Slice lo hi none p2) pos) (rj r te tl th):=by
 intro pins s σ H Q I h
 refine Subscript_ (Cf (he pins s σ H _ I h) fun v s1 hz0=>?_)
 obtain ⟨x,H1,I1,r1,q1⟩ := hz0
 refine wpAny_Slice (Cf (hl pins s1 σ H1 _ I1 q1) fun vl s2 ⟨l,H2,I2,pl,q2⟩=>Cf (hu pins s2 σ H2 _ I2 q2) fun vu s3 hz0=>?_)
 obtain ⟨u,H3,I3,pu,q3⟩ := hz0
 rw [evalPart_none]
 refine wpAny_pure ?_
 have I4:Am X pins σ H3 { s3 with heap:=s3.heap.push { cls := .type "slice",data := .fields #[vl,vu,.none] } }:=I3.kept (t':=s3.toks) fun b ob q=>Heap.get?_push_of_some _ q
 obtain ⟨T,id,hT,ht,hg⟩ := hr pins { s3 with heap:=s3.heap.push { cls := .type "slice",data := .fields #[vl,vu,.none] } } σ H3 x v vl vu l u s3.heap.objs.size Q I4 r1 (Heap.IsSliceOf.new ..) pl pu q3
 show wpAny (model X.prog X.w) X.A (subscriptTail e (.Slice lo hi none p2) v (.ref s3.heap.objs.size)) (EP X pins σ Q) X.xe { s3 with heap:=s3.heap.push { cls := .type "slice",data := .fields #[vl,vu,.none] } }
 exact tail_any (ops:=[.ref s3.heap.objs.size,v]) ht hT hg (by with_unfolding_all rfl)
def Eh (xs:List V) (lo hi:Option Int):List V:=(xs.drop (HT.sIx xs.length 0 lo)).take (HT.sIx xs.length xs.length hi - HT.sIx xs.length 0 lo)
theorem Gj (xs:List V) (lo hi:Option Int):(Eh xs lo hi).length <= xs.length:=by
 unfold Eh
 rw [List.length_take,List.length_drop]
 omega
def ik (K:PySem.W.Frag):V -> Option Int -> Option Int -> Hp -> VK -> Prop:=fun x lo hi H Q=>∃ a xs,x = .ref a /\ Br K H a xs /\
 ¬ (HT.sIx xs.length 0 lo = 0 /\ HT.sIx xs.length xs.length hi = xs.length) /\ ∀ p,H p = none -> Q (.ref p) (upd H p (.tup (Eh xs lo hi)))
theorem fw:jx X (ik X.K):=by
 intro pins s σ H x v vl vu lo hi sl Q I rx hs pl pu h
 obtain ⟨a,xs,rfl,hx,hw,q⟩ := h
 cases rx
 obtain ⟨its,r,ht,hz⟩ := I.tuple hx
 have hlen:its.toArray.size = xs.length:=by rw [List.size_toArray]; exact r.length.symm
 refine ⟨"tuple",_,PyProof.Rows.slot_tuple_getitem.lookup,ht.typeIs,?_⟩
 refine HT.getItem_tuple_cut ht hs pl pu (by rw [hlen]; exact hw) ?_ (by rw [hlen]; exact hz)
 rw [hlen]
 refine ⟨.ref s.heap.objs.size,_,I.laid (t':=s.toks) (o := .tup (Eh xs lo hi)) (fun b ob q=>Heap.get?_push_of_some _ q) (Nat.le_refl _) ?_,rfl,q _ (I.hok.fresh (Nat.le_refl _))⟩
 exact ⟨⟨Nat.le_trans (Gj xs lo hi) hz,⟨_,Heap.get?_push_size _ rfl,rfl⟩⟩,_,(r.drop (HT.sIx xs.length 0 lo)).take (HT.sIx xs.length xs.length hi - HT.sIx xs.length 0 lo),IsTup.new _ _⟩
def k0 (K:PySem.W.Frag):R2:=fun x y H Q=>∃ a b xs ys,x = .ref a /\ y = .ref b /\ Br K H a xs /\ Br K H b ys /\ xs ≠ [] /\ xs.length + ys.length <= sizeLine /\
 (ys = [] -> Q (.ref a) H) /\ (ys ≠ [] -> ∀ p,H p = none -> Q (.ref p) (upd H p (.tup (xs ++ ys))))
theorem B7.nil_iff {xs:List V} {us:List Value} (r:B7 xs us):us = [] ↔ xs = []:=by
 cases r with
 | nil=>simp
 | cons _ _=>simp
theorem Uu:Hn X (binaryOp .Add) (k0 X.K):=by
 intro pins s σ H x y v u Q I rx ry h
 obtain ⟨a,b,xs,ys,rfl,rfl,ha,hb,hx,hz,q1,q2⟩ := h
 cases rx
 cases ry
 obtain ⟨its,r1,p1,_⟩ := I.tuple ha
 obtain ⟨its2,r2,p2,_⟩ := I.tuple hb
 refine HT.cat_tup p1 p2 (fun z=>hx (r1.nil_iff.mp z)) (fun z=>⟨.ref a,H,I,rfl,q1 (r2.nil_iff.mp z)⟩) (fun z=>?_) (by rw [<- r1.length,<- r2.length]; exact hz)
 refine ⟨.ref s.heap.objs.size,_,I.laid (t':=s.toks) (o := .tup (xs ++ ys)) (fun b ob q=>Heap.get?_push_of_some _ q) (Nat.le_refl _) ?_,rfl,q2 (fun w=>z (r2.nil_iff.mpr w)) _ (I.hok.fresh (Nat.le_refl _))⟩
 exact ⟨⟨by rw [List.length_append]; exact hz,⟨_,Heap.get?_push_size _ rfl,rfl⟩⟩,_,r1.append r2,IsTup.new _ _⟩
end
def Rr (n:Nat) (i:Int):Option Nat:=if 0 <= i then (if i < n then some i.toNat else none) else if -(n:Int) <= i then some (i + n).toNat else none
def Oz {α:Type} (xs:List α) (i:Int):Option α:=(Rr xs.length i).bind fun j=>xs[j]?
theorem Ur {n:Nat} {i:Int} {j:Nat} (h:Rr n i = some j):seqIndex? i n = some j /\ j < n /\ -(n:Int) <= i /\ i < n:=by
 unfold Rr at h
 by_cases h0:0 <= i
 ·rw [if_pos h0] at h
  by_cases h1:i < n
  ·rw [if_pos h1] at h
   have e:i.toNat = j:=Option.some.inj h
   exact ⟨by rw [seqIndex_of h0 h1,e],by omega,by omega,h1⟩
  ·rw [if_neg h1] at h; cases h
 ·rw [if_neg h0] at h
  by_cases h1 : -(n:Int) <= i
  ·rw [if_pos h1] at h
   have e:(i + n).toNat = j:=Option.some.inj h
   exact ⟨by rw [seqIndex_neg (by omega) h1,e],by omega,h1,by omega⟩
  ·rw [if_neg h1] at h; cases h
theorem U9 {α:Type} {xs:List α} {i:Int} {v:α} (h:Oz xs i = some v):∃ j,seqIndex? i xs.length = some j /\ xs[j]? = some v /\ j < xs.length /\ -(xs.length:Int) <= i /\ i < xs.length:=by
 unfold Oz at h
 cases e:Rr xs.length i with
 | none=>rw [e] at h; cases h
 | some j =>
  rw [e] at h
  obtain ⟨h1,h2,h3,h4⟩ := Ur e
  exact ⟨j,h1,h,h2,h3,h4⟩
theorem P3 {α:Type} {xs:List α} {j:Nat} {v:α} (h:xs[j]? = some v):Oz xs (j:Int) = some v:=by
 have hj:j < xs.length:=(List.getElem?_eq_some_iff.mp h).1
 have e:Rr xs.length (j:Int) = some j:=by
  unfold Rr
  rw [if_pos (by omega),if_pos (by omega)]; simp
 unfold Oz; rw [e]; exact h
theorem Ws {α:Type} (xs:List α) (v:α):Oz (xs ++ [v]) (-1) = some v:=by
 have hl:(xs ++ [v]).length = xs.length + 1:=by simp
 have e:Rr (xs ++ [v]).length (-1) = some xs.length:=by
  unfold Rr
  rw [hl,if_neg (by decide),if_pos (by omega)]
  congr 1
  omega
 unfold Oz
 rw [e]
 show (xs ++ [v])[xs.length]? = some v
 simp
def aa (b:Expr):Prop := ∀ o i,subscripted b false o i = operate [o,i] (getItem o i)
def lf (X:Cx) (r:R2):Prop :=
 ∀ (value slice:Expr) (pins:List (Addr × Obj)) (s:Shared) (σ:St) (H:Hp) (x y:V) (v u:Value) (Q:VK),Am X pins σ H s -> B6 x v -> B6 y u -> r x y H Q ->
  subscripted slice false v u = operate [v,u] (getItem v u) -> wpAny (model X.prog X.w) X.A (subscriptTail value slice v u) (EP X pins σ Q) X.xe s
def mr (X:Cx) (id:String) (r:V -> List V -> Hp -> VK -> Prop):Prop :=
 ∀ (pins:List (Addr × Obj)) (s:Shared) (σ:St) (H:Hp) (x:V) (xs:List V) (v:Value) (us:List Value) (Q:VK),Am X pins σ H s -> B6 x v -> B7 xs us -> r x xs H Q ->
  wpAny (model X.prog X.w) X.A (call (.builtin id) (v :: us)) (EP X pins σ Q) X.xe s
section
variable {X:Cx} {a b:Expr} {ta tb:TE} {pos:Pos}
theorem Bc {r:R2} (hr:lf X r) (ha:PE X a ta) (hb:PE X b tb) (hs:aa b):PE X (.Subscript a b pos) (lj r ta tb):=by
 intro pins s σ H Q I h
 exact Subscript_ (fi ha hb I h fun v u s2 x y H2 I2 rx ry q=>hr a b pins s2 σ H2 x y v u Q I2 rx ry q (hs _ _))
def ni (K:PySem.W.Frag):R2:=fun x y H Q=>∃ p xs i v,x = .ref p /\ y = .int i /\ B9 K H p xs /\ Oz xs i = some v /\ Q v H
def nw (K:PySem.W.Frag):R2:=fun x y H Q=>∃ p xs i v,x = .ref p /\ y = .int i /\ Br K H p xs /\ Oz xs i = some v /\ Q v H
theorem Yw:lf X (ni X.K):=by
 intro value slice pins s σ H x y v u Q I rx ry h hs
 obtain ⟨p,xs,i,z,rfl,rfl,hq,he,q⟩ := h
 cases rx
 obtain ⟨t,rfl⟩ := ry
 obtain ⟨its,r,pl,hz⟩ := I.list hq
 obtain ⟨j,h1,h2,h3,h4,h5⟩ := U9 he
 obtain ⟨w,ew,rw'⟩ := r.get h2
 have hl:=r.length
 have hn:=Iq
 have fin:EP X pins σ Q w s:=⟨z,H,I,rw',q⟩
 by_cases h0:0 <= i
 ·have hj : i.toNat = j := by
   rw [seqIndex_of h0 h5] at h1
   exact Option.some.inj h1
  exact item_listR pl.isList h0 (by omega) (by rw [hj]; simpa using ew) fin hs
 ·have hj : (i + (its.toArray.size : Int)).toNat = j := by
   rw [seqIndex_neg (by omega) h4] at h1
   rw [List.size_toArray,<- hl]
   exact Option.some.inj h1
  exact subscriptTail_builtinR (x:=w) pl.isList.typeIs slot_list_getitem.lookup
   (wpAny_getItem_list_neg (Q:=fun r s'=>r = w /\ EP X pins σ Q r s') pl.isList (by omega) (by rw [List.size_toArray] <;> omega) (by omega) (by rw [hj]; simpa using ew) ⟨rfl,fin⟩) hs
theorem bq:lf X (nw X.K):=by
 intro value slice pins s σ H x y v u Q I rx ry h hs
 obtain ⟨p,xs,i,z,rfl,rfl,hq,he,q⟩ := h
 cases rx
 obtain ⟨t,rfl⟩ := ry
 obtain ⟨its,r,pl,hz⟩ := I.tuple hq
 obtain ⟨j,h1,h2,h3,h4,h5⟩ := U9 he
 obtain ⟨w,ew,rw'⟩ := r.get h2
 have hl:=r.length
 have hn:=Iq
 have fin:EP X pins σ Q w s:=⟨z,H,I,rw',q⟩
 exact subscriptTail_builtinR (x:=w) pl.typeIs slot_tuple_getitem.lookup
  (getItem_tuple (j:=j) (Q:=fun r s'=>r = w /\ EP X pins σ Q r s') pl (by omega) (by omega) (by rw [List.size_toArray,<- hl]; exact h1) (by simpa using ew) ⟨rfl,fin⟩) hs
theorem Tj (its:List Value) (n j:Nat) (u:Value):Obj.mapSeq (·.setIfInBounds j u) { cls := .type "list",data := .seq its.toArray n } = { cls := .type "list",data := .seq (its.set j u).toArray n }:=by
 simp [Obj.mapSeq]
theorem Am.lst {pins : List (Addr × Obj)} {σ : St} {H : Hp} {s : Shared} {p : Addr} {xs : List V} (I : Am X pins σ H s) (h : H p = some (.lst xs)) :
  ∃ (its:List Value) (n:Nat),B7 xs its /\ s.heap.get? p = some { cls := .type "list",data := .seq its.toArray n } /\ xs.length <= sizeLine:=by
 obtain ⟨z,its,n,r,e⟩ := I.hok p _ h
 exact ⟨its,n,r,e,z⟩
theorem Am.lstUpd {pins : List (Addr × Obj)} {σ : St} {H : Hp} {s : Shared} {p : Addr} {xs ys : List V} {its its' : List Value} {n n' : Nat} {f : Obj -> Obj} (I : Am X pins σ H s) (h : H p = some (.lst xs))
  (ho:s.heap.get? p = some { cls := .type "list",data := .seq its.toArray n }) (hf:f { cls := .type "list",data := .seq its.toArray n } = { cls := .type "list",data := .seq its'.toArray n' }) (r:B7 ys its') (hz:ys.length <= sizeLine) (t:Nat) :
  Am X pins σ (upd H p (.lst ys)) { s with heap:=s.heap.update p f,toks:=t }:=by
 have e:(s.heap.update p f).get? p = some { cls := .type "list",data := .seq its'.toArray n' }:=by
  rw [Heap.get?_update_self f ho (by rw [hf] <;> rfl),hf]
 refine I.write (x:=p) (e:=p) (by rw [h]; trivial) (.inl rfl) (fun b u hb q=>(Heap.get?_update_other _ _ (Ne.symm hb)).trans q) ⟨_,e⟩ ?_
 exact ⟨hz,its',n',r,e⟩
def jj:V -> V -> V -> Hp -> (Hp -> Prop) -> Prop:=fun o i v H Q=>∃ p xs k j,o = .ref p /\ i = .int k /\ H p = some (.lst xs) /\ Rr xs.length k = some j /\ Q (upd H p (.lst (xs.set j v)))
theorem Hz:l5 X jj:=by
 intro pins s σ H o i v ov iv u Q I ro ri rv h
 obtain ⟨p,xs,k,j,rfl,rfl,hp,hj,q⟩ := h
 cases ro
 obtain ⟨t,rfl⟩ := ri
 obtain ⟨its,n,r,ho,hz⟩ := I.lst hp
 obtain ⟨h1,h2,h3,h4⟩ := Ur hj
 have hl:=r.length
 have hn:=Iq
 have I':Am X pins σ (upd H p (.lst (xs.set j v))) { s with heap:=s.heap.update p (Obj.mapSeq (·.setIfInBounds j u)) } :=
  I.lstUpd hp ho (Tj its n j u) (r.set rv j) (by rw [List.length_set]; exact hz) s.toks
 by_cases h0:0 <= k
 ·have hk : k.toNat = j := by
   rw [seqIndex_of h0 h4] at h1
   exact Option.some.inj h1
  exact PySem.W.ki_setAt ho h0 (by omega) (by rw [List.size_toArray,<- hl]; exact h4) (by rw [hk]; exact ⟨_,I',q⟩)
 ·have hk : (k + (its.toArray.size : Int)).toNat = j := by
   rw [seqIndex_neg (by omega) h3] at h1
   rw [List.size_toArray,<- hl]
   exact Option.some.inj h1
  exact PySem.W.ki_setBack ho (by omega) (by rw [List.size_toArray,<- hl]; exact h3) (by omega) (by rw [hk]; exact ⟨_,I',q⟩)
theorem Oh (lo hi:Option Int) (n:Nat):(sliceBounds lo hi none n).1 = ((HT.sIx n 0 lo:Nat):Int) /\ (sliceBounds lo hi none n).2.1 = ((HT.sIx n n hi:Nat):Int) /\ (sliceBounds lo hi none n).2.2 = 1:=by
 refine ⟨?_,?_,rfl⟩
 ·cases lo with
  | none=>simp [sliceBounds,HT.sIx]
  | some i =>
   simp only [sliceBounds,HT.sIx,Option.getD_none,show (1:Int) > 0 by decide,if_true]
   by_cases h:i < 0
   ·simp only [h,if_true] <;> omega
   ·simp only [h,if_false] <;> omega
 ·cases hi with
  | none=>simp [sliceBounds,HT.sIx]
  | some i =>
   simp only [sliceBounds,HT.sIx,Option.getD_none,show (1:Int) > 0 by decide,if_true]
   by_cases h:i < 0
   ·simp only [h,if_true] <;> omega
   ·simp only [h,if_false] <;> omega
theorem Ly (its:List Value) (lo hi:Option Int):slicePick its.toArray lo hi none = ((its.drop (HT.sIx its.length 0 lo)).take (HT.sIx its.length its.length hi - HT.sIx its.length 0 lo)).toArray:=by
 obtain ⟨h1,h2,h3⟩ := Oh lo hi its.toArray.size
 unfold slicePick
 rw [h1,h2,h3]
 simp only [sliceRange_one,pick_run,List.size_toArray] <;> rfl
def jd (K:PySem.W.Frag):V -> Option Int -> Option Int -> Hp -> VK -> Prop:=fun x lo hi H Q=>∃ a xs,x = .ref a /\ B9 K H a xs /\ ∀ p,H p = none -> Q (.ref p) (upd H p (.lst (Eh xs lo hi)))
theorem Zz:jx X (jd X.K):=by
 intro pins s σ H x v vl vu lo hi sl Q I rx hs pl pu h
 obtain ⟨a,xs,rfl,hx,q⟩ := h
 cases rx
 obtain ⟨its,r,ht,hz⟩ := I.list hx
 have hlen:=r.length
 refine ⟨"list",_,slot_list_getitem.lookup,ht.isList.typeIs,?_⟩
 refine wpAny_getItem_list_slice ht.isList hs pl pu .none (by simp) ?_ (by rw [List.size_toArray] <;> omega)
 rw [Ly,<- hlen]
 refine ⟨.ref s.heap.objs.size,_,I.laid (t':=s.toks) (o := .lst (Eh xs lo hi)) (fun b ob q=>Heap.get?_push_of_some _ q) (Nat.le_refl _) ?_,rfl,q _ (I.hok.fresh (Nat.le_refl _))⟩
 exact ⟨Nat.le_trans (Gj xs lo hi) hz,_,0,(r.drop (HT.sIx xs.length 0 lo)).take (HT.sIx xs.length xs.length hi - HT.sIx xs.length 0 lo),Heap.get?_push_size _ rfl⟩
def Fc:V -> Bool
 | .non=>true
 | .bl _=>true
 | .int _=>true
 | .str _=>true
 | _=>false
def Xc:V -> V -> Bool
 | .non,.non=>true
 | .bl a,.bl b=>a == b
 | .bl a,.int b=>(if a then 1 else 0) == b
 | .int a,.bl b=>a == (if b then 1 else 0)
 | .int a,.int b=>a == b
 | .str a,.str b=>a == b
 | _,_=>false
theorem cx {A:Around} {s:Shared} {y x:V} {u v:Value} (ry:B6 y u) (rx:B6 x v) (fy:Fc y = true) (fx:Fc x = true):SeqAt.EqAt A s u v (Xc y x):=by
 cases y with
 | non =>
  cases ry
  cases x with
  | non=>cases rx; exact SeqAt.EqAt.same _
  | bl b=>cases rx; exact SeqAt.EqAt.none_bool b
  | int b=>obtain ⟨t,rfl⟩ := rx; exact SeqAt.EqAt.none_int b t
  | str b=>obtain ⟨t,rfl⟩ := rx; exact SeqAt.EqAt.none_str b t
  | _=>exact absurd (show false = true from fx) Bool.false_ne_true
 | bl a =>
  cases ry
  cases x with
  | non=>cases rx; exact SeqAt.EqAt.bool_none a
  | bl b=>cases rx; exact SeqAt.EqAt.bool_bool a b
  | int b=>obtain ⟨t,rfl⟩ := rx; exact SeqAt.EqAt.bool_int a b t
  | str b=>obtain ⟨t,rfl⟩ := rx; exact SeqAt.EqAt.bool_str a b t
  | _=>exact absurd (show false = true from fx) Bool.false_ne_true
 | int a =>
  obtain ⟨t',rfl⟩ := ry
  cases x with
  | non=>cases rx; exact SeqAt.EqAt.int_none a t'
  | bl b=>cases rx; exact SeqAt.EqAt.int_bool a t' b
  | int b=>obtain ⟨t,rfl⟩ := rx; exact SeqAt.EqAt.int_int a t' b t
  | str b=>obtain ⟨t,rfl⟩ := rx; exact SeqAt.EqAt.int_str a t' b t
  | _=>exact absurd (show false = true from fx) Bool.false_ne_true
 | str a =>
  obtain ⟨t',rfl⟩ := ry
  cases x with
  | non=>cases rx; exact SeqAt.EqAt.str_none a t'
  | bl b=>cases rx; exact SeqAt.EqAt.str_bool a t' b
  | int b=>obtain ⟨t,rfl⟩ := rx; exact SeqAt.EqAt.str_int a t' b t
  | str b=>obtain ⟨t,rfl⟩ := rx; exact SeqAt.EqAt.str_str a t' b t
  | _=>exact absurd (show false = true from fx) Bool.false_ne_true
 | _=>exact absurd (show false = true from fy) Bool.false_ne_true
def Sx (x:V) (u:Value):Bool:=match u with
 | .none=>Xc .non x
 | .bool b=>Xc (.bl b) x
 | .int i _=>Xc (.int i) x
 | .str z _=>Xc (.str z) x
 | _=>false
theorem Xa {x y:V} {u:Value} (r:B6 y u) (f:Fc y = true):Sx x u = Xc y x:=by
 cases y with
 | non=>cases r; rfl
 | bl b=>cases r; rfl
 | int i=>obtain ⟨t,rfl⟩ := r; rfl
 | str z=>obtain ⟨t,rfl⟩ := r; rfl
 | _=>exact absurd (show false = true from f) Bool.false_ne_true
theorem K2 {x:V} {xs:List V} {us:List Value} (h:B7 xs us) (f:xs.all Fc = true):us.any (Sx x) = xs.any fun y=>Xc y x:=by
 induction h with
 | nil=>rfl
 | cons r t ih =>
  rw [List.all_cons,Bool.and_eq_true] at f
  rw [List.any_cons,List.any_cons,Xa r f.1,ih f.2]
theorem I0 {A:Around} {s:Shared} {x:V} {v:Value} (rx:B6 x v) (fx:Fc x = true) {xs:List V} {us:List Value} (h:B7 xs us) (f:xs.all Fc = true):∀ u ∈ us,SeqAt.EqAt A s u v (Sx x u):=by
 induction h with
 | nil =>
  intro u hu
  cases hu
 | cons r t ih =>
  intro u' hu
  rw [List.all_cons,Bool.and_eq_true] at f
  rcases List.mem_cons.mp hu with rfl | hu
  ·rw [Xa r f.1]
   exact cx r rx f.1 fx
  ·exact ih f.2 u' hu
def i9 (x:V) (xs:List V):Bool:=xs.any fun y=>Xc y x
def lq (K:PySem.W.Frag) (neg:Bool):R2:=fun x y H Q=>∃ p xs,y = .ref p /\ (B9 K H p xs \/ Br K H p xs) /\ Fc x = true /\ xs.all Fc = true /\ Q (.bl (if neg then !i9 x xs else i9 x xs)) H
theorem Wc:Hn X (compareOp .In) (lq X.K false):=by
 intro pins s σ H x y v u Q I rx ry h
 obtain ⟨p,xs,rfl,hq,fx,fs,q⟩ := h
 cases ry
 rcases hq with hq | hq
 ·obtain ⟨its,r,pl,hz⟩ := I.list hq
  refine SeqAt.in_listAt (Sx x) pl.isList (fun w hw=>I0 rx fx r fs w (by simpa using hw)) ⟨.bl _,H,I,rfl,?_⟩
  rw [show its.toArray.any (Sx x) = its.any (Sx x) by simp,K2 r fs]
  exact q
 ·obtain ⟨its,r,pl,hz⟩ := I.tuple hq
  refine SeqAt.in_tupleAt (Sx x) pl (fun w hw=>I0 rx fx r fs w (by simpa using hw)) ⟨.bl _,H,I,rfl,?_⟩
  rw [show its.toArray.any (Sx x) = its.any (Sx x) by simp,K2 r fs]
  exact q
theorem Oe:Hn X (compareOp .NotIn) (lq X.K true):=by
 intro pins s σ H x y v u Q I rx ry h
 obtain ⟨p,xs,rfl,hq,fx,fs,q⟩ := h
 cases ry
 rcases hq with hq | hq
 ·obtain ⟨its,r,pl,hz⟩ := I.list hq
  refine SeqAt.notIn_listAt (Sx x) pl.isList (fun w hw=>I0 rx fx r fs w (by simpa using hw)) ⟨.bl _,H,I,rfl,?_⟩
  rw [show its.toArray.any (Sx x) = its.any (Sx x) by simp,K2 r fs]
  exact q
 ·obtain ⟨its,r,pl,hz⟩ := I.tuple hq
  refine SeqAt.notIn_tupleAt (Sx x) pl (fun w hw=>I0 rx fx r fs w (by simpa using hw)) ⟨.bl _,H,I,rfl,?_⟩
  rw [show its.toArray.any (Sx x) = its.any (Sx x) by simp,K2 r fs]
  exact q
theorem Oc:Es X (.builtin "len") (fun xs H Q=>∃ p ys,xs = [.ref p] /\ (B9 X.K H p ys \/ Br X.K H p ys) /\ Q (.int ys.length) H):=by
 intro pins s σ H xs us Q I r h
 obtain ⟨p,ys,rfl,hq,q⟩ := h
 obtain ⟨u,rfl,rx⟩ := Pp r
 cases rx
 have hn:=Iq
 rcases hq with hq | hq
 ·obtain ⟨its,r',pl,hz⟩ := I.list hq
  have hlen:=r'.length
  exact Calls.call_len_list pl.isList (by simp only [List.size_toArray] <;> omega) ⟨.int ys.length,H,I.tok _,⟨s.toks + 1,by rw [List.size_toArray,hlen]⟩,q⟩
 ·obtain ⟨its,r',pl,hz⟩ := I.tuple hq
  have hlen:=r'.length
  exact len_tuple pl (by simp only [List.size_toArray] <;> omega) ⟨.int ys.length,H,I.tok _,⟨s.toks + 1,by rw [List.size_toArray,hlen]⟩,q⟩
theorem Fo:Es X (.type "list") (fun xs H Q=>∃ p ys,xs = [.ref p] /\ (B9 X.K H p ys \/ Br X.K H p ys) /\ ∀ l,H l = none -> Q (.ref l) (upd H l (.lst ys))):=by
 intro pins s σ H xs us Q I r h
 obtain ⟨p,ys,rfl,hq,q⟩ := h
 obtain ⟨u,rfl,rx⟩ := Pp r
 cases rx
 have fin : ∀ (its : List Value), B7 ys its -> ys.length <= sizeLine -> ∀ (h' : Heap) (c' : Nat), (∀ b o', s.heap.get? b = some o' -> h'.get? b = some o') ->
   h'.get? s.heap.objs.size = some { cls := .type "list",dict:=none,data := .seq its.toArray c',slots := #[] } -> EP X pins σ Q (.ref s.heap.objs.size) { s with heap:=h' }:=fun its r' hz h' c' kp e =>
  ⟨.ref s.heap.objs.size,_,I.laid (t':=s.toks) kp (Nat.le_refl _) (show Bw X.prog X.w _ h' _ (.lst ys) from ⟨hz,its,c',r',e⟩),rfl,q _ (I.hok.fresh (Nat.le_refl _))⟩
 rcases hq with hq | hq
 ·obtain ⟨its,r',pl,hz⟩ := I.list hq
  have hlen:=r'.length
  obtain ⟨o,ho,hc,n,hd⟩ := pl.isList
  exact call_list_seq p (.inl rfl) ho hc hd (fun h' c' kp e=>fin its r' hz h' c' kp e) (by simp only [List.size_toArray] <;> omega)
 ·obtain ⟨its,r',pl,hz⟩ := I.tuple hq
  have hlen:=r'.length
  obtain ⟨o,ho,hc,n,hd⟩ := pl
  exact call_list_seq p (.inr rfl) ho hc hd (fun h' c' kp e=>fin its r' hz h' c' kp e) (by simp only [List.size_toArray] <;> omega)
theorem Mb:Es X (.type "tuple") (fun xs H Q=>∃ p ys,xs = [.ref p] /\ ((B9 X.K H p ys /\ ∀ l,H l = none -> Q (.ref l) (upd H l (.tup ys))) \/ (Br X.K H p ys /\ Q (.ref p) H))):=by
 intro pins s σ H xs us Q I r h
 obtain ⟨p,ys,rfl,h⟩ := h
 obtain ⟨u,rfl,rx⟩ := Pp r
 cases rx
 rcases h with ⟨hq,q⟩ | ⟨hq,q⟩
 ·obtain ⟨its,r',pl,hz⟩ := I.list hq
  have hlen:=r'.length
  refine call_tuple_list pl.isList (fun h' kp=>?_) (by simp only [List.size_toArray] <;> omega)
  have I1:Am X pins σ H { s with heap:=h' }:=I.kept (t':=s.toks) kp
  have I2:Am X pins σ (upd H h'.objs.size (.tup ys)) { s with heap:=h'.push { cls := .type "tuple",data := .seq its.toArray } } :=
   I1.laid (t':=s.toks) (fun b o e=>Heap.get?_push_of_some _ e) (Nat.le_refl _) (show Bw X.prog X.w _ _ _ (.tup ys) from ⟨⟨hz,⟨_,Heap.get?_push_size _ rfl,rfl⟩⟩,its,r',IsTup.new _ _⟩)
  exact ⟨.ref h'.objs.size,_,I2,rfl,q _ (I1.hok.fresh (Nat.le_refl _))⟩
 ·obtain ⟨its,r',pl,hz⟩ := I.tuple hq
  exact call_tuple_same pl ⟨.ref p,H,I,rfl,q⟩
def ot (K:PySem.W.Frag) (T:String) (x:V) (H:Hp):Prop:=match x with
 | .str _=>T = "str"
 | .int _=>T = "int"
 | .ref p => (T = "list" /\ ∃ xs, B9 K H p xs) \/ (T = "tuple" /\ ((∃ o, K.lookup p = some o /\ o.cls = .type "tuple" /\ o.dict = none) \/ ∃ xs, H p = some (.tup xs))) \/
   (T = "dict" /\ ((∃ kvs,H p = some (.dK kvs)) \/ ∃ kvs,H p = some (.dT kvs))) \/ (T = "set" /\ ∃ S n,H p = some (.set S n))
 | _=>False
theorem Wz {pins : List (Addr × Obj)} {σ : St} {H : Hp} {s : Shared} {T : String} {x : V} {v : Value} (I : Am X pins σ H s) (r : B6 x v) (ty : ot X.K T x H) :
  s.TypeIs v T /\ ∀ a,v = .ref a -> ∃ ob,s.heap.get? a = some ob /\ ob.dict = none:=by
 cases x with
 | str z =>
  obtain ⟨t,rfl⟩ := r
  cases (show T = "str" from ty)
  exact ⟨typeIs_str s z t,fun _ e=>nomatch e⟩
 | int i =>
  obtain ⟨t,rfl⟩ := r
  cases (show T = "int" from ty)
  exact ⟨typeIs_int s i t,fun _ e=>nomatch e⟩
 | ref p =>
  cases r
  rcases ty with ⟨rfl,xs,hq⟩ | ⟨rfl,⟨o,hk,hc,hd⟩ | ⟨ys,hk⟩⟩ | ⟨rfl,hk⟩ | ⟨rfl,S,n,hk⟩
  ·obtain ⟨its,_,pl,_⟩ := I.list hq
   refine ⟨pl.isList.typeIs,fun a e=>?_⟩
   cases e
   obtain ⟨o,n,e,c,hd,_⟩ := pl
   exact ⟨o,e,hd⟩
  ·refine ⟨⟨o,I.kIn p o hk,hc⟩,fun a e=>?_⟩
   cases e
   exact ⟨o,I.kIn _ o hk,hd⟩
  ·obtain ⟨⟨_,o2,e2,d2⟩,_,_,⟨o1,e1,c1,_⟩⟩ := (show Bw X.prog X.w H s.heap p (.tup ys) from I.hok p _ hk)
   refine ⟨⟨o1,e1,c1⟩,fun a ea=>?_⟩
   cases ea
   exact ⟨o2,e2,d2⟩
  ·have z : ∃ o, s.heap.get? p = some o /\ o.ExactDict := by
    rcases hk with ⟨kvs,hk⟩ | ⟨kvs,hk⟩
    ·obtain ⟨_,_,_,_,o,_,_,e,ex,_⟩ := I.hok p _ hk
     exact ⟨o,e,ex⟩
    ·obtain ⟨_,_,_,_,o,_,_,e,ex,_⟩ := I.hok p _ hk
     exact ⟨o,e,ex⟩
   obtain ⟨o,e,ex⟩ := z
   refine ⟨⟨o,e,ex.1⟩,fun a e2=>?_⟩
   cases e2
   exact ⟨o,e,ex.2.1⟩
  ·obtain ⟨o,_,_,_,e,ex,_⟩ := I.hok p _ hk
   refine ⟨⟨o,e,ex.1⟩,fun a e2=>?_⟩
   cases e2
   exact ⟨o,e,ex.2.1⟩
 | _=>exact False.elim ty
def kj (K:PySem.W.Frag) (T:String) (r:V -> List V -> Hp -> VK -> Prop) (to:TE):TE:=fun σ H Q=>to σ H fun x H1=>ot K T x H1 /\ r x [] H1 Q
def Y5 (K:PySem.W.Frag) (T:String) (r:V -> List V -> Hp -> VK -> Prop) (to:TE) (t:TA):TE:=fun σ H Q=>to σ H fun x H1=>ot K T x H1 /\ t σ H1 fun xs H2=>r x xs H2 Q
variable {o e:Expr} {es:List Expr} {to:TE} {t:TA} {name:Str} {apos cpos:Pos} {T id:String} {r:V -> List V -> Hp -> VK -> Prop}
theorem gd (pa : PlainAttrs T) (slot : Slot T name id) (hty : typeOf (.builtin id) = pure (.type "method_descriptor")) (hm : mr X id r) (ho : PE X o to)
  (hbase:attributeBase o name X.env (eval o X.env) = eval o X.env:=by rfl) (hline:(apos.endLine == cpos.line) = true:=by rfl):PE X (.Call (.Attribute o name apos) [] [] cpos) (kj X.K T r to):=by
 intro pins s σ H Q I h
 refine wpAny_Call_method0_late hbase hline (Cf (ho pins s σ H _ I h) fun v s1 hz0=>?_)
 obtain ⟨x,H1,I1,r1,ty,q1⟩ := hz0
 obtain ⟨h1,h2⟩ := Wz I1 r1 ty
 exact ⟨T,id,pa,slot,hty,h1,h2,Calls.callWith_builtin rfl (PySem.evalArgs_none (hm pins s1 σ H1 x [] v [] Q I1 r1 .nil q1))⟩
theorem Ha (pa : PlainAttrs T) (slot : Slot T name id) (hty : typeOf (.builtin id) = pure (.type "method_descriptor")) (hm : mr X id r) (ho : PE X o to) (ha : PA X (e :: es) t)
  (hbase:attributeBase o name X.env (eval o X.env) = eval o X.env:=by rfl)
  (hfew:((backTo cpos (starEach (e :: es) X.env)).all (fun x=>!x.1) && (backToKw cpos (keywordEach [] X.env)).all (fun x=>x.1.isSome)
   && decide ((e :: es).length + ([]:List Keyword).length + (if ([]:List Keyword).isEmpty then 0 else 1) < 30)) = true:=by rfl)
  (hline:(apos.endLine == cpos.line) = true:=by rfl) (hs:starEach (e :: es) X.env = (false,eval e X.env) :: starEach es X.env:=by rfl) (hplain:(backTo cpos (starEach es X.env)).any (·.1) = false:=by rfl) :
  PE X (.Call (.Attribute o name apos) (e :: es) [] cpos) (Y5 X.K T r to t):=by
 intro pins s σ H Q I h
 refine wpAny_Call_method_late hbase hfew hline rfl (Cf (ho pins s σ H _ I h) fun v s1 hz0=>?_)
 obtain ⟨x,H1,I1,r1,ty,q1⟩ := hz0
 obtain ⟨h1,h2⟩ := Wz I1 r1 ty
 refine ⟨T,id,pa,slot,hty,h1,h2,?_⟩
 have hA:=ha cpos pins s1 σ H1 _ I1 q1
 rw [hs] at hA ⊢
 refine Calls.callWith_builtin (by show (false || (backTo cpos (starEach es X.env)).any (·.1)) = false; rw [hplain] <;> rfl) (Calls.evalArgs_plain ?_)
 exact Cf hA fun us s2 ⟨vs,H2,I2,r2,q2⟩=>hm pins s2 σ H2 x vs v us Q I2 r1 r2 q2
/- xs.append(e),list.index on a module's tuple .. are mr facts of 06m -/
end
def mn (X:Cx) (id:String) (r:V -> List V -> Hp -> VK -> Prop):Prop :=
 ∀ (pins:List (Addr × Obj)) (s:Shared) (σ:St) (H:Hp) (x:V) (xs:List V) (v:Value) (us:List Value) (Q:VK),Am X pins σ H s -> B6 x v -> B7 xs us -> r x xs H Q ->
  wpAny (model X.prog X.w) X.A (call (.builtin id) (v :: us)) (EP X pins σ Q) X.xe s
theorem B7.one {x:V} {us:List Value} (h:B7 [x] us):∃ u,us = [u] /\ B6 x u:=by
 cases h with
 | cons r t =>
  cases t
  exact ⟨_,rfl,r⟩
theorem B7.two {x y:V} {us:List Value} (h:B7 [x,y] us):∃ u v,us = [u,v] /\ B6 x u /\ B6 y v:=by
 cases h with
 | cons r t =>
  obtain ⟨v,rfl,q⟩ := B7.one t
  exact ⟨_,v,rfl,r,q⟩
theorem B7.zero:∀ {us:List Value},B7 [] us -> us = []
 | _,.nil=>rfl
theorem B7.dropLast {xs:List V} {us:List Value} (h:B7 xs us):B7 xs.dropLast us.dropLast:=by
 induction h with
 | nil=>exact .nil
 | cons r t ih =>
  cases t with
  | nil=>exact .nil
  | cons q t'=>exact .cons r ih
theorem B7.rep {xs:List V} {us:List Value} (h:B7 xs us):∀ k:Nat,B7 (List.replicate k xs).flatten (List.replicate k us).flatten
 | 0=>.nil
 | k + 1=>by
  rw [List.replicate_succ,List.replicate_succ,List.flatten_cons,List.flatten_cons]
  exact B7.append h (B7.rep h k)
theorem S5 {α:Type} (l:List α):l.eraseIdx (l.length - 1) = l.dropLast:=by
 induction l with
 | nil=>rfl
 | cons a r ih =>
  cases r with
  | nil=>rfl
  | cons b r =>
   have e:(a :: b :: r).length - 1 = ((b :: r).length - 1) + 1:=by
    have h1:(a :: b :: r).length = r.length + 2:=rfl
    have h2:(b :: r).length = r.length + 1:=rfl
    omega
   rw [e,List.eraseIdx_cons_succ,ih]
   all_goals rfl
theorem O4 (its : List Value) : ∀ (k : Nat) (acc : List Value),
  List.foldl (fun x1 x2=>x1 ++ x2) acc.toArray (List.replicate k its.toArray) = (acc ++ (List.replicate k its).flatten).toArray
 | 0,acc=>by simp
 | k + 1,acc=>by
  have e:acc.toArray ++ its.toArray = (acc ++ its).toArray:=by simp
  have e2:(acc ++ its) ++ (List.replicate k its).flatten = acc ++ (List.replicate (k + 1) its).flatten:=by
   rw [List.replicate_succ,List.flatten_cons,List.append_assoc]
  rw [<- e2,<- O4 its k (acc ++ its),<- e,List.replicate_succ,List.foldl_cons]
section
variable {X:Cx} {pins:List (Addr × Obj)} {σ:St} {H:Hp} {s:Shared} {l b:Addr} {xs ys zs:List V}
theorem Am.lset {its its' : List Value} {n : Nat} {f : Array Value -> Array Value} {t' : Nat} (I : Am X pins σ H s) (hH : H l = some (.lst xs))
  (e:s.heap.get? l = some { cls := .type "list",data := .seq its.toArray n }) (hf:f its.toArray = its'.toArray) (hv:B7 ys its') (hz:ys.length <= sizeLine) :
  Am X pins σ (upd H l (.lst ys)) { s with heap:=s.heap.update l (Obj.mapSeq f),toks:=t' }:=by
 have q:=PySem.IsL.update e f
 rw [hf] at q
 refine I.write (x:=l) (e:=l) (by rw [hH]; exact trivial) (.inl rfl) (fun b' u hb hu=>(Heap.get?_update_other s.heap (Obj.mapSeq f) (Ne.symm hb)).trans hu) ⟨_,q⟩ ?_
 exact ⟨hz,its',_,hv,q⟩
theorem Am.lnew {its : List Value} {t' : Nat} (I : Am X pins σ H s) (hv : B7 ys its) (hz : ys.length <= sizeLine) :
  Am X pins σ (upd H s.heap.objs.size (.lst ys)) { s with heap:=s.heap.push { cls := .type "list",data := .seq its.toArray },toks:=t' } :=
 I.laid (fun _ _ q=>Heap.get?_push_of_some _ q) (Nat.le_refl _) ⟨hz,its,0,hv,Heap.get?_push_size _ rfl⟩
theorem Am.fresh (I:Am X pins σ H s):H s.heap.objs.size = none:=I.hok.fresh (Nat.le_refl _)
theorem Am.lstM (I:Am X pins σ H s) (hH:H l = some (.lst xs)):xs.length <= sizeLine /\ ∃ (its:List Value) (n:Nat),B7 xs its /\ xs.length = its.length /\ s.heap.get? l = some { cls := .type "list",data := .seq its.toArray n }:=by
 obtain ⟨z,its,n,r,e⟩ := I.hok l _ hH
 exact ⟨z,its,n,r,r.length,e⟩
theorem Pn {n:Nat} (h:n <= sizeLine):Builtin.List.listTooLong n = false:=by
 unfold Builtin.List.listTooLong
 exact decide_eq_false (by omega)
end
section
variable {X:Cx}
def Zh:V -> List V -> Hp -> VK -> Prop:=fun x vs H Q=>∃ l xs y,x = .ref l /\ vs = [y] /\ H l = some (.lst xs) /\ xs.length < sizeLine /\ Q .non (upd H l (.lst (xs ++ [y])))
theorem Df:mn X "list.append" Zh:=by
 intro pins s σ H x vs v us Q I rx rv h
 obtain ⟨l,xs,y,rfl,rfl,hH,hz,q⟩ := h
 cases rx
 obtain ⟨u,rfl,ru⟩ := rv.one
 obtain ⟨z,its,n,r,hl,e⟩ := I.lstM hH
 refine call_meets F.slot_list_append ⟨_,e,rfl⟩ F.entry_list_append (F.args_list_append_2 _ _) (PySem.list_append l its.toArray n u (by rw [List.size_toArray]; omega)) ⟨e,?_⟩
 refine ⟨.non,_,I.lset (its':=its ++ [u]) hH e (by simp) (r.append (.cons ru .nil)) ?_,rfl,q⟩
 rw [List.length_append,List.length_singleton]
 omega
def Zo:V -> List V -> Hp -> VK -> Prop:=fun x vs H Q=>∃ l b xs zs,x = .ref l /\ vs = [.ref b] /\ H l = some (.lst xs) /\ H b = some (.lst zs) /\ xs.length + zs.length <= sizeLine /\ Q .non (upd H l (.lst (xs ++ zs)))
theorem J6:mn X "list.extend" Zo:=by
 intro pins s σ H x vs v us Q I rx rv h
 obtain ⟨l,b,xs,zs,rfl,rfl,hH,hB,hz,q⟩ := h
 cases rx
 obtain ⟨u,rfl,ru⟩ := rv.one
 cases ru
 obtain ⟨z,its,n,r,hl,e⟩ := I.lstM hH
 obtain ⟨z2,its2,n2,r2,hl2,e2⟩ := I.lstM hB
 have hsz:its.toArray.size + its2.toArray.size <= sizeLine:=by rw [List.size_toArray,List.size_toArray]; omega
 have hlong:¬ (!its.toArray.isEmpty && Builtin.List.listTooLong (its.toArray.size + its2.toArray.size)) = true:=by
  rw [Pn hsz,Bool.and_false]
  exact Bool.false_ne_true
 refine call_meets F.slot_list_extend ⟨_,e,rfl⟩ F.entry_list_extend (F.args_list_extend_2 _ _)
  (AutoSeq1.list_extend_list_list_0 l its.toArray n b its2.toArray n2 hlong (by rw [List.size_toArray]; omega) (by omega)) ⟨e,e2,?_⟩
 refine ⟨.non,_,I.lset (its':=its ++ its2) hH e (by simp) (r.append r2) ?_,rfl,q⟩
 rw [List.length_append]
 omega
def nq:V -> List V -> Hp -> VK -> Prop:=fun x vs H Q=>∃ l xs y,x = .ref l /\ vs = [] /\ H l = some (.lst xs) /\ xs[xs.length - 1]? = some y /\ Q y (upd H l (.lst xs.dropLast))
theorem bo:mn X "list.pop" nq:=by
 intro pins s σ H x vs v us Q I rx rv h
 obtain ⟨l,xs,y,rfl,rfl,hH,hy,q⟩ := h
 cases rx
 have hus:=rv.zero
 subst hus
 obtain ⟨z,its,n,r,hl,e⟩ := I.lstM hH
 obtain ⟨u,hu,ru⟩ := r.get hy
 have hy':its.toArray[its.toArray.size - 1]? = some u:=by
  show its.toArray[its.length - 1]? = some u
  rw [<- Array.getElem?_toList,<- hl]
  exact hu
 refine call_meets F.slot_list_pop ⟨_,e,rfl⟩ F.entry_list_pop (F.args_list_pop_1 _) (MeetsSeq.list_pop_last l its.toArray n u hy' (by rw [List.size_toArray]; omega)) ⟨e,?_⟩
 refine ⟨y,_,I.lset (its':=its.dropLast) hH e ?_ r.dropLast ?_,ru,q⟩
 ·show its.toArray.eraseIdxIfInBounds (its.toArray.size - 1) = its.dropLast.toArray
  rw [List.size_toArray,List.eraseIdxIfInBounds_toArray,S5]
 ·rw [List.length_dropLast]
  omega
def nc:R2:=fun x y H Q=>∃ l b xs zs,x = .ref l /\ y = .ref b /\ H l = some (.lst xs) /\ H b = some (.lst zs) /\ xs.length + zs.length <= sizeLine /\ ∀ p,H p = none -> Q (.ref p) (upd H p (.lst (xs ++ zs)))
theorem Hm:Hn X (binaryOp .Add) nc:=by
 intro pins s σ H x y v u Q I rx ry h
 obtain ⟨l,b,xs,zs,rfl,rfl,hH,hB,hz,q⟩ := h
 cases rx
 cases ry
 obtain ⟨z,its,n,r,hl,e⟩ := I.lstM hH
 obtain ⟨z2,its2,n2,r2,hl2,e2⟩ := I.lstM hB
 refine PySem.P.add_list e e2 ?_ (by rw [List.size_toArray,List.size_toArray]; omega)
 have ea:its.toArray ++ its2.toArray = (its ++ its2).toArray:=by simp
 rw [ea]
 exact ⟨.ref _,_,I.lnew (t':=s.toks) (r.append r2) (by rw [List.length_append]; omega),rfl,q _ I.fresh⟩
def og:R2:=fun x y H Q=>∃ l k xs,x = .ref l /\ y = .int k /\ H l = some (.lst xs) /\ -(2 ^ 63) <= k /\ k < 2 ^ 63 /\ xs.length * k.toNat <= sizeLine /\
 ∀ p,H p = none -> Q (.ref p) (upd H p (.lst (List.replicate k.toNat xs).flatten))
theorem Zc {α:Type} (xs:List α) (k:Nat):(List.replicate k xs).flatten.length = k * xs.length:=by
 induction k with
 | zero=>simp
 | succ k ih=>rw [List.replicate_succ,List.flatten_cons,List.length_append,ih,Nat.succ_mul,Nat.add_comm]
theorem S3:Hn X (binaryOp .Mult) og:=by
 intro pins s σ H x y v u Q I rx ry h
 obtain ⟨l,k,xs,rfl,rfl,hH,h1,h2,hz,q⟩ := h
 cases rx
 obtain ⟨t,rfl⟩ := ry
 obtain ⟨z,its,n,r,hl,e⟩ := I.lstM hH
 have hlen:its.toArray.size * k.toNat <= sizeLine:=by rw [List.size_toArray,<- hl]; exact hz
 have hcap:¬ its.toArray.size * k.toNat > (2 ^ 63 - 1) / 8:=by
  have:(sizeLine:Nat) <= (2 ^ 63 - 1) / 8:=by decide
  omega
 have hfit:¬ (!Builtin.List.listFitsIndex k) = true:=by
  rw [fitsIndex_both h1 h2]
  exact Bool.false_ne_true
 have hlong:¬ Builtin.List.listTooLong (its.toArray.size * k.toNat) = true:=by
  rw [Pn hlen]
  exact Bool.false_ne_true
 have hnew:List.foldl (fun x1 x2=>x1 ++ x2) #[] (List.replicate (if its.toArray.isEmpty = true then 0 else k.toNat) its.toArray) = (List.replicate k.toNat its).flatten.toArray:=by
  have f0:∀ m:Nat,List.foldl (fun x1 x2=>x1 ++ x2) #[] (List.replicate m its.toArray) = (List.replicate m its).flatten.toArray:=fun m=>by
   have:=O4 its m []
   rw [List.nil_append] at this
   exact this
  rw [f0]
  cases its with
  | nil=>simp
  | cons a r'=>rw [if_neg (by simp)]
 refine wpAny_binaryOp_repeat_ref (T := "list") (U := "int") (by decide) ⟨_,e,rfl⟩ (fun s'=>typeIs_int s' k t) noFill_list_mul F.fills_int_mul F.slot_int_rmul repeat_list F.slot_int_index.lookup
  (call_meets F.slot_int_rmul (typeIs_int s k t) F.entry_int_rmul (F.args_int_rmul_2 _ _) (int___rmul___int_list k t l its.toArray n)
   ⟨e,rfl,⟨_,e,rfl⟩,call_meets F.slot_list_mul ⟨_,e,rfl⟩ F.entry_list_mul (F.args_list_mul_2 _ _) (AutoListH.list___mul___list_int_3 l its.toArray n k t hfit hcap hlong) ⟨e,?_⟩⟩)
 rw [hnew]
 exact ⟨.ref _,_,I.lnew (t':=s.toks) (r.rep k.toNat) (by rw [Zc,Nat.mul_comm]; exact hz),rfl,q _ I.fresh⟩
end
section
variable {prog:Program} {w:World} {A:Around} {E:Value -> Shared -> Prop} {s:Shared}
end
section
variable {X:Cx}
end
end L2
namespace Att
local macro_rules | `(tactic| omega) => `(tactic| lia)
open PySem PySem.W PySem.Calls PyProof.Rows
theorem Jx {P:Params} {h:Heap}:∀ (ns:List Int) (vs:List Value),WellAll P h vs (ns.map WData.int) -> IntsAre vs ns:=by
 intro ns
 induction ns with
 | nil =>
  intro vs w
  rw [List.map_nil] at w
  cases w
  exact .nil
 | cons n ns ih =>
  intro vs w
  rw [List.map_cons] at w
  cases w with
  | cons a b =>
   cases a
   exact .cons _ _ (ih _ b)
theorem script_of {l : OpenLaw} {n : Nat} (hn : l.most = some n) {P : Params} {h : Heap} {args : List WData} {vals : List Value}
  (hpre:l.row.toRowW.claim.pre args = true) (hwl:WellAll P h vals args) :
  ∃ a vs ns,vals = [Value.ref a] /\ args = [WData.list (ns.map WData.int)] /\ h.get? a = some { cls := .type "list",data := .seq vs.toArray } /\ IntsAre vs ns /\ ns.length <= n:=by
 have hsh:WShape.hasAll [] args [.list .int] = true:=(pre_splitW hpre).1
 have hc:l.pre.holds [] { args:=args } = true:=(pre_splitW hpre).2
 obtain ⟨d,r,rfl,h1,h2⟩ := hasAllW_cons hsh
 obtain rfl:=hasAllW_nil h2
 obtain ⟨xs,rfl,h3⟩ := hasW_list h1
 obtain ⟨ns,rfl⟩ := items_int h3
 have hlen:ns.length <= n:=by
  unfold OpenLaw.pre at hc
  have h4:(WTm.not (.lt (.lit (.int (n:Int))) (.len (.arg 0)))).holds [] { args:=[.list (ns.map .int)] } = true:=by
   have h4:=(holds_andW hc).1
   rw [hn] at h4
   exact h4
  have h5:=condW_of h4 (w_not (w_lt w_lit (w_len_list (w_arg rfl))))
  rw [List.length_map] at h5
  refine Nat.le_of_not_lt fun q=>?_
  have q':(n:Int) < ((ns.length:Nat):Int):=by omega
  first
   | (rw [decide_eq_true q'] at h5; exact absurd h5 (by decide))
   | (simp at h5; omega)
 cases hwl with
 | cons w1 w2 =>
  cases w2
  cases w1 with
  | list ho hall=>exact ⟨_,_,ns,rfl,rfl,ho,Jx ns _ hall,hlen⟩
theorem post_true (l:OpenLaw) (args:List WData):l.row.toRowW.claim.post args (.bool true) args = true :=
 postW_of (r:=l.row.toRowW) (X:=(true == true))
  (show WShape.has [] (.bool true) .bool = true by first | rfl | decide | simp [WShape.has,WShape.arms,WShape.armsAll])
  (show (WTm.eq .res (.lit (.bool true))).value [] { args:=args,res:=some (.bool true),after:=args } = some (.bool (true == true)) from w_eq_bool (w_res rfl) w_lit) rfl
section
variable {prog:Program} {w:World} {A:Around} {E:Value -> Shared -> Prop} {s:Shared} {K:Frag}
end
end Att
namespace L2
local macro_rules | `(tactic| omega) => `(tactic| lia)
open PySem PySem.Spec PyProof.Rows
theorem O3:∀ {vs:List Value} {ns:List Int},IntsAre vs ns -> B7 (ns.map V.int) vs
 | _,_,.nil=>.nil
 | _,_,.cons n t h=>.cons ⟨t,rfl⟩ (O3 h)
def di (H:Hp):Prop := ∀ b,H b = none \/ ∃ o xs,H b = some (.frz o (.lst xs))
theorem Xj {P : Program} {w : World} {K : PySem.W.Frag} {mg mb : Str -> Option Value} {CX : Wf} {k : Nat} {fa a : Addr} {fd : FuncData} {x : Str} {sp : Sp} {s₁ : Shared} {vs : List Value} {ns : List Int}
  (KX:K.In s₁.heap) (hns:s₁.heap.Ns mainGlobals mg) (hb:s₁.heap.Ns builtinsNs mb) (hbb:∀ x:Str,x ≠ "__name__" -> mb x = bootBuiltins x) (hlim:s₁.heap.NoLimit) (hg:s₁.gens = #[])
  (ha:s₁.heap.get? a = some { cls := .type "list",data := .seq vs.toArray }) (hi:IntsAre vs ns) (hl:ns.length <= sizeLine) (hr:E9 k callerA)
  (F:∀ base:Heap,K.In base -> base.Ns mainGlobals mg -> Al P w K mg base CX k fa fd [x] sp) (hbind:∀ (s:Shared) (u:Value),BindsTo s fd ⟨[u],[]⟩ [(x,u)])
  (hsp:∀ H:Hp,di H -> B9 K H a (ns.map V.int) -> sp [.ref a] H (fun v _=>v = .bl true) fun _ _ _=>False)
  (hCX:∀ H e s',CX [] H s₁ (fun _ _ _=>False) e s' -> False) :
  codeAny (model P w) callerA (.call (.ref fa) ⟨[.ref a],[]⟩) (fun r s'=>r = .ok (.ret (.bool true)) /\ OldK s₁.heap s'.heap /\ s'.os = s₁.os /\ AllBare s'.gens) s₁:=by
 have rv:=O3 hi
 have lenV:=hi.length
 have core : ∀ H : Hp, di H -> B9 K H a (ns.map V.int) -> Fx P w H s₁.heap -> (∀ b, H b ≠ none -> b = a) -> (H a ≠ none -> K.lookup a = none) ->
   codeAny (model P w) callerA (.call (.ref fa) ⟨[.ref a],[]⟩) (fun r s'=>r = .ok (.ret (.bool true)) /\ OldK s₁.heap s'.heap /\ s'.os = s₁.os /\ AllBare s'.gens) s₁:=by
  intro H hO hS hok hA hK
  have base_of:∀ {b:Addr} {o:Obj},s₁.heap.get? b = some o -> H b = none -> (Pb s₁.heap H).get? b = some o:=fun e n=>Y0 e n
  have noA:∀ {b:Addr} {o:Obj} {es:Array DictEntry} {ep:Nat},s₁.heap.get? b = some o -> o.data = .dict es ep -> H b = none:=fun {b o es ep} e d=>by
   cases q:H b with
   | none=>rfl
   | some u =>
    have e':b = a:=hA b (by rw [q]; simp)
    subst e'
    rw [ha] at e; cases e
    have d':Data.seq vs.toArray _ = Data.dict es ep:=d
    cases d'
  have nsK:∀ {b:Addr} {m:Str -> Option Value},s₁.heap.Ns b m -> (Pb s₁.heap H).Ns b m:=fun {b m} ⟨o,es,ep,e,d,r⟩=>⟨o,es,ep,base_of e (noA e d),d,r⟩
  have hKb:K.In (Pb s₁.heap H):=fun b o e=>base_of (KX b o e) (by
   cases q:H b with
   | none=>rfl
   | some u =>
    have e':b = a:=hA b (by rw [q]; simp)
    subst e'
    rw [hK (by rw [q]; simp)] at e; cases e)
  have hM:Mod K mg (Pb s₁.heap H):=⟨hKb,nsK hns,⟨mb,nsK hb,hbb⟩,let ⟨mc,h1,h2⟩ := hlim; ⟨mc,nsK h1,h2⟩⟩
  have e0:Za P w K mg (Pb s₁.heap H) callerA [] s₁ H:=⟨rfl,hM,fun b o e=>Zv e,Nat.le_of_eq (V6 _ _),trivial,fun b hb=>absurd (show b ∈ ([]:List Addr) from hb) (by simp),hok,.of_eq hg⟩
  refine codeAny_mono ((F _ hKb (nsK hns)).run callerA [] s₁ H ⟨[.ref a],[]⟩ [.ref a] [.ref a] _ _ hr e0 (hbind s₁ (.ref a)) (.cons rfl .nil) (hsp H hO hS)) fun r s' h=>?_
  cases r with
  | error e=>exact (hCX H e s' h).elim
  | ok fl =>
   cases fl with
   | next=>exact False.elim h
   | brk=>exact False.elim h
   | cont=>exact False.elim h
   | ret u =>
    obtain ⟨v,H',os,bare,un,hok',r',q⟩ := h
    have q':v = .bl true:=q
    subst q'
    obtain rfl:u = Value.bool true:=r'
    refine ⟨rfl,OldK.of_keep fun b o e=>?_,os,bare⟩
    cases q:H b with
    | none=>exact un.keep b o e q (by intro z; exact absurd (show b ∈ ([]:List Addr) from z) (by simp)) (by simp)
    | some u =>
     rcases hO b with z | ⟨ob,xs,z⟩
     ·rw [q] at z; cases z
     ·have z2:=un.frzs b ob _ z
      obtain ⟨e1,_⟩ := hok b _ z
      obtain ⟨e2,_⟩ := hok' b _ z2
      rw [e] at e1; cases e1
      exact e2
 cases hk:K.lookup a with
 | some o =>
  have e:=KX a o hk
  rw [ha] at e
  cases e
  refine core (fun _=>none) (fun _=>.inl rfl) (.inr ⟨_,vs.toArray,_,hk,rfl,rfl,rfl,by rw [List.size_toArray,lenV]; exact hl,by simpa using rv⟩) (fun b u z=>by have z':(none:Option HO) = some u:=z; cases z') (fun b z=>absurd rfl z) fun z=>absurd rfl z
 | none =>
  refine core (fun b=>if b = a then some (.frz { cls := .type "list",data := .seq vs.toArray } (.lst (ns.map V.int))) else none) (fun b=>?_) (.inl (.inr ⟨{ cls := .type "list",data := .seq vs.toArray },if_pos rfl⟩)) (fun b u z=>?_) (fun b z=>?_) fun _=>hk
  ·by_cases hb:b = a
   ·exact .inr ⟨_,_,if_pos hb⟩
   ·exact .inl (if_neg hb)
  ·by_cases hb:b = a
   ·have z':=(if_pos hb).symm.trans z
    cases z'
    subst hb
    exact ⟨ha,by rw [List.length_map]; exact hl,vs,_,rv,ha⟩
   ·have z':=(if_neg hb).symm.trans z
    cases z'
  ·by_cases hb:b = a
   ·exact hb
   ·exact absurd (if_neg hb) z
def As (s:Stmt):Arguments:=match s with
 | .FunctionDef _ a _ _ _ _ _ _ _ _=>a
 | _=>{ posonlyargs:=[],args:=[],vararg:=none,kwonlyargs:=[],kw_defaults:=[],kwarg:=none,defaults:=[] }
def Ap (s:Stmt):List Stmt:=match s with
 | .FunctionDef _ _ b _ _ _ _ _ _ _=>b
 | _=>[]
def Aa (s:Stmt):Scope:=match s with
 | .FunctionDef _ _ _ _ _ _ sc _ _ _=>sc
 | _=>{ kind := .function,names:=[],isGenerator:=false,isCoroutine:=false }
abbrev Bv:Wf:=fun _ _ _ _ _ _=>False
abbrev E0:XK:=fun _ _ _=>False
theorem Bf {X:Cx}:Rm Bv X E0:=fun _ _ _ _ _ _ _ h=>h.elim
structure Fj (K:PySem.W.Frag) (x qual:Str) (st:Stmt) (f:Addr) (fd:FuncData):Prop where
 ex:∃ (oc:Value) (od:Option Addr) (kV doc pm:Value) (an:Option Addr) (cdv ct:Value) (osl:Array (Option Value)),
  fd = PySem.W.fnOf x qual (As st) (Ap st) (Aa st) .none kV doc pm an cdv ct /\ K.lookup f = some ⟨oc,od,.func fd,osl⟩ /\ PySem.W.codeIn K cdv qual = true
 kp:PySem.W.keepIn K (.ref f) = true
section
variable {P:Program} {w:World} {K:PySem.W.Frag} {mg:Str -> Option Value} {base:Heap}
theorem Fj.ok {x qual : Str} {st : Stmt} {f : Addr} {fd : FuncData} {N ps : List Str} {k : Nat} {sp : Sp} (F : Fj K x qual st f fd) (S : Av N ps (Aa st)) (len : ∀ vs H Q E, sp vs H Q E -> vs.length = ps.length)
  (hbody:∀ (cdv:Value) (A:Around) (outer:List Env) (s:Shared) (H:Hp) (vs:List V) (Q:VK) (E:XK),E9 k (A.deeper (envOfC qual (Aa st) s.heap.objs.size f cdv)) -> sp vs H Q E ->
   ∃ t,Rk (S9 Bv P w K mg base N qual (Aa st) f cdv A outer s H E).nox (Ap st) t /\ t { nx:=fun _ H'=>Q .non H',rt:=Q } (start N vs) H):Al P w K mg base Bv (k + 1) f fd ps sp:=by
 obtain ⟨oc,od,kV,doc,pm,an,cdv,ct,osl,rfl,lk,hcd⟩ := F.ex
 refine ar lk hcd S len fun A outer s H vs Q E hr hsp=>?_
 obtain ⟨t,h,q⟩ := hbody cdv A outer s H vs Q E hr hsp
 exact ⟨t,h.nox,q⟩
theorem Fj.binds {x qual : Str} {st : Stmt} {f : Addr} {fd : FuncData} {ps : List Str} (F : Fj K x qual st f fd)
  (h:∀ (kV doc pm:Value) (an:Option Addr) (cdv ct:Value) (us:List Value),us.length = ps.length -> bindArgs (PySem.W.fnOf x qual (As st) (Ap st) (Aa st) .none kV doc pm an cdv ct) ⟨us,[]⟩ = pure (ps.zip us)):B8 K fd ps []:=by
 obtain ⟨oc,od,kV,doc,pm,an,cdv,ct,osl,rfl,lk,hcd⟩ := F.ex
 exact .all (h kV doc pm an cdv ct)
theorem Bg {x qual : Str} {st : Stmt} {f : Addr} {oc : Value} {od an : Option Addr} {osl : Array (Option Value)} {kV doc pm cdv ct : Value} (l : K.lookup f = some ⟨oc, od, .func (PySem.W.fnOf x qual (As st) (Ap st) (Aa st) .none kV doc pm an cdv ct), osl⟩)
  (c:PySem.W.codeIn K cdv qual = true) (k:PySem.W.keepIn K (.ref f) = true):Fj K x qual st f (PySem.W.fnOf x qual (As st) (Ap st) (Aa st) .none kV doc pm an cdv ct):=⟨⟨oc,od,kV,doc,pm,an,cdv,ct,osl,rfl,l,c⟩,k⟩
end
theorem Bd {n:Nat} (h:n <= 1000):n < sizeLine:=Nat.lt_of_le_of_lt h (by decide)
section
variable {X:Cx}
theorem pv (i : Nat) {x : Str} {pos : Pos} (hN : X.N[i]? = some x := by rfl) (hv : mj X.env.scope x := by first | exact Or.inl rfl | exact Or.inr (Or.inl rfl) | exact Or.inr (Or.inr rfl)) (hd : (x == ("__debug__" : Str)) = false := by decide)
  (hcd:(x == ("__classdict__" : Str)) = false:=by decide):PE X (.Name x pos) (j5 i):=cw hN hv hd hcd
end
theorem Cu {c A B:Prop} [Decidable c] (h1:c -> A) (h2:¬ c -> B):if c then A else B:=by
 by_cases h:c
 ·rw [if_pos h]
  exact h1 h
 ·rw [if_neg h]
  exact h2 h
def A7 (H H':Hp):Prop := ∀ b o,H b = some o -> H' b = some o
theorem A7.refl (H:Hp):A7 H H:=fun _ _ h=>h
theorem A7.trans {H H1 H2:Hp} (a:A7 H H1) (b:A7 H1 H2):A7 H H2:=fun c o h=>b c o (a c o h)
theorem A7.free {H H':Hp} (e:A7 H H') {l:Addr} (h:H' l = Option.none):H l = Option.none:=by
 cases q:H l with
 | none=>rfl
 | some o =>
  rw [e l o q] at h
  cases h
theorem A7.seq {K:PySem.W.Frag} {H H':Hp} {a:Addr} {xs:List V} (e:A7 H H') (h:B9 K H a xs):B9 K H' a xs:=by
 rcases h with (h | ⟨o,h⟩) | h
 ·exact .inl (.inl (e _ _ h))
 ·exact .inl (.inr ⟨o,e _ _ h⟩)
 ·exact .inr h
def Ek (cells:List (Str × Addr)):List (Str × NameKind) -> List (Str × Addr) -> List (Str × Addr)
 | [],cs=>cs
 | (n,k) :: r,cs=>if k == NameKind.free then Ek cells r ((n,(cells.lookup n).getD 0) :: cs) else Ek cells r cs
theorem Jd {cells : List (Str × Addr)} {x : Str} {c : Addr} : ∀ {names : List (Str × NameKind)} {cs : List (Str × Addr)}, (Ek cells names cs).lookup x = some c ->
  cs.lookup x = some c \/ ((x,NameKind.free) ∈ names /\ c = (cells.lookup x).getD 0)
 | [],cs,h=>.inl h
 | (n,k) :: r,cs,h=>by
  unfold Ek at h
  by_cases hk:(k == NameKind.free) = true
  ·rw [if_pos hk] at h
   rcases Jd h with h1 | ⟨h1,h2⟩
   ·rw [List.lookup_cons] at h1
    by_cases hx:(x == n) = true
    ·rw [hx] at h1
     have e:x = n:=eq_of_beq hx
     have e2:k = NameKind.free:=eq_of_beq hk
     subst e e2
     exact .inr ⟨List.mem_cons_self,(Option.some.inj h1).symm⟩
    ·have hx':(x == n) = false:=by simpa using hx
     rw [hx'] at h1
     exact .inl h1
   ·exact .inr ⟨List.mem_cons_of_mem _ h1,h2⟩
  ·rw [if_neg hk] at h
   rcases Jd h with h1 | ⟨h1,h2⟩
   ·exact .inl h1
   ·exact .inr ⟨List.mem_cons_of_mem _ h1,h2⟩
theorem Hj {cells:List (Str × Addr)} {x:Str}:∀ {names:List (Str × NameKind)} {cs:List (Str × Addr)},(∃ c,cs.lookup x = some c) -> ∃ c,(Ek cells names cs).lookup x = some c
 | [],cs,h=>h
 | (n,k) :: r,cs,h=>by
  unfold Ek
  by_cases hk:(k == NameKind.free) = true
  ·rw [if_pos hk]
   refine Hj ?_
   rw [List.lookup_cons]
   cases hx:x == n with
   | true=>exact ⟨_,rfl⟩
   | false=>exact h
  ·rw [if_neg hk]
   exact Hj h
theorem Fd {cells:List (Str × Addr)} {x:Str}:∀ {names:List (Str × NameKind)} {cs:List (Str × Addr)},(x,NameKind.free) ∈ names -> ∃ c,(Ek cells names cs).lookup x = some c
 | [],cs,h=>by cases h
 | (n,k) :: r,cs,h=>by
  unfold Ek
  rcases List.mem_cons.mp h with e | h
  ·have e1:x = n:=congrArg Prod.fst e
   have e2:NameKind.free = k:=congrArg Prod.snd e
   subst e1 e2
   rw [if_pos (by decide)]
   refine Hj ⟨(cells.lookup x).getD 0,?_⟩
   rw [List.lookup_cons,beq_self_eq_true]
  ·by_cases hk:(k == NameKind.free) = true
   ·rw [if_pos hk]
    exact Fd h
   ·rw [if_neg hk]
    exact Fd h
theorem Fl {env : Env} : ∀ {names : List (Str × NameKind)} {x : Str} {k' : NameKind}, (∀ y ∈ names, y.2 ≠ NameKind.cell) -> k' ≠ .local -> (k' = .cell \/ k' = .free) ->
  (names.map fun (n,k)=>if (k == NameKind.free && env.scope.kind == .function && env.kindOf n == some .cell) then (n,NameKind.cell) else (n,k)).lookup x = some k' -> (x,NameKind.free) ∈ names
 | [],_,_,_,_,_,h=>by simp at h
 | (n,k) :: r,x,k',hc,hl,hk',h=>by
  have ih:=@Fl env r x k' (fun y hy=>hc y (List.mem_cons_of_mem _ hy)) hl hk'
  have h0:List.lookup x ((if (k == NameKind.free && env.scope.kind == .function && env.kindOf n == some .cell) = true then (n,NameKind.cell) else (n,k)) :: (r.map fun (n,k)=>if (k == NameKind.free && env.scope.kind == .function && env.kindOf n == some .cell) then (n,NameKind.cell) else (n,k))) = some k':=h
  by_cases hcnd:(k == NameKind.free && env.scope.kind == .function && env.kindOf n == some .cell) = true
  ·rw [if_pos hcnd,List.lookup_cons] at h0
   have e2:k = NameKind.free:=by
    have q:=(Bool.and_eq_true_iff.mp (Bool.and_eq_true_iff.mp hcnd).1).1
    exact eq_of_beq q
   cases hx:x == n with
   | true =>
    have e:x = n:=eq_of_beq hx
    subst e e2
    exact List.mem_cons_self
   | false =>
    rw [hx] at h0
    exact List.mem_cons_of_mem _ (ih h0)
  ·rw [if_neg hcnd,List.lookup_cons] at h0
   cases hx:x == n with
   | true =>
    rw [hx] at h0
    have e:x = n:=eq_of_beq hx
    have e3:k = k':=Option.some.inj h0
    subst e e3
    rcases hk' with z | z
    ·exact absurd z (hc _ List.mem_cons_self)
    ·subst z
     exact List.mem_cons_self
   | false =>
    rw [hx] at h0
    exact List.mem_cons_of_mem _ (ih h0)
structure Cw (sc scope:Scope) (N tgs:List Str) (fr:List Nat):Prop where
 kind:scope.kind = .function
 nocell:∀ y ∈ scope.names,y.2 ≠ NameKind.cell
 loc:∀ y ∈ scope.names,y.2 = NameKind.local -> scope.names.lookup y.1 = some NameKind.local
 free:∀ y ∈ scope.names,y.2 = NameKind.free -> sc.names.lookup y.1 = some NameKind.cell
 frs:∀ j ∈ fr,(N[j]?.bind fun x=>scope.names.lookup x) = some NameKind.free
def Bx (N tgs:List Str) (fr:List Nat):List Str:=tgs ++ fr.map fun j=>(N[j]?).getD ⟨#[]⟩
def D6 (fr:List Nat) (σ:St):St:=fr.map fun j=>(σ[j]?).getD none
def Ev (n:Nat) (fr:List Nat) (σ:St):St:=List.replicate n none ++ D6 fr σ
def Co (X:Cx) (Nc:List Str) (scope:Scope) (C:Addr) (s2:Shared) (H2:Hp) (fp:List Addr):Cx :=
 { X with N:=Nc,s₀:=s2,H₀:=H2,env:=compEnvC scope (Ek X.env.cells scope.names []) C X.env,outer:=X.stack,ex:=fp,fn:=fun _=>false,pn:=[],xe:=fun _ _=>False }
def je (X:Cx) (ifs:List Expr) (t:TT):Prop :=
 ∀ (pins:List (Addr × Obj)) (s:Shared) (σ:St) (H:Hp) (Q:Bool -> Hp -> Prop),Am X pins σ H s -> t σ H Q ->
  wpAny (model X.prog X.w) X.A (forIn ifs true fun c r=>if r = true then do let ok <- isTrue c X.env (eval c X.env); pure (ForInStep.yield ok) else pure (ForInStep.yield r)) (TP X pins σ Q) X.xe s
def Kj:TT:=fun _ H Q=>Q true H
theorem Da {X:Cx}:je X [] Kj:=fun _ _ _ H _ I h=>wpAny_tests_nil ⟨H,I,h⟩
theorem Ue {X:Cx} {c:Expr} {t:TT} (h:PT X c t):je X [c] t:=fun pins s σ H Q I hq=>wpAny_tests_one (h pins s σ H Q I hq)
section
variable {prog:Program} {w:World} {A:Around} {R:Result -> Shared -> Prop} {s:Shared}
theorem Ob {elt target iter : Expr} {ifs : List Expr} {scope : Scope} {pos : Pos} {it acc : Value} {env : Env} (I : Nat -> Shared -> Prop)
  (turn:∀ n s,I n s -> wpAny (model prog w) A (pyNext it) (fun r s₁=>match r with
   | none=>R (.ok .next) s₁
   | some v => wpAny (model prog w) A (letOwnedTupleGo target it v) (fun _ s₁' => wpAny (model prog w) A (assign target env v) (fun _ s₂ =>
     wpAny (model prog w) A (forIn ifs true fun c r=>if r = true then do let ok <- isTrue c env (eval c env); pure (ForInStep.yield ok) else pure (ForInStep.yield r)) (fun ok s₃ =>
      if ok = true then wpAny (model prog w) A (eval elt env) (fun x s₄ =>
       wpAny (model prog w) A (call (.builtin "list.append") [acc,x]) (fun _ s₅=>∃ m,m < n /\ I m s₅) (fun _ _=>False) s₄) (fun _ _=>False) s₃
      else ∃ m,m < n /\ I m s₃) (fun _ _=>False) s₂) (fun _ _=>False) s₁') (fun _ _=>False) s₁) (fun _ _=>False) s)
  (n:Nat) (h:I n s) :
  codeAny (model prog w) A (.compLoop (.ListComp elt [⟨target,iter,ifs,0⟩] scope pos) 0 it acc env) R s:=by
 refine codeAny_loop rfl I (fun n s hI=>?_) n h
 show wpAny _ A ((compTurn (.ListComp elt [⟨target,iter,ifs,0⟩] scope pos) 0 it acc env).onRaise (fun x=>do noteFrame x env; theTreesLotGoes x)) _ _ s
 refine wpAny_noted ?_
 rw [compTurn_list]
 refine wpAny_bind (wpAny_standAt (wpAny_bind (wpAny_mono (turn n s hI) (fun r s₁ h₁=>?_) fun _ _ h'=>h'.elim)))
 cases r with
 | none=>exact wpAny_pure h₁
 | some v =>
  refine wpAny_bind (wpAny_mono h₁ (fun _ s₁' h₁'=>?_) fun _ _ h'=>h'.elim)
  refine wpAny_bind (wpAny_mono h₁' (fun _ s₂ h₂=>wpAny_bind (wpAny_mono h₂ (fun ok s₃ h₃=>?_) fun _ _ h'=>h'.elim)) fun _ _ h'=>h'.elim)
  cases ok with
  | false=>exact wpAny_pure ⟨rfl,h₃⟩
  | true =>
   exact wpAny_bind (wpAny_bind (wpAny_mono h₃ (fun x s₄ h₄=>wpAny_bind (wpAny_mono h₄ (fun _ s₅ h₅=>wpAny_pure (wpAny_pure ⟨rfl,h₅⟩)) fun _ _ h'=>h'.elim)) fun _ _ h'=>h'.elim))
end
def Dw (n:Nat) (fr:List Nat) (J:It) (g:TG) (tt:TT) (te:TE) (σ:St) (D:Addr) (H1:Hp) (Q:Hp -> Prop):Prop :=
 ∃ W:Nat -> Nat -> List V -> Hp -> Prop,(∃ m,W 0 m [] (upd H1 D (.lst []))) /\ ∀ i m ys H',W i m ys H' ->
  (J.stop i H' /\ Q H') \/ (J.go i H' /\ ∀ x H2,J.yld i H' x H2 -> g x (Ev n fr σ) H2 fun σ3 H3=>(∃ zs:St,zs.length = n /\ σ3 = zs ++ D6 fr σ) /\ tt σ3 H3 fun b H4 =>
   if b = true then te σ3 H4 fun y H5=>H5 D = some (.lst ys) /\ ys.length < sizeLine /\ ∃ m',m' < m /\ W (i + 1) m' (ys ++ [y]) (upd H5 D (.lst (ys ++ [y])))
   else ∃ m',m' < m /\ W (i + 1) m' ys H4)
def ja (n:Nat) (fr:List Nat) (wi:TI) (g:TG) (tt:TT) (te:TE):TE:=fun σ H Q=>wi σ H fun J H1=>∀ D,H1 D = none -> Dw n fr J g tt te σ D H1 (Q (.ref D))
def Xl (n:Nat) (fr:List Nat) (wi:TI) (g:TG) (tt:TT) (te:TE) (i:Nat):TS:=fun D σ H=>wi σ H fun J H1=>∀ l,H1 l = none -> Dw n fr J g tt te σ l H1 (D.nx (σ.set i (some (.ref l))))
section
variable {X:Cx} {tg iter elt:Expr} {ifs:List Expr} {scope sc:Scope} {tgs:List Str} {fr:List Nat} {wi:TI} {g:TG} {tt:TT} {te:TE} {pos:Pos}
theorem Nl {pins : List (Addr × Obj)} {σ : St} {H2 : Hp} {s2 : Shared} {it : Addr} {fp : List Addr} {tn : Nat -> Heap -> Prop} {J : It} {RR : Value -> Addr -> Result -> Shared -> Prop} {E : Value -> Shared -> Prop} {Qf : Hp -> Prop}
  (hsc:X.env.scope = sc) (S:Cw sc scope X.N tgs fr) (hc:X.calm = true)
  (hg:∀ C s2 H2 fp,PG (Co X (Bx X.N tgs fr) scope C s2 H2 fp) tg g) (ht:∀ C s2 H2 fp,je (Co X (Bx X.N tgs fr) scope C s2 H2 fp) ifs tt) (he:∀ C s2 H2 fp,PE (Co X (Bx X.N tgs fr) scope C s2 H2 fp) elt te)
  (I2:Am X pins σ H2 s2) (T:Si X.prog X.w X.K tg J fp it tn) (st2:tn 0 s2.heap) (f2:∀ b ∈ fp,La X pins H2 b)
  (run:Dw tgs.length fr J g tt te σ s2.heap.objs.size H2 Qf)
  (hRR:∀ (C:Addr) (H3:Hp) (s4:Shared),Am X pins σ H3 s4 -> La X pins H3 C -> (∃ m,s4.heap.Ns C m) -> Qf H3 -> RR (.ref s2.heap.objs.size) C (.ok .next) s4) :
  wpAny (model X.prog X.w) X.A (newList []) (fun acc s₃=>wpAny (model X.prog X.w) X.A (newFunctionEnv scope X.env.globals (Ek X.env.cells scope.names []) [] X.env.qual none .none (some X.env)) (fun cenv s₄ =>
   codeAny (model X.prog X.w) X.A (.compStart (.ListComp elt [⟨tg,iter,ifs,0⟩] scope pos) 0 (.ref it) acc { cenv with scope:=relabel scope X.env }) (RR acc cenv.locals) s₄) E s₃) E s2:=by
 refine wpAny_newObj_type (wpAny_newFunctionEnv S.nocell (by intro y hy; simp at hy) (fun h₁ hns₁ hsb₁=>?_) S.kind)
 dsimp only at hns₁ hsb₁ ⊢
 generalize hG2:s2.heap.push { cls := .type "list",dict:=none,data := .seq ([]:List Value).toArray } = G2 at hns₁ hsb₁ ⊢
 have hC:G2.objs.size = s2.heap.objs.size + 1:=by rw [<- hG2,Heap.size_push]
 have hDC:s2.heap.objs.size ≠ G2.objs.size:=by rw [hC]; exact Nat.ne_of_lt (Nat.lt_succ_self _)
 have hle:s2.heap.objs.size <= G2.objs.size:=by rw [hC]; exact Nat.le_succ _
 have below:∀ b,b < s2.heap.objs.size -> b ≠ G2.objs.size /\ b ≠ s2.heap.objs.size:=fun b hb=>⟨Nat.ne_of_lt (Nat.lt_of_lt_of_le hb hle),Nat.ne_of_lt hb⟩
 have old:∀ b o,s2.heap.get? b = some o -> h₁.get? b = some o:=fun b o e=>hsb₁.extBut b o (below b (Heap.lt_size e)).1 (Heap.get?_push_of_some _ (hG2 ▸ Heap.get?_push_of_some _ e))
 have accO:h₁.get? s2.heap.objs.size = some { cls := .type "list",data := .seq ([]:List Value).toArray 0 }:=hsb₁.extBut _ _ hDC (Heap.get?_push_of_some _ (hG2 ▸ Heap.get?_push_size _ rfl))
 have hfree0:∀ y ∈ scope.names,y.2 = NameKind.free -> ∃ c,X.env.cells.lookup y.1 = some c:=fun y hy e=>I2.ok.has y.1 (.inl (by show X.env.scope.names.lookup y.1 = _; rw [hsc]; exact S.free y hy e))
 have subC:∀ x c,(Ek X.env.cells scope.names []).lookup x = some c -> X.env.cells.lookup x = some c:=fun x c e=>by
  rcases Jd e with z | ⟨z1,z2⟩
  ·simp at z
  ·obtain ⟨c',e'⟩ := hfree0 _ z1 rfl
   rw [z2,e']
   rfl
 have cellLt:∀ x c,X.env.cells.lookup x = some c -> c < s2.heap.objs.size:=fun x c e=>by
  obtain ⟨v,q⟩ := I2.cell x c e
  exact q.lt
 have fpLt:∀ b ∈ fp,b < s2.heap.objs.size:=fun b hb=>by
  obtain ⟨o,e,_⟩ := T.obj 0 _ st2 b hb
  exact Heap.lt_size e
 have ok3:(Co X (Bx X.N tgs fr) scope G2.objs.size s2 H2 fp).Ok:=by
  refine ⟨I2.ok.mod,S.kind,I2.ok.glob,I2.ok.blt,hle,fun x y c e1 e2=>I2.ok.inj x y c (subC x c e1) (subC y c e2),fun x hx=>?_,fun x c z _=>absurd z Bool.false_ne_true,I2.ok.hd,I2.ok.frames,.inl rfl,
   fun b hb=>⟨(below b (fpLt b hb)).1,fun x c e=>(f2 b hb).2.2.2.2.1 x c (subC x c e)⟩,I2.bs,Nat.le_trans I2.ok.bsz I2.sz,fun b o e hb=>?_,fun b hb z=>?_,I2.stack,I2.stkFree⟩
  ·rcases hx with hx | hx
   ·exact Fd (Fl (env:=X.env) S.nocell (by decide) (.inl rfl) hx)
   ·exact Fd (Fl (env:=X.env) S.nocell (by decide) (.inr rfl) hx)
  ·rcases (f2 b hb).2.2.2.1 with z | z
   ·exact I2.ok.noex b o e z
   ·exact absurd (Nat.lt_of_lt_of_le (Heap.lt_size e) (Nat.le_trans I2.ok.bsz z)) (Nat.lt_irrefl _)
  ·rcases List.mem_cons.mp (I2.stkSub b z) with z | z
   ·exact (f2 b hb).2.1 z
   ·exact (f2 b hb).2.2.1 z
 have I3:Am (Co X (Bx X.N tgs fr) scope G2.objs.size s2 H2 fp) [] (Ev tgs.length fr σ) (upd H2 s2.heap.objs.size (.lst [])) { s2 with heap:=h₁,toks:=s2.toks + ([]:List (Str × Value)).length }:=by
  refine ⟨ok3,rfl,I2.bare,Un.laid old (Nat.le_refl _) I2.fresh,⟨_,hns₁,fun i x v e1 e2 e3=>?_⟩,fun x c e=>?_,?_,fun x c e=>?_,fun p hp=>absurd (show p ∈ ([]:List (Addr × Obj)) from hp) (by simp),I2.hok.laid old (Nat.le_refl _) ⟨Nat.zero_le _,[],0,.nil,accO⟩,?_⟩
  ·-- a name of the comprehension that has a value at the start is one of the def's cells
   have hi:tgs.length <= i:=by
    refine Nat.le_of_not_lt fun hlt=>?_
    unfold Ev at e2
    rw [List.getElem?_append_left (by simpa using hlt),List.getElem?_replicate,if_pos hlt] at e2
    cases e2
   have e2':(D6 fr σ)[i - tgs.length]? = some (some v):=by
    unfold Ev at e2
    rw [List.getElem?_append_right (by simpa using hi)] at e2
    simpa using e2
   have e1':(fr.map fun j=>(X.N[j]?).getD ⟨#[]⟩)[i - tgs.length]? = some x:=by
    have e1:(Bx X.N tgs fr)[i]? = some x:=e1
    unfold Bx at e1
    rw [List.getElem?_append_right hi] at e1
    exact e1
   unfold D6 at e2'
   rw [List.getElem?_map] at e1' e2'
   cases ej:fr[i - tgs.length]? with
   | none=>rw [ej] at e1'; cases e1'
   | some j =>
    rw [ej] at e1' e2'
    have e1j:(X.N[j]?).getD ⟨#[]⟩ = x:=Option.some.inj e1'
    have e2j:(σ[j]?).getD none = some v:=Option.some.inj e2'
    have hfr:=S.frs j (List.mem_of_getElem? ej)
    cases eN:X.N[j]? with
    | none=>rw [eN] at hfr; cases hfr
    | some x' =>
     rw [eN] at hfr e1j
     have ex:x' = x:=e1j
     subst ex
     have hfx:scope.names.lookup x' = some NameKind.free:=hfr
     have hσ:σ[j]? = some (some v):=by
      cases eσ:σ[j]? with
      | none=>rw [eσ] at e2j; cases e2j
      | some o=>rw [eσ] at e2j; exact congrArg some e2j
     have hmem:=PySem.mem_of_lookup hfx
     have hkc:X.env.scope.names.lookup x' = some NameKind.cell:=by rw [hsc]; exact S.free _ hmem rfl
     obtain ⟨m,hn,hl⟩ := I2.loc
     obtain ⟨u,ru,lk⟩ := hl j x' v eN hσ (.inr (.inl hkc))
     refine ⟨u,ru,.inr ⟨?_,?_⟩⟩
     ·have e3:(relabel scope X.env).names.lookup x' = some NameKind.local \/ (relabel scope X.env).names.lookup x' = some NameKind.cell \/ (relabel scope X.env).names.lookup x' = some NameKind.free:=e3
      rcases e3 with z | z | z
      ·exfalso
       have key:∀ (names:List (Str × NameKind)),names.lookup x' = some NameKind.free -> (names.map fun (n,k)=>if (k == NameKind.free && X.env.scope.kind == .function && X.env.kindOf n == some .cell) then (n,NameKind.cell) else (n,k)).lookup x' ≠ some NameKind.local:=by
        intro names
        induction names with
        | nil=>intro h; simp at h
        | cons p r ih =>
         obtain ⟨n,k⟩ := p
         intro h h2
         have h2:List.lookup x' ((if (k == NameKind.free && X.env.scope.kind == .function && X.env.kindOf n == some .cell) = true then (n,NameKind.cell) else (n,k)) :: (r.map fun (n,k)=>if (k == NameKind.free && X.env.scope.kind == .function && X.env.kindOf n == some .cell) then (n,NameKind.cell) else (n,k))) = some NameKind.local:=h2
         rw [List.lookup_cons] at h
         cases hx:x' == n with
         | true =>
          rw [hx] at h
          have ek:k = NameKind.free:=Option.some.inj h
          subst ek
          split at h2
          ·rw [List.lookup_cons,hx] at h2; cases h2
          ·rw [List.lookup_cons,hx] at h2; cases h2
         | false =>
          rw [hx] at h
          split at h2
          ·rw [List.lookup_cons,hx] at h2; exact ih h h2
          ·rw [List.lookup_cons,hx] at h2; exact ih h h2
       exact key scope.names hfx z
      ·exact .inl z
      ·exact .inr z
     ·obtain ⟨c,ec⟩ := Fd (cells:=X.env.cells) (cs:=[]) hmem
      rcases lk with ⟨k1,_⟩ | ⟨_,c',ec',ic⟩
      ·have k1:X.env.scope.names.lookup x' = some NameKind.local:=k1
       rw [hkc] at k1; cases k1
      ·have q:=subC _ _ ec
       rw [ec'] at q
       have q':c' = c:=Option.some.inj q
       subst q'
       exact ⟨_,ec,ic.keeps old⟩
  ·obtain ⟨v,q⟩ := I2.cell x c (subC x c e)
   exact ⟨v,q.keeps old⟩
  ·show upd H2 s2.heap.objs.size (.lst []) G2.objs.size = none
   rw [Ac hDC.symm]
   exact I2.hok.fresh hle
  ·rw [Ac (Nat.ne_of_lt (cellLt x c (subC x c e)))]
   exact I2.freeC x c (subC x c e)
  ·unfold Ev D6
   show _ = (Bx X.N tgs fr).length
   unfold Bx
   simp
 obtain ⟨W,⟨m0,w0⟩,turn⟩ := run
 have stat:∀ {H':Hp},(∀ b ∈ fp,H' b = none) -> ∀ b ∈ fp,La (Co X (Bx X.N tgs fr) scope G2.objs.size s2 H2 fp) [] H' b:=fun hn b hb =>
  ⟨hn b hb,(below b (fpLt b hb)).1,ok3.exfs b hb,.inl hb,(ok3.exf b hb).2,fun p hp=>absurd (show p ∈ ([]:List (Addr × Obj)) from hp) (by simp)⟩
 have fr3:∀ b ∈ fp,upd H2 s2.heap.objs.size (.lst []) b = none:=fun b hb=>by rw [Ac (below b (fpLt b hb)).2]; exact (f2 b hb).1
 have st3:tn 0 h₁:=T.keep 0 _ _ st2 fun b _ o e=>old b o e
 have fin:∀ {H3:Hp} {s4:Shared},Am (Co X (Bx X.N tgs fr) scope G2.objs.size s2 H2 fp) [] (Ev tgs.length fr σ) H3 s4 -> Qf H3 -> RR (.ref s2.heap.objs.size) G2.objs.size (.ok .next) s4:=fun {H3 s4} I4 q=>by
  obtain ⟨m,hn,_⟩ := id I4.loc
  have ub:Un (frs X.stack) fp H2 H3 s2.heap s4.heap:=I4.base
  refine hRR G2.objs.size H3 s4 (I2.call' (ch:=fp) (s':=s4) I4.os ub I4.hok I4.bare fun b hb=>⟨(f2 b hb).2.2.2.1,(f2 b hb).2.1,(f2 b hb).2.2.2.2.1,(f2 b hb).2.2.2.2.2⟩) (I2.fpOk hle I4.free) ⟨m,hn⟩ q
 have loop : ∀ s₃ : Shared, s₃ = { s2 with heap := h₁, toks := s2.toks + ([] : List (Str × Value)).length } ->
   codeAny (model X.prog X.w) X.A (.compLoop (.ListComp elt [⟨tg,iter,ifs,0⟩] scope pos) 0 (.ref it) (.ref s2.heap.objs.size) (compEnvC scope (Ek X.env.cells scope.names []) G2.objs.size X.env)) (RR (.ref s2.heap.objs.size) G2.objs.size) s₃:=by
  rintro s₃ rfl
  refine Ob (fun n s'=>∃ i ys H',Am (Co X (Bx X.N tgs fr) scope G2.objs.size s2 H2 fp) [] (Ev tgs.length fr σ) H' s' /\ tn i s'.heap /\ (∀ b ∈ fp,H' b = none) /\ W i n ys H') ?_ m0 ⟨0,[],_,I3,st3,fr3,w0⟩
  rintro n s5 ⟨i,ys,H3,J3,sti,fri,w3⟩
  rcases turn i n ys H3 w3 with ⟨stop,q⟩ | ⟨go,step⟩
  ·refine wpAny_mono (T.done (Co X (Bx X.N tgs fr) scope G2.objs.size s2 H2 fp) rfl rfl rfl hc i [] s5 _ H3 (fun _ _=>False) J3 (stat fri) sti stop) (fun r s6 ⟨hr,J4⟩=>?_) (fun _ _ f=>f)
   subst hr
   exact fin J4 q
  ·refine wpAny_mono (T.item (Co X (Bx X.N tgs fr) scope G2.objs.size s2 H2 fp) rfl rfl rfl hc i [] s5 _ H3 (fun _ _=>False) J3 (stat fri) sti go) (fun r s6 ⟨u,hr,h6⟩=>?_) (fun _ _ f=>f)
   subst hr
   refine wpAny_mono h6 (fun _ s7 ⟨x,H7,J7,r7,y7,st7,fr7⟩=>?_) (fun _ _ f=>f)
   have J7':=J7.pinned (stat fr7) (T.obj _ _ st7)
   refine wpAny_mono (hg G2.objs.size s2 H2 fp _ s7 _ H7 x u _ J7' r7 (step x H7 y7)) (fun _ s8 ⟨σ8,H8,J8,⟨zs,hz,e8⟩,q8⟩=>?_) (fun _ _ f=>f)
   have again : ∀ {H9 : Hp} {s9 : Shared} {ys' : List V}, Am (Co X (Bx X.N tgs fr) scope G2.objs.size s2 H2 fp) ([] ++ L8 fp s7.heap) σ8 H9 s9 -> (∃ m', m' < n /\ W (i + 1) m' ys' H9) ->
     ∃ m,m < n /\ ∃ i ys H',Am (Co X (Bx X.N tgs fr) scope G2.objs.size s2 H2 fp) [] (Ev tgs.length fr σ) H' s9 /\ tn i s9.heap /\ (∀ b ∈ fp,H' b = none) /\ W i m ys H':=fun {H9 s9 ys'} J9 ⟨m',hm,w9⟩=>by
    refine ⟨m',hm,i + 1,ys',H9,J9.unpinned.weak ?_ ?_,T.keep _ _ _ st7 fun b hb o e=>(J9.pin (b,o) (List.mem_append_right _ (List.mem_append_right _ (Fm hb e)))).1,fun b hb=>?_,w9⟩
    ·rw [e8]; unfold Ev; simp [hz]
    ·intro k v ek
     rw [e8]
     unfold Ev at ek
     by_cases hk:k < tgs.length
     ·rw [List.getElem?_append_left (by simpa using hk),List.getElem?_replicate,if_pos hk] at ek
      cases ek
     ·rw [List.getElem?_append_right (by simpa using hk)] at ek
      rw [List.getElem?_append_right (by omega),hz]
      simpa using ek
    ·obtain ⟨o,e,d⟩ := T.obj _ _ st7 b hb
     exact (J9.pin (b,o) (List.mem_append_right _ (List.mem_append_right _ (Fm hb e)))).2.1
   refine wpAny_mono (ht G2.objs.size s2 H2 fp _ s8 σ8 H8 _ J8 q8) (fun ok s9 ⟨H9,J9,q9⟩=>?_) (fun _ _ f=>f)
   cases ok with
   | false =>
    rw [if_neg Bool.false_ne_true] at q9 ⊢
    exact again J9 q9
   | true =>
    rw [if_pos rfl] at q9 ⊢
    refine wpAny_mono (he G2.objs.size s2 H2 fp _ s9 σ8 H9 _ J9 q9) (fun y s10 ⟨v10,H10,J10,r10,hD,hlen,q10⟩=>?_) (fun _ _ f=>f)
    refine wpAny_mono (Df (X:=Co X (Bx X.N tgs fr) scope G2.objs.size s2 H2 fp) _ s10 σ8 H10 (.ref s2.heap.objs.size) [v10] (.ref s2.heap.objs.size) [y] (fun _ H11=>H11 = upd H10 s2.heap.objs.size (.lst (ys ++ [v10]))) J10 rfl (.cons r10 .nil) ⟨_,ys,v10,rfl,rfl,hD,hlen,rfl⟩) (fun _ s11 ⟨_,H11,J11,_,e11⟩=>?_) (fun _ _ f=>f)
    subst e11
    exact again J11 q10
 exact codeAny_compStart_list (loop _ rfl) (T.self _ 0 _ _ _ st3 (loop _ rfl))
theorem Em (hi : PI X tg iter wi) (sc : Scope) (hsc : X.env.scope = sc) (S : Cw sc scope X.N tgs fr) (hc : X.calm = true) (hclos : closureFor scope X.env = pure (Ek X.env.cells scope.names []))
  (hg:∀ C s2 H2 fp,PG (Co X (Bx X.N tgs fr) scope C s2 H2 fp) tg g) (ht:∀ C s2 H2 fp,je (Co X (Bx X.N tgs fr) scope C s2 H2 fp) ifs tt) (he:∀ C s2 H2 fp,PE (Co X (Bx X.N tgs fr) scope C s2 H2 fp) elt te)
  (hs:∀ x,foldedSetIterable iter X.env x = pure x:=by intro _; rfl):PE X (.ListComp elt [⟨tg,iter,ifs,0⟩] scope pos) (ja tgs.length fr wi g tt te):=by
 intro pins s σ H Q I h
 rw [eval_ListComp]
 refine wpAny_comprehension_free (use:=none) rfl hs hclos S.kind S.loc (wpAny_mono (hi pins s σ H _ I h) (fun v s1 h1=>wpAny_mono h1 (fun itv s2 h2=>?_) fun _ _ e=>e) fun _ _ e=>e)
 obtain ⟨it,fp,tn,J,H2,e,I2,T,st2,f2,R2⟩ := h2
 subst e
 refine Nl (RR:=fun acc C=>compPost (model X.prog X.w) X.A X.xe none (EP X pins σ Q) acc C) hsc S hc hg ht he I2 T st2 f2 (R2 _ I2.fresh) ?_
 intro C H3 s4 I4 fC ⟨m,hn⟩ q
 refine ⟨m,hn,fun h' hs'=>⟨.ref s2.heap.objs.size,H3,?_,rfl,q⟩⟩
 obtain ⟨hh,gg,dd,tt',oo⟩ := s4
 exact I4.turned (h':=h') (t':=tt') (it:=C) (fun b o hb e=>hs'.extBut b o hb e) fC.1 fC.2.1 fC.2.2.2.1 fC.2.2.2.2.1 fC.2.2.2.2.2
theorem Du {i : Nat} {y : Str} {py spos : Pos} (hN : X.N.Nodup) (hiy : X.N[i]? = some y) (hi : PI X tg iter wi) (sc : Scope) (hsc : X.env.scope = sc) (S : Cw sc scope X.N tgs fr) (hc : X.calm = true)
  (hclos:closureFor scope X.env = pure (Ek X.env.cells scope.names []))
  (hg:∀ C s2 H2 fp,PG (Co X (Bx X.N tgs fr) scope C s2 H2 fp) tg g) (ht:∀ C s2 H2 fp,je (Co X (Bx X.N tgs fr) scope C s2 H2 fp) ifs tt) (he:∀ C s2 H2 fp,PE (Co X (Bx X.N tgs fr) scope C s2 H2 fp) elt te)
  (hy:X.env.scope.names.lookup y = some NameKind.local)
  (hsw:swapsWith (.ListComp elt [⟨tg,iter,ifs,0⟩] scope pos) (some (.Name y py)) spos.line X.env = pure true)
  (hs:∀ x,foldedSetIterable iter X.env x = pure x:=by intro _; rfl) :
  PS X (.Assign [.Name y py] (.ListComp elt [⟨tg,iter,ifs,0⟩] scope pos) spos) (Xl tgs.length fr wi g tt te i):=by
 intro pins s σ H D I h
 rw [exec_Assign_Name_used _ _ _ _ hsw]
 refine wpAny_bind (wpAny_standAt (wpAny_bind ?_))
 show wpAny _ X.A (do let _ <- comprehension (.ListComp elt [⟨tg,iter,ifs,0⟩] scope pos) scope X.env _ (newList []) false (eval iter X.env) (some (assign (.Name y py) X.env))) _ _ s
 refine wpAny_bind (wpAny_mono (wpAny_comprehension_free (use:=some (assign (.Name y py) X.env)) (Q:=fun _ s'=>SP X pins D .next s') rfl hs hclos S.kind S.loc
  (wpAny_mono (hi pins s σ H _ I h) (fun v s1 h1=>wpAny_mono h1 (fun itv s2 h2=>?_) fun _ _ e=>e) fun _ _ e=>e)) (fun _ s' hq=>wpAny_pure (wpAny_pure hq)) fun _ _ e=>e)
 obtain ⟨it,fp,tn,J,H2,e,I2,T,st2,f2,R2⟩ := h2
 subst e
 refine Nl (RR:=fun acc C=>compPost (model X.prog X.w) X.A X.xe (some (assign (.Name y py) X.env)) (fun _ s'=>SP X pins D .next s') acc C) hsc S hc hg ht he I2 T st2 f2 (R2 _ I2.fresh) ?_
 intro C H3 s4 I4 fC ⟨m,hn⟩ q
 refine wpAny_assign_Name (O6 (v := .ref s2.heap.objs.size) I4 hN hiy (.inl hy) rfl (fun s5 I5 ⟨a,hsb,ha⟩=>?_) (.inr hy))
 have hLC:C ≠ a:=by
  rcases ha with z | z
  ·rw [z]; exact fC.2.1
  ·exact fun z2=>fC.2.2.2.2.1 y a z z2.symm
 refine ⟨m,hn.sameBut hsb hLC,fun h' hs'=>⟨_,H3,?_,q⟩⟩
 obtain ⟨hh,gg,dd,tt',oo⟩ := s5
 exact I5.turned (h':=h') (t':=tt') (it:=C) (fun b o hb e=>hs'.extBut b o hb e) fC.1 fC.2.1 fC.2.2.2.1 fC.2.2.2.2.1 fC.2.2.2.2.2
end
open PySem.Builtin.Int (intBits)
section
variable {X:Cx}
theorem Yu:Hn X (binaryOp .Mult) (rI IntMulOk fun i j=>.int (i * j)):=ll fun _ _ _ _ _ _ _ hc q=>mul_int q hc
end
theorem j7 {a b:Int} {m n:Nat} (ha:intBits a <= m) (hb:intBits b <= n) (h:m + n <= 134217728):IntMulOk a b:=PyProof.Rows.mulOk_of_bits ha hb h
def cf (T C:String):Option Bool:=if (Value.type T == Value.type C) = true then some true else if PySem.W.kitMeta C = true then (fastBuiltinMro T).map (·.contains (Value.type C)) else none
theorem Xk (K:PySem.W.Frag) (T C:String):PySem.W.kitOne K (.type T) (.type C) = cf T C:=rfl
theorem Os:cf "bool" "bool" = some true:=by decide +kernel
section
variable {X:Cx}
def jh (K:PySem.W.Frag):List V -> Hp -> VK -> Prop:=fun xs H Q=>∃ x T C b,xs = [x,.ty C] /\ Ip K H x (.type T) /\ cf T C = some b /\ Q (.bl b) H
theorem Wn:Es X (.builtin "isinstance") (jh X.K):=by
 intro pins s σ H xs us Q I r h
 obtain ⟨x,T,C,b,rfl,ty,e,q⟩ := h
 obtain ⟨u,w',rfl,rx,rc⟩ := Xi r
 obtain rfl:w' = Value.type C:=rc
 exact V1 I rx ty ((Xk X.K T C).trans e) fun tk=>⟨.bl b,H,I.tok _,rfl,q⟩
theorem kf {x:Str} {T:String} {pos:Pos} (hg:Gl X x) (hm:X.mg x = none) (hv:bootBuiltins x = some (.type T)) (hn:x ≠ "__name__" := by decide) (hd:(x == ("__debug__" : Str)) = false:=by decide):PE X (.Name x pos) (tC (.ty T)) :=
 Zw hg hm hv rfl hn hd
end
mutual
def Rp (H:Hp):PyData -> V -> Prop
 | .none,v=>v = .non
 | .bool b,v=>v = .bl b
 | .int i,v=>v = .int i
 | .tuple ds,v=>∃ a xs,v = .ref a /\ H a = some (.tup xs) /\ RpAll H ds xs
 | .list ds,v=>∃ a xs,v = .ref a /\ H a = some (.lst xs) /\ RpAll H ds xs
 | .str x,v=>v = .str x /\ PyData.strOk x = true
 | .dict _,_=>False
def RpAll (H:Hp):List PyData -> List V -> Prop
 | [],vs=>vs = []
 | d :: ds,vs=>∃ x xs,vs = x :: xs /\ Rp H d x /\ RpAll H ds xs
end
mutual
theorem Ds {H:Hp}:∀ (d:PyData) (v:V),Rp H d v -> d.canLay0 = true
 | .none,_,_=>rfl
 | .bool _,_,_=>rfl
 | .int _,_,_=>rfl
 | .tuple ds,_,h=>by
  unfold Rp at h
  obtain ⟨a,xs,_,_,h⟩ := h
  exact rpAll_can ds xs h
 | .list ds,_,h=>by
  unfold Rp at h
  obtain ⟨a,xs,_,_,h⟩ := h
  exact rpAll_can ds xs h
 | .str x,v,h=>by
  unfold Rp at h
  exact h.2
 | .dict _,_,h=>by unfold Rp at h; exact h.elim
theorem rpAll_can {H:Hp}:∀ (ds:List PyData) (vs:List V),RpAll H ds vs -> PyData.canLayAll0 ds = true
 | [],_,_=>rfl
 | d :: ds,vs,h=>by
  unfold RpAll at h
  obtain ⟨x,xs,_,h1,h2⟩ := h
  show (d.canLay0 && PyData.canLayAll0 ds) = true
  rw [Ds d x h1,rpAll_can ds xs h2]
  rfl
end
section
variable {X:Cx} {pins:List (Addr × Obj)} {σ:St} {H:Hp} {s:Shared}
mutual
theorem Eg (I:Am X pins σ H s):∀ (d:PyData) (v:V) (u:Value),Rp H d v -> B6 v u -> ∃ as,Reads s.heap u d as
 | .none,v,u,h,r=>by
  unfold Rp at h
  subst h
  cases r
  exact ⟨_,.none⟩
 | .bool b,v,u,h,r=>by
  unfold Rp at h
  subst h
  cases r
  exact ⟨_,.bool b⟩
 | .int i,v,u,h,r=>by
  unfold Rp at h
  subst h
  obtain ⟨t,rfl⟩ := r
  exact ⟨_,.int i t⟩
 | .tuple ds,v,u,h,r=>by
  unfold Rp at h
  obtain ⟨a,xs,rfl,ha,h⟩ := h
  cases r
  obtain ⟨_,its,rv,p⟩ := I.hok a _ ha
  obtain ⟨o,h1,h2,n,h3⟩ := p
  obtain ⟨as,q⟩ := rpAll_reads I ds xs its h rv
  exact ⟨_,.tuple h1 h2 h3 (by simpa using q)⟩
 | .list ds,v,u,h,r=>by
  unfold Rp at h
  obtain ⟨a,xs,rfl,ha,h⟩ := h
  cases r
  obtain ⟨_,its,n,rv,p⟩ := I.hok a _ ha
  obtain ⟨as,q⟩ := rpAll_reads I ds xs its h rv
  exact ⟨_,.list p rfl rfl (by simpa using q)⟩
 | .str x,v,u,h,r=>by
  unfold Rp at h
  obtain ⟨rfl,_⟩ := h
  obtain ⟨t,rfl⟩ := r
  exact ⟨_,.str x t⟩
 | .dict _,_,_,h,_=>by unfold Rp at h; exact h.elim
theorem rpAll_reads (I:Am X pins σ H s):∀ (ds:List PyData) (vs:List V) (us:List Value),RpAll H ds vs -> B7 vs us -> ∃ as,ReadsAll s.heap us ds as
 | [],vs,us,h,r=>by
  unfold RpAll at h
  subst h
  cases r
  exact ⟨_,.nil⟩
 | d :: ds,vs,us,h,r=>by
  unfold RpAll at h
  obtain ⟨x,xs,rfl,h1,h2⟩ := h
  cases r with
  | cons r1 r2 =>
   obtain ⟨as,q1⟩ := Eg I d x _ h1 r1
   obtain ⟨bs,q2⟩ := rpAll_reads I ds xs _ h2 r2
   exact ⟨_,.cons q1 q2⟩
end
end
section
variable {X:Cx} {k:Nat}
def nz (neg:Bool):R2:=fun x y H Q=>∃ d e:PyData,Rp H d x /\ Rp H e y /\ d.depth <= 60 /\ Q (.bl (if neg then !PyData.eqv d e else PyData.eqv d e)) H
theorem Y1 (hr:E9 k X.A):Hn X (compareOp .Eq) (nz false):=by
 intro pins s σ H x y v u Q I rx ry h
 obtain ⟨d,e,h1,h2,hd,q⟩ := h
 obtain ⟨as,q1⟩ := Eg I d x v h1 rx
 obtain ⟨bs,q2⟩ := Eg I e y u h2 ry
 have hu:=hr.units
 exact PySem.SeqAt.compareEq_reads q1 q2 (Ds d x h1) (Ds e y h2) (by omega) ⟨.bl (PyData.eqv d e),H,I,rfl,q⟩
end
theorem U4 {H:Hp}:∀ ns:List Int,RpAll H (ns.map PyData.int) (ns.map V.int)
 | []=>by unfold RpAll; rfl
 | n :: ns=>by
  show RpAll H (PyData.int n :: ns.map PyData.int) (V.int n :: ns.map V.int)
  unfold RpAll
  exact ⟨_,_,rfl,by unfold Rp; rfl,U4 ns⟩
theorem A7.new {H H':Hp} {p:Addr} {o:HO} (e:A7 H H') (h:H p = none):A7 H (upd H' p o):=fun b u q=>by
 rw [Ac (An q h)]
 exact e b u q
theorem A7.upd {H:Hp} {p:Addr} {o:HO} (h:H p = none):A7 H (upd H p o):=(A7.refl H).new h
theorem walk_ofB {l : PySem.W.OpenLaw} {n k : Nat} {q : Program} {loose : List Str} {XP : (Str -> Option Value) -> Heap -> Prop} {YP : World -> Heap -> Prop} {d : DefRec} {K : Params -> PySem.W.Frag} {CX : World -> Wf} {sp : World -> Sp} {x : Str}
  (hn:l.most = some n) (hn2:n <= sizeLine) (hdf:d.params.defaults = []) (hr:E9 k callerA)
  (hY:∀ (w:World) (h:Heap),YP w h -> (K w.params).In h)
  (F:∀ (w:World) (mg:Str -> Option Value) (fa:Addr) (h:Heap),(K w.params).In h -> h.Ns mainGlobals mg -> mg d.name = some (.ref fa) ->
   ∃ fd:FuncData,(∀ (s:Shared) (u:Value),BindsTo s fd ⟨[u],[]⟩ [(x,u)]) /\
    ∀ base:Heap,(K w.params).In base -> base.Ns mainGlobals mg -> Al l.prog w (K w.params) mg base (CX w) k fa fd [x] (sp w))
  (hsp:∀ (w:World) (H:Hp) (a:Addr) (ns:List Int),ns.length <= n -> (∀ z ∈ ns,intBits z <= 2 ^ 20) -> di H -> B9 (K w.params) H a (ns.map V.int) -> sp w [.ref a] H (fun v _=>v = .bl true) fun _ _ _=>False)
  (hCX:∀ (w:World) (H:Hp) (s:Shared) (e:Value) (s':Shared),CX w [] H s (fun _ _ _=>False) e s' -> False) :
  PySem.W.WalkO q loose XP YP l.row.toRowW d [] (fun f vs=>PySem.call f vs):=by
 intro w s₀ s₁ mg mb G Y fa o pm cd doc dV kV ho hd hcd hD hmg hg args vals as hpre hlay hrd hwl hlo
 obtain rfl:dV = .none:=PySem.W.Dflts.none hD hdf
 obtain rfl:kV = .none:=PySem.W.Dflts.noKw hD
 obtain ⟨a,vs,ns,rfl,rfl,hobj,hints,hlen⟩ := Att.script_of hn hpre hwl
 have big:∀ z ∈ ns,intBits z <= 2 ^ 20:=fun z hz=>by
  have l1:=(PySem.W.layW_cons hlay).1
  have l2:=PySem.W.layableW_item l1 (.int z) (List.mem_map.mpr ⟨z,hz,rfl⟩)
  have l3:=(PySem.W.layableW_iff.mp l2).2.2
  simpa only [PySem.W.WData.weight,Builtin.Int.intBits] using l3
 have KX:=hY w _ Y
 obtain ⟨fd,hb,hF⟩ := F w mg fa _ KX G.T.g hmg
 refine PySem.W.enter_call (codeAny_mono (Xj KX G.T.g G.T.b G.T.builtins G.T.nolimit hg hobj hints (Nat.le_trans hlen hn2) hr hF hb (fun H hO hS=>hsp w H a ns hlen big hO hS) fun H e s'=>hCX w H s₁ e s') fun r s' hq=>?_)
 obtain ⟨rfl,h2,h3,h4⟩ := hq
 exact ⟨.inl ⟨.bool true,.bool true,[],rfl,fun _=>rfl,.bool true,Att.post_true l _,fun _=>⟨List.Pairwise.nil,fun _ hm=>(nomatch hm)⟩⟩,h2,h3,h4⟩
section
variable {X:Cx} {tg:Expr}
def o0 (K:PySem.W.Frag):R2:=fun x y H Q=>∃ p xs i v,x = .ref p /\ y = .int i /\ (B9 K H p xs \/ Br K H p xs) /\ Oz xs i = some v /\ Q v H
theorem Bb (K:PySem.W.Frag) (hK:X.K = K:=by rfl):lf X (o0 K):=by
 subst hK
 intro value slice pins s σ H x y v u Q I rx ry h hs
 obtain ⟨p,xs,i,z,e1,e2,h | h,ea,q⟩ := h
 ·exact Yw value slice pins s σ H x y v u Q I rx ry ⟨p,xs,i,z,e1,e2,h,ea,q⟩ hs
 ·exact bq value slice pins s σ H x y v u Q I rx ry ⟨p,xs,i,z,e1,e2,h,ea,q⟩ hs
def mm (K:PySem.W.Frag):List V -> Hp -> VK -> Prop:=fun xs H Q=>∃ p ys,xs = [.ref p] /\ (B9 K H p ys \/ Br K H p ys) /\ Q (.int ys.length) H
theorem Be (K:PySem.W.Frag) (hK:X.K = K:=by rfl):Es X (.builtin "len") (mm K):=by
 subst hK
 exact Oc
theorem Vi (K:PySem.W.Frag) (hK:X.K = K:=by rfl):Es X (.builtin "isinstance") (jh K):=by
 subst hK
 exact Wn
theorem Yj (K:PySem.W.Frag) (hK:X.K = K:=by rfl):Hn X (compareOp .In) (lq K false):=by
 subst hK
 exact Wc
theorem Ux (K:PySem.W.Frag) (hK:X.K = K:=by rfl):Hn X (compareOp .NotIn) (lq K true):=by
 subst hK
 exact Oe
theorem Cm (K:PySem.W.Frag) (hK:X.K = K:=by rfl):jx X (jd K):=by
 subst hK
 exact Zz
theorem D3 (K : PySem.W.Frag) {es : List Expr} {kk : Nat} {t : Zk} {n : Nat} {pos : Pos} (hc : X.calm = true) (h : ii X es t) (hK : X.K = K := by rfl)
  (hn:(assignEach es X.env).length = n:=by rfl) (hst:(assignEach es X.env).findIdx? (·.1) = none:=by rfl):PG X (.Tuple es kk pos) (Z0 K n t):=by
 subst hK
 exact bj hc h hn hst
def K7 (K:PySem.W.Frag) (tl:TE):TI:=fun σ H R=>tl σ H fun x H1=>∃ a,x = .ref a /\ (((∃ xs,B9 K H1 a xs) /\ R (bd K a) H1) \/ ((∃ xs,Br K H1 a xs) /\ R (i5 K a) H1))
theorem D5 {l:Expr} {tl:TE} (hl:PE X l tl):PI X tg l (K7 X.K tl):=by
 intro pins s σ H R I h
 refine Cf (hl pins s σ H _ I h) fun v s1 hz0=>?_
 obtain ⟨x,H1,I1,r1,q1⟩ := hz0
 obtain ⟨a,e,q1⟩ := q1
 subst e
 cases r1
 rcases q1 with ⟨⟨xs,hq⟩,q⟩ | ⟨⟨xs,hq⟩,q⟩
 ·obtain ⟨its,rv,p,hz⟩ := I1.list hq
  refine wpAny_pyIter_list p.isList ?_
  refine ⟨s1.heap.objs.size,[s1.heap.objs.size],_,_,H1,rfl,I1.kept (t':=s1.toks) fun b o e=>Heap.get?_push_of_some _ e,Va a _,⟨_,Heap.get?_push_size _ rfl,rfl,rfl⟩,fun b hb=>?_,q⟩
  have e:b = s1.heap.objs.size:=by simpa using hb
  subst e
  exact I1.fpOk (Nat.le_refl _) (I1.hok.fresh (Nat.le_refl _))
 ·obtain ⟨its,rv,p,hz⟩ := I1.tuple hq
  refine wpAny_pyIter_tuple (show s1.heap.IsTuple a its.toArray from p) ?_
  refine ⟨s1.heap.objs.size,[s1.heap.objs.size],_,_,H1,rfl,I1.kept (t':=s1.toks) fun b o e=>Heap.get?_push_of_some _ e,S8 a _,⟨_,Heap.get?_push_size _ rfl,rfl,rfl⟩,fun b hb=>?_,q⟩
  have e:b = s1.heap.objs.size:=by simpa using hb
  subst e
  exact I1.fpOk (Nat.le_refl _) (I1.hok.fresh (Nat.le_refl _))
end
theorem Fp {fr : List Nat} {te : TE} {σ : St} {D : Addr} {H1 : Hp} {Q : Hp -> Prop} {lo : Int} {cnt : Nat} (Pv : Nat -> List V -> Hp -> Prop) (h0 : Pv 0 [] (upd H1 D (.lst [])))
  (hs:∀ i ys H,i < cnt -> Pv i ys H -> ∀ Qe:VK,(∀ y H5,H5 D = some (.lst ys) -> ys.length < sizeLine -> Pv (i + 1) (ys ++ [y]) (upd H5 D (.lst (ys ++ [y]))) -> Qe y H5) -> te (some (.int (lo + i)) :: D6 fr σ) H Qe)
  (hd:∀ ys H,Pv cnt ys H -> Q H):Dw 1 fr (aj lo cnt) (Ft 0) Kj te σ D H1 Q:=by
 refine ⟨fun i m ys H=>m = cnt - i /\ i <= cnt /\ Pv i ys H,⟨cnt,by simp,Nat.zero_le _,h0⟩,?_⟩
 rintro i m ys H' ⟨rfl,hi,p⟩
 by_cases hlt:i < cnt
 ·refine .inr ⟨hlt,fun x H2 y=>?_⟩
  obtain ⟨e,y⟩ := y
  subst e y
  refine ⟨⟨[some (.int (lo + i))],rfl,rfl⟩,?_⟩
  simp only [Kj,↓reduceIte]
  exact hs i ys _ hlt p _ fun y H5 hD hz pv=>⟨hD,hz,cnt - (i + 1),by omega,rfl,hlt,pv⟩
 ·have e:i = cnt:=by omega
  subst e
  exact .inl ⟨Nat.le_refl _,hd ys H' p⟩
theorem Jj {K : PySem.W.Frag} {a : Addr} {xs : List V} {fr : List Nat} {te : TE} {σ : St} {D : Addr} {H1 : Hp} {Q : Hp -> Prop} (Pv : Nat -> List V -> Hp -> Prop) (h0 : Pv 0 [] (upd H1 D (.lst [])))
  (hl:∀ i ys H,i <= xs.length -> Pv i ys H -> B9 K H a xs)
  (hs:∀ i x ys H,xs[i]? = some x -> Pv i ys H -> ∀ Qe:VK,(∀ y H5,H5 D = some (.lst ys) -> ys.length < sizeLine -> Pv (i + 1) (ys ++ [y]) (upd H5 D (.lst (ys ++ [y]))) -> Qe y H5) -> te (some x :: D6 fr σ) H Qe)
  (hd:∀ ys H,Pv xs.length ys H -> Q H):Dw 1 fr (bd K a) (Ft 0) Kj te σ D H1 Q:=by
 refine ⟨fun i m ys H=>m = xs.length - i /\ i <= xs.length /\ Pv i ys H,⟨xs.length,by simp,Nat.zero_le _,h0⟩,?_⟩
 rintro i m ys H' ⟨rfl,hi,p⟩
 have q:=hl i ys H' hi p
 by_cases hlt:i < xs.length
 ·refine .inr ⟨⟨xs,xs[i],q,by simp [hlt]⟩,fun x H2 y=>?_⟩
  obtain ⟨e,y⟩ := y
  subst e
  refine ⟨⟨[some x],rfl,rfl⟩,?_⟩
  simp only [Kj,↓reduceIte]
  exact hs i x ys _ (y xs q) p _ fun y H5 hD hz pv=>⟨hD,hz,xs.length - (i + 1),by omega,rfl,hlt,pv⟩
 ·have e:i = xs.length:=by omega
  subst e
  exact .inl ⟨⟨xs,q,Nat.le_refl _⟩,hd ys H' p⟩
theorem Y4 {K : PySem.W.Frag} {a : Addr} {xs : List V} {fr : List Nat} {te : TE} {σ : St} {D : Addr} {H1 : Hp} {Q : Hp -> Prop} (Pv : Nat -> List V -> Hp -> Prop) (h0 : Pv 0 [] (upd H1 D (.lst [])))
  (hl:∀ i ys H,i <= xs.length -> Pv i ys H -> Br K H a xs)
  (hs:∀ i x ys H,xs[i]? = some x -> Pv i ys H -> ∀ Qe:VK,(∀ y H5,H5 D = some (.lst ys) -> ys.length < sizeLine -> Pv (i + 1) (ys ++ [y]) (upd H5 D (.lst (ys ++ [y]))) -> Qe y H5) -> te (some x :: D6 fr σ) H Qe)
  (hd:∀ ys H,Pv xs.length ys H -> Q H):Dw 1 fr (i5 K a) (Ft 0) Kj te σ D H1 Q:=by
 refine ⟨fun i m ys H=>m = xs.length - i /\ i <= xs.length /\ Pv i ys H,⟨xs.length,by simp,Nat.zero_le _,h0⟩,?_⟩
 rintro i m ys H' ⟨rfl,hi,p⟩
 have q:=hl i ys H' hi p
 by_cases hlt:i < xs.length
 ·refine .inr ⟨⟨xs,xs[i],q,by simp [hlt]⟩,fun x H2 y=>?_⟩
  obtain ⟨e,y⟩ := y
  subst e
  refine ⟨⟨[some x],rfl,rfl⟩,?_⟩
  simp only [Kj,↓reduceIte]
  exact hs i x ys _ (y xs q) p _ fun y H5 hD hz pv=>⟨hD,hz,xs.length - (i + 1),by omega,rfl,hlt,pv⟩
 ·have e:i = xs.length:=by omega
  subst e
  exact .inl ⟨⟨xs,q,Nat.le_refl _⟩,hd ys H' p⟩
def E2 (ns:List Int) (k:Int):Int:=(ns[k.toNat]?).getD 0
theorem Zp {ns:List Int} {k:Int} (h0:0 <= k) (h:k < ns.length):Oz (ns.map V.int) k = some (.int (E2 ns k)):=by
 obtain ⟨j,rfl⟩ : ∃ j:Nat,k = j:=⟨k.toNat,by omega⟩
 have hj:j < ns.length:=by omega
 refine P3 ?_
 unfold E2
 rw [List.getElem?_map,Int.toNat_natCast,List.getElem?_eq_getElem hj]
 rfl
theorem Vq {ns:List Int} {k:Int} (h0:0 <= k) (h:¬ k < ns.length):E2 ns k = 0:=by
 unfold E2
 rw [List.getElem?_eq_none (by omega)]
 rfl
theorem Br.same {K:PySem.W.Frag} {H H':Hp} {a:Addr} {xs:List V} (e:A7 H H') (h:Br K H a xs):Br K H' a xs:=by
 rcases h with (h | ⟨o,h⟩) | h
 ·exact .inl (.inl (e _ _ h))
 ·exact .inl (.inr ⟨o,e _ _ h⟩)
 ·exact .inr h
theorem Qd {c:Bool} {A B:Prop} (hc:c = true) (h:A):if c = true then A else B:=by rw [if_pos hc]; exact h
theorem Fs {c:Bool} {A B:Prop} (hc:c = false) (h:B):if c = true then A else B:=by rw [if_neg (by rw [hc]; exact Bool.false_ne_true)]; exact h
theorem B0 {xs:List V} (h:xs.length <= 1000:=by simp):xs.length <= sizeLine:=Nat.le_of_lt (Bd h)
theorem Ot {n:Nat} (h:n <= 1000):n <= sizeLine:=Nat.le_of_lt (Bd h)
def dT (ws:List Int):PyData := .tuple (ws.map PyData.int)
def dL (ws:List Int):PyData := .list (ws.map PyData.int)
def dP (d e:PyData):PyData := .tuple [d,e]
def dO:Option Int -> PyData
 | none=>.none
 | some i=>.int i
def vO:Option Int -> V
 | none=>.non
 | some i=>.int i
theorem Ll {H:Hp} (i:Int):Rp H (.int i) (.int i):=by unfold Rp; rfl
theorem X0 {H:Hp}:Rp H .none .non:=by unfold Rp; rfl
theorem l6 {H:Hp} (b:Bool):Rp H (.bool b) (.bl b):=by unfold Rp; rfl
theorem am {H:Hp} {t:Addr} {ws:List Int} (h:H t = some (.tup (ws.map V.int))):Rp H (dT ws) (.ref t):=by
 unfold dT Rp
 exact ⟨t,_,rfl,h,U4 ws⟩
theorem Xt {H:Hp} {p:Addr} {d e:PyData} {x y:V} (h:H p = some (.tup [x,y])) (hd:Rp H d x) (he:Rp H e y):Rp H (dP d e) (.ref p):=by
 unfold dP Rp
 refine ⟨p,_,rfl,h,?_⟩
 unfold RpAll
 refine ⟨x,_,rfl,hd,?_⟩
 unfold RpAll
 refine ⟨y,_,rfl,he,?_⟩
 unfold RpAll
 rfl
theorem Hc:∀ ws:List Int,PyData.depthAll (ws.map PyData.int) = 0
 | []=>rfl
 | w :: ws=>by
  show max (PyData.depth (.int w)) (PyData.depthAll (ws.map PyData.int)) = 0
  rw [Hc ws]
  rfl
theorem Wi (ws:List Int):(dT ws).depth = 1:=by
 show PyData.depthAll (ws.map PyData.int) + 1 = 1
 rw [Hc]
theorem Q7 (d e:PyData):(dP d e).depth = max d.depth e.depth + 1:=by
 show max d.depth (max e.depth 0) + 1 = _
 rw [Nat.max_zero]
theorem Eo:∀ xs ys:List Int,PyData.eqvAll (xs.map PyData.int) (ys.map PyData.int) = decide (xs = ys)
 | [],[]=>rfl
 | x :: xs,y :: ys=>by
  show (PyData.eqv (.int x) (.int y) && PyData.eqvAll (xs.map PyData.int) (ys.map PyData.int)) = _
  rw [Eo xs ys]
  show ((x == y) && decide (xs = ys)) = _
  by_cases h1:x = y <;> by_cases h2:xs = ys <;> simp [h1,h2]
 | [],_ :: _=>rfl
 | _ :: _,[]=>rfl
theorem Xo (xs ys:List Int):PyData.eqv (dT xs) (dT ys) = decide (xs = ys):=Eo xs ys
section
variable {X:Cx} {pins:List (Addr × Obj)} {σ:St} {H:Hp} {s:Shared} {h':Heap}
theorem Am.turnLaid {ch : List Addr} {T : Addr} {o : HO} {t' : Nat} (I : Am X pins σ H s) (hch : ∀ b ∈ ch, La X pins H b) (k : ∀ b ob, b ∉ ch -> s.heap.get? b = some ob -> h'.get? b = some ob)
  (hT:s.heap.objs.size <= T) (new:Bw X.prog X.w (upd H T o) h' T o):Am X pins σ (upd H T o) { s with heap:=h',toks:=t' }:=by
 have hn:H T = none:=I.hok.fresh hT
 have off:∀ b u,H b = some u -> b ∉ ch:=fun b u e hb=>by
  have z:=(hch b hb).1
  rw [e] at z
  cases z
 refine I.call (g':=s.gens) (d':=s.drawn) (t':=t') (ch:=ch) ⟨fun b ob e _ _ hc=>k b ob hc e,fun b ob e _ _ hc=>⟨ob.slots,k b ob hc e⟩,fun b ob e n hc=>?_,fun b ob e hc=>⟨ob,k b ob hc e⟩,fun b xs e=>?_,fun b ob u e=>?_,fun b ps e=>⟨#[],?_⟩⟩ (fun b u e=>?_) I.bare
  (fun b hb=>⟨(hch b hb).2.2.2.1,(hch b hb).2.1,(hch b hb).2.2.2.2.1,(hch b hb).2.2.2.2.2⟩)
 ·rw [Ac (Nat.ne_of_lt (Nat.lt_of_lt_of_le (Heap.lt_size e) hT))]
  exact n
 ·rw [Ac (An e hn)]
  exact e
 ·rw [Ac (An e hn)]
  exact e
 ·rw [Ac (An e hn),e]
  simp
 ·by_cases hb:b = T
  ·subst hb
   rw [A5] at e
   cases e
   exact new
  ·rw [Ac hb] at e
   refine (I.hok b u e).stay (fun c v hc q=>k c v ?_ q) (fun c q=>?_) fun c xs q=>?_
   ·rcases hc with rfl | hc
    ·exact off _ _ e
    ·exact off _ _ hc
   ·rw [Ac (An q hn)]
    exact q
   ·rw [Ac (An q hn)]
    exact q
theorem Am.turnMany {ch:List Addr} {t':Nat} (I:Am X pins σ H s) (hch:∀ b ∈ ch,La X pins H b) (k:∀ b ob,b ∉ ch -> s.heap.get? b = some ob -> h'.get? b = some ob):Am X pins σ H { s with heap:=h',toks:=t' }:=by
 have off:∀ b u,H b = some u -> b ∉ ch:=fun b u e hb=>by
  have z:=(hch b hb).1
  rw [e] at z
  cases z
 refine I.call (g':=s.gens) (d':=s.drawn) (t':=t') (ch:=ch) ⟨fun b ob e _ _ hc=>k b ob hc e,fun b ob e _ _ hc=>⟨ob.slots,k b ob hc e⟩,fun b ob e n hc=>n,fun b ob e hc=>⟨ob,k b ob hc e⟩,fun b xs e=>e,fun b ob u e=>e,fun b ps e=>⟨#[],by rw [e]; simp⟩⟩ (fun b u e=>?_) I.bare
  (fun b hb=>⟨(hch b hb).2.2.2.1,(hch b hb).2.1,(hch b hb).2.2.2.2.1,(hch b hb).2.2.2.2.2⟩)
 refine (I.hok b u e).stay (fun c v hc q=>k c v ?_ q) (fun c q=>q) fun c xs q=>q
 rcases hc with rfl | hc
 ·exact off _ _ e
 ·exact off _ _ hc
end
def rn (K:PySem.W.Frag) (l1 l2:Addr):It :=
 ⟨fun i H=>∃ xs ys x y,B9 K H l1 xs /\ B9 K H l2 ys /\ xs[i]? = some x /\ ys[i]? = some y,
  fun i H v H'=>∃ T x y,v = .ref T /\ H T = none /\ H' = upd H T (.tup [x,y]) /\ (∀ xs,B9 K H l1 xs -> xs[i]? = some x) /\ ∀ ys,B9 K H l2 ys -> ys[i]? = some y,
  fun i H=>∃ xs ys,B9 K H l1 xs /\ B9 K H l2 ys /\ (xs.length <= i \/ ys.length <= i)⟩
section
variable {X:Cx}
def rf (K:PySem.W.Frag) (ta:TA):TI:=fun σ H R=>ta σ H fun vs H1=>∃ a b,vs = [.ref a,.ref b] /\ (∃ xs,B9 K H1 a xs) /\ (∃ ys,B9 K H1 b ys) /\ R (rn K a b) H1
end
def qw (K:PySem.W.Frag) (l:Addr):It :=
 ⟨fun i H=>∃ xs x,B9 K H l xs /\ xs[i]? = some x,
  fun i H v H'=>∃ T x,v = .ref T /\ H T = none /\ H' = upd H T (.tup [.int i,x]) /\ ∀ xs,B9 K H l xs -> xs[i]? = some x,
  fun i H=>∃ xs,B9 K H l xs /\ xs.length <= i⟩
section
variable {X:Cx}
def pf (K:PySem.W.Frag) (ta:TA):TI:=fun σ H R=>ta σ H fun vs H1=>∃ a,vs = [.ref a] /\ (∃ xs,B9 K H1 a xs) /\ R (qw K a) H1
end
section
variable {X:Cx}
end
section
variable {X:Cx}
def lz (K:PySem.W.Frag):V -> List V -> Hp -> VK -> Prop:=fun x vs H Q=>∃ (l:Addr) (ns:List Int) (y:Int) (j:Nat),x = .ref l /\ vs = [.int y] /\ B9 K H l (ns.map V.int) /\ ns[j]? = some y /\ (∀ m,m < j -> ns[m]? ≠ some y) /\ Q (.int (j:Nat)) H
end
structure Z4 (K:PySem.W.Frag) (x qual:Str) (st:Stmt) (f:Addr) (fd:FuncData):Prop where
 ex:∃ (oc:Value) (od:Option Addr) (dV kV doc pm:Value) (an:Option Addr) (cdv ct:Value) (osl:Array (Option Value)),
  fd = PySem.W.fnOf x qual (As st) (Ap st) (Aa st) dV kV doc pm an cdv ct /\ K.lookup f = some ⟨oc,od,.func fd,osl⟩ /\ PySem.W.codeIn K cdv qual = true
section
variable {P:Program} {w:World} {K:PySem.W.Frag} {mg:Str -> Option Value} {base:Heap}
theorem Z4.ok {x qual : Str} {st : Stmt} {f : Addr} {fd : FuncData} {N ps : List Str} {k : Nat} {sp : Sp} (F : Z4 K x qual st f fd) (S : Av N ps (Aa st)) (len : ∀ vs H Q E, sp vs H Q E -> vs.length = ps.length)
  (hbody:∀ (cdv:Value) (A:Around) (outer:List Env) (s:Shared) (H:Hp) (vs:List V) (Q:VK) (E:XK),E9 k (A.deeper (envOfC qual (Aa st) s.heap.objs.size f cdv)) -> sp vs H Q E ->
   ∃ t,Rk (S9 Bv P w K mg base N qual (Aa st) f cdv A outer s H E).nox (Ap st) t /\ t { nx:=fun _ H'=>Q .non H',rt:=Q } (start N vs) H):Al P w K mg base Bv (k + 1) f fd ps sp:=by
 obtain ⟨oc,od,dV,kV,doc,pm,an,cdv,ct,osl,rfl,lk,hcd⟩ := F.ex
 refine ar lk hcd S len fun A outer s H vs Q E hr hsp=>?_
 obtain ⟨t,h,q⟩ := hbody cdv A outer s H vs Q E hr hsp
 exact ⟨t,h.nox,q⟩
end
section
variable {X:Cx} {a b c:Expr} {rest:List Expr} {ta tb:TE} {tA tB':TT} {t u:TS} {pos:Pos}
def j0 (ta tb:TE):TE:=fun σ H Q=>ta σ H fun x H1=>∃ c d:Bool,x = .bl c /\ (c = true -> ∀ Q':VK,Q' (.bl d) H1 -> tb σ H1 Q') /\ Q (.bl (c && d)) H1
def qz (ta tb:TE):TE:=fun σ H Q=>ta σ H fun x H1=>∃ c d:Bool,x = .bl c /\ (c = false -> ∀ Q':VK,Q' (.bl d) H1 -> tb σ H1 Q') /\ Q (.bl (c || d)) H1
theorem U7 (ha:PE X a ta) (hb:PE X (.BoolOp .And (b :: rest) pos) tb):PE X (.BoolOp .And (a :: b :: rest) pos) (j0 ta tb):=by
 intro pins s σ H Q I h
 refine BoolOp_and (Cf (ha pins s σ H _ I h) fun v s1 hz0=>?_)
 obtain ⟨x,H1,I1,r1,q1⟩ := hz0
 obtain ⟨c,d,rfl,q0,q1⟩ := q1
 cases r1
 refine wpAny_truthy_bool ?_
 cases c with
 | true=>exact hb pins s1 σ H1 Q I1 (q0 rfl Q q1)
 | false=>exact ⟨.bl false,H1,I1,rfl,q1⟩
def jq (t u:TT):TT:=fun σ H Q=>t σ H fun c H1=>∃ d:Bool,(c = true -> ∀ Q':Bool -> Hp -> Prop,Q' d H1 -> u σ H1 Q') /\ Q (c && d) H1
def nk (t u:TT):TT:=fun σ H Q=>t σ H fun c H1=>∃ d:Bool,(c = false -> ∀ Q':Bool -> Hp -> Prop,Q' d H1 -> u σ H1 Q') /\ Q (c || d) H1
theorem P5 (ha:PT X a tA) (hb:PW X (.BoolOp .And (b :: rest) pos) tB'):PW X (.BoolOp .And (a :: b :: rest) pos) (jq tA tB'):=by
 intro wh pins s σ H Q I h
 refine isTrue_and (Cf (ha pins s σ H _ I h) fun c s1 hz0=>?_)
 obtain ⟨H1,I1,d,q0,q1⟩ := hz0
 cases c with
 | true=>exact hb wh pins s1 σ H1 Q I1 (q0 rfl Q q1)
 | false=>exact ⟨H1,I1,q1⟩
theorem bn (ha:PT X a tA) (hb:PW X (.BoolOp .Or (b :: rest) pos) tB'):PW X (.BoolOp .Or (a :: b :: rest) pos) (nk tA tB'):=by
 intro wh pins s σ H Q I h
 refine isTrue_or (Cf (ha pins s σ H _ I h) fun c s1 hz0=>?_)
 obtain ⟨H1,I1,d,q0,q1⟩ := hz0
 cases c with
 | true=>exact ⟨H1,I1,q1⟩
 | false=>exact hb wh pins s1 σ H1 Q I1 (q0 rfl Q q1)
theorem SP.mono {pins:List (Addr × Obj)} {D D':Gz} {f:Flow} {s':Shared} (h:SP X pins D f s') (hn:∀ σ H,D.nx σ H -> D'.nx σ H) (hr:∀ v H,D.rt v H -> D'.rt v H) (hb:∀ σ H,D.bk σ H -> D'.bk σ H) (hc:∀ σ H,D.ct σ H -> D'.ct σ H):SP X pins D' f s':=by
 cases f with
 | next=>obtain ⟨σ',H',I,q⟩ := h; exact ⟨σ',H',I,hn _ _ q⟩
 | brk=>obtain ⟨σ',H',I,q⟩ := h; exact ⟨σ',H',I,hb _ _ q⟩
 | cont=>obtain ⟨σ',H',I,q⟩ := h; exact ⟨σ',H',I,hc _ _ q⟩
 | ret v=>obtain ⟨x,σ',H',I,r,q⟩ := h; exact ⟨x,σ',H',I,r,hr _ _ q⟩
def mi (c:TT) (t u:TS):TS:=fun D σ H=>c σ H fun b H1=>∃ N:St -> Hp -> Prop,(b = true -> t { D with nx:=N } σ H1) /\ (b = false -> u { D with nx:=N } σ H1) /\ ∀ σ' H',N σ' H' -> D.nx σ' H'
theorem Ex {c:Expr} {a b:List Stmt} {tc:TT} (hc:PT X c tc) (ha:Rk X a t) (hb:Rk X b u):PS X (.If c a b pos) (mi tc t u):=by
 intro pins s σ H D I h
 refine wpAny_If (Cf (hc pins s σ H _ I h) fun d s1 hz0=>?_)
 obtain ⟨H1,I1,N,q1,q2,q3⟩ := hz0
 cases d with
 | true=>exact Cf (ha pins s1 σ H1 _ I1 (q1 rfl)) fun f s2 q=>q.mono q3 (fun _ _ z=>z) (fun _ _ z=>z) fun _ _ z=>z
 | false=>exact Cf (hb pins s1 σ H1 _ I1 (q2 rfl)) fun f s2 q=>q.mono q3 (fun _ _ z=>z) (fun _ _ z=>z) fun _ _ z=>z
end
section
variable {P:Program} {w:World} {A:Around} {E:Value -> Shared -> Prop} {s:Shared}
theorem Rt {I T : Addr} {k : Nat} {vs : Array Value} {v : Value} {Q : Value -> Shared -> Prop} (hI : s.heap.IsTupleIter I T k) (hT : s.heap.IsTuple T vs) (hv : vs[k]? = some v)
  (q:∀ h',h'.IsTupleIter I T (k + 1) -> Heap.SameBut I s.heap h' -> Q v { s with heap:=h' }):wpAny (model P w) A (Builtin.SmallTypes.nextOf (.ref I)) Q E s:=by
 obtain ⟨oI,eI,cI,dI⟩ := id hI
 obtain ⟨oT,eT,_,nT,dT'⟩ := hT
 unfold Builtin.SmallTypes.nextOf
 refine wpAny_bind (wpAny_callSpecial?_slot (name:=Str.ofString "__next__") hI.typeIs F.slot_tuple_iterator_next (wpAny_call_entry F.slot_tuple_iterator_next hI.typeIs F.entry_tuple_iterator_next ?_ (F.args_tuple_iterator_next_1 _)))
 show wpAny _ _ (field (.ref I) 0 >>= _) _ _ s
 refine wpAny_bind (wpAny_field eI dI (x := .ref T) rfl ?_)
 show wpAny _ _ (if (Value.ref T == Value.none) = true then _ else _) _ _ s
 rw [if_neg (show ¬ ((Value.ref T == Value.none) = true) from Bool.false_ne_true)]
 show wpAny _ _ (field (.ref I) 1 >>= _) _ _ s
 refine wpAny_bind (wpAny_field eI dI (x := .int k 0) rfl ?_)
 show wpAny _ _ (seqItems? (.ref T) >>= _) _ _ s
 refine wpAny_bind (wpAny_seqItems eT dT' ?_)
 simp only [Int.toNat_natCast,hv]
 refine wpAny_bind (wpAny_setField eI dI (by simp) (wpAny_pure ⟨v,rfl,wpAny_pure (q _ ⟨_,Heap.get?_update_self _ eI (Obj.isFreed_of_fields (Obj.data_mapFields dI _)),(Obj.cls_mapFields ..).trans cI,?_⟩ (Heap.SameBut.update ..))⟩))
 rw [Obj.data_mapFields dI]
 simp [rawInt]
theorem Vo {I T : Addr} {k : Nat} {vs : Array Value} {Q : Value -> Shared -> Prop} (no : A.handled = none) (hI : s.heap.IsTupleIter I T k) (hT : s.heap.IsTuple T vs) (hv : vs[k]? = none)
  (q:∀ h' e,Heap.ExtBut I s.heap h' -> (∃ o,h'.get? e = some o /\ o.cls = .type "StopIteration") -> E (.ref e) { s with heap:=h' }):wpAny (model P w) A (Builtin.SmallTypes.nextOf (.ref I)) Q E s:=by
 obtain ⟨oI,eI,cI,dI⟩ := id hI
 obtain ⟨oT,eT,_,nT,dT'⟩ := hT
 unfold Builtin.SmallTypes.nextOf
 refine wpAny_bind (wpAny_callSpecial?_slot (name:=Str.ofString "__next__") hI.typeIs F.slot_tuple_iterator_next (wpAny_call_entry F.slot_tuple_iterator_next hI.typeIs F.entry_tuple_iterator_next ?_ (F.args_tuple_iterator_next_1 _)))
 show wpAny _ _ (field (.ref I) 0 >>= _) _ _ s
 refine wpAny_bind (wpAny_field eI dI (x := .ref T) rfl ?_)
 show wpAny _ _ (if (Value.ref T == Value.none) = true then _ else _) _ _ s
 rw [if_neg (show ¬ ((Value.ref T == Value.none) = true) from Bool.false_ne_true)]
 show wpAny _ _ (field (.ref I) 1 >>= _) _ _ s
 refine wpAny_bind (wpAny_field eI dI (x := .int k 0) rfl ?_)
 show wpAny _ _ (seqItems? (.ref T) >>= _) _ _ s
 refine wpAny_bind (wpAny_seqItems eT dT' ?_)
 simp only [Int.toNat_natCast,hv]
 refine wpAny_bind (wpAny_rule (wpAny_bind (wpAny_setField eI dI (by simp) ?_)))
 show wpAny _ _ (newExc (.type "StopIteration") [] >>= fun _=>_) _ _ _
 refine wpAny_bind ?_
 simp only [newExc,newTuple]
 refine wpAny_bind (wpAny_newObj_type (wpAny_bind (m:=firstArgMember _ _) (wpAny_of_eq (a:=Value.none) (by first | rfl | (simp only [firstArgMember]; rfl)) (wpAny_newObj_type ?_ (by size_fits)))) (by size_fits))
 simp only [raiseNew]
 refine wpAny_bind (wpAny_handled ?_)
 first | rw [show A.in1.handled = none from no] | rw [no]
 refine wpAny_bind (wpAny_pure (wpAny_throw (q _ _ (((Heap.SameBut.update ..).extBut.push _).push _) ⟨_,Heap.get?_push_size _ rfl,rfl⟩)))
end
theorem ck {P:Program} {w:World} {A:Around} (no:A.handled = none) (I T:Addr) (ne:T ≠ I) (vs:Array Value):Draws P w A I [I,T] vs.size (fun i v=>vs[i]? = some v) (fun i h=>h.IsTupleIter I T i /\ h.IsTuple T vs) where
 live:=fun _ _ st=>let ⟨o,e,_⟩ := st.1; ⟨o,e⟩
 frame:=fun _ _ _ st k=>⟨st.1.at fun o e=>k I (by simp) o e,let ⟨o,e,r⟩ := st.2; ⟨o,k T (by simp) o e,r⟩⟩
 item:=fun i s Q E hi st q=>Rt st.1 st.2 (v:=vs[i]) (by simp [hi]) fun h' st' sb=>q _ h' s.toks (by simp [hi]) ⟨st',st.2.extBut sb.extBut ne⟩ sb
 done:=fun s Q E st q=>Vo no st.1 st.2 (by simp) q
def Ih:Bool -> Heap -> Addr -> Addr -> Nat -> Prop
 | true,h,I,T,i=>h.IsTupleIter I T i
 | false,h,I,T,i=>h.IsListIter I T i
def Qz:Bool -> Heap -> Addr -> Array Value -> Prop
 | true,h,T,vs=>h.IsTuple T vs
 | false,h,T,vs=>h.IsList T vs
def Yd:Bool -> String
 | true=>"tuple_iterator"
 | false=>"list_iterator"
def Sq:Bool -> PySem.W.Frag -> Hp -> Addr -> List V -> Prop
 | true,K,H,a,xs=>Br K H a xs
 | false,K,H,a,xs=>B9 K H a xs
theorem Ri {P:Program} {w:World} {A:Around} (no:A.handled = none) (b:Bool) (I T:Addr) (ne:T ≠ I) (vs:Array Value):Draws P w A I [I,T] vs.size (fun i v=>vs[i]? = some v) (fun i h=>Ih b h I T i /\ Qz b h T vs):=by
 cases b
 ·exact Draws.list no I T ne vs
 ·exact ck no I T ne vs
theorem Ih.data {b:Bool} {h:Heap} {I T:Addr} {i:Nat} (x:Ih b h I T i):∃ o,h.get? I = some o /\ o.cls = .type (Yd b) /\ o.data = .fields #[.ref T,.int i 0]:=by cases b <;> exact x
theorem Ih.of {b:Bool} {h:Heap} {I T:Addr} {i:Nat} (x:∃ o,h.get? I = some o /\ o.cls = .type (Yd b) /\ o.data = .fields #[.ref T,.int i 0]):Ih b h I T i:=by cases b <;> exact x
theorem Ih.at' {b:Bool} {h h':Heap} {I T:Addr} {i:Nat} (x:Ih b h I T i) (k:∀ o,h.get? I = some o -> h'.get? I = some o):Ih b h' I T i:=by
 obtain ⟨o,e,r⟩ := x.data
 exact .of ⟨o,k _ e,r⟩
theorem Qz.at' {b:Bool} {h h':Heap} {T:Addr} {vs:Array Value} (x:Qz b h T vs) (k:∀ o,h.get? T = some o -> h'.get? T = some o):Qz b h' T vs:=by
 cases b <;> exact let ⟨o,e,r⟩ := x; ⟨o,k _ e,r⟩
theorem Qz.lt {b:Bool} {h:Heap} {T:Addr} {vs:Array Value} (x:Qz b h T vs):T < h.objs.size:=by
 cases b <;> exact let ⟨_,e,_⟩ := x; Heap.lt_size e
theorem Ih.lt {b:Bool} {h:Heap} {I T:Addr} {i:Nat} (x:Ih b h I T i):I < h.objs.size:=by
 obtain ⟨_,e,_⟩ := x.data
 exact Heap.lt_size e
theorem Ih.ne {b c:Bool} {h:Heap} {I T:Addr} {i:Nat} {vs:Array Value} (x:Ih b h I T i) (y:Qz c h T vs):T ≠ I:=by
 rintro rfl
 obtain ⟨o,e,k,_⟩ := x.data
 cases c <;> (obtain ⟨o',e',k',_⟩ := y; rw [e] at e'; cases e'; rw [k] at k'; cases b <;> simp [Yd] at k')
section
variable {X:Cx} {pins:List (Addr × Obj)} {σ:St} {H:Hp} {s:Shared}
theorem Am.sq {b:Bool} {a:Addr} {xs:List V} (I:Am X pins σ H s) (q:Sq b X.K H a xs):∃ us,B7 xs us /\ Qz b s.heap a us.toArray:=by
 cases b
 ·obtain ⟨us,r,p,_⟩ := I.list q
  exact ⟨us,r,p.isList⟩
 ·obtain ⟨us,r,p,_⟩ := I.tuple q
  exact ⟨us,r,p⟩
theorem Am.sq_inj {b:Bool} {a:Addr} {xs ys:List V} (I:Am X pins σ H s) (q:Sq b X.K H a xs) (r:Sq b X.K H a ys):xs = ys:=by
 cases b
 ·exact I.list_inj q r
 ·exact I.tuple_inj q r
end
open AutoSeq1 (wpAny_loadPart')
structure so (z TI TO i1 i2 l1 l2:Nat):Prop where
 a:TI ≠ z
 b:TO ≠ z
 c:i1 ≠ z
 d:i2 ≠ z
 e:TI ≠ TO
 f:TI ≠ i1
 g:TI ≠ i2
 h:TO ≠ i1
 i:TO ≠ i2
 j:i1 ≠ i2
 k1:l1 ≠ z /\ l1 ≠ TO /\ l1 ≠ i1 /\ l1 ≠ i2
 k2:l2 ≠ z /\ l2 ≠ TO /\ l2 ≠ i1 /\ l2 ≠ i2
section
variable {P:Program} {w:World} {A:Around} {E:Value -> Shared -> Prop} {s:Shared}
abbrev i4 (b1:Bool) (h:Heap) (l1:Addr):Heap:=h.push { cls := .type (Yd b1),data := .fields #[.ref l1,.int 0 0] }
abbrev pd (b1 b2:Bool) (h:Heap) (l1 l2:Addr):Heap:=(i4 b1 h l1).push { cls := .type (Yd b2),data := .fields #[.ref l2,.int 0 0] }
abbrev qh (b1 b2:Bool) (h:Heap) (l1 l2:Addr):Heap:=(pd b1 b2 h l1 l2).push { cls := .type "tuple",data := .seq #[.ref h.objs.size,.ref (i4 b1 h l1).objs.size] }
abbrev se (b1 b2:Bool) (h:Heap) (l1 l2:Addr):Heap:=(qh b1 b2 h l1 l2).push { cls := .type "tuple",data := .seq #[.none,.none] }
abbrev sn (b1 b2:Bool) (h:Heap) (l1 l2:Addr):Heap:=(se b1 b2 h l1 l2).push { cls := .type "zip",data := .fields #[.none,.bool false,.bool false,.ref (pd b1 b2 h l1 l2).objs.size,.ref (qh b1 b2 h l1 l2).objs.size] }
end
open AutoSeq1 (wpAny_loadPart')
section
variable {P:Program} {w:World} {A:Around} {E:Value -> Shared -> Prop} {s:Shared}
end
def ms (K:PySem.W.Frag) (b1 b2:Bool) (l1 l2:Addr):It :=
 ⟨fun i H=>∃ xs ys x y,Sq b1 K H l1 xs /\ Sq b2 K H l2 ys /\ xs[i]? = some x /\ ys[i]? = some y,
  fun i H v H'=>∃ T x y,v = .ref T /\ H T = none /\ H' = upd H T (.tup [x,y]) /\ (∀ xs,Sq b1 K H l1 xs -> xs[i]? = some x) /\ ∀ ys,Sq b2 K H l2 ys -> ys[i]? = some y,
  fun i H=>∃ xs ys,Sq b1 K H l1 xs /\ Sq b2 K H l2 ys /\ (xs.length = i \/ (i < xs.length /\ ys.length = i))⟩
section
variable {X:Cx}
def px (K:PySem.W.Frag) (ta:TA):TI:=fun σ H R=>ta σ H fun vs H1=>∃ (b1 b2:Bool) (a b:Addr),vs = [.ref a,.ref b] /\ (∃ xs,Sq b1 K H1 a xs) /\ (∃ ys,Sq b2 K H1 b ys) /\ R (ms K b1 b2 a b) H1
end
def Vp (K:PySem.W.Frag) (b:Bool) (l:Addr):It :=
 ⟨fun i H=>∃ xs x,Sq b K H l xs /\ xs[i]? = some x,
  fun i H v H'=>∃ T x,v = .ref T /\ H T = none /\ H' = upd H T (.tup [.int i,x]) /\ ∀ xs,Sq b K H l xs -> xs[i]? = some x,
  fun i H=>∃ xs,Sq b K H l xs /\ xs.length = i⟩
theorem Sl {P : Program} {w : World} {K : PySem.W.Frag} {elts : List Expr} {kk : Nat} {pos : Pos} {b : Bool} {e it l : Addr} (hne : e ≠ it) (hel : e ≠ l) :
  Si P w K (.Tuple elts kk pos) (Vp K b l) [e,it] e (fun i h=>(∃ old,IsEnum h e it i old) /\ Ih b h it l i) where
 mem:=List.mem_cons_self
 obj:=fun i h ⟨⟨old,he⟩,h1⟩ c hc=>by
  obtain ⟨o1,e1,c1,d1⟩ := h1.data
  simp only [List.mem_cons,List.not_mem_nil,or_false] at hc
  rcases hc with rfl | rfl
  ·exact ⟨_,he,fun v q=>by cases q⟩
  ·exact ⟨_,e1,fun v q=>by rw [d1] at q; cases q⟩
 keep:=fun i h h' ⟨⟨old,he⟩,h1⟩ hk=>⟨⟨old,hk e (by simp) _ he⟩,h1.at' fun o q=>hk it (by simp) o q⟩
 item:=by
  intro X hP hw hK hc i pins s σ H E I hfp ⟨⟨old,he⟩,h1⟩ ⟨xs,x,q1,ex⟩
  subst hP hw hK
  obtain ⟨its1,r1,p1⟩ := I.sq q1
  obtain ⟨u1,eu1,ru1⟩ := r1.get ex
  have lt1:i < its1.toArray.size:=by
   have:=(List.getElem?_eq_some_iff.mp eu1).1
   simpa using this
  refine wpAny_pyNext_enum_itemD (Ri (A:=X.A.in1) (I.ok.hd hc) b it l (h1.ne p1) its1.toArray) he ⟨h1,p1⟩ lt1 hne (by simp [hne,hel]) fun u h' tk eu a1 a2 a3 a4 hk=>⟨_,rfl,?_⟩
  have e2:u = u1:=Option.some.inj (eu.symm.trans (by simpa using eu1))
  subst e2
  refine wpAny_letOwnedTupleGo_enum a1 fun h'' hz'' hs''=>?_
  have hzlt:e < s.heap.objs.size:=Heap.lt_size he
  have hTp:h''.get? s.heap.objs.size = some { cls := .type "tuple",data := .seq #[.int i tk,u] }:=hs''.extBut _ _ (Nat.ne_of_gt hzlt) a3
  refine ⟨.ref s.heap.objs.size,upd H s.heap.objs.size (.tup [.int i,x]),I.turnLaid (t':=tk + 1) (ch:=[e,it]) hfp (fun c o hc ec=>?_) (Nat.le_refl _) ?_,rfl,⟨_,x,rfl,I.fresh,rfl,fun xs' q=>?_⟩,⟨⟨u,?_⟩,?_⟩,fun c hc=>?_⟩
  ·simp only [List.mem_cons,List.not_mem_nil,or_false,not_or] at hc
   exact hs''.extBut _ _ hc.1 (hk c o hc.1 hc.2 ec)
  ·exact ⟨⟨Nat.le_trans (by decide:2 <= 1000) (Ot (Nat.le_refl _)),_,hTp,rfl⟩,[.int i tk,u],.cons ⟨_,rfl⟩ (.cons ru1 .nil),⟨_,hTp,rfl,0,rfl⟩⟩
  ·rw [I.sq_inj q q1]
   exact ex
  ·have z:=hz''
   rw [show ((i:Int) + 1) = ((i + 1:Nat):Int) by omega] at z
   exact z
  ·exact a2.1.at' fun o eo=>hs''.extBut _ _ (Ne.symm hne) eo
  ·rw [Ac]
   ·exact (hfp c hc).1
   ·simp only [List.mem_cons,List.not_mem_nil,or_false] at hc
    rcases hc with rfl | rfl
    ·exact Nat.ne_of_lt hzlt
    ·exact Nat.ne_of_lt h1.lt
 done:=by
  intro X hP hw hK hc i pins s σ H E I hfp ⟨⟨old,he⟩,h1⟩ ⟨xs,q1,hl⟩
  subst hP hw hK
  obtain ⟨its1,r1,p1⟩ := I.sq q1
  have n1:=r1.length
  have n2:i = its1.toArray.size:=by simp only [List.size_toArray]; omega
  subst n2
  refine wpAny_pyNext_enum_endD (Ri (A:=X.A.in1) (I.ok.hd hc) b it l (h1.ne p1) its1.toArray) he ⟨h1,p1⟩ fun h' hk=>⟨rfl,I.turnMany (t':=s.toks) (ch:=[e,it]) hfp fun c o hc ec=>?_⟩
  simp only [List.mem_cons,List.not_mem_nil,or_false,not_or] at hc
  exact hk c o hc.2 ec
 self:=fun A i s Q E ⟨⟨old,he⟩,_⟩ hQ=>wpAny_pyIter_enum he hQ
theorem Pl (l : Addr) (items : Array Value) (n : Nat) (dct : Option Addr) (sl : Array (Option Value)) :
  Meets (Builtin.«enumerate.__new__» ⟨[.type "enumerate",.ref l],[]⟩) (fun _ R s=>s.heap.get? l = some { cls := .type "tuple",dict:=dct,data := .seq items n,slots:=sl } /\
   R (.ok (.ret (.ref (i4 true s.heap l).objs.size))) { s with heap:=(i4 true s.heap l).push { cls := .type "enumerate",data := .fields #[.none,.bool false,.ref s.heap.objs.size,rawInt 0,.none,.none] } }) :=
 .of_wp fun prog w A R s h=>by
  obtain ⟨hp,g,d,tk,os⟩ := s
  obtain ⟨hl,h⟩ := h
  have hsub:=sub_enumerate
  have hT:Heap.IsTuple (Shared.heap ⟨hp,g,d,tk,os⟩) l items:=⟨_,hl,rfl,n,rfl⟩
  wp_walk using wpAny_loadPart' hl
  refine wpAny_stack_any fun st=>wpAny_pure ?_
  split
  ·rename_i c _ _ _ _ _
   cases (c == Value.type "enumerate")
   ·wp_walk using wpAny_loadPart' hl,wpAny_pyIter_tuple hT
    exact ⟨_,rfl,h⟩
   ·wp_walk using wpAny_loadPart' hl,wpAny_pyIter_tuple hT
    exact ⟨_,rfl,h⟩
  ·wp_walk using wpAny_loadPart' hl,wpAny_pyIter_tuple hT
   exact ⟨_,rfl,h⟩
theorem Tl {P : Program} {w : World} {A : Around} {E : Value -> Shared -> Prop} {s : Shared} {l : Addr} {items : Array Value} {Q : Value -> Shared -> Prop} (hT : s.heap.IsTuple l items)
  (h:∀ h',IsEnum h' (s.heap.objs.size + 1) s.heap.objs.size 0 .none -> h'.IsTupleIter s.heap.objs.size l 0 -> (∀ b o,s.heap.get? b = some o -> h'.get? b = some o) -> Q (.ref (s.heap.objs.size + 1)) { s with heap:=h' }) :
  wpAny (model P w) A (call (.type "enumerate") [.ref l]) Q E s:=by
 obtain ⟨⟨c,dct,dt,sl⟩,hl,hc,n,hd⟩ := hT
 have hc':c = .type "tuple" := hc
 have hd':dt = .seq items n:=hd
 subst hc' hd'
 refine callType_new F.called_enumerate (by decide) (F.typeCall_enumerate_1 _) (F.newCall_enumerate_1 _) (fun obj=>F.args_object_init_2 obj _) F.entry_enumerate_new (Pl l items n dct sl) ⟨hl,?_⟩
 have hz:(i4 true s.heap l).objs.size = s.heap.objs.size + 1:=Heap.size_push ..
 show _ /\ _
 rw [hz]
 have he:=Heap.get?_push_size (i4 true s.heap l) (o:={ cls := .type "enumerate",data := .fields #[.none,.bool false,.ref s.heap.objs.size,rawInt 0,.none,.none] }) rfl
 rw [hz] at he
 exact ⟨⟨_,he,rfl⟩,h _ he ⟨_,Heap.get?_push_of_some _ (Heap.get?_push_size _ rfl),rfl,rfl⟩ fun b o x=>Heap.get?_push_of_some _ (Heap.get?_push_of_some _ x)⟩
section
variable {X:Cx}
def d9 (K:PySem.W.Frag) (ta:TA):TI:=fun σ H R=>ta σ H fun vs H1=>∃ (b:Bool) (a:Addr),vs = [.ref a] /\ (∃ xs,Sq b K H1 a xs) /\ R (Vp K b a) H1
theorem Pr {elts : List Expr} {kk : Nat} {tpos : Pos} {a : Expr} {ta : TA} {p pos : Pos} (hg : Gl X "enumerate") (hm : X.mg "enumerate" = none) (ha : PA X [a] ta) (hs : starEach [a] X.env = [(false, eval a X.env)] := by rfl) :
  PI X (.Tuple elts kk tpos) (.Call (.Name "enumerate" p) [a] [] pos) (d9 X.K ta):=by
 intro pins s σ H R I h
 refine Call_ (Jc I hg hm boot_enumerate (PyProof.Rows.callWith_type1 (Cf (ha pos pins s σ H _ I h) fun us s1 ⟨vs,H1,I1,r1,q1⟩=>?_) hs rfl))
 obtain ⟨b,l1,e,⟨xs,hx⟩,q⟩ := q1
 subst e
 obtain ⟨u1,rfl,ru1⟩ := Pp r1
 cases ru1
 obtain ⟨its1,rr1,p1⟩ := I1.sq hx
 have lt1:=p1.lt
 have fin : ∀ h', IsEnum h' (s1.heap.objs.size + 1) s1.heap.objs.size 0 .none -> Ih b h' s1.heap.objs.size l1 0 -> (∀ b o, s1.heap.get? b = some o -> h'.get? b = some o) ->
   wpAny (model X.prog X.w) X.A (pyIter (.ref (s1.heap.objs.size + 1))) (n9 X pins σ (.Tuple elts kk tpos) R) X.xe { s1 with heap:=h' }:=fun h' a1 a2 hk=>by
  refine wpAny_pyIter_enum a1 ?_
  have I2:Am X pins σ H1 { s1 with heap:=h' }:=I1.kept (t':=s1.toks) hk
  refine ⟨s1.heap.objs.size + 1,[s1.heap.objs.size + 1,s1.heap.objs.size],_,_,H1,rfl,I2,Sl (Nat.ne_of_gt (Nat.lt_succ_self _)) (Nat.ne_of_gt (Nat.lt_succ_of_lt lt1)),⟨⟨_,a1⟩,a2⟩,fun c hc=>?_,q⟩
  have hle:s1.heap.objs.size <= c:=by
   simp only [List.mem_cons,List.not_mem_nil,or_false] at hc
   rcases hc with rfl | rfl <;> omega
  exact I1.fpOk hle (I1.hok.fresh hle)
 cases b with
 | false=>exact call_enumerate_list p1 fun h' a1 a2 a3 hk=>fin h' a1 a2 hk
 | true=>exact Tl p1 fun h' a1 a2 hk=>fin h' a1 a2 hk
end
theorem Vl {K : PySem.W.Frag} {b : Bool} {c : Addr} {xs : List V} {g : TG} {tb : TS} {D : Gz} {σ : St} {H : Hp} (Pv : Nat -> St -> Hp -> Prop) (h0 : Pv 0 σ H) (hl : ∀ i σ H, i <= xs.length -> Pv i σ H -> Sq b K H c xs)
  (hs:∀ i x T σ H,xs[i]? = some x -> Pv i σ H -> H T = none -> g (.ref T) σ (upd H T (.tup [.int i,x])) fun σ2 H2=>tb { D with nx:=Pv (i + 1),ct:=Pv (i + 1),bk:=D.nx } σ2 H2) (hd:∀ σ H,Pv xs.length σ H -> D.nx σ H) :
  ∃ W:Nat -> Nat -> St -> Hp -> Prop,(∃ m,W 0 m σ H) /\ ∀ i m σ H,W i m σ H ->
   ((Vp K b c).stop i H /\ D.nx σ H) \/ ((Vp K b c).go i H /\ ∃ N:St -> Hp -> Prop,(∀ σ' H',N σ' H' -> ∃ m',m' < m /\ W (i + 1) m' σ' H') /\ ∀ x H',(Vp K b c).yld i H x H' -> g x σ H' fun σ2 H2=>tb { D with nx:=N,ct:=N,bk:=D.nx } σ2 H2):=by
 refine ⟨fun i m σ H=>m = xs.length - i /\ i <= xs.length /\ Pv i σ H,⟨xs.length,by simp,Nat.zero_le _,h0⟩,?_⟩
 rintro i m σ H ⟨rfl,hi,p⟩
 have q1:=hl i σ H hi p
 by_cases hlt:i < xs.length
 ·refine .inr ⟨⟨xs,xs[i],q1,by simp [hlt]⟩,Pv (i + 1),fun σ' H' p'=>⟨xs.length - (i + 1),by omega,rfl,hlt,p'⟩,fun v H' y=>?_⟩
  obtain ⟨T,x,rfl,hT,rfl,e1⟩ := y
  exact hs i x T σ H (e1 xs q1) p hT
 ·have e:i = xs.length:=by omega
  subst e
  exact .inl ⟨⟨xs,q1,rfl⟩,hd σ H p⟩
abbrev jk (K:PySem.W.Frag):TG:=Z0 K 2 (Na (Ft 0) (Na (Ft 1) c9))
theorem Rq {K : PySem.W.Frag} {b1 : Bool} {c : Addr} {xs : List V} {fr : List Nat} {tt : TT} {te : TE} {σ : St} {D : Addr} {H1 : Hp} {Q : Hp -> Prop} (Pv : Nat -> List V -> Hp -> Prop) (h0 : Pv 0 [] (upd H1 D (.lst [])))
  (hl:∀ i zs H,i <= xs.length -> Pv i zs H -> Sq b1 K H c xs)
  (hs:∀ i x T zs H,xs[i]? = some x -> Pv i zs H -> H T = none -> tt (some (.int i) :: some x :: D6 fr σ) (upd H T (.tup [.int i,x])) fun b H4 =>
   if b = true then te (some (.int i) :: some x :: D6 fr σ) H4 fun v H5=>H5 D = some (.lst zs) /\ zs.length < sizeLine /\ Pv (i + 1) (zs ++ [v]) (upd H5 D (.lst (zs ++ [v]))) else Pv (i + 1) zs H4)
  (mt:∀ σ H Q Q',(∀ b H',Q b H' -> Q' b H') -> tt σ H Q -> tt σ H Q') (me:∀ σ H Q Q',(∀ v H',Q v H' -> Q' v H') -> te σ H Q -> te σ H Q')
  (hd:∀ zs H,Pv xs.length zs H -> Q H):Dw 2 fr (Vp K b1 c) (jk K) tt te σ D H1 Q:=by
 refine ⟨fun i m zs H=>m = xs.length - i /\ i <= xs.length /\ Pv i zs H,⟨xs.length,by simp,Nat.zero_le _,h0⟩,?_⟩
 rintro i m zs H' ⟨rfl,hi,p⟩
 have q1:=hl i zs H' hi p
 by_cases hlt:i < xs.length
 ·refine .inr ⟨⟨xs,xs[i],q1,by simp [hlt]⟩,fun v H2 y=>?_⟩
  obtain ⟨T,x,rfl,hT,rfl,e1⟩ := y
  refine ⟨T,_,rfl,Br.of A5,rfl,_,_,rfl,x,_,rfl,rfl,⟨[some (.int i),some x],rfl,rfl⟩,?_⟩
  refine mt _ _ _ _ ?_ (hs i x T zs H' (e1 xs q1) p hT)
  intro b H4 q
  cases b with
  | false=>exact ⟨xs.length - (i + 1),by omega,rfl,hlt,q⟩
  | true=>exact me _ _ _ _ (fun v H5 ⟨r1,r2,r3⟩=>⟨r1,r2,xs.length - (i + 1),by omega,rfl,hlt,r3⟩) q
 ·have e:i = xs.length:=by omega
  subst e
  exact .inl ⟨⟨xs,q1,rfl⟩,hd zs H' p⟩
section
variable {X:Cx} {a b:Expr} {rest:List Expr} {ta tb:TE} {tA tB':TT} {pos:Pos}
def kn (ta tb:TE):TE:=fun σ H Q=>ta σ H fun x H1=>∃ (c:Bool) (N:Bool -> Hp -> Prop),x = .bl c /\ (c = false -> N false H1) /\ (c = true -> tb σ H1 fun y H2=>∃ d:Bool,y = .bl d /\ N d H2) /\ ∀ d H2,N d H2 -> Q (.bl d) H2
def o5 (ta tb:TE):TE:=fun σ H Q=>ta σ H fun x H1=>∃ (c:Bool) (N:Bool -> Hp -> Prop),x = .bl c /\ (c = true -> N true H1) /\ (c = false -> tb σ H1 fun y H2=>∃ d:Bool,y = .bl d /\ N d H2) /\ ∀ d H2,N d H2 -> Q (.bl d) H2
theorem U2 (ha:PE X a ta) (hb:PE X (.BoolOp .And (b :: rest) pos) tb):PE X (.BoolOp .And (a :: b :: rest) pos) (kn ta tb):=by
 intro pins s σ H Q I h
 refine BoolOp_and (Cf (ha pins s σ H _ I h) fun v s1 hz0=>?_)
 obtain ⟨x,H1,I1,r1,q1⟩ := hz0
 obtain ⟨c,N,rfl,q0,q1,q2⟩ := q1
 cases r1
 refine wpAny_truthy_bool ?_
 cases c with
 | true=>exact Cf (hb pins s1 σ H1 _ I1 (q1 rfl)) fun v s2 ⟨y,H2,I2,r2,d,e,n⟩=>⟨y,H2,I2,r2,by rw [e]; exact q2 d H2 n⟩
 | false=>exact ⟨.bl false,H1,I1,rfl,q2 _ _ (q0 rfl)⟩
theorem cq (ha:PE X a ta) (hb:PE X (.BoolOp .Or (b :: rest) pos) tb):PE X (.BoolOp .Or (a :: b :: rest) pos) (o5 ta tb):=by
 intro pins s σ H Q I h
 refine BoolOp_or (Cf (ha pins s σ H _ I h) fun v s1 hz0=>?_)
 obtain ⟨x,H1,I1,r1,q1⟩ := hz0
 obtain ⟨c,N,rfl,q0,q1,q2⟩ := q1
 cases r1
 refine wpAny_truthy_bool ?_
 cases c with
 | false=>exact Cf (hb pins s1 σ H1 _ I1 (q1 rfl)) fun v s2 ⟨y,H2,I2,r2,d,e,n⟩=>⟨y,H2,I2,r2,by rw [e]; exact q2 d H2 n⟩
 | true=>exact ⟨.bl true,H1,I1,rfl,q2 _ _ (q0 rfl)⟩
def jz (t u:TT):TT:=fun σ H Q=>t σ H fun c H1=>∃ N:Bool -> Hp -> Prop,(c = false -> N false H1) /\ (c = true -> u σ H1 N) /\ ∀ d H2,N d H2 -> Q d H2
def mv (t u:TT):TT:=fun σ H Q=>t σ H fun c H1=>∃ N:Bool -> Hp -> Prop,(c = true -> N true H1) /\ (c = false -> u σ H1 N) /\ ∀ d H2,N d H2 -> Q d H2
theorem Ph (ha:PT X a tA) (hb:PW X (.BoolOp .And (b :: rest) pos) tB'):PW X (.BoolOp .And (a :: b :: rest) pos) (jz tA tB'):=by
 intro wh pins s σ H Q I h
 refine isTrue_and (Cf (ha pins s σ H _ I h) fun c s1 hz0=>?_)
 obtain ⟨H1,I1,N,q0,q1,q2⟩ := hz0
 cases c with
 | true=>exact Cf (hb wh pins s1 σ H1 _ I1 (q1 rfl)) fun d s2 ⟨H2,I2,n⟩=>⟨H2,I2,q2 d H2 n⟩
 | false=>exact ⟨H1,I1,q2 _ _ (q0 rfl)⟩
theorem Jb (ha:PT X a tA) (hb:PW X (.BoolOp .Or (b :: rest) pos) tB'):PW X (.BoolOp .Or (a :: b :: rest) pos) (mv tA tB'):=by
 intro wh pins s σ H Q I h
 refine isTrue_or (Cf (ha pins s σ H _ I h) fun c s1 hz0=>?_)
 obtain ⟨H1,I1,N,q0,q1,q2⟩ := hz0
 cases c with
 | true=>exact ⟨H1,I1,q2 _ _ (q0 rfl)⟩
 | false=>exact Cf (hb wh pins s1 σ H1 _ I1 (q1 rfl)) fun d s2 ⟨H2,I2,n⟩=>⟨H2,I2,q2 d H2 n⟩
end
section
variable {P:Program} {w:World} {A:Around} {E:Value -> Shared -> Prop} {s:Shared}
end
section
variable {X:Cx}
def js (K:PySem.W.Frag) (ta:TA):TE:=fun σ H Q=>ta σ H fun vs H1=>∃ l xs,vs = [.ref l] /\ B9 K H1 l xs /\ ∀ d,H1 d = none -> Q (.ref d) (upd H1 d (.lst xs.reverse))
end
section
variable {X:Cx}
def qa (i j:Int):Prop:=0 < j /\ intBits j <= 8999
end
section
variable {X:Cx} {tg:Expr}
def pe (lo c:Int) (n:Nat):It:=⟨fun i _=>i < n,fun i H x H'=>H' = H /\ x = .int (lo + i * c),fun i _=>n <= i⟩
def jr (a b c:Int):Nat:=if a < b then ((b - a - 1) / c + 1).toNat else 0
def pi (ta:TA):TI:=fun σ H R=>ta σ H fun vs H1=>∃ i j c:Int,vs = [.int i,.int j,.int c] /\ (-(2 ^ 60) <= i /\ i < 2 ^ 60 /\ -(2 ^ 60) <= j /\ j < 2 ^ 60) /\ (0 < c /\ c < 2 ^ 30) /\ R (pe i c (jr i j c)) H1
end
theorem Bw.here {P:Program} {w:World} {H:Hp} {h:Heap} {a:Addr} {o:HO} (x:Bw P w H h a o):∃ ob,h.get? a = some ob:=by
 cases o with
 | lst xs=>obtain ⟨_,_,_,_,e⟩ := x; exact ⟨_,e⟩
 | tup xs=>obtain ⟨_,_,_,o,e,_⟩ := x; exact ⟨_,e⟩
 | dK kvs=>obtain ⟨_,_,_,_,o,_,_,e,_⟩ := x; exact ⟨_,e⟩
 | dT kvs=>obtain ⟨_,_,_,_,o,_,_,e,_⟩ := x; exact ⟨_,e⟩
 | set S n=>obtain ⟨o,_,_,_,e,_⟩ := x; exact ⟨_,e⟩
 | ins C dx fs=>obtain ⟨_,_,_,e,_⟩ := x; exact ⟨_,e⟩
 | own y=>exact x
 | xd fs=>obtain ⟨mA,⟨od,es,ep,e,c⟩,r⟩ := x; exact ⟨_,e⟩
 | rng lo hi=>obtain ⟨t,u,v,e⟩ := x; exact ⟨_,e⟩
 | frz ob u=>exact ⟨_,x.1⟩
 | tbl ps=>exact ⟨_,(show h.get? a = some _ from x)⟩
 | met f y=>exact ⟨_,(show h.get? a = some _ from x)⟩
 | ext φ=>exact x.2.1
theorem Fx.off {P:Program} {w:World} {H:Hp} {h:Heap} {a:Addr} (ok:Fx P w H h) (e:h.get? a = none):H a = none:=by
 cases q:H a with
 | none=>rfl
 | some u =>
  obtain ⟨ob,z⟩ := (ok a u q).here
  rw [e] at z
  cases z
def Fu (a:Addr) (cls:Value) (h:Heap):Prop := ∃ o vs,h.get? a = some o /\ o.cls = cls /\ o.data = .fields vs
def jt (a:Addr) (h:Heap):Prop := ∃ o vs,h.get? a = some o /\ o.data = .fields vs
theorem Yx {P:Program} {w:World} {H:Hp} {h:Heap} {a:Addr} {cls:Value} (x:Fu a cls h):Bw P w H h a (.ext (Fu a cls)):=by
 refine ⟨x,?_,?_⟩
 ·obtain ⟨o,_,e,_⟩ := x
  exact ⟨o,e⟩
 ·rintro h1 h2 ⟨o,vs,e,c⟩ k
  exact ⟨o,vs,k o e,c⟩
def ox (h:Heap) (a T:Addr):Prop := ∃ oe vs oT ts a0,h.get? a = some oe /\ oe.data = .fields vs /\ vs[0]? = some a0 /\ vs[1]? = some (.ref T) /\ T ≠ a /\ h.get? T = some oT /\ oT.data = .fields ts /\ ts[3]? = some .none
structure ao (P:Program) (w:World) (fr:List Addr) (H:Hp) (h:Heap) (H':Hp) (h':Heap) (a T:Addr) (cls:Value):Prop where
 un:Un fr [] H H' h h'
 ok:Fx P w H' h'
 exc:H' a = some (.ext (Fu a cls))
 off:H' T = none
 new:h.get? T = none
 tr:ox h' a T
def sd (P:Program) (w:World):Wf:=fun outer H s E e s'=>∃ (a T:Addr) (cls:Value) (H':Hp),e = .ref a /\ s'.os = s.os /\ AllBare s'.gens /\ ao P w (frs outer) H s.heap H' s'.heap a T cls /\ E cls none H'
theorem jv {P : Program} {w : World} {fr old : List Addr} {H H' : Hp} {h h' h2 : Heap} {a T : Addr} {cls : Value} (u : Un fr [] H H' h h') (ok : Fx P w H' h') (hfr : ∀ b ∈ fr, H' b = none)
  (frd:∀ b ∈ fr,∃ o,h'.get? b = some o /\ ∀ vs,o.data ≠ .fields vs) (ha:H' a = some (.ext (Fu a cls))) (hold:∀ b ∈ old,H' b = none /\ h.get? b = none)
  (st:(PySem.W.hideAll h' (fr ++ a :: old)).StaysIn h2) (sl:h'.UpToSlots h2) (xa:Fu a cls h2) (xT:jt T h2) (nT:(PySem.W.hideAll h' (fr ++ a :: old)).get? T = none) (na:T ≠ a) :
  Un fr [] H H' h h2 /\ Fx P w H' h2 /\ H' T = none /\ h.get? T = none:=by
 have hT:H' T = none /\ h.get? T = none:=by
  cases q:h'.get? T with
  | none =>
   refine ⟨ok.off q,?_⟩
   cases z:h.get? T with
   | none=>rfl
   | some o =>
    obtain ⟨o',e⟩ := u.there T o z (by simp)
    rw [q] at e
    cases e
  | some o =>
   by_cases hm:T ∈ fr ++ a :: old
   ·rcases List.mem_append.mp hm with z | z
    ·obtain ⟨o1,e1,d1⟩ := frd T z
     obtain ⟨sl',e2⟩ := sl T o1 e1 d1
     obtain ⟨o3,vs,e3,d3⟩ := xT
     rw [e2] at e3
     cases e3
     exact absurd d3 (d1 vs)
    ·rcases List.mem_cons.mp z with z | z
     ·exact absurd z na
     ·exact hold T z
   ·have:=PySem.W.hideAll_get _ q hm
    rw [nT] at this
    cases this
 have keepT:∀ b o u',h'.get? b = some o -> H' b = some u' -> b ≠ a -> h2.get? b = some o:=fun b o u' e q n1=>by
  refine st b o (PySem.W.hideAll_get _ e fun hm=>?_)
  rcases List.mem_append.mp hm with z | z
  ·rw [hfr b z] at q
   cases q
  ·rcases List.mem_cons.mp z with z | z
   ·exact n1 z
   ·rw [(hold b z).1] at q
    cases q
 have keepN:∀ b o o',h.get? b = some o -> h'.get? b = some o' -> H' b = none -> b ∉ fr -> h2.get? b = some o':=fun b o o' e e' q n=>by
  refine st b o' (PySem.W.hideAll_get _ e' fun hm=>?_)
  rcases List.mem_append.mp hm with z | z
  ·exact n z
  ·rcases List.mem_cons.mp z with z | z
   ·rw [z,ha] at q
    cases q
   ·rw [(hold b z).2] at e
    cases e
 refine ⟨⟨fun b o e q n _=>keepN b o o e (u.keep b o e q n (by simp)) (u.free b o e q (by simp)) n,fun b o e q n _=>?_,fun b o e q _=>u.free b o e q (by simp),fun b o e _=>?_,u.tups,u.frzs,u.tbls⟩,fun b v q=>?_,hT⟩
 ·obtain ⟨sl1,e1⟩ := u.slot b o e q n (by simp)
  obtain ⟨o2,e2,d2⟩ := frd b n
  rw [e1] at e2
  cases e2
  obtain ⟨sl3,e3⟩ := sl b _ e1 d2
  exact ⟨sl3,e3⟩
 ·obtain ⟨o',e'⟩ := u.there b o e (by simp)
  cases q:H' b with
  | none =>
   by_cases n:b ∈ fr
   ·obtain ⟨o1,e1,d1⟩ := frd b n
    obtain ⟨sl',e2⟩ := sl b o1 e1 d1
    exact ⟨_,e2⟩
   ·exact ⟨_,keepN b o o' e e' q n⟩
  | some v =>
   by_cases n1:b = a
   ·obtain ⟨o2,_,e2,_⟩ := xa
    rw [n1]
    exact ⟨_,e2⟩
   ·exact ⟨_,keepT b o' v e' q n1⟩
 ·by_cases n1:b = a
  ·subst n1
   rw [ha] at q
   cases q
   exact Yx xa
  ·refine (ok b v q).stay (fun c x hc e=>?_) (fun c e=>e) fun c xs e=>e
   rcases hc with z | z
   ·subst z
    exact keepT c x v e q n1
   ·refine keepT c x _ e z fun e2=>?_
    rw [e2,ha] at z
    cases z
section
variable {X:Cx} {pins:List (Addr × Obj)} {σ:St} {H:Hp} {s:Shared}
theorem Am.frd (I:Am X pins σ H s):∀ b ∈ frs X.stack,∃ o,s.heap.get? b = some o /\ ∀ vs,o.data ≠ .fields vs:=fun b hb=>(I.stack.mem hb).2
theorem ao.cls {P:Program} {w:World} {fr:List Addr} {H H':Hp} {h h':Heap} {a T:Addr} {cls:Value} (F:ao P w fr H h H' h' a T cls):Fu a cls h':=(F.ok a _ F.exc).1
theorem ao.on {P : Program} {w : World} {fr old : List Addr} {H H' : Hp} {h h' h2 : Heap} {a : Addr} {cls a0 : Value} (un : Un fr [] H H' h h') (ok : Fx P w H' h') (exc : H' a = some (.ext (Fu a cls))) (hfr : ∀ b ∈ fr, H' b = none)
  (frd:∀ b ∈ fr,∃ o,h'.get? b = some o /\ ∀ vs,o.data ≠ .fields vs) (hold:∀ b ∈ old,H' b = none /\ h.get? b = none)
  (st:(PySem.W.hideAll h' (fr ++ a :: old)).StaysIn h2) (sl:h'.UpToSlots h2) (tr:h2.TracedW (PySem.W.hideAll h' (fr ++ a :: old)) a cls a0):∃ T,ao P w fr H h H' h2 a T cls:=by
 obtain ⟨oe,vs,T,oT,ts,q1,⟨q2,q3⟩,q4,q5,q6,q7,q8,q9,q10⟩ := tr
 obtain ⟨u,k,n1,n2⟩ := jv (T:=T) un ok hfr frd exc hold st sl ⟨oe,vs,q1,q2,q4⟩ ⟨oT,ts,q8,q9⟩ q6 q7
 exact ⟨T,u,k,exc,n1,n2,oe,vs,oT,ts,a0,q1,q4,q3,q5,q7,q8,q9,q10⟩
end
section
variable {P:Program} {w:World} {K:PySem.W.Frag} {mg:Str -> Option Value} {base:Heap} {N:List Str} {qual:Str} {scope:Scope} {f:Addr} {cd:Value} {A:Around} {outer:List Env} {s₀:Shared} {H₀:Hp} {E:XK}
def pk (X:Cx) (R:St -> XK -> Prop):Prop := ∀ (pins:List (Addr × Obj)) (σ:St) (H:Hp) (s:Shared) (e:Value) (s':Shared) (E:XK),R σ E -> Am X pins σ H s -> sd X.prog X.w X.stack H s E e s' -> X.xe e s'
def RD (E:XK):St -> XK -> Prop:=fun _ E1=>∀ c d H,E1 c d H -> E c d H
def nu (X:Cx) (E:XK):Prop := ∀ (pins:List (Addr × Obj)) (σ:St) (H:Hp) (s:Shared) (h':Heap) (e:Addr) (cls:Value) (vs:List Value),Am X pins σ H s -> Heap.MadeExcOf s.heap h' e cls vs ->
 (∀ H2,A7 H H2 -> E cls none H2) -> X.xe (.ref e) { s with heap:=h' }
end
def ny (K:PySem.W.Frag) (C:Addr):Prop:=PySem.W.excIn K C [.type "ValueError",.type "Exception",.type "BaseException",.type "object"] "ValueError.__new__" = true
section
variable {X:Cx} {x:Str} {C:Addr} {p np cpos pos:Pos} {e:Expr} {es:List Expr} {t:TA} {E:XK}
def o7 (C:Addr) (t:TA) (E:XK):TS:=fun _ σ H=>t σ H fun vs H1=>vs.length <= sizeLine /\ ∀ H2,A7 H1 H2 -> E (.ref C) none H2
variable {k:Nat} {f:Addr} {fd:FuncData} {ps:List Str} {sp:Sp} {dvs:List V} {ds:List Value} {R:St -> XK -> Prop}
def oz (sp:Sp) (dvs:List V) (R:St -> XK -> Prop) (t:TA):TE:=fun σ H Q=>t σ H fun vs H1=>∃ E,R σ E /\ sp (vs ++ dvs) H1 Q E
end
section
variable {P:Program} {w:World} {K:PySem.W.Frag} {mg:Str -> Option Value} {base:Heap} {x qual:Str} {st:Stmt} {f:Addr} {fd:FuncData} {N ps:List Str} {k:Nat} {sp:Sp}
end
open PySem.W (Looks)
inductive Hl (X:Cx) (C:Addr):List Expr -> List Addr -> Prop
 | nil:Hl X C [] []
 | cons {x : Str} {p : Pos} {c : Addr} {es : List Expr} {cs : List Addr} (hg : Gl X x) (hm : X.mg x = some (.ref c)) (hd : (x == ("__debug__" : Str)) = false)
   (hb:PySem.W.subIn X.K (.ref c) (.type "BaseException") = some true) (hn:PySem.W.subIn X.K (.ref C) (.ref c) = some false) (he:∀ env:Env,starEach (.Name x p :: es) env = (false,eval (.Name x p) env) :: starEach es env) (r:Hl X C es cs):Hl X C (.Name x p :: es) (c :: cs)
section
variable {X:Cx} {pins:List (Addr × Obj)} {σ:St} {H:Hp} {s:Shared} {C:Addr}
theorem Hl.len {es:List Expr} {cs:List Addr} (r:Hl X C es cs):cs.length = es.length:=by
 induction r with
 | nil=>rfl
 | cons _ _ _ _ _ _ _ ih=>simp [ih]
def qc (K:PySem.W.Frag):List V -> Hp -> VK -> Prop:=fun xs H Q=>∃ (a:Addr) (t c:Value) (v:V),xs = [.ref a,v] /\ H a = some (.ext (Fu a t)) /\ (∀ u,B6 v u -> u = c) /\ PySem.W.kitOne K t c = some true /\ Q (.bl true) H
end
abbrev Cx.at (X:Cx) (A:Around):Cx:={ X with A:=A,calm:=false,xe:=fun _ _=>False }
abbrev Cx.in_ (X:Cx) (pn:List (Addr × Obj)) (W:Value -> Shared -> Prop):Cx:={ X with pn:=pn,xe:=W }
section
variable {X:Cx} {pins:List (Addr × Obj)} {σ:St} {H:Hp} {s:Shared}
theorem Am.at (I:Am X pins σ H s) {A:Around} (hA:A.frames = X.A.frames):Am (X.at A) pins σ H s :=
 ⟨⟨I.ok.mod,I.ok.kind,I.ok.glob,I.ok.blt,I.ok.above,I.ok.inj,I.ok.has,I.ok.cab,fun z=>(nomatch z),hA.trans I.ok.frames,I.ok.stk,I.ok.exf,I.ok.bs,I.ok.bsz,I.ok.noex,I.ok.exfs,I.ok.funs,I.ok.frf⟩,I.os,I.bare,I.base,I.loc,I.cell,I.free,I.freeC,I.pin,I.hok,I.len⟩
theorem Am.back {A:Around} (ok:X.Ok) (I:Am (X.at A) pins σ H s):Am X pins σ H s:=⟨ok,I.os,I.bare,I.base,I.loc,I.cell,I.free,I.freeC,I.pin,I.hok,I.len⟩
theorem Am.in_ {W:Value -> Shared -> Prop} (I:Am X pins σ H s):Am (X.in_ (X.pn ++ pins) W) [] σ H s :=
 ⟨⟨I.ok.mod,I.ok.kind,I.ok.glob,I.ok.blt,I.ok.above,I.ok.inj,I.ok.has,I.ok.cab,I.ok.hd,I.ok.frames,I.ok.stk,I.ok.exf,I.ok.bs,I.ok.bsz,I.ok.noex,I.ok.exfs,I.ok.funs,I.ok.frf⟩,I.os,I.bare,I.base,I.loc,I.cell,I.free,I.freeC,
  fun p hp=>I.pin p (by rwa [List.append_nil] at hp),I.hok,I.len⟩
theorem Am.out {W:Value -> Shared -> Prop} {pins':List (Addr × Obj)} (ok:X.Ok) (I:Am (X.in_ (X.pn ++ pins) W) pins' σ H s):Am X pins σ H s :=
 ⟨ok,I.os,I.bare,I.base,I.loc,I.cell,I.free,I.freeC,fun p hp=>I.pin p (List.mem_append_left _ hp),I.hok,I.len⟩
theorem SP.out {W:Value -> Shared -> Prop} {D:Gz} {f:Flow} {s':Shared} (ok:X.Ok) (h:SP (X.in_ (X.pn ++ pins) W) [] D f s'):SP X pins D f s':=by
 cases f with
 | next=>obtain ⟨σ',H',I,q⟩ := h; exact ⟨σ',H',I.out ok,q⟩
 | brk=>obtain ⟨σ',H',I,q⟩ := h; exact ⟨σ',H',I.out ok,q⟩
 | cont=>obtain ⟨σ',H',I,q⟩ := h; exact ⟨σ',H',I.out ok,q⟩
 | ret u=>obtain ⟨v,σ',H',I,r,q⟩ := h; exact ⟨v,σ',H',I.out ok,r,q⟩
theorem ao.kept {P:Program} {w:World} {fr:List Addr} {H H':Hp} {h h' h2:Heap} {a T:Addr} {cls:Value} (F:ao P w fr H h H' h' a T cls) (k:∀ b o,h'.get? b = some o -> h2.get? b = some o):ao P w fr H h H' h2 a T cls:=by
 obtain ⟨oe,vs,oT,ts,a0,e1,d1,h0,h1,nT,e2,d2,h3⟩ := F.tr
 exact ⟨F.un.trans (Un.kept k),F.ok.kept k,F.exc,F.off,F.new,oe,vs,oT,ts,a0,k _ _ e1,d1,h0,h1,nT,k _ _ e2,d2,h3⟩
def RT (tu:TS) (C:Addr) (i:Nat) (D:Gz):St -> XK -> Prop:=fun σ1 E=>∀ cls H',E cls none H' -> cls = .ref C /\ ∀ a,H' a = some (.ext (Fu a (.ref C))) ->
 tu { nx:=fun σ' H4=>D.nx (σ'.set i none) H4,rt:=fun _ _=>False } (σ1.set i (some (.ref a))) H'
def rl (tb:(St -> XK -> Prop) -> TS) (tu:TS) (C:Addr) (i:Nat):TS:=fun D σ H=>tb (RT tu C i D) D σ H
theorem Hl.all {C:Addr} {es:List Expr} {cs:List Addr} (r:Hl X C es cs):∀ c ∈ cs,PySem.W.subIn X.K (.ref c) (.type "BaseException") = some true /\ PySem.W.subIn X.K (.ref C) (.ref c) = some false:=by
 induction r with
 | nil=>exact fun _ z=>nomatch z
 | cons _ _ _ hb hn _ _ ih =>
  intro c hc
  rcases List.mem_cons.mp hc with e | hc
  ·rw [e]
   exact ⟨hb,hn⟩
  ·exact ih c hc
end
section
variable {X:Cx}
end
def Mo (val:Nat -> Int) (j:Nat) (m:Int):Prop:=(∃ i,i <= j /\ m = val i) /\ ∀ i,i <= j -> val i <= m
theorem Mo.up {val:Nat -> Int} {j:Nat} {m:Int} (h:Mo val j m) (b:m < val (j + 1)):Mo val (j + 1) (val (j + 1)):=by
 refine ⟨⟨j + 1,Nat.le_refl _,rfl⟩,fun i hi=>?_⟩
 rcases Nat.lt_or_ge j i with z | z
 ·have e:i = j + 1:=by omega
  rw [e]
  omega
 ·have:=h.2 i z
  omega
theorem Mo.same {val:Nat -> Int} {j:Nat} {m:Int} (h:Mo val j m) (b:¬ m < val (j + 1)):Mo val (j + 1) m:=by
 obtain ⟨⟨i0,z0,e0⟩,h2⟩ := h
 refine ⟨⟨i0,by omega,e0⟩,fun i hi=>?_⟩
 rcases Nat.lt_or_ge j i with z | z
 ·have e:i = j + 1:=by omega
  rw [e]
  omega
 ·exact h2 i z
section
variable {prog:Program} {w:World} {A:Around} {R:Result -> Shared -> Prop} {I S:Addr} {fp wr:List Addr} {n:Nat} {P:Nat -> Value -> Prop} {St:Nat -> Heap -> Prop} {val:Nat -> Int}
end
section
variable {prog:Program} {w:World} {A:Around} {E:Value -> Shared -> Prop} {s:Shared} {l:Addr}
end
section
variable {X:Cx} {p pos kpos:Pos} {e d:Expr} {t:TA} {td:TE} {x:Str}
def qo (K:PySem.W.Frag) (t:TA) (td:TE):TE:=fun σ H Q=>t σ H fun vs H1=>ag td jl σ H1 fun ys H2=>∃ (a:Addr) (ns:List Int) (dv:Int),vs = [.ref a] /\ ys = [.int dv] /\ B9 K H2 a (ns.map V.int) /\
 ∀ m:Int,(ns = [] -> m = dv) -> (ns ≠ [] -> m ∈ ns /\ ∀ b ∈ ns,b <= m) -> Q (.int m) H2
end
open PySem PySem.Spec PyProof.Rows PySem.SeqAt
def cj (A:Around) (s:Shared) (x y:Value) (b:Bool):Prop := ∀ (prog:Program) (w:World) (E:Value -> Shared -> Prop) (Q:Value -> Shared -> Prop),Q (.bool b) s -> wpAny (model prog w) A (richCompare .Lt x y) Q E s
theorem bv (l b : Addr) (xs ys : Array Value) (n n2 : Nat) (dd dd2 : Option Addr) (sl sl2 : Array (Option Value)) (e : Nat -> Bool) (r : Bool) :
  Meets (Builtin.«tuple.__lt__» ⟨[.ref l,.ref b],[]⟩)
   (fun A R s=>s.heap.get? l = some { cls := .type "tuple",dict:=dd,data := .seq xs n,slots:=sl } /\ s.heap.get? b = some { cls := .type "tuple",dict:=dd2,data := .seq ys n2,slots:=sl2 } /\
    (∀ j (h1:j < xs.size) (h2:j < ys.size),EqAt A.in1 s xs[j] ys[j] (e j)) /\ (∀ j (h1:j < xs.size) (h2:j < ys.size),(∀ i,i < j -> e i = true) -> e j = false -> cj A.in1 s xs[j] ys[j] r) /\
    ((∀ j,j < min xs.size ys.size -> e j = true) -> r = decide (xs.size < ys.size)) /\ R (.ok (.ret (.bool r))) s) :=
 .of_wp fun prog w A R s h=>by
  obtain ⟨hp,g,d,tk,os⟩ := s
  obtain ⟨hl,hb,he,hf,hz,h⟩ := h
  have f2:=AutoSeq1.sub_tuple_tuple
  have hZ:(xs.toList.zip ys.toList).length = min xs.size ys.size:=by simp
  wp_walk using wpAny_loadPart' hl,wpAny_loadPart' hb,wpAny_forIn_list _ (fun rest b s'=>b.1 = none /\ s' = ⟨hp,g,d,tk,os⟩ /\ ∃ i,rest = (xs.toList.zip ys.toList).drop i /\ ∀ k,k < i -> k < min xs.size ys.size -> e k = true) _
  case turn =>
   rintro ⟨y,x⟩ rest b s' ⟨hb',rfl,i,hq,hR⟩
   have hlt:i < (xs.toList.zip ys.toList).length:=by
    apply Classical.byContradiction
    intro z
    rw [List.drop_of_length_le (by omega)] at hq
    cases hq
   have h1:i < xs.size:=by omega
   have h2:i < ys.size:=by omega
   rw [List.drop_eq_getElem_cons hlt] at hq
   injection hq with hyx hrest
   have hy:y = xs[i]:=by simpa using congrArg Prod.fst hyx
   have hx:x = ys[i]:=by simpa using congrArg Prod.snd hyx
   subst hy hx
   refine wpAny_bind (he i h1 h2 prog w _ _ ?_)
   cases hy:e i with
   | true =>
    wp_walk
    refine ⟨rfl,rfl,i + 1,hrest,fun k hk hk2=>?_⟩
    by_cases z:k = i
    ·rw [z]
     exact hy
    ·exact hR k (by omega) hk2
   | false =>
    have hl2:=hf i h1 h2 (fun k hk=>hR k hk (by omega)) hy prog w
    wp_walk using hl2 _ _
    exact ⟨_,rfl,h⟩
  case fin =>
   rintro ⟨b1,b2⟩ s' ⟨hb',rfl,i,hq,hR⟩
   simp only at hb'
   subst hb'
   have hge:min xs.size ys.size <= i:=by
    apply Classical.byContradiction
    intro z
    rw [List.drop_eq_getElem_cons (by omega)] at hq
    cases hq
   have hr:=hz fun j hj=>hR j (by omega) hj
   wp_walk
   refine ⟨_,rfl,?_⟩
   rw [hr] at h
   simpa [Builtin.Tuple.tupleCompareSizes] using h
  case h =>
   exact ⟨rfl,rfl,0,rfl,fun k hk=>absurd hk (Nat.not_lt_zero k)⟩
mutual
def Jw:PyData -> PyData -> Bool
 | .int a,.int b=>decide (a < b)
 | .tuple xs,.tuple ys=>ltvAll xs ys
 | _,_=>false
def ltvAll:List PyData -> List PyData -> Bool
 | [],[]=>false
 | [],_ :: _=>true
 | _ :: _,[]=>false
 | x :: xs,y :: ys=>if PyData.eqv x y then ltvAll xs ys else Jw x y
end
mutual
def Hs:PyData -> PyData -> Prop
 | .int _,.int _=>True
 | .tuple xs,.tuple ys=>CmpbAll xs ys
 | _,_=>False
def CmpbAll:List PyData -> List PyData -> Prop
 | x :: xs,y :: ys=>Hs x y /\ CmpbAll xs ys
 | _,_=>True
end
theorem Nn:∀ (xs ys:List PyData),(∀ j,j < min xs.length ys.length -> pairEq xs ys j = true) -> ltvAll xs ys = decide (xs.length < ys.length)
 | [],[],_=>rfl
 | [],y :: ys,_=>by simp [ltvAll]
 | x :: xs,[],_=>by simp [ltvAll]
 | x :: xs,y :: ys,h=>by
  have h0:PyData.eqv x y = true:=h 0 (by simp only [List.length_cons]; omega)
  have ih:=Nn xs ys fun j hj=>h (j + 1) (by simp only [List.length_cons]; omega)
  rw [ltvAll,if_pos h0,ih]
  simp
mutual
theorem Ke : ∀ (da db : PyData) (A : Around) (s : Shared) (a b : Value) (as bs : List Addr), Reads s.heap a da as -> Reads s.heap b db bs -> da.canLay0 = true -> db.canLay0 = true -> Hs da db ->
  A.units + min da.depth db.depth < cLine -> cj A s a b (Jw da db)
 | .int x,db,A,s,_,_,_,_,ra,rb,_,_,hc,hu=>by
  cases db with
  | int y =>
   cases ra with
   | int _ t =>
    cases rb with
    | int _ u =>
     intro prog w E Q h
     exact richCompare_gives (op := .Lt) (typeIs_int s _ t) (typeIs_int s _ u) F.slot_int_lt F.entry_int_lt (F.args_int_lt_2 _ _) (gives_int_lt _ _ t u) (fun z=>nomatch z) h
  | none=>exact hc.elim
  | bool _=>exact hc.elim
  | str _=>exact hc.elim
  | list _=>exact hc.elim
  | tuple _=>exact hc.elim
  | dict _=>exact hc.elim
 | .tuple xs,db,A,s,_,_,_,_,ra,rb,ha,hb,hc,hu=>by
  cases db with
  | tuple ys =>
   cases ra with
   | @tuple l o vs n _ as₁ h1 h2 h3 h4 =>
    cases rb with
    | @tuple l' o' vs' n' _ bs₁ k1 k2 k3 k4 =>
     obtain ⟨oc,od,odt,osl⟩ := o
     obtain ⟨oc',od',odt',osl'⟩ := o'
     simp only at h2 h3 k2 k3
     subst h2 h3 k2 k3
     have n1:vs.size = xs.length:=by simpa using ReadsAll.length _ _ _ h4
     have n2:vs'.size = ys.length:=by simpa using ReadsAll.length _ _ _ k4
     intro prog w E Q h
     refine richCompare_meets_room (op := .Lt) ⟨_,h1,rfl⟩ ⟨_,k1,rfl⟩ F.slot_tuple_lt F.entry_tuple_lt (F.args_tuple_lt_2 _ _) (bv l l' vs vs' n n' od od' osl osl' (pairEq xs ys) (ltvAll xs ys)) ⟨h1,k1,fun j j1 j2=>?_,fun j j1 j2 f1 f2=>?_,fun f=>?_,(fun z=>nomatch z),h⟩ (room_here hu)
     ·have:=eqAt_readsAll xs ys A.in1 s vs.toList vs'.toList _ _ h4 k4 ha hb (room_in hu) j (by simpa using j1) (by simpa using j2)
      simpa using this
     ·have:=lt_readsAll xs ys A.in1 s vs.toList vs'.toList _ _ h4 k4 ha hb hc (room_in hu) j (by simpa using j1) (by simpa using j2) f1 f2
      simpa using this
     ·rw [n1,n2] at f ⊢
      exact Nn xs ys f
  | none=>exact hc.elim
  | bool _=>exact hc.elim
  | str _=>exact hc.elim
  | list _=>exact hc.elim
  | int _=>exact hc.elim
  | dict _=>exact hc.elim
 | .none,_,_,_,_,_,_,_,_,_,_,_,hc,_=>hc.elim
 | .bool _,_,_,_,_,_,_,_,_,_,_,_,hc,_=>hc.elim
 | .str _,_,_,_,_,_,_,_,_,_,_,_,hc,_=>hc.elim
 | .list _,_,_,_,_,_,_,_,_,_,_,_,hc,_=>hc.elim
 | .dict _,_,_,_,_,_,_,_,_,_,_,_,hc,_=>hc.elim
theorem lt_readsAll : ∀ (xs ys : List PyData) (A : Around) (s : Shared) (vs ws : List Value) (as bs : List Addr), ReadsAll s.heap vs xs as -> ReadsAll s.heap ws ys bs -> PyData.canLayAll0 xs = true -> PyData.canLayAll0 ys = true -> CmpbAll xs ys ->
  A.units + min (PyData.depthAll xs) (PyData.depthAll ys) < cLine -> ∀ j (h1:j < vs.length) (h2:j < ws.length),(∀ i,i < j -> pairEq xs ys i = true) -> pairEq xs ys j = false -> cj A s vs[j] ws[j] (ltvAll xs ys)
 | [],_,_,_,_,_,_,_,ra,_,_,_,_,_,j,h1,_,_,_=>by cases ra; exact absurd h1 (Nat.not_lt_zero _)
 | _ :: _,[],_,_,_,_,_,_,_,rb,_,_,_,_,j,_,h2,_,_=>by cases rb; exact absurd h2 (Nat.not_lt_zero _)
 | x :: xs,y :: ys,A,s,_,_,_,_,ra,rb,ca,cb,hc,hu,j,h1,h2,f1,f2=>by
  cases ra with
  | cons r1 r2 =>
   cases rb with
   | cons q1 q2 =>
    have ca1:x.canLay0 = true /\ PyData.canLayAll0 xs = true:=by simpa [PyData.canLayAll0] using ca
    have cb1:y.canLay0 = true /\ PyData.canLayAll0 ys = true:=by simpa [PyData.canLayAll0] using cb
    have hd:A.units + min x.depth y.depth < cLine /\ A.units + min (PyData.depthAll xs) (PyData.depthAll ys) < cLine:=by
     simp only [PyData.depthAll] at hu
     omega
    cases j with
    | zero =>
     have e:ltvAll (x :: xs) (y :: ys) = Jw x y:=by
      have f3:PyData.eqv x y = false:=f2
      rw [ltvAll,f3]
      rfl
     rw [e]
     exact Ke x y A s _ _ _ _ r1 q1 ca1.1 cb1.1 hc.1 hd.1
    | succ j =>
     have e:ltvAll (x :: xs) (y :: ys) = ltvAll xs ys:=by
      have f3:PyData.eqv x y = true:=f1 0 (Nat.succ_pos _)
      rw [ltvAll,f3]
      rfl
     rw [e]
     exact lt_readsAll xs ys A s _ _ _ _ r2 q2 ca1.2 cb1.2 hc.2 hd.2 j (Nat.lt_of_succ_lt_succ h1) (Nat.lt_of_succ_lt_succ h2) (fun i hi=>f1 (i + 1) (Nat.succ_lt_succ hi)) f2
end
section
variable {X:Cx} {k:Nat}
def ow:R2:=fun x y H Q=>∃ d e:PyData,Rp H d x /\ Rp H e y /\ Hs d e /\ d.depth <= 60 /\ Q (.bl (Jw d e)) H
theorem gv (hr:E9 k X.A):Hn X (compareOp .Lt) ow:=by
 intro pins s σ H x y v u Q I rx ry h
 obtain ⟨d,e,h1,h2,hc,hd,q⟩ := h
 obtain ⟨as,q1⟩ := Eg I d x v h1 rx
 obtain ⟨bs,q2⟩ := Eg I e y u h2 ry
 have hu:=hr.units
 exact Ke d e X.A s v u as bs q1 q2 (Ds d x h1) (Ds e y h2) hc (by omega) _ _ _ _ ⟨.bl (Jw d e),H,I,rfl,q⟩
end
section
variable {X:Cx}
def ir (K:PySem.W.Frag):R2:=fun x y H Q=>∃ a b xs ys,x = .ref a /\ y = .ref b /\ Br K H a xs /\ H b = some (.tup ys) /\ ys ≠ [] /\ xs.length + ys.length <= sizeLine /\
 ∀ p H',A7 H H' -> H' p = some (.tup (xs ++ ys)) -> Q (.ref p) H'
theorem Oy (K:PySem.W.Frag) (hK:X.K = K:=by rfl):Hn X (binaryOp .Add) (ir K):=by
 subst hK
 intro pins s σ H x y v u Q I rx ry h
 obtain ⟨a,b,xs,ys,rfl,rfl,ha,hb,hy,hz,q⟩ := h
 by_cases hx:xs = []
 ·subst hx
  cases rx
  cases ry
  obtain ⟨its,r1,p1,_⟩ := I.tuple ha
  obtain ⟨its2,r2,p2,_⟩ := I.tuple (Br.of hb)
  cases r1
  obtain ⟨⟨c1,d1,t1,l1⟩,ho,hc,n,hd⟩ := p1
  obtain ⟨⟨c2,d2,t2,l2⟩,ho2,hc2,n2,hd2⟩ := p2
  simp only at hc hd hc2 hd2
  subst hc hd hc2 hd2
  exact concat_meets ⟨_,ho,rfl⟩ ⟨_,ho2,rfl⟩ noFill_tuple_add seq_tuple_add PySem.F.slot_tuple_add PySem.F.entry_tuple_add (PySem.F.args_tuple_add_2 _ _) (tuple_addW0 a b _ _ n n2 d1 d2 l1 l2 rfl) ⟨ho,ho2,.ref b,H,I,rfl,q b H (A7.refl H) hb⟩
 ·exact Uu pins s σ H _ _ v u Q I rx ry ⟨a,b,xs,ys,rfl,rfl,ha,Br.of hb,hx,hz,fun e=>absurd e hy,fun _ p hp=>q p _ (A7.upd hp) A5⟩
end
def Xe (h:Heap) (a t:Addr) (i:Int):Prop := ∃ o,h.get? a = some o /\ o.cls = .type "reversed" /\ o.data = .fields #[.ref t,rawInt i]
section
variable {prog:Program} {w:World} {A:Around} {E:Value -> Shared -> Prop} {s:Shared}
theorem Xe.ty {a t:Addr} {i:Int} (x:Xe s.heap a t i):s.TypeIs (.ref a) "reversed" := let ⟨o,ho,hc,_⟩ := x; ⟨o,ho,hc⟩
theorem Xe.at {h h':Heap} {a t:Addr} {i:Int} (x:Xe h a t i) (e:∀ o,h.get? a = some o -> h'.get? a = some o):Xe h' a t i:=let ⟨o,ho,r⟩ := x; ⟨o,e _ ho,r⟩
end
def m8 (t:Addr) (i:Int):Obj:={ cls := .type "reversed",data := .fields #[.ref t,rawInt i] }
section
variable {prog:Program} {w:World} {A:Around} {E:Value -> Shared -> Prop} {s:Shared}
end
def qt (K:PySem.W.Frag) (a:Addr) (xs:List V):It :=
 ⟨fun i H=>Br K H a xs /\ i < xs.length,fun i H x H'=>H' = H /\ xs.reverse[i]? = some x,fun i H=>Br K H a xs /\ xs.length <= i⟩
def sj (K:PySem.W.Frag) (ta:TA):TI:=fun σ H R=>ta σ H fun vs H1=>∃ t xs,vs = [.ref t] /\ Br K H1 t xs /\ R (qt K t xs) H1
section
variable {X:Cx} {tg:Expr}
end
section
variable {P:Program} {w:World} {A:Around} {E:Value -> Shared -> Prop} {s:Shared}
end
section
variable {X:Cx}
def li (K:PySem.W.Frag) (ta:TA):TE:=fun σ H Q=>ta σ H fun vs H1=>∃ l xs,vs = [.ref l] /\ B9 K H1 l xs /\ ∀ d,H1 d = none -> Q (.ref d) (upd H1 d (.tup xs.reverse))
end
section
variable {X:Cx}
end
section
variable {prog:Program} {w:World} {A:Around} {E:Value -> Shared -> Prop} {I:Addr} {fp wr:List Addr} {St:Nat -> Heap -> Prop} {items:Array Value}
end
section
variable {X:Cx} {pos:Pos}
def qu (K:PySem.W.Frag) (n:Nat) (t:Zk):TG:=fun v σ H Q=>∃ a xs,v = .ref a /\ B9 K H a xs /\ xs.length = n /\ t xs σ H Q
end
open PySem.W (Looks)
section
variable {prog:Program} {w:World} {A:Around} {E:Value -> Shared -> Prop} {K:PySem.W.Frag} {x C:Addr} {h:Heap} {g:Array GenState} {d:Drawn} {t:Nat} {os:OsState}
structure jy (K:PySem.W.Frag) (C:Addr):Prop where
 ga:PySem.W.findIn K (.ref C) "__getattribute__" = some (some (.builtin "BaseException.__getattribute__"))
 gt:PySem.W.findIn K (.ref C) "__getattr__" = some none
 cl:PySem.W.findIn K (.ref C) "__class__" = some (some (.builtin "object.__class__"))
 gs:PySem.W.specialIn K (.builtin "object.__class__") "__get__" = some (some (.builtin "getset_descriptor.__get__"))
 tk:PySem.W.takesIn K (.builtin "object.__class__") = some true
 ob:PySem.W.mroIn K C (.type "object") = some true
 be:PySem.W.subIn K (.ref C) (.type "BaseException") = some true
end
section
variable {X:Cx}
def qb (K:PySem.W.Frag):List V -> Hp -> VK -> Prop:=fun xs H Q=>∃ (a C:Addr) (c:Value) (v:V) (b:Bool),xs = [.ref a,v] /\ H a = some (.ext (Fu a (.ref C))) /\ (∀ u,B6 v u -> u = c) /\ jy K C /\ PySem.W.kitOne K (.ref C) c = some b /\ Q (.bl b) H
end
open PySem.W (Looks)
section
variable {X:Cx}
def rg (K:PySem.W.Frag) (tu:TS) (Y:Addr) (i:Nat) (D:Gz):St -> XK -> Prop:=fun σ1 E=>∀ cls H',E cls none H' -> ∃ C,cls = .ref C /\ PySem.W.subIn K (.ref C) (.ref Y) = some true /\ ∀ a,H' a = some (.ext (Fu a (.ref C))) ->
 tu { nx:=fun σ' H4=>D.nx (σ'.set i none) H4,rt:=fun _ _=>False } (σ1.set i (some (.ref a))) H'
def ph (K:PySem.W.Frag) (tb:(St -> XK -> Prop) -> TS) (tu:TS) (Y:Addr) (i:Nat):TS:=fun D σ H=>tb (rg K tu Y i D) D σ H
end
section
variable {X:Cx}
def rq (i j:Int):Prop:=0 <= j /\ ((intBits i:Nat):Int) + j <= 2 ^ 27
end
theorem Sa {K : PySem.W.Frag} {a : Addr} {xs : List V} {fr : List Nat} {tt : TT} {te : TE} {σ : St} {D : Addr} {H1 : Hp} {Q : Hp -> Prop} (Pv : Nat -> List V -> Hp -> Prop) (h0 : Pv 0 [] (upd H1 D (.lst [])))
  (hl:∀ i ys H,i <= xs.length -> Pv i ys H -> B9 K H a xs)
  (hs:∀ i x ys H,xs[i]? = some x -> Pv i ys H -> tt (some x :: D6 fr σ) H fun b H4 =>
   if b = true then te (some x :: D6 fr σ) H4 fun v H5=>H5 D = some (.lst ys) /\ ys.length < sizeLine /\ Pv (i + 1) (ys ++ [v]) (upd H5 D (.lst (ys ++ [v]))) else Pv (i + 1) ys H4)
  (mt:∀ σ H Q Q',(∀ b H',Q b H' -> Q' b H') -> tt σ H Q -> tt σ H Q') (me:∀ σ H Q Q',(∀ v H',Q v H' -> Q' v H') -> te σ H Q -> te σ H Q')
  (hd:∀ ys H,Pv xs.length ys H -> Q H):Dw 1 fr (bd K a) (Ft 0) tt te σ D H1 Q:=by
 refine ⟨fun i m ys H=>m = xs.length - i /\ i <= xs.length /\ Pv i ys H,⟨xs.length,by simp,Nat.zero_le _,h0⟩,?_⟩
 rintro i m ys H' ⟨rfl,hi,p⟩
 have q1:=hl i ys H' hi p
 by_cases hlt:i < xs.length
 ·refine .inr ⟨⟨xs,xs[i],q1,by simp [hlt]⟩,fun x H2 y=>?_⟩
  obtain ⟨e,y⟩ := y
  subst e
  refine ⟨⟨[some x],rfl,rfl⟩,?_⟩
  refine mt _ _ _ _ ?_ (hs i x ys _ (y xs q1) p)
  intro b H4 q
  cases b with
  | false=>exact ⟨xs.length - (i + 1),by omega,rfl,hlt,q⟩
  | true=>exact me _ _ _ _ (fun v H5 ⟨r1,r2,r3⟩=>⟨r1,r2,xs.length - (i + 1),by omega,rfl,hlt,r3⟩) q
 ·have e:i = xs.length:=by omega
  subst e
  exact .inl ⟨⟨xs,q1,Nat.le_refl _⟩,hd ys H' p⟩
section
variable {prog:Program} {w:World} {A:Around} {E:Value -> Shared -> Prop} {s:Shared} {l:Addr} {xs:Array (Int × Tok)}
end
section
variable {X:Cx}
end
section
variable {X:Cx}
theorem P7 (K:PySem.W.Frag) (hK:X.K = K:=by rfl):jx X (ik K):=by
 subst hK
 exact fw
def j6 (K:PySem.W.Frag):R2:=fun x y H Q=>∃ a b xs ys,x = .ref a /\ y = .ref b /\ H a = some (.tup xs) /\ H b = some (.tup ys) /\ xs.length + ys.length <= sizeLine /\
 ∀ p H',A7 H H' -> H' p = some (.tup (xs ++ ys)) -> Q (.ref p) H'
theorem Zx (K:PySem.W.Frag) (hK:X.K = K:=by rfl):Hn X (binaryOp .Add) (j6 K):=by
 subst hK
 intro pins s σ H x y v u Q I rx ry h
 obtain ⟨a,b,xs,ys,rfl,rfl,ha,hb,hz,q⟩ := h
 by_cases hx:xs = []
 ·subst hx
  cases rx
  cases ry
  obtain ⟨its,r1,p1,_⟩ := I.tuple (Br.of ha)
  obtain ⟨its2,r2,p2,_⟩ := I.tuple (Br.of hb)
  cases r1
  obtain ⟨⟨c1,d1,t1,l1⟩,ho,hc,n,hd⟩ := p1
  obtain ⟨⟨c2,d2,t2,l2⟩,ho2,hc2,n2,hd2⟩ := p2
  simp only at hc hd hc2 hd2
  subst hc hd hc2 hd2
  exact concat_meets ⟨_,ho,rfl⟩ ⟨_,ho2,rfl⟩ noFill_tuple_add seq_tuple_add PySem.F.slot_tuple_add PySem.F.entry_tuple_add (PySem.F.args_tuple_add_2 _ _) (tuple_addW0 a b _ _ n n2 d1 d2 l1 l2 rfl) ⟨ho,ho2,.ref b,H,I,rfl,q b H (A7.refl H) hb⟩
 ·refine Uu pins s σ H _ _ v u Q I rx ry ⟨a,b,xs,ys,rfl,rfl,Br.of ha,Br.of hb,hx,hz,fun e=>?_,fun _ p hp=>q p _ (A7.upd hp) A5⟩
  subst e
  exact q a H (A7.refl H) (by rw [List.append_nil]; exact ha)
end
structure sr (K:PySem.W.Frag) (C:Addr):Prop where
 makes:PySem.W.makesIn K C = true
 init:PySem.W.findIn K (.ref C) "__init__" = some (some (.builtin "object.__init__"))
 kp:PySem.W.keepIn K (.ref C) = true
def m7 (C:Addr):TE:=fun σ H Q=>∀ x dx,H x = none -> H dx = none -> dx ≠ x -> Q (.ref x) (upd (upd H dx (.own x)) x (.ins C dx []))
section
variable {X:Cx} {C:Addr} {x:Str} {p pos:Pos}
end
section
variable {K:PySem.W.Frag} {x C:Addr}
theorem Nx:∀ (as:List Addr) (us:List Value),B7 (as.map V.ref) us -> us = as.map Value.ref
 | [],us,r=>by
  cases r
  rfl
 | a :: as,us,r=>by
  cases r with
  | cons h t =>
   cases (show _ = Value.ref a from h)
   rw [Nx as _ t]
   rfl
end
section
variable {X:Cx}
def qe (K:PySem.W.Frag):List V -> Hp -> VK -> Prop:=fun xs H Q=>∃ (a C tp:Addr) (as:List Addr) (b:Bool),xs = [.ref a,.ref tp] /\ H a = some (.ext (Fu a (.ref C))) /\ H tp = some (.tup (as.map V.ref)) /\ jy K C /\ ny K C /\
 PySem.W.kitAny K (.ref C) (as.map Value.ref) = some b /\ Q (.bl b) H
end
section
variable {X:Cx}
def lw (K:PySem.W.Frag):V -> List V -> Hp -> VK -> Prop:=fun x vs H Q=>∃ (l:Addr) (ns:List Int) (y:Int) (j:Nat),x = .ref l /\ vs = [.int y] /\ Br K H l (ns.map V.int) /\ ns[j]? = some y /\ (∀ m,m < j -> ns[m]? ≠ some y) /\ Q (.int (j:Nat)) H
end
section
variable {X:Cx}
end
section
variable {X:Cx} {tg:Expr}
def qr (ta:TA):TI:=fun σ H R=>ta σ H fun vs H1=>∃ i j:Int,vs = [.int i,.int j,.int (-1)] /\ (-(2 ^ 60) <= i /\ i < 2 ^ 60 /\ -(2 ^ 60) <= j /\ j < 2 ^ 60) /\ R (pe i (-1) (i - j).toNat) H1
end
section
variable {κ:Type} [DecidableEq κ]
def Ai (kvs:List (κ × V)) (k:κ):Option V:=(kvs.find? fun kv=>decide (kv.1 = k)).map (·.2)
def Bm (kvs:List (κ × V)) (k:κ) (v:V):List (κ × V) :=
 if (kvs.any fun kv=>decide (kv.1 = k)) = true then kvs.map (fun kv=>if kv.1 = k then (kv.1,v) else kv) else kvs ++ [(k,v)]
def C4 (kvs:List (κ × V)) (k:κ):List (κ × V):=kvs.filter fun kv=>decide (kv.1 ≠ k)
theorem Cb {p:κ × V} {r:List (κ × V)} {k:κ} (e:p.1 = k):Ai (p :: r) k = some p.2:=by simp [Ai,List.find?_cons,e]
theorem Ca {p:κ × V} {r:List (κ × V)} {k:κ} (e:¬ p.1 = k):Ai (p :: r) k = Ai r k:=by simp [Ai,List.find?_cons,e]
theorem Dz (k:κ):∀ kvs:List (κ × V),(kvs.any fun kv=>decide (kv.1 = k)) = (Ai kvs k).isSome
 | []=>rfl
 | p :: r=>by
  rw [List.any_cons]
  by_cases e:p.1 = k
  ·simp only [Cb e,decide_eq_true e,Bool.true_or,Option.isSome_some]
  ·rw [Ca e,decide_eq_false e,Bool.false_or]; exact Dz k r
theorem Ra (k j:κ) (y:V):∀ kvs:List (κ × V),Ai (kvs.map fun kv=>if kv.1 = k then (kv.1,y) else kv) j = (Ai kvs j).map fun x=>if j = k then y else x
 | []=>rfl
 | p :: r=>by
  have ih:=Ra k j y r
  rw [List.map_cons]
  by_cases h:p.1 = k
  ·rw [if_pos h]
   by_cases e:p.1 = j
   ·rw [Cb (p:=(p.1,y)) e,Cb e,Option.map_some,if_pos (e.symm.trans h)]
   ·rw [Ca (p:=(p.1,y)) e,Ca e,ih]
  ·rw [if_neg h]
   by_cases e:p.1 = j
   ·rw [Cb (p:=p) e,Cb e,Option.map_some,if_neg (fun z=>h (e.trans z))]
   ·rw [Ca (p:=p) e,Ca e,ih]
theorem Mw (k j:κ) (y:V):∀ kvs:List (κ × V),Ai kvs k = none -> Ai (kvs ++ [(k,y)]) j = if j = k then some y else Ai kvs j
 | [],_=>by
  by_cases e:k = j
  ·rw [if_pos e.symm]; exact Cb (p:=(k,y)) e
  ·rw [if_neg (fun z=>e z.symm)]; exact Ca (p:=(k,y)) e
 | p :: r,hn=>by
  rw [List.cons_append]
  have hk:¬ p.1 = k:=fun z=>by rw [Cb z] at hn; cases hn
  rw [Ca hk] at hn
  have ih:=Mw k j y r hn
  by_cases e:p.1 = j
  ·rw [Cb e,Cb e,if_neg (fun z=>hk (e.trans z))]
  ·rw [Ca e,Ca e,ih]
theorem Gg (kvs:List (κ × V)) (k j:κ) (y:V):Ai (Bm kvs k y) j = if j = k then some y else Ai kvs j:=by
 unfold Bm
 by_cases a:(kvs.any fun kv=>decide (kv.1 = k)) = true
 ·rw [if_pos a,Ra]
  rw [Dz] at a
  by_cases e:j = k
  ·obtain ⟨x,hx⟩ := Option.isSome_iff_exists.mp a
   rw [if_pos e,e,hx,Option.map_some,if_pos rfl]
  ·rw [if_neg e]
   cases Ai kvs j with
   | none=>rfl
   | some x=>rw [Option.map_some,if_neg e]
 ·rw [if_neg a]
  refine Mw k j y kvs ?_
  rw [Dz] at a
  cases q:Ai kvs k with
  | none=>rfl
  | some x=>rw [q] at a; exact (a rfl).elim
theorem De (kvs:List (κ × V)) (k:κ) (v:V):(Bm kvs k v).length <= kvs.length + 1:=by
 unfold Bm
 split
 ·rw [List.length_map]; omega
 ·rw [List.length_append,List.length_cons,List.length_nil]; omega
theorem D9 {kvs:List (κ × V)} {k:κ} (v:V) (h:Ai kvs k = none):Bm kvs k v = kvs ++ [(k,v)]:=by
 unfold Bm
 rw [Dz,h]
 exact if_neg (by decide)
theorem Hu.isSome_eq {o:Option V} {u:Option Value} (r:Hu o u):o.isSome = u.isSome:=by
 cases o with
 | none=>cases u with
  | none=>rfl
  | some _=>exact (show False from r).elim
 | some _=>cases u with
  | none=>exact (show False from r).elim
  | some _=>rfl
theorem Hu.getD {o:Option V} {u:Option Value} {d:V} {d':Value} (r:Hu o u) (rd:B6 d d'):B6 (o.getD d) (u.getD d'):=by
 cases o with
 | none=>cases u with
  | none=>exact rd
  | some _=>exact (show False from r).elim
 | some _=>cases u with
  | none=>exact (show False from r).elim
  | some _=>exact r
theorem KV.val {kvs:List (κ × V)} {vs:List (κ × Value)} (r:KV kvs vs) (k:κ):Hu (Ai kvs k) (valueAt vs k):=by
 unfold KV at r
 induction r with
 | nil=>exact True.intro
 | @cons p q ps qs h t ih =>
  obtain ⟨h1,h2⟩ := h
  by_cases e:p.1 = k
  ·have e':q.1 = k:=h1.symm.trans e
   have b:valueAt (q :: qs) k = some q.2:=by simp [valueAt,List.find?_cons,e']
   rw [Cb e,b]; exact h2
  ·have e':¬ q.1 = k:=fun z=>e (h1.trans z)
   have b:valueAt (q :: qs) k = valueAt qs k:=by simp [valueAt,List.find?_cons,e']
   rw [Ca e,b]; exact ih
theorem KV.any {kvs:List (κ × V)} {vs:List (κ × Value)} (r:KV kvs vs) (k:κ):(kvs.any fun kv=>decide (kv.1 = k)) = vs.any fun kv=>decide (kv.1 = k):=by
 unfold KV at r
 induction r with
 | nil=>rfl
 | cons h t ih=>rw [List.any_cons,List.any_cons,ih,h.1]
theorem KV.repl {kvs : List (κ × V)} {vs : List (κ × Value)} (r : KV kvs vs) (k : κ) {y : V} {u : Value} (ry : B6 y u) :
  KV (kvs.map fun kv=>if kv.1 = k then (kv.1,y) else kv) (vs.map fun kv=>if kv.1 = k then (kv.1,u) else kv):=by
 unfold KV at r ⊢
 induction r with
 | nil=>exact .nil
 | @cons p q ps qs h t ih =>
  rw [List.map_cons,List.map_cons]
  refine .cons ?_ ih
  obtain ⟨h1,h2⟩ := h
  by_cases e:p.1 = k
  ·rw [if_pos e,if_pos (h1.symm.trans e)]; exact ⟨h1,ry⟩
  ·rw [if_neg e,if_neg (fun z=>e (h1.trans z))]; exact ⟨h1,h2⟩
theorem KV.put {kvs:List (κ × V)} {vs:List (κ × Value)} (r:KV kvs vs) (k:κ) {y:V} {u:Value} (ry:B6 y u):KV (Bm kvs k y) (stored vs k u):=by
 unfold Bm stored
 rw [r.any k]
 by_cases e:(vs.any fun kv=>decide (kv.1 = k)) = true
 ·rw [if_pos e,if_pos e]; exact r.repl k ry
 ·rw [if_neg e,if_neg e]; exact Paired.snoc r ⟨rfl,ry⟩
theorem KV.drop {kvs:List (κ × V)} {vs:List (κ × Value)} (r:KV kvs vs) (k:κ):KV (C4 kvs k) (without vs k):=by
 unfold KV at r ⊢
 unfold C4 without
 induction r with
 | nil=>exact .nil
 | @cons p q ps qs h t ih =>
  obtain ⟨h1,h2⟩ := h
  rw [List.filter_cons,List.filter_cons]
  by_cases e:p.1 = k
  ·have a:¬ decide (p.1 ≠ k) = true:=by simp [e]
   have b:¬ decide (q.1 ≠ k) = true:=by simp [h1.symm.trans e]
   rw [if_neg a,if_neg b]; exact ih
  ·have e':¬ q.1 = k:=fun z=>e (h1.trans z)
   have a:decide (p.1 ≠ k) = true:=by simp [e]
   have b:decide (q.1 ≠ k) = true:=by simp [e']
   rw [if_pos a,if_pos b]; exact .cons ⟨h1,h2⟩ ih
theorem KV.keys {kvs:List (κ × V)} {vs:List (κ × Value)} (r:KV kvs vs):kvs.map (·.1) = vs.map (·.1):=by
 unfold KV at r
 induction r with
 | nil=>rfl
 | cons h t ih=>rw [List.map_cons,List.map_cons,ih,h.1]
theorem KV.length {kvs:List (κ × V)} {vs:List (κ × Value)} (r:KV kvs vs):kvs.length = vs.length:=Paired.length r
theorem Qj (kvs:List (κ × V)) (k:κ):(C4 kvs k).length <= kvs.length:=List.length_filter_le _ _
end
theorem Ni {P:Program} {w:World} {k:Dv} {u:Value} (r:B6 (kV k) u):(Dj P w).is k u = true:=by
 cases k with
 | inl i=>obtain ⟨t,e⟩ := (show ∃ t,u = Value.int i t from r); subst e; exact Rf P w i t
 | inr x=>obtain ⟨t,e⟩ := (show ∃ t,u = Value.str x t from r); subst e; exact Q3 P w x t
abbrev KT (H:Hp):List ((List Int × Int) × V) -> List ((List Int × Int) × Addr × Value) -> Prop:=Paired fun p q=>p.1 = q.1 /\ E5 H q.2.1 p.1 /\ B6 p.2 q.2.2
theorem KT.val {H:Hp} {kvs:List ((List Int × Int) × V)} {xs:List ((List Int × Int) × Addr × Value)} (r:KT H kvs xs) (k:(List Int × Int)):Hu (Ai kvs k) ((atKey xs k).map (·.2)):=by
 induction r with
 | nil=>exact True.intro
 | @cons p q ps qs h t ih =>
  obtain ⟨h1,_,h2⟩ := h
  by_cases e:p.1 = k
  ·have e':q.1 = k:=h1.symm.trans e
   have b:atKey (q :: qs) k = some q.2:=by simp [atKey,List.find?_cons,e']
   rw [Cb e,b]; exact h2
  ·have e':¬ q.1 = k:=fun z=>e (h1.trans z)
   have b:atKey (q :: qs) k = atKey qs k:=by simp [atKey,List.find?_cons,e']
   rw [Ca e,b]; exact ih
theorem KT.repl {H : Hp} {kvs : List ((List Int × Int) × V)} {xs : List ((List Int × Int) × Addr × Value)} (r : KT H kvs xs) (k : (List Int × Int)) {y : V} {u : Value} (ry : B6 y u) :
  KT H (kvs.map fun kv=>if kv.1 = k then (kv.1,y) else kv) (xs.map (putAt k u)):=by
 induction r with
 | nil=>exact .nil
 | @cons p q ps qs h t ih =>
  rw [List.map_cons,List.map_cons]
  refine .cons ?_ ih
  obtain ⟨h1,h2,h3⟩ := h
  unfold putAt
  by_cases e:p.1 = k
  ·rw [if_pos e,if_pos (h1.symm.trans e)]; exact ⟨h1,h2,ry⟩
  ·rw [if_neg e,if_neg (fun z=>e (h1.trans z))]; exact ⟨h1,h2,h3⟩
theorem KT.put {H : Hp} {kvs : List ((List Int × Int) × V)} {xs : List ((List Int × Int) × Addr × Value)} (r : KT H kvs xs) (k : (List Int × Int)) {b : Addr} {y : V} {u : Value} (hb : E5 H b k) (ry : B6 y u) :
  KT H (Bm kvs k y) (storedH xs k b u):=by
 have e:(kvs.any fun kv=>decide (kv.1 = k)) = (atKey xs k).isSome:=by
  rw [Dz,(r.val k).isSome_eq,Option.isSome_map]
 unfold Bm storedH
 rw [e]
 by_cases q:(atKey xs k).isSome = true
 ·rw [if_pos q,if_pos q]; exact r.repl k ry
 ·rw [if_neg q,if_neg q]; exact Paired.snoc r ⟨rfl,hb,ry⟩
theorem KT.keeps {H H':Hp} {kvs:List ((List Int × Int) × V)} {xs:List ((List Int × Int) × Addr × Value)} (r:KT H kvs xs) (ht:∀ b ys,H b = some (.tup ys) -> H' b = some (.tup ys)):KT H' kvs xs :=
 Paired.mapP r fun _ _ z=>⟨z.1,z.2.1.up ht,z.2.2⟩
section
variable {P:Program} {w:World} {H:Hp} {h:Heap} {a:Addr}
theorem aw {u:HO} (ok:Fx P w H h) (e:Rd H a u):Bw P w H h a u:=e.ok ok
theorem Js {kvs:List (Dv × V)} (ok:Fx P w H h) (e:Rd H a (.dK kvs)):kvs.length <= sizeLine /\ (a == sysModules) = false /\ ∃ vs,KV kvs vs /\ h.DictOf (Dj P w) a vs :=
 show Bw P w H h a (.dK kvs) from aw ok e
theorem ah {kvs:List (Dv × V)} (ok:Fx P w H h) (e:H a = some (.dK kvs)):kvs.length <= sizeLine /\ (a == sysModules) = false /\ ∃ vs,KV kvs vs /\ h.DictOf (Dj P w) a vs:=Js ok (.inl e)
theorem Qc {P:Program} {w:World}:∀ {ks:List Int} {us:List Value},B7 (ks.map V.int) us -> ItemsAre (intKind P w) ks us
 | [],us,r=>by
  cases r
  exact .nil
 | k :: ks,us,r=>by
  cases r with
  | cons h t =>
   obtain ⟨tk,rfl⟩ := h
   exact .cons (by simp [intKind,Value.isInt]) (Qc t)
theorem Dd {P:Program} {w:World} {A:Around} (hu:A.units + 20 < cLine):(Ce P w).room A.in1:=by
 first | (show A.units + 1 + 8 < cLine; omega) | (show A.units + 8 < cLine; omega)
theorem Gh {ks:List Int × Int} (ok:Fx P w H h) (e:E5 H a ks):(Ce P w).is h ks a:=by
 obtain ⟨u,e1,e2⟩ := e
 obtain ⟨_,its,r,o,h1,h2,n,h3⟩ := (show Bw P w H h a (.tup [.ref u,.int ks.2]) from ok a _ e1)
 obtain ⟨_,its2,r2,o2,g1,g2,m,g3⟩ := (show Bw P w H h u (.tup (ks.1.map V.int)) from ok u _ e2)
 cases r with
 | cons r1 rr =>
  cases rr with
  | cons r3 rr =>
   cases rr
   cases (show _ = Value.ref u from r1)
   obtain ⟨t,rfl⟩ := r3
   exact ⟨o,n,u,t,h1,h2,h3,o2,its2.toArray,m,g1,g2,g3,by simpa using Qc r2⟩
theorem Kz {kvs : List ((List Int × Int) × V)} (ok : Fx P w H h) (e : Rd H a (.dT kvs)) : kvs.length <= sizeLine /\ (a == sysModules) = false /\
  ∃ xs,KT H kvs xs /\ h.DictOfH (Ce P w) a xs:=by
 obtain ⟨z,y,xs,r,o,es,ep,h1,h2,h3,h4,h5⟩ := (show Bw P w H h a (.dT kvs) from aw ok e)
 refine ⟨z,y,xs,r,o,es,ep,h1,h2,h3,h4,fun x hx=>?_,h5⟩
 have all:∀ {l:List ((List Int × Int) × V)} {m:List ((List Int × Int) × Addr × Value)},KT H l m -> ∀ x ∈ m,(Ce P w).is h x.1 x.2.1:=by
  intro l m q
  induction q with
  | nil=>intro x hx; exact nomatch hx
  | @cons p q ps qs hq t ih =>
   intro x hx
   rcases List.mem_cons.mp hx with e | hx
   ·subst e
    exact Gh ok (by rw [<- hq.1]; exact hq.2.1)
   ·exact ih x hx
 exact all r x hx
theorem X7 {kvs : List ((List Int × Int) × V)} (ok : Fx P w H h) (e : H a = some (.dT kvs)) : kvs.length <= sizeLine /\ (a == sysModules) = false /\
  ∃ xs,KT H kvs xs /\ h.DictOfH (Ce P w) a xs:=Kz ok (.inl e)
end
def D8 (H:Hp) (a:Addr) (y:V) (r:Option V):Prop :=
 (∃ kvs k,Rd H a (.dK kvs) /\ y = kV k /\ r = Ai kvs k) \/ ∃ kvs k b,Rd H a (.dT kvs) /\ y = .ref b /\ E5 H b k /\ r = Ai kvs k
def Ky (H:Hp) (a:Addr) (y v:V) (H':Hp):Prop :=
 (∃ kvs k,H a = some (.dK kvs) /\ y = kV k /\ kvs.length < sizeLine /\ H' = upd H a (.dK (Bm kvs k v))) \/
 ∃ kvs k b,H a = some (.dT kvs) /\ y = .ref b /\ E5 H b k /\ kvs.length < sizeLine /\ H' = upd H a (.dT (Bm kvs k v))
theorem D8.k {H:Hp} {a:Addr} {kvs:List (Dv × V)} {k:Dv} (e:H a = some (.dK kvs)):D8 H a (kV k) (Ai kvs k) := .inl ⟨kvs,k,.inl e,rfl,rfl⟩
theorem D8.t {H:Hp} {a b:Addr} {kvs:List ((List Int × Int) × V)} {k:(List Int × Int)} (e:H a = some (.dT kvs)) (eb:E5 H b k):D8 H a (.ref b) (Ai kvs k) := .inr ⟨kvs,k,b,.inl e,rfl,eb,rfl⟩
theorem Ky.k {H:Hp} {a:Addr} {kvs:List (Dv × V)} {k:Dv} {v:V} (e:H a = some (.dK kvs)) (hl:kvs.length < sizeLine):Ky H a (kV k) v (upd H a (.dK (Bm kvs k v))) := .inl ⟨kvs,k,e,rfl,hl,rfl⟩
theorem Ky.t {H : Hp} {a b : Addr} {kvs : List ((List Int × Int) × V)} {k : (List Int × Int)} {v : V} (e : H a = some (.dT kvs)) (eb : E5 H b k) (hl : kvs.length < sizeLine) :
  Ky H a (.ref b) v (upd H a (.dT (Bm kvs k v))) := .inr ⟨kvs,k,b,e,rfl,eb,hl,rfl⟩
section
variable {X:Cx} {pins:List (Addr × Obj)} {σ:St} {H:Hp} {s:Shared} {a:Addr} {y v:V} {u r:Value} {o:Option V} {A:Around} {E:Value -> Shared -> Prop}
theorem Am.big (I:Am X pins σ H s):sysModules < s.heap.objs.size:=by
 have h:mainGlobals < s.heap.objs.size:=(I.mod.glob.keeps I.bk).lt
 exact Nat.lt_trans (by decide) h
theorem V3 {Q : Value -> Shared -> Prop} (hu : A.units + 20 < cLine) (I : Am X pins σ H s) (g : D8 H a y (some v)) (ry : B6 y u) (h : ∀ w' s', Am X pins σ H s' -> B6 v w' -> Q w' s') :
  wpAny (model X.prog X.w) A (getItem (.ref a) u) Q E s:=by
 rcases g with ⟨kvs,k,e,ey,l⟩ | ⟨kvs,k,b,e,ey,eb,l⟩
 ·subst ey
  obtain ⟨z,hd,vs,rel,dd⟩ := Js I.hok e
  obtain ⟨w',hw,rw'⟩ := Hu.some_of (v:=v) (o:=valueAt vs k) (by rw [l]; exact rel.val k)
  exact wpAny_getItem_of (Ni ry) dd.mapOf hw (h w' _ (I.tok _) rw')
 ·subst ey
  cases (show u = Value.ref b from ry)
  obtain ⟨z,hd,xs,rel,dd⟩ := Kz I.hok e
  obtain ⟨w',hw,rw'⟩ := Hu.some_of (v:=v) (o:=(atKey xs k).map (·.2)) (by rw [l]; exact rel.val k)
  obtain ⟨p,hp,hp2⟩ := Option.map_eq_some_iff.mp hw
  refine wpAny_getItem_heap (Dd hu) (Gh I.hok eb) dd hp ?_
  rw [hp2]
  exact h w' _ (I.tok _) rw'
theorem mz {Q : Value -> Shared -> Prop} (hu : A.units + 20 < cLine) (I : Am X pins σ H s) (g : D8 H a y o) (ry : B6 y u) (h : ∀ s', Am X pins σ H s' -> Q (.bool o.isSome) s') :
  wpAny (model X.prog X.w) A (compareOp .In u (.ref a)) Q E s:=by
 rcases g with ⟨kvs,k,e,ey,l⟩ | ⟨kvs,k,b,e,ey,eb,l⟩
 ·subst ey
  obtain ⟨z,hd,vs,rel,dd⟩ := Js I.hok e
  refine wpAny_in_of (Ni ry) hd dd.mapOf ?_
  rw [<- (rel.val k).isSome_eq,<- l]
  exact h _ (I.tok _)
 ·subst ey
  cases (show u = Value.ref b from ry)
  obtain ⟨z,hd,xs,rel,dd⟩ := Kz I.hok e
  refine wpAny_in_heap (Dd hu) (Gh I.hok eb) hd dd ?_
  have q:=(rel.val k).isSome_eq
  rw [Option.isSome_map] at q
  rw [<- q,<- l]
  exact h _ (I.tok _)
theorem Yt {Q : Value -> Shared -> Prop} (hu : A.units + 20 < cLine) (I : Am X pins σ H s) (g : D8 H a y o) (ry : B6 y u) (h : ∀ s', Am X pins σ H s' -> Q (.bool (!o.isSome)) s') :
  wpAny (model X.prog X.w) A (compareOp .NotIn u (.ref a)) Q E s:=by
 rcases g with ⟨kvs,k,e,ey,l⟩ | ⟨kvs,k,b,e,ey,eb,l⟩
 ·subst ey
  obtain ⟨z,hd,vs,rel,dd⟩ := Js I.hok e
  refine wpAny_notIn_of (Ni ry) hd dd.mapOf ?_
  rw [<- (rel.val k).isSome_eq,<- l]
  exact h _ (I.tok _)
 ·subst ey
  cases (show u = Value.ref b from ry)
  obtain ⟨z,hd,xs,rel,dd⟩ := Kz I.hok e
  refine wpAny_notIn_heap (Dd hu) (Gh I.hok eb) hd dd ?_
  have q:=(rel.val k).isSome_eq
  rw [Option.isSome_map] at q
  rw [<- q,<- l]
  exact h _ (I.tok _)
theorem K3 {h' : Heap} {t' : Nat} {ob : HO} (I : Am X pins σ H s) (mu : ie (H a)) (hs : Heap.SameBut a s.heap h') (he : ∃ q, h'.get? a = some q) (new : Bw X.prog X.w (upd H a ob) h' a ob) :
  Am X pins σ (upd H a ob) { s with heap:=h',toks:=t' } :=
 I.write (x:=a) (e:=a) mu (.inl rfl) (fun b q hb z=>(hs.2 b hb).trans z) he new
theorem Xz {P : Program} {w : World} {H' : Hp} {h' : Heap} {kvs : List (Dv × V)} {vs : List (Dv × Value)} (z : kvs.length <= sizeLine) (hd : (a == sysModules) = false) (rel : KV kvs vs) (dd : h'.DictOf (Dj P w) a vs) :
  Bw P w H' h' a (.dK kvs):=⟨z,hd,vs,rel,dd⟩
theorem W8 {H' : Hp} {Q : Unit -> Shared -> Prop} (hu : A.units + 20 < cLine) (I : Am X pins σ H s) (g : Ky H a y v H') (ry : B6 y u) (rv : B6 v r) (h : ∀ s', Am X pins σ H' s' -> Q () s') :
  wpAny (model X.prog X.w) A (setItem (.ref a) u r) Q E s:=by
 rcases g with ⟨kvs,k,e,ey,l,eH⟩ | ⟨kvs,k,b,e,ey,eb,l,eH⟩
 ·subst ey eH
  obtain ⟨z,hd,vs,rel,dd⟩ := ah I.hok e
  have hz:vs.length <= sizeLine:=by rw [<- rel.length]; exact z
  have hl:(Bm kvs k v).length <= sizeLine:=by have:=De kvs k v; omega
  refine wpAny_setItem_pairs (hsz:=hz) (Ni ry) dd fun h' dd' hs=>h _ ?_
  have he:∃ q,h'.get? a = some q:=let ⟨q,_,_,hq,_⟩ := dd'; ⟨q,hq⟩
  exact K3 I (by rw [e]; exact True.intro) hs he (Xz hl hd (rel.put k rv) dd')
 ·subst ey eH
  cases (show u = Value.ref b from ry)
  obtain ⟨z,hd,xs,rel,dd⟩ := X7 I.hok e
  have hz:xs.length <= sizeLine:=by rw [<- Paired.length rel]; exact z
  have hl:(Bm kvs k v).length <= sizeLine:=by have:=De kvs k v; omega
  refine wpAny_setItem_heap (hsz:=hz) (Dd hu) (Gh I.hok eb) dd fun h' dd' hs=>h _ ?_
  obtain ⟨q,es,ep,hq,h2,h3,h4,_,h5⟩ := dd'
  refine K3 I (by rw [e]; exact True.intro) hs ⟨q,hq⟩ ⟨hl,hd,_,(rel.put k eb rv).keeps fun c ys ec=>?_,q,es,ep,hq,h2,h3,h4,h5⟩
  rw [Ac (Bz ec e (fun z=>nomatch z))]
  exact ec
end
section
variable {X:Cx} {pins:List (Addr × Obj)} {σ:St} {H:Hp} {s:Shared} {a:Addr} {kvs:List (Dv × V)} {k:Dv} {u:Value} {A:Around} {E:Value -> Shared -> Prop}
theorem ij {v : V} {more : List Value} {Q : Value -> Shared -> Prop} (I : Am X pins σ H s) (e : H a = some (.dK kvs)) (ry : B6 (kV k) u) (l : Ai kvs k = some v) (hm : more = [] \/ ∃ x, more = [x])
  (h:∀ w' s',Am X pins σ (upd H a (.dK (C4 kvs k))) s' -> B6 v w' -> Q w' s'):wpAny (model X.prog X.w) A (call (.builtin "dict.pop") (.ref a :: u :: more)) Q E s:=by
 obtain ⟨z,hd,vs,rel,dd⟩ := ah I.hok e
 obtain ⟨w',hw,rw'⟩ := Hu.some_of (v:=v) (o:=valueAt vs k) (by rw [<- l]; exact rel.val k)
 have hp:(keyPart u).isSome = true:=by
  cases k with
  | inl i=>obtain ⟨t,q⟩ := (show ∃ t,u = Value.int i t from ry); subst q; rfl
  | inr x=>obtain ⟨t,q⟩ := (show ∃ t,u = Value.str x t from ry); subst q; rfl
 have ha:argsOk "dict.pop" ⟨.ref a :: u :: more,[]⟩ := by
  rcases hm with q | ⟨x,q⟩
  ·subst q; exact PySem.F.args_dict_pop_2 _ _
  ·subst q; exact PySem.F.args_dict_pop_3 _ _ _
 refine call_meetsIn PySem.F.slot_dict_pop dd.typeIs PySem.F.entry_dict_pop ha (meets_dict_pop_there (Dj X.prog X.w) a (Ni ry) more hm hp)
  ⟨vs,w',dd,by rw [<- rel.length]; exact z,hw,fun h' dd' hs=>h w' _ ?_ rw'⟩
 have he:∃ q,h'.get? a = some q:=let ⟨q,_,_,hq,_⟩ := dd'; ⟨q,hq⟩
 exact K3 I (by rw [e]; exact True.intro) hs he (Xz (Nat.le_trans (Qj kvs k) z) hd (rel.drop k) dd')
end
def kg (i:Expr):Prop := ∀ ov iv,subscripted i false ov iv = operate [ov,iv] (getItem ov iv)
theorem Zr {prog : Program} {w : World} {A : Around} {E : Value -> Shared -> Prop} {s : Shared} {env : Env} {value slice : Expr} {pos : Pos} {T id : String} {Q : Value -> Shared -> Prop}
  (hl:typeLookup (.type T) "__getitem__" = pure (some (.builtin id))) (hs:kg slice)
  (h:wpAny (model prog w) A (eval value env) (fun o s₁=>wpAny (model prog w) A (eval slice env) (fun i s₂=>s₂.TypeIs o T /\ wpAny (model prog w) A (getItem o i) Q E s₂) E s₁) E s) :
  wpAny (model prog w) A (eval (.Subscript value slice pos) env) Q E s:=by
 refine Subscript_ (wpAny_mono h (fun o s₁ h₁=>wpAny_mono h₁ (fun i s₂ h₂=>?_) fun _ _ x=>x) fun _ _ x=>x)
 obtain ⟨hT,h₂⟩ := h₂
 unfold subscriptTail
 refine wpAny_bind ?_
 rw [getitemInPython_of_ne hT.not_modules]
 refine wpAny_bind (wpAny_specialOf hT hl ?_)
 have fin:wpAny (model prog w) A (subscripted slice false o i) (fun r s₃=>wpAny (model prog w) A (letTemporaryGo value o r >>= fun _=>pure r) Q E s₃) E s₂:=by
  rw [hs o i]
  exact wpAny_operating (wpAny_mono h₂ (fun r s₃ h₃=>wpAny_bind (wpAny_letTemporaryGo (wpAny_pure h₃))) fun _ _ x=>x)
 first
  | exact wpAny_pure (wpAny_bind fin)
  | exact wpAny_bind (wpAny_pure (wpAny_bind fin))
  | exact wpAny_bind fin
theorem Qp {X:Cx} {pins:List (Addr × Obj)} {σ:St} {H:Hp} {s:Shared} {a:Addr} {y:V} {o:Option V} (I:Am X pins σ H s) (g:D8 H a y o):s.TypeIs (.ref a) "dict" := by
 rcases g with ⟨kvs,k,e,_,_⟩ | ⟨kvs,k,b,e,_,_,_⟩
 ·obtain ⟨_,_,vs,_,dd⟩ := Js I.hok e
  exact dd.typeIs
 ·obtain ⟨_,_,xs,_,dd⟩ := Kz I.hok e
  exact dd.typeIs
def jc (td ty:TE):TE:=fun σ H Q=>td σ H fun x H1=>ty σ H1 fun y H2=>∃ a v,x = .ref a /\ D8 H2 a y (some v) /\ Q v H2
def ml (ty td:TE):TE:=fun σ H Q=>ty σ H fun y H1=>td σ H1 fun x H2=>∃ a o,x = .ref a /\ D8 H2 a y o /\ Q (.bl o.isSome) H2
def Ze (ty td:TE):TE:=fun σ H Q=>ty σ H fun y H1=>td σ H1 fun x H2=>∃ a o,x = .ref a /\ D8 H2 a y o /\ Q (.bl (!o.isSome)) H2
def jp (td ty tv:TE):TS:=fun D σ H=>tv σ H fun v H1=>td σ H1 fun x H2=>ty σ H2 fun y H3=>∃ a H4,x = .ref a /\ Ky H3 a y v H4 /\ D.nx σ H4
def qi (td ty tv:TE) (rd:V -> V -> Hp -> VK -> Prop):TS:=fun D σ H=>td σ H fun x H1=>ty σ H1 fun y H2=>∃ a v,x = .ref a /\ D8 H2 a y (some v) /\
 tv σ H2 fun y2 H3=>rd v y2 H3 fun z H4=>∃ H5,Ky H4 a y z H5 /\ D.nx σ H5
def pq (td ty:TE):TS:=fun D σ H=>td σ H fun x H1=>ty σ H1 fun y H2=>∃ a kvs k,x = .ref a /\ H2 a = some (.dK kvs) /\ y = kV k /\ (Ai kvs k).isSome = true /\ D.nx σ (upd H2 a (.dK (C4 kvs k)))
section
variable {X:Cx} {o i e value:Expr} {pos pos' tpos:Pos} {td ty tv:TE}
theorem Et (hu:X.A.units + 20 < cLine) (ho:PE X o td) (hi:PE X i ty) (hs:kg i):PE X (.Subscript o i pos) (jc td ty):=by
 intro pins s σ H Q I h
 refine Zr PySem.F.slot_dict_getitem.lookup hs (Cf (ho pins s σ H _ I h) fun u s1 ⟨x,H1,I1,rx,q1⟩=>Cf (hi pins s1 σ H1 _ I1 q1) fun iv s2 hz0=>?_)
 obtain ⟨y,H2,I2,ry,a,v,ex,g,q2⟩ := hz0
 subst ex
 obtain rfl:u = Value.ref a:=rx
 exact ⟨Qp I2 g,V3 hu I2 g ry fun w' s3 I3 rw'=>⟨v,H2,I3,rw',q2⟩⟩
theorem Yg (hu:X.A.units + 20 < cLine) (hi:PE X i ty) (ho:PE X o td):PC X .In i o (ml ty td):=by
 intro pins s σ H Q I h
 refine Cf (hi pins s σ H _ I h) fun iv s1 ⟨y,H1,I1,ry,q1⟩=>Cf (ho pins s1 σ H1 _ I1 q1) fun u s2 hz0=>?_
 obtain ⟨x,H2,I2,rx,a,ov,ex,g,q2⟩ := hz0
 subst ex
 obtain rfl:u = Value.ref a:=rx
 exact mz hu I2 g ry fun s3 I3=>⟨.bl ov.isSome,H2,I3,rfl,q2⟩
theorem F6 (hu:X.A.units + 20 < cLine) (hi:PE X i ty) (ho:PE X o td):PC X .NotIn i o (Ze ty td):=by
 intro pins s σ H Q I h
 refine Cf (hi pins s σ H _ I h) fun iv s1 ⟨y,H1,I1,ry,q1⟩=>Cf (ho pins s1 σ H1 _ I1 q1) fun u s2 hz0=>?_
 obtain ⟨x,H2,I2,rx,a,ov,ex,g,q2⟩ := hz0
 subst ex
 obtain rfl:u = Value.ref a:=rx
 exact Yt hu I2 g ry fun s3 I3=>⟨.bl (!ov.isSome),H2,I3,rfl,q2⟩
theorem I9 (hu : X.A.units + 20 < cLine) (ho : PE X o td) (hi : PE X i ty) (hv : PE X value tv) (hs : swapsWith value (some (.Subscript o i pos')) pos.line X.env = pure false) :
  PS X (.Assign [.Subscript o i pos'] value pos) (jp td ty tv):=by
 intro pins s σ H D I h
 refine wpAny_Assign_Subscript (Cf (hv pins s σ H _ I h) fun r s1 ⟨v,H1,I1,rv,q1⟩=>Cf (ho pins s1 σ H1 _ I1 q1) fun u s2 ⟨x,H2,I2,rx,q2⟩=>Cf (hi pins s2 σ H2 _ I2 q2) fun iv s3 ⟨y,H3,I3,ry,a,H4,ex,g,q3⟩=>?_) hs
 subst ex
 obtain rfl:u = Value.ref a:=rx
 exact W8 hu I3 g ry rv fun s4 I4=>⟨σ,H4,I4,q3⟩
end
theorem Wx {P:Program} {w:World} {H:Hp} (h:Heap) (hb:sysModules < h.objs.size):Bw P w H (h.push { cls := .type "dict",data := .dict #[] }) h.objs.size (.dK []) :=
 ⟨Nat.zero_le _,beq_eq_false_iff_ne.mpr (Ne.symm (Nat.ne_of_lt hb)),[],.nil,Heap.DictOf.new h⟩
theorem Wr {P:Program} {w:World} {H:Hp} (h:Heap) (hb:sysModules < h.objs.size):Bw P w H (h.push { cls := .type "dict",data := .dict #[] }) h.objs.size (.dT []) :=
 ⟨Nat.zero_le _,beq_eq_false_iff_ne.mpr (Ne.symm (Nat.ne_of_lt hb)),[],.nil,_,#[],0,Heap.get?_push_size _ rfl,⟨rfl,rfl,rfl⟩,rfl,rfl,List.nodup_nil⟩
def ft:TE:=fun _ H Q=>∀ p,H p = none -> Q (.ref p) (upd H p (.dK []))
def dw:TE:=fun _ H Q=>∀ p,H p = none -> Q (.ref p) (upd H p (.dT []))
section
variable {X:Cx} {pos:Pos}
theorem Wj:PE X (.Dict [] [] pos) ft:=fun pins s σ H Q I h =>
 wpAny_Dict_empty ⟨.ref s.heap.objs.size,_,I.laid (a:=s.heap.objs.size) (o := .dK []) (t':=s.toks) (fun _ _ q=>Heap.get?_push_of_some _ q) (Nat.le_refl _) (Wx s.heap I.big),rfl,h _ (I.hok.fresh (Nat.le_refl _))⟩
theorem Ga:PE X (.Dict [] [] pos) dw:=fun pins s σ H Q I h =>
 wpAny_Dict_empty ⟨.ref s.heap.objs.size,_,I.laid (a:=s.heap.objs.size) (o := .dT []) (t':=s.toks) (fun _ _ q=>Heap.get?_push_of_some _ q) (Nat.le_refl _) (Wr s.heap I.big),rfl,h _ (I.hok.fresh (Nat.le_refl _))⟩
end
def Pd:List (TE × TE) -> St -> Hp -> (List (V × V) -> Hp -> Prop) -> Prop
 | [],_,H,Q=>Q [] H
 | (tk,tv) :: r,σ,H,Q=>tk σ H fun x H1=>tv σ H1 fun y H2=>Pd r σ H2 fun ps H3=>Q ((x,y) :: ps) H3
abbrev VV:List (V × V) -> List (Value × Value) -> Prop:=Paired fun p q=>B6 p.1 q.1 /\ B6 p.2 q.2
def sk (X:Cx) (pos:Pos) (keys:List (Option Expr)) (values:List Expr) (trs:List (TE × TE)):Prop :=
 ∀ (pins:List (Addr × Obj)) (s:Shared) (σ:St) (H:Hp) (Q:List (V × V) -> Hp -> Prop),Am X pins σ H s -> Pd trs σ H Q ->
  wpAny (model X.prog X.w) X.A (evalPairs (pairTrees keys values X.env pos)) (fun vs s'=>∃ ps H',Am X pins σ H' s' /\ VV ps vs /\ Q ps H') X.xe s
def cg (kvs more:List (Dv × V)):List (Dv × V):=more.foldl (fun acc kv=>Bm acc kv.1 kv.2) kvs
def pj (trs:List (TE × TE)):TE:=fun σ H Q=>∀ p,H p = none -> Pd trs σ (upd H p (.dK [])) fun ps H2=>H2 p = some (.dK []) /\ ∃ kvs:List (Dv × V),ps = kvs.map (fun kv=>(kV kv.1,kv.2)) /\ kvs.length <= 15 /\ Q (.ref p) (upd H2 p (.dK (cg [] kvs)))
structure M1 (X:Cx) (o:Expr) (m:Str) (apos:Pos) (e:Expr) (cpos:Pos):Prop where
 base:attributeBase o m X.env (eval o X.env) = eval o X.env
 few:((backTo cpos (starEach [e] X.env)).all (fun x=>!x.1) && (backToKw cpos (keywordEach [] X.env)).all (fun x=>x.1.isSome)
  && decide (([e]:List Expr).length + ([]:List Keyword).length + (if ([]:List Keyword).isEmpty then 0 else 1) < 30)) = true
 line:(apos.endLine == cpos.line) = true
 trees:backTo cpos (starEach [e] X.env) = [(false,eval e X.env)]
structure M2 (X:Cx) (o:Expr) (m:Str) (apos:Pos) (e f:Expr) (cpos:Pos):Prop where
 base:attributeBase o m X.env (eval o X.env) = eval o X.env
 few:((backTo cpos (starEach [e,f] X.env)).all (fun x=>!x.1) && (backToKw cpos (keywordEach [] X.env)).all (fun x=>x.1.isSome)
  && decide (([e,f]:List Expr).length + ([]:List Keyword).length + (if ([]:List Keyword).isEmpty then 0 else 1) < 30)) = true
 line:(apos.endLine == cpos.line) = true
 trees:backTo cpos (starEach [e,f] X.env) = [(false,eval e X.env),(false,eval f X.env)]
def i8 (H:Hp) (a:Addr):Prop:=(∃ kvs,Rd H a (.dK kvs)) \/ ∃ kvs,Rd H a (.dT kvs)
theorem Tu {X : Cx} {pins : List (Addr × Obj)} {σ : St} {H : Hp} {s : Shared} {a : Addr} (I : Am X pins σ H s) (d : i8 H a) :
  s.TypeIs (.ref a) "dict" /\ (∀ b,Value.ref a = .ref b -> ∃ ob,s.heap.get? b = some ob /\ ob.dict = none) /\ (a == sysModules) = false:=by
 rcases d with ⟨kvs,e⟩ | ⟨kvs,e⟩
 ·obtain ⟨_,hd,vs,_,dd⟩ := Js I.hok e
  refine ⟨dd.typeIs,fun b q=>?_,hd⟩
  cases q
  obtain ⟨ob,_,_,h1,h2,_⟩ := dd
  exact ⟨ob,h1,h2.2.1⟩
 ·obtain ⟨_,hd,xs,_,dd⟩ := Kz I.hok e
  refine ⟨dd.typeIs,fun b q=>?_,hd⟩
  cases q
  obtain ⟨ob,_,_,h1,h2,_⟩ := dd
  exact ⟨ob,h1,h2.2.1⟩
section
variable {X:Cx} {pins:List (Addr × Obj)} {σ:St} {H:Hp} {s:Shared} {a:Addr} {y d:V} {u r:Value} {o:Option V} {A:Around} {E:Value -> Shared -> Prop}
theorem ef {Q : Value -> Shared -> Prop} (hu : A.units + 20 < cLine) (I : Am X pins σ H s) (g : D8 H a y o) (ry : B6 y u) (rd : B6 d r) (h : ∀ w' s', Am X pins σ H s' -> B6 (o.getD d) w' -> Q w' s') :
  wpAny (model X.prog X.w) A (call (.builtin "dict.get") [.ref a,u,r]) Q E s:=by
 rcases g with ⟨kvs,k,e,ey,l⟩ | ⟨kvs,k,b,e,ey,eb,l⟩
 ·subst ey
  obtain ⟨z,hd,vs,rel,dd⟩ := Js I.hok e
  refine call_meetsIn PySem.F.slot_dict_get dd.typeIs PySem.F.entry_dict_get (PySem.F.args_dict_get_3 _ _ _) (meets_dict_get_default (Dj X.prog X.w) a (Ni ry) hd r) ⟨_,dd.mapOf,h _ _ (I.tok _) ?_⟩
  rw [l]
  exact (rel.val k).getD rd
 ·subst ey
  cases (show u = Value.ref b from ry)
  obtain ⟨z,hd,xs,rel,dd⟩ := Kz I.hok e
  refine call_meetsIn PySem.F.slot_dict_get dd.typeIs PySem.F.entry_dict_get (PySem.F.args_dict_get_3 _ _ _) (meetsH_dict_get_default (Ce X.prog X.w) a b hd r) ⟨Dd hu,k,xs,Gh I.hok eb,dd,h _ _ (I.tok _) ?_⟩
  rw [l]
  exact (rel.val k).getD rd
end
def nn (td ty:TE):TE:=fun σ H Q=>td σ H fun x H1=>∃ a,x = .ref a /\ i8 H1 a /\ ty σ H1 fun y H2=>∃ o,D8 H2 a y o /\ Q (o.getD .non) H2
def dh (td ty tx:TE):TE:=fun σ H Q=>td σ H fun x H1=>∃ a,x = .ref a /\ i8 H1 a /\ ty σ H1 fun y H2=>tx σ H2 fun z H3=>∃ o,D8 H3 a y o /\ Q (o.getD z) H3
def eh (td ty:TE):TE:=fun σ H Q=>td σ H fun x H1=>∃ a,x = .ref a /\ i8 H1 a /\ ty σ H1 fun y H2=>∃ kvs k v,H2 a = some (.dK kvs) /\ y = kV k /\ Ai kvs k = some v /\ Q v (upd H2 a (.dK (C4 kvs k)))
def oj (td ty tx:TE):TE:=fun σ H Q=>td σ H fun x H1=>∃ a,x = .ref a /\ i8 H1 a /\ ty σ H1 fun y H2=>tx σ H2 fun z H3=>∃ kvs k,H3 a = some (.dK kvs) /\ y = kV k /\
 (∀ v,Ai kvs k = some v -> Q v (upd H3 a (.dK (C4 kvs k)))) /\ (Ai kvs k = none -> Q z H3)
section
variable {X:Cx} {o e f:Expr} {apos cpos:Pos} {td ty tx:TE}
theorem Qo (hu:X.A.units + 20 < cLine) (ho:PE X o td) (he:PE X e ty) (hf:PE X f tx) (m:M2 X o "get" apos e f cpos):PE X (.Call (.Attribute o "get" apos) [e,f] [] cpos) (dh td ty tx):=by
 intro pins s σ H Q I h
 refine wpAny_Call_method m.base m.few m.line PySem.F.plainAttrs_dict PySem.F.slot_dict_get PySem.F.type_dict_get (Cf (ho pins s σ H _ I h) fun u s1 hz0=>?_)
 obtain ⟨x,H1,I1,rx,a,ex,d,q1⟩ := hz0
 subst ex
 obtain rfl:u = Value.ref a:=rx
 obtain ⟨t1,t2,_⟩ := Tu I1 d
 refine ⟨t1,t2,?_⟩
 rw [m.trees]
 refine Calls.callWith_builtin rfl (Calls.evalArgs_plain (Calls.spliced_cons (Cf (he pins s1 σ H1 _ I1 q1) fun iv s2 ⟨y,H2,I2,ry,q2⟩ =>
  Calls.spliced_cons (Cf (hf pins s2 σ H2 _ I2 q2) fun fv s3 ⟨z,H3,I3,rz,ov,g,q3⟩=>Calls.spliced_nil ?_))))
 exact ef hu I3 g ry rz fun w' s4 I4 rw'=>⟨_,H3,I4,rw',q3⟩
theorem Yp (ho:PE X o td) (he:PE X e ty) (m:M1 X o "pop" apos e cpos):PE X (.Call (.Attribute o "pop" apos) [e] [] cpos) (eh td ty):=by
 intro pins s σ H Q I h
 refine wpAny_Call_method m.base m.few m.line PySem.F.plainAttrs_dict PySem.F.slot_dict_pop PySem.F.type_dict_pop (Cf (ho pins s σ H _ I h) fun u s1 hz0=>?_)
 obtain ⟨x,H1,I1,rx,a,ex,d,q1⟩ := hz0
 subst ex
 obtain rfl:u = Value.ref a:=rx
 obtain ⟨t1,t2,_⟩ := Tu I1 d
 refine ⟨t1,t2,?_⟩
 rw [m.trees]
 refine Calls.callWith_builtin rfl (Calls.evalArgs_plain (Calls.spliced_cons (Cf (he pins s1 σ H1 _ I1 q1) fun iv s2 ⟨y,H2,I2,ry,kvs,k,v,ea,ey,l,q2⟩=>Calls.spliced_nil ?_)))
 subst ey
 exact ij I2 ea ry l (.inl rfl) fun w' s3 I3 rw'=>⟨v,_,I3,rw',q2⟩
end
section
variable {X:Cx} {pins:List (Addr × Obj)} {σ:St} {H:Hp} {s:Shared} {a:Addr} {kvs:List (Dv × V)} {A:Around} {E:Value -> Shared -> Prop}
end
section
variable {X:Cx} {pins:List (Addr × Obj)} {σ:St} {H:Hp} {s:Shared} {a:Addr} {y:V} {u:Value} {A:Around} {E:Value -> Shared -> Prop}
end
section
variable {κ:Type} [DecidableEq κ]
theorem Lm {kvs:List (κ × V)} {k:κ} (h:Ai kvs k = none):¬ k ∈ kvs.map (·.1):=by
 intro m
 obtain ⟨p,hp,e⟩ := List.mem_map.mp m
 have q:(kvs.any fun kv=>decide (kv.1 = k)) = true:=List.any_eq_true.mpr ⟨p,hp,decide_eq_true e⟩
 rw [Dz,h] at q
 exact absurd q (by simp)
theorem Z2 {kvs:List (κ × V)} {k:κ} {v:V} (h:Ai kvs k = some v):k ∈ kvs.map (·.1):=by
 have q:(kvs.any fun kv=>decide (kv.1 = k)) = true:=by
  rw [Dz,h]
  all_goals rfl
 obtain ⟨p,hp,e⟩ := List.any_eq_true.mp q
 exact List.mem_map.mpr ⟨p,hp,of_decide_eq_true e⟩
theorem Tv:∀ {l:List κ} {k:κ},l.Nodup -> ¬ k ∈ l -> (l ++ [k]).Nodup
 | [],k,_,_=>by simp
 | a :: r,k,h,hk=>by
  obtain ⟨h1,h2⟩ := List.nodup_cons.mp h
  show (a :: (r ++ [k])).Nodup
  refine List.nodup_cons.mpr ⟨fun m=>?_,Tv h2 fun m=>hk (List.mem_cons.mpr (Or.inr m))⟩
  rcases List.mem_append.mp m with q | q
  ·exact h1 q
  ·exact hk (List.mem_cons.mpr (Or.inl (List.mem_singleton.mp q).symm))
theorem Zg {kvs:List (κ × V)} {k:κ} (v:V) (hn:(kvs.map (·.1)).Nodup) (h:Ai kvs k = none):((Bm kvs k v).map (·.1)).Nodup:=by
 rw [D9 v h,List.map_append]
 exact Tv hn (Lm h)
theorem Vr {p:κ × V} {r:List (κ × V)} {k:κ} (e:p.1 = k):C4 (p :: r) k = C4 r k:=by
 unfold C4
 rw [List.filter_cons,if_neg (by simp [e])]
end
section
variable {P:Program} {w:World} {A:Around} {E:Value -> Shared -> Prop} {s:Shared}
theorem Yh {it d : Addr} {i n ep : Nat} {ok ov key val : Value} {Q : Value -> Shared -> Prop} (hit : IsItemIter s.heap it d i n ep ok ov)
  (hQ:∀ h',IsItemIterOut h' it d i n ep key val s.heap.objs.size -> h'.get? s.heap.objs.size = some { cls := .type "tuple",data := .seq #[key,val] } -> (∀ b o,b ≠ it -> s.heap.get? b = some o -> h'.get? b = some o) -> Q (.ref s.heap.objs.size) { s with heap:=h' }) :
  wpAny (model P w) A (Builtin.Dict_items.pairFromOwner (.ref it) 6 key val) Q E s:=by
 unfold Builtin.Dict_items.pairFromOwner; refine wpAny_bind (wpAny_newTuple ?_)
 have hlt:it < s.heap.objs.size:=Heap.lt_size hit
 have a1:IsItemIter (s.heap.push { cls := .type "tuple",data := .seq #[key,val] }) it d i n ep ok ov:=Heap.get?_push_of_some _ hit
 have a2:(s.heap.push { cls := .type "tuple",data := .seq #[key,val] }).get? s.heap.objs.size = some { cls := .type "tuple",data := .seq #[key,val] }:=Heap.get?_push_size _ rfl
 have a3:∀ b o,s.heap.get? b = some o -> (s.heap.push { cls := .type "tuple",data := .seq #[key,val] }).get? b = some o:=fun b o z=>Heap.get?_push_of_some _ z
 show wpAny (model P w) A (Builtin.Dict_items.ownedTupleIsFree (.ref it) >>= _) Q E { s with heap:=s.heap.push { cls := .type "tuple",data := .seq #[key,val] } }
 generalize s.heap.push { cls := .type "tuple",data := .seq #[key,val] } = h1 at a1 a2 a3 ⊢
 unfold Builtin.Dict_items.ownedTupleIsFree; refine wpAny_bind (wpAny_bind (wpAny_field a1 rfl (x := .none) rfl (wpAny_pure ?_))); simp only [if_true]
 refine wpAny_bind (wpAny_field a1 rfl (x:=ok) rfl (wpAny_bind (wpAny_field a1 rfl (x:=ov) rfl ?_)))
 refine wpAny_bind (wpAny_setField_rec a1 (by simp) fun h2 b2 c2=>wpAny_bind ?_)
 have b2':IsItemIter h2 it d i n ep key ov:=b2
 refine wpAny_setField_rec b2' (by simp) fun h3 b3 c3=>wpAny_bind ?_
 have b3':IsItemIter h3 it d i n ep key val:=b3
 refine wpAny_setField_rec b3' (by simp) fun h4 b4 c4=>wpAny_bind ?_
 have b4':IsItemIterOut h4 it d i n ep key val s.heap.objs.size:=b4
 refine wpAny_setField_rec b4' (by simp) fun h5 b5 c5=>wpAny_bind (wpAny_letGo (wpAny_pure ?_))
 have up:∀ b o,b ≠ it -> h1.get? b = some o -> h5.get? b = some o:=fun b o hb z=>c5.extBut b o hb (c4.extBut b o hb (c3.extBut b o hb (c2.extBut b o hb z)))
 exact hQ h5 b5 (up _ _ (Nat.ne_of_gt hlt) a2) fun b o hb z=>up b o hb (a3 b o z)
theorem X9 {it d : Addr} {i ep : Nat} {es : Array DictEntry} {ok ov : Value} {o : Obj} {Q : Option Value -> Shared -> Prop} (hit : IsItemIter s.heap it d i es.size ep ok ov) (hod : s.heap.get? d = some o) (hdd : o.data = .dict es ep)
  {en:DictEntry} (he:es[i]? = some en)
  (hQ:∀ h',IsItemIterOut h' it d (i + 1) es.size ep en.key en.val s.heap.objs.size -> h'.get? s.heap.objs.size = some { cls := .type "tuple",data := .seq #[en.key,en.val] } -> (∀ b o,b ≠ it -> s.heap.get? b = some o -> h'.get? b = some o) -> Q (some (.ref s.heap.objs.size)) { s with heap:=h' }) :
  wpAny (model P w) A (pyNext (.ref it)) Q E s:=by
 have hT:s.TypeIs (.ref it) "dict_itemiterator" := ⟨_,hit,rfl⟩
 have own:Builtin.Dict_items.ownsTuple "dict_itemiterator" = true:=by decide
 unfold pyNext; refine wpAny_bind (wpAny_attempt (wpAny_callSpecial?_slot (name:=Str.ofString "__next__") hT F.slot_dict_itemiterator_next (wpAny_call_entry F.slot_dict_itemiterator_next hT F.entry_dict_itemiterator_next ?_ (F.args_dict_itemiterator_next_1 _))))
 refine wpAny_bind (wpAny_pure (wpAny_bind (wpAny_bind (wpAny_bind (wpAny_typeNameOfWhole_itemiter hT (wpAny_pure (wpAny_bind (wpAny_fieldsOf hit rfl ?_))))))))
 simp only [own,if_true]; show wpAny _ _ (if (Value.ref d == Value.none) = true then _ else _) _ _ s
 rw [if_neg (show ¬ (Value.ref d == Value.none) = true from Bool.false_ne_true)]; refine wpAny_bind (wpAny_pure (wpAny_bind (wpAny_dictEntries hod hdd ?_)))
 rw [if_neg (show ¬ ((es.size:Int) != (es.size:Int)) = true by simp)]; refine wpAny_bind (wpAny_pure (wpAny_bind (wpAny_dictEpoch hod hdd ?_)))
 rw [if_neg (show ¬ ((ep:Int) != (ep:Int)) = true by simp)]; refine wpAny_pure ?_
 simp only [show ¬ ((i:Int) < 0) by omega,if_false,Int.toNat_natCast,he]
 refine wpAny_bind (wpAny_bind (wpAny_typeNameOfWhole_itemiter hT (wpAny_pure (wpAny_bind (wpAny_isOneOf_itemiter hT ?_)))))
 show wpAny _ _ (setField (.ref it) 3 (rawInt ((i:Int) + 1)) >>= _) _ _ s; refine wpAny_bind (wpAny_setField_rec hit (by simp) fun h1 b1 c1=>?_)
 have b1':IsItemIter h1 it d (i + 1) es.size ep ok ov:=by
  have e:((i + 1:Nat):Int) = (i:Int) + 1:=by omega
  unfold IsItemIter; rw [e]; simpa [rawInt] using b1
 have hT1:Shared.TypeIs { s with heap:=h1 } (.ref it) "dict_itemiterator" := ⟨_,b1',rfl⟩
 refine wpAny_bind (wpAny_holding (wpAny_bind (wpAny_isOneOf_itemiter hT1 (wpAny_bind (wpAny_isOneOf_itemiter hT1 ?_)))))
 have z1:h1.objs.size = s.heap.objs.size:=c1.1
 refine Yh (s:={ s with heap:=h1 }) b1' fun h2 e1 e2 e3=>?_
 rw [show (Shared.heap { s with heap:=h1 }).objs.size = s.heap.objs.size from z1] at e1 e2 ⊢
 exact wpAny_pure ⟨_,rfl,wpAny_pure (hQ h2 e1 e2 fun b o hb z=>e3 b o hb (c1.extBut b o hb z))⟩
end
section
variable {X:Cx}
def qp (K:PySem.W.Frag):V -> List V -> Hp -> VK -> Prop:=fun x xs H Q=>∃ (sep:Str) (a:Addr) (zs:List Str),x = .str sep /\ xs = [.ref a] /\ B9 K H a (zs.map V.str) /\ zs.length <= 500 /\ (∀ z ∈ zs,z.length <= 30000) /\ sep.length <= 500 /\ Q (.str (Txt.join sep zs)) H
def qf (K:PySem.W.Frag):List V -> Hp -> VK -> Prop:=fun xs H Q=>∃ (a C dx:Addr) (fs:List (Str × V)) (c:Value) (v:V),xs = [.ref a,v] /\ H a = some (.ins C dx fs) /\ (∀ u,B6 v u -> u = c) /\ PySem.W.kitOne K (.ref C) c = some true /\ Q (.bl true) H
def ql (K:PySem.W.Frag):R2:=fun x y H Q=>∃ a b xs ys,x = .ref a /\ y = .ref b /\ B9 K H a xs /\ B9 K H b ys /\ xs.length + ys.length <= sizeLine /\ ∀ p,H p = none -> Q (.ref p) (upd H p (.lst (xs ++ ys)))
end
theorem Up:entryFor table "dict.update.loop" = some Builtin.«dict.update.loop» := entryFor_of_tree (by kernel_rfl)
theorem Oj:plainId "dict.update.loop" = true:=by decide +kernel
section
variable {P:Program} {w:World} {A:Around} {R:Result -> Shared -> Prop} {K:Type} [DecidableEq K] {knd:HeapKind P w K}
def Gi (ps:Nat -> K × Addr × Value) (xs:List (K × Addr × Value)) (i k:Nat):List (K × Addr × Value):=(List.range' i k).foldl (fun xs j=>storedH xs (ps j).1 (ps j).2.1 (ps j).2.2) xs
theorem Pt {xs:List (K × Addr × Value)} {k:K} {a:Addr} {v:Value}:(storedH xs k a v).length <= xs.length + 1:=by
 cases h:atKey xs k with
 | none =>
  rw [storedH_new h,List.length_append]
  exact Nat.le_refl _
 | some p =>
  unfold storedH
  simp [h]
theorem bh {l I d : Addr} {items : Array Value} {ps : Nat -> K × Addr × Value} {h0 : Heap} (no : A.in1.handled = none) (hu : knd.room A.in1) (hlI : l ≠ I) (hdI : d ≠ I) (hdl : d ≠ l)
  (hit:∀ j v,items[j]? = some v -> ∃ t o n,v = .ref t /\ t ≠ I /\ t ≠ d /\ h0.get? t = some o /\ o.cls = .type "tuple" /\ o.data = .seq #[.ref (ps j).2.1,(ps j).2.2] n)
  (hks:∀ j,j < items.size -> ∀ h:Heap,(∀ b o,b ≠ I -> b ≠ d -> h0.get? b = some o -> h.get? b = some o) -> knd.is h (ps j).1 (ps j).2.1) (hxs:∀ (h h':Heap) (j:Nat) xs,h.IsListIter I l j -> h.DictOfH knd d xs -> (∀ b o,b ≠ I -> h.get? b = some o -> h'.get? b = some o) -> h'.DictOfH knd d xs) :
  ∀ (k i:Nat) (s:Shared) (xs:List (K × Addr × Value)) (tk:Tok),items.size = i + k -> (s.heap.IsListIter I l i /\ s.heap.IsList l items) -> s.heap.DictOfH knd d xs -> (∀ b o,b ≠ I -> b ≠ d -> h0.get? b = some o -> s.heap.get? b = some o) -> xs.length + k <= sizeLine ->
   (∀ h' tk',h'.DictOfH knd d (Gi ps xs i k) -> (∀ b o,b ≠ I -> b ≠ d -> s.heap.get? b = some o -> h'.get? b = some o) -> R (.ok (.ret .none)) { s with heap:=h',toks:=tk' }) ->
   codeAny (model P w) A (.builtin "dict.update.loop" ⟨[.ref d,.ref I,.int i tk,.none],[]⟩) R s:=by
 have W:=Walks.list (prog:=P) (w:=w) (A:=A.in1) no I l hlI items
 intro k
 induction k with
 | zero =>
  intro i s xs tk hk hst hm hf hz hR
  refine codeAny_builtin Up ?_
  rw [Around.under_plainId Oj _]
  show wpAny (model P w) A.in1 (pyNext (.ref I) >>= _) _ _ s
  have ei:i = items.size:=by omega
  refine wpAny_bind (W.done s _ _ (ei ▸ hst) fun h1 tk1 k1=>?_)
  show wpAny (model P w) A.in1 (Builtin.Dict.addKeywords d [] >>= _) _ _ _
  refine wpAny_bind ?_
  unfold Builtin.Dict.addKeywords
  refine wpAny_pure (wpAny_pure ?_)
  have k1':∀ b o,b ≠ I -> s.heap.get? b = some o -> h1.get? b = some o:=fun b o hb e=>k1 b o (by simpa using hb) e
  exact hR h1 tk1 (hxs _ _ _ _ hst.1 hm k1') fun b o hb _ e=>k1' b o hb e
 | succ k ih =>
  intro i s xs tk hk hst hm hf hz hR
  refine codeAny_builtin Up ?_
  rw [Around.under_plainId Oj _]
  show wpAny (model P w) A.in1 (pyNext (.ref I) >>= _) _ _ s
  refine wpAny_bind (W.item i s _ _ (by omega) hst fun v h1 tk1 hP st1 k1=>?_)
  have k1':∀ b o,b ≠ I -> s.heap.get? b = some o -> h1.get? b = some o:=fun b o hb e=>k1 b o (by simpa using hb) e
  obtain ⟨t,o,n,rfl,htI,htd,ht,hc,hd⟩ := hit i _ hP
  have ht1:=k1' _ _ htI (hf _ _ htI htd ht)
  have hm1:=hxs _ _ _ _ hst.1 hm k1'
  have hf1:∀ b o,b ≠ I -> b ≠ d -> h0.get? b = some o -> h1.get? b = some o:=fun b o hb hb' e=>k1' b o hb (hf b o hb hb' e)
  refine wpAny_bind ?_
  refine wpAny_holding ?_
  refine wpAny_bind (wpAny_tryCatch ?_)
  unfold Builtin.Dict.pairItems
  refine wpAny_bind (wpAny_typeOf (T := "tuple") (s:={ s with heap:=h1,toks:=tk1 }) ⟨o,ht1,hc⟩ ?_)
  rw [if_pos (by decide)]
  refine wpAny_bind (wpAny_seqItems (s:={ s with heap:=h1,toks:=tk1 }) ht1 hd ?_)
  refine wpAny_pure ?_
  show wpAny (model P w) A.in1 (holding [.ref (ps i).2.1,(ps i).2.2] (dictSet d (.ref (ps i).2.1) (ps i).2.2)) _ _ _
  refine wpAny_holding ?_
  refine wpAny_dictSet_heap (s:={ s with heap:=h1,toks:=tk1 }) hu (hks i (by omega) h1 hf1) hm1 (fun h2 hm2 hs2=>?_) (by omega)
  have k2:∀ b o,b ≠ d -> h1.get? b = some o -> h2.get? b = some o:=fun b o hb e=>(hs2.2 b hb).trans e
  refine wpAny_pure ⟨plainId_quiet Oj _,?_⟩
  have hl2:(storedH xs (ps i).1 (ps i).2.1 (ps i).2.2).length <= xs.length + 1:=Pt
  refine ih (i + 1) _ (storedH xs (ps i).1 (ps i).2.1 (ps i).2.2) _ (by omega) ⟨?_,?_⟩ hm2 (fun b o hb hb' e=>k2 b o hb' (hf1 b o hb hb' e)) (by omega) fun h' tk' hm' hk'=>?_
  ·exact st1.1.at fun o e=>k2 _ _ hdI.symm e
  ·exact st1.2.at fun o e=>k2 _ _ hdl.symm e
  ·exact hR h' tk' hm' fun b o hb hb' e=>hk' b o hb hb' (k2 b o hb' (k1' b o hb e))
end
theorem fj:mroOf (.type "dict") = pure [.type "dict",.type "object"]:=by rw [mroOf_type]; kernel_rfl
theorem Vx:typeLookup (.type "dict") "__new__" = pure (some (.builtin "dict.__new__")):=by rw [typeLookup_type,builtinLookup_eq_fast]; kernel_rfl
theorem P4:TypeCalled "dict" "dict.__new__" "dict.__init__" :=
 ⟨by decide +kernel,by decide +kernel,⟨_,_,fj⟩,madeBy_type fj Vx (by decide +kernel),by decide +kernel,by rw [isSubtype_type]; kernel_rfl,PySem.F.slot_dict_init⟩
theorem Kk (a:Value):checkTypeCall "dict" ⟨[a],[]⟩ = pure ():=by kernel_rfl
theorem M7 (a:Value):checkBuiltinCall "dict.__new__" ⟨[.type "dict",a],[]⟩ = pure ():=by kernel_rfl
theorem Jy:entryFor table "dict.__new__" = some Builtin.«dict.__new__» := entryFor_of_tree (by kernel_rfl)
theorem Fv:plainId "dict.__new__" = true:=by decide +kernel
theorem Kr:isSubtype (.type "dict") (.type "dict") = pure true:=by rw [isSubtype_type]; kernel_rfl
theorem Jv (a b:Value):argsOk "dict.__init__" ⟨[a,b],[]⟩ := by
 unfold argsOk
 kernel_rfl
theorem Og:typeLookup (.type "list") (Str.ofString "keys") = pure none:=by rw [typeLookup_type,builtinLookup_eq_fast]; kernel_rfl
section
variable {prog:Program} {w:World} {A:Around} {E:Value -> Shared -> Prop} {s:Shared}
theorem Le (a : Value) {Q₁ : Value -> Shared -> Prop}
  (h:Q₁ (.ref s.heap.objs.size) { s with heap:=s.heap.push { cls := .type "dict",data := .dict #[] } }) :
  codeAny (model prog w) A (.call (.builtin "dict.__new__") ⟨[.type "dict",a],[]⟩) (wants Q₁ E) s:=by
 refine codeAny_of_tree ?_
 show wpAny _ A.in1 (do checkBuiltinCall "dict.__new__" ⟨[.type "dict",a],[]⟩; again (.builtin "dict.__new__" ⟨[.type "dict",a],[]⟩)) _ _ s
 refine wpAny_bind (wpAny_of_eq (M7 a) (wpAny_pure ⟨plainId_quiet Fv _,codeAny_builtin Jy ?_⟩))
 rw [Around.under_plainId Fv _]
 have hsub:=Kr
 have hm:=fj
 obtain ⟨hp,g,d,tk,os⟩ := s
 unfold Builtin.«dict.__new__»
 dsimp only
 wp_walk
 exact h
theorem Zf {l : Addr} {xs : Array Value} {k : Nat} {sl : Array (Option Value)} {Q : Option Value -> Shared -> Prop} (hx : s.heap.get? l = some { cls := .type "list", dict := none, data := .seq xs k, slots := sl })
  (hA:A.handled = none) (h:∀ h' tk,(∀ b o,s.heap.get? b = some o -> h'.get? b = some o) -> Q none { s with heap:=h',toks:=tk }):wpAny (model prog w) A (getAttr? (.ref l) (Str.ofString "keys")) Q E s:=by
 obtain ⟨hp,g,d,tk,os⟩ := s
 have hT:∀ tk',(⟨hp,g,d,tk',os⟩ : Shared).TypeIs (.ref l) "list" := fun _=>⟨_,hx,rfl⟩
 have f3:=PySem.F.slot_list_getattribute.lookup
 have f4:=PySem.F.slot_list_getattribute.bind (.ref l)
 have f5:=am_list_getattr_none
 have f6:=Og
 have f1:=sub_AttributeError
 unfold getAttr? getAttrBy?
 repeat (any_goals (first | assumption | exact hT _ | ((with_reducible show wpAny _ _ (call (Value.builtin "list.__getattribute__") _ _) _ _ _); refine call_meets PySem.F.slot_list_getattribute (hT _) am_entry_list_getattribute (PySem.F.args_list_getattribute_2 _ _) (meets_getattribute_miss_list _ _ _ _ _ _ f6 (by decide)) ⟨hx,hA,fun h' tk' e hx'=>?_⟩) | wp_step))
 obtain ⟨t',u',he⟩ := hx'.there
 show wpAny _ _ (getattributeRaised _ _ _ _ _ _ _) _ _ _
 unfold getattributeRaised
 repeat (any_goals (first | assumption | wp_step))
 exact h h' tk' hx'.keeps
end
section
variable {P:Program} {w:World} {A:Around} {E:Value -> Shared -> Prop} {s:Shared} {R:Result -> Shared -> Prop}
theorem Qt {d l : Addr} {xs : Array Value} {k : Nat} {sl : Array (Option Value)} {Q : PySem.Fin -> Shared -> Prop} (hA : A.handled = none) (hd : s.TypeIs (.ref d) "dict") (hl : s.heap.get? l = some { cls := .type "list", dict := none, data := .seq xs k, slots := sl })
  (h:∀ (h':Heap) (tk:Nat),(∀ b o,s.heap.get? b = some o -> h'.get? b = some o) -> Q (.again (.builtin "dict.update.loop" ⟨[.ref d,.ref h'.objs.size,.int 0 0,.none],[]⟩)) { s with heap:=h'.push { cls := .type "list_iterator",data := .fields #[.ref l,.int 0 0] },toks:=tk }) :
  wpAny (model P w) A (Builtin.«dict.__init__» ⟨[.ref d,.ref l],[]⟩) Q E s:=by
 unfold Builtin.«dict.__init__» Builtin.Dict.selfAndRest
 refine wpAny_bind (wpAny_bind (wpAny_notOrdered_dict hd ?_))
 refine wpAny_bind ?_
 show wpAny _ _ (pure d) _ _ _
 refine wpAny_pure (wpAny_pure ?_)
 show wpAny _ _ (Builtin.Dict.updateFrom "dict.__init__" d (.ref l) [] .none) _ _ _
 unfold Builtin.Dict.updateFrom
 refine wpAny_bind (wpAny_typeOf (T := "list") ⟨_,hl,rfl⟩ ?_)
 rw [if_pos (by decide)]
 refine wpAny_bind (Zf hl hA fun h1 tk1 k1=>?_)
 rw [if_pos (show (none:Option Value).isNone = true from rfl)]
 refine wpAny_bind (wpAny_rule ?_)
 refine wpAny_bind (wpAny_pyIter_list (s:={ s with heap:=h1,toks:=tk1 }) (items:=xs) ⟨_,k1 _ _ hl,rfl,k,rfl⟩ ?_)
 exact wpAny_pure (h h1 tk1 k1)
theorem Tf {K : Type} [DecidableEq K] {knd : HeapKind P w K} {l : Addr} {xs : Array Value} {k : Nat} {sl : Array (Option Value)} {ps : Nat -> K × Addr × Value} {Q : Value -> Shared -> Prop} (hA : A.handled = none) (hu : knd.room A.in1.in1) (hz : xs.size <= sizeLine)
  (hl:s.heap.get? l = some { cls := .type "list",dict:=none,data := .seq xs k,slots:=sl })
  (hit:∀ j v,xs[j]? = some v -> ∃ t o n,v = .ref t /\ s.heap.get? t = some o /\ o.cls = .type "tuple" /\ o.data = .seq #[.ref (ps j).2.1,(ps j).2.2] n)
  (hks:∀ j,j < xs.size -> ∀ h:Heap,(∀ b o,s.heap.get? b = some o -> h.get? b = some o) -> knd.is h (ps j).1 (ps j).2.1)
  (hxs:∀ d I (h h':Heap) (j:Nat) xs,h.IsListIter I l j -> h.DictOfH knd d xs -> (∀ b o,b ≠ I -> h.get? b = some o -> h'.get? b = some o) -> h'.DictOfH knd d xs)
  (hem:∀ (h:Heap) d,h.get? d = some { cls := .type "dict",data := .dict #[] } -> h.DictOfH knd d [])
  (q:∀ h' tk,h'.DictOfH knd s.heap.objs.size (Gi ps [] 0 xs.size) -> (∀ b o,s.heap.get? b = some o -> h'.get? b = some o) -> Q (.ref s.heap.objs.size) { s with heap:=h',toks:=tk }) :
  wpAny (model P w) A (call (.type "dict") [.ref l]) Q E s:=by
 refine callType_codes (Q₁:=fun obj s₁=>obj = .ref s.heap.objs.size /\ s₁ = { s with heap:=s.heap.push { cls := .type "dict",data := .dict #[] } }) P4 (Kk _) PySem.F.entry_dict_init (Le _ ⟨rfl,rfl⟩) fun obj s1 k1=>?_
 obtain ⟨rfl,rfl⟩ := k1
 have hD:(s.heap.push { cls := .type "dict",data := .dict #[] }).get? s.heap.objs.size = some { cls := .type "dict",data := .dict #[] }:=Heap.get?_push_size _ rfl
 refine ⟨⟨_,hD,rfl⟩,Jv _ _,?_⟩
 refine Qt (s:={ s with heap:=s.heap.push { cls := .type "dict",data := .dict #[] } }) hA ⟨_,hD,rfl⟩ (Heap.get?_push_of_some _ hl) fun h1 tk1 k1=>?_
 refine ⟨plainId_quiet Oj _,?_⟩
 have ks:∀ b o,s.heap.get? b = some o -> h1.get? b = some o:=fun b o e=>k1 b o (Heap.get?_push_of_some _ e)
 have hDl:s.heap.objs.size < h1.objs.size:=Heap.lt_size (k1 _ _ hD)
 have hnew:∀ b o,s.heap.get? b = some o -> b ≠ s.heap.objs.size /\ b ≠ h1.objs.size:=fun b o e=>⟨Nat.ne_of_lt (Heap.lt_size e),Nat.ne_of_lt (Heap.lt_size (ks b o e))⟩
 have kp:∀ b o,h1.get? b = some o -> (h1.push { cls := .type "list_iterator",data := .fields #[.ref l,.int 0 0] }).get? b = some o:=fun b o e=>Heap.get?_push_of_some _ e
 have hI:(h1.push { cls := .type "list_iterator",data := .fields #[.ref l,.int 0 0] }).get? h1.objs.size = some { cls := .type "list_iterator",data := .fields #[.ref l,.int 0 0] }:=Heap.get?_push_size _ rfl
 obtain ⟨nl1,nl2⟩ := hnew _ _ hl
 refine bh (knd:=knd) (A:=A.in1) (l:=l) (I:=h1.objs.size) (d:=s.heap.objs.size) (items:=xs) (ps:=ps) (h0:=s.heap) hA hu nl2 (Nat.ne_of_lt hDl) nl1.symm ?_ ?_ (hxs _ _) xs.size 0 _ [] 0 (by omega) ⟨⟨_,hI,rfl,rfl⟩,⟨_,kp _ _ (ks _ _ hl),rfl,k,rfl⟩⟩ (hem _ _ (kp _ _ (k1 _ _ hD))) (fun b o _ _ e=>kp _ _ (ks b o e)) (by simpa using hz) fun h' tk' hm' hk'=>?_
 ·intro j v hv
  obtain ⟨t,o,n,rfl,ht,hc,hd⟩ := hit j v hv
  exact ⟨t,o,n,rfl,(hnew _ _ ht).2,(hnew _ _ ht).1,ht,hc,hd⟩
 ·intro j hj h2 hf
  exact hks j hj h2 fun b o e=>hf b o (hnew _ _ e).2 (hnew _ _ e).1 e
 ·exact ⟨rfl,q h' tk' hm' fun b o e=>hk' b o (hnew _ _ e).2 (hnew _ _ e).1 (kp _ _ (ks b o e))⟩
end
theorem C0.frame {prog:Program} {w:World} {h h':Heap} {k:List Int × Int} {a I l:Addr} {j:Nat} (x:C0 prog w h k a) (hI:h.IsListIter I l j) (hk:∀ b o,b ≠ I -> h.get? b = some o -> h'.get? b = some o):C0 prog w h' k a:=by
 obtain ⟨o,n,u,t,ho,hc,hd,o2,its,n2,ho2,hc2,hd2,hi⟩ := x
 obtain ⟨oi,hoi,hci,_⟩ := hI
 have n1:a ≠ I:=by
  rintro rfl
  rw [hoi] at ho
  cases ho
  rw [hci] at hc
  exact absurd hc (by decide)
 have n2':u ≠ I:=by
  rintro rfl
  rw [hoi] at ho2
  cases ho2
  rw [hci] at hc2
  exact absurd hc2 (by decide)
 exact ⟨o,n,u,t,hk _ _ n1 ho,hc,hd,o2,its,n2,hk _ _ n2' ho2,hc2,hd2,hi⟩
theorem C0.ext {prog:Program} {w:World} {h h':Heap} {k:List Int × Int} {a:Addr} (x:C0 prog w h k a) (hk:∀ b o,h.get? b = some o -> h'.get? b = some o):C0 prog w h' k a:=by
 obtain ⟨o,n,u,t,ho,hc,hd,o2,its,n2,ho2,hc2,hd2,hi⟩ := x
 exact ⟨o,n,u,t,hk _ _ ho,hc,hd,o2,its,n2,hk _ _ ho2,hc2,hd2,hi⟩
theorem Tp {prog:Program} {w:World} {d I l:Addr} {h h':Heap} {j:Nat} {xs:List ((List Int × Int) × Addr × Value)} (hI:h.IsListIter I l j) (hm:h.DictOfH (Ce prog w) d xs) (hk:∀ b o,b ≠ I -> h.get? b = some o -> h'.get? b = some o):h'.DictOfH (Ce prog w) d xs:=by
 obtain ⟨o,es,ep,ho,hc,hd,he,his,hn⟩ := hm
 have n1:d ≠ I:=by
  rintro rfl
  obtain ⟨oi,hoi,hci,hdi⟩ := hI
  rw [hoi] at ho
  cases ho
  rw [hdi] at hd
  exact nomatch hd
 exact ⟨o,es,ep,hk _ _ n1 ho,hc,hd,he,fun x hx=>C0.frame (his x hx) hI hk,hn⟩
def putAll (kvs:List ((List Int × Int) × V)) (ps:List ((List Int × Int) × V)):List ((List Int × Int) × V):=ps.foldl (fun acc p=>Bm acc p.1 p.2) kvs
theorem Ed:∀ (ps kvs:List ((List Int × Int) × V)),(putAll kvs ps).length <= kvs.length + ps.length
 | [],kvs=>Nat.le_refl _
 | p :: ps,kvs=>by
  have h1:=Ed ps (Bm kvs p.1 p.2)
  have h2:=De kvs p.1 p.2
  show (putAll (Bm kvs p.1 p.2) ps).length <= _
  rw [List.length_cons]
  omega
theorem Ye {H : Hp} {ps : List ((List Int × Int) × V)} {f : Nat -> (List Int × Int) × Addr × Value} (hf : ∀ (j : Nat) q, ps[j]? = some q -> (f j).1 = q.1 /\ E5 H (f j).2.1 q.1 /\ B6 q.2 (f j).2.2) :
  ∀ (k i:Nat) (kvs:List ((List Int × Int) × V)) (xs:List ((List Int × Int) × Addr × Value)),i + k = ps.length -> KT H kvs xs -> KT H (putAll kvs (ps.drop i)) (Gi f xs i k)
 | 0,i,kvs,xs,e,r=>by
  rw [List.drop_of_length_le (by omega)]
  exact r
 | k + 1,i,kvs,xs,e,r=>by
  have hi:i < ps.length:=by omega
  obtain ⟨e1,e2,e3⟩ := hf i ps[i] (List.getElem?_eq_getElem hi)
  rw [List.drop_eq_getElem_cons hi]
  show KT H (putAll (Bm kvs ps[i].1 ps[i].2) (ps.drop (i + 1))) (Gi f (storedH xs (f i).1 (f i).2.1 (f i).2.2) (i + 1) k)
  rw [e1]
  exact Ye hf k (i + 1) _ _ (by omega) (r.put _ e2 e3)
section
variable {X:Cx}
def bi (K:PySem.W.Frag):List V -> Hp -> VK -> Prop:=fun xs H Q=>∃ (p:Addr) (us:List V) (ps:List ((List Int × Int) × V)),xs = [.ref p] /\ B9 K H p us /\ us.length = ps.length /\
 (∀ (j:Nat) u q,us[j]? = some u -> ps[j]? = some q -> ∃ t b,u = .ref t /\ H t = some (.tup [.ref b,q.2]) /\ E5 H b q.1) /\ ∀ d,H d = none -> Q (.ref d) (upd H d (.dT (putAll [] ps)))
theorem Rs (K:PySem.W.Frag) (hu:X.A.units + 24 < cLine) (hc:X.calm = true) (hK:X.K = K:=by rfl):Es X (.type "dict") (bi K):=by
 subst hK
 intro pins s σ H xs us0 Q I r h
 obtain ⟨p,us,ps,rfl,hq,hlen,hps,q⟩ := h
 obtain ⟨u0,rfl,ru⟩ := B7.one r
 cases ru
 obtain ⟨its,rv,pl,hz⟩ := I.list hq
 obtain ⟨⟨ocls,od,odata,osl⟩,n,e,hcl,hdict,hdata⟩ := pl
 simp only at hcl hdict hdata
 subst hcl hdict hdata
 have hl2:=B7.length rv
 have ex:∀ j:Nat,∃ x:(List Int × Int) × Addr × Value,∀ q,ps[j]? = some q -> (x.1 = q.1 /\ E5 H x.2.1 q.1 /\ B6 q.2 x.2.2) /\ ∀ v,its[j]? = some v -> ∃ t o n,v = .ref t /\ s.heap.get? t = some o /\ o.cls = .type "tuple" /\ o.data = .seq #[.ref x.2.1,x.2.2] n:=by
  intro j
  cases hj:ps[j]? with
  | none=>exact ⟨(([],0),0,.none),fun q z=>nomatch z⟩
  | some q =>
   have hjl:=(List.getElem?_eq_some_iff.mp hj).1
   have hju:us[j]? = some us[j]:=List.getElem?_eq_getElem (by omega)
   obtain ⟨t,b,eu,ht,hb⟩ := hps j _ q hju hj
   obtain ⟨_,its2,r2,o,h1,h2,m,h3⟩ := I.hok t _ ht
   obtain ⟨v1,v2,rfl,rv1,rv2⟩ := B7.two r2
   cases rv1
   refine ⟨(q.1,b,v2),fun q' z=>?_⟩
   cases z
   refine ⟨⟨rfl,hb,rv2⟩,fun v hv=>?_⟩
   obtain ⟨w',ew,rw'⟩ := rv.get hju
   rw [ew] at hv
   cases hv
   rw [eu] at rw'
   cases rw'
   exact ⟨t,o,m,rfl,h1,h2,h3⟩
 obtain ⟨f,hf⟩ := Classical.axiomOfChoice ex
 have hA:=I.ok.hd hc
 refine Tf (knd:=Ce X.prog X.w) (ps:=f) hA (Dd (A:=X.A.in1) (by show X.A.units + 1 + 20 < cLine; omega)) (by rw [List.size_toArray]; omega) e ?_ ?_ (fun d I' h h' j xs hI hm hk=>Tp hI hm hk) ?_ fun h' tk hm hk=>?_
 ·intro j v hv
  rw [List.getElem?_toArray] at hv
  have hjl:=(List.getElem?_eq_some_iff.mp hv).1
  exact (hf j _ (List.getElem?_eq_getElem (show j < ps.length by omega))).2 v hv
 ·intro j hj h2 hk2
  rw [List.size_toArray] at hj
  obtain ⟨⟨e1,e2,_⟩,_⟩ := hf j _ (List.getElem?_eq_getElem (show j < ps.length by omega))
  rw [e1]
  exact C0.ext (Gh I.hok e2) hk2
 ·intro h2 d hd
  exact ⟨_,#[],0,hd,⟨rfl,rfl,rfl⟩,rfl,rfl,(fun x hx=>nomatch hx),List.nodup_nil⟩
 ·have hfr:H s.heap.objs.size = none:=I.hok.fresh (Nat.le_refl _)
  rw [List.size_toArray] at hm
  have kt:KT H (putAll [] (ps.drop 0)) (Gi f [] 0 its.length):=Ye (fun j q z=>(hf j q z).1) its.length 0 [] [] (by omega) .nil
  rw [List.drop_zero] at kt
  obtain ⟨o,es,ep,ho,hex,hd,he,_,hn⟩ := hm
  have hlp:(putAll [] ps).length <= sizeLine:=by
   have z1:=Ed ps []
   rw [List.length_nil] at z1
   omega
  have objok:Bw X.prog X.w (upd H s.heap.objs.size (.dT (putAll [] ps))) h' s.heap.objs.size (.dT (putAll [] ps)) :=
   ⟨hlp,beq_eq_false_iff_ne.mpr (Ne.symm (Nat.ne_of_lt I.big)),_,kt.keeps (fun b ys eb=>by rw [Ac (An eb hfr)]; exact eb),o,es,ep,ho,hex,hd,he,hn⟩
  exact ⟨.ref s.heap.objs.size,_,I.laid (t':=tk) hk (Nat.le_refl _) objok,rfl,q _ hfr⟩
end
section
variable {X:Cx} {pins:List (Addr × Obj)} {σ:St} {H:Hp} {s:Shared} {k:Nat}
theorem J2 (I:Am X pins σ H s) {d:PyData} {v:V} {u:Value} (h:Rp H d v) (r:B6 v u):∃ as,Reads s.heap u d as:=Eg I d v u h r
noncomputable def Kb (h:Heap) (d:PyData) (w:Value):Bool:=open Classical in if z:∃ e as,Reads h w e as /\ e.canLay0 = true then PyData.eqv z.choose d else false
theorem Qr {h:Heap} {d e:PyData} {w:Value} {as:List Addr} (r:Reads h w e as) (hc:e.canLay0 = true):Kb h d w = PyData.eqv e d:=by
 have z:∃ e as,Reads h w e as /\ e.canLay0 = true:=⟨e,as,r,hc⟩
 unfold Kb
 rw [dif_pos z]
 obtain ⟨bs,r',hc'⟩ := z.choose_spec
 rw [(PySem.SeqAt.Reads.unique e _ w as bs hc r r')]
theorem Ps (I:Am X pins σ H s) {d:PyData}:∀ {ds:List PyData} {vs:List V} {us:List Value},RpAll H ds vs -> B7 vs us -> us.any (Kb s.heap d) = ds.any fun e=>PyData.eqv e d
 | [],vs,us,h,r=>by
  unfold RpAll at h
  subst h
  cases r
  rfl
 | e :: ds,vs,us,h,r=>by
  unfold RpAll at h
  obtain ⟨x,xs,rfl,h1,h2⟩ := h
  cases r with
  | cons r1 r2 =>
   obtain ⟨as,q⟩ := J2 I h1 r1
   rw [List.any_cons,List.any_cons,Qr q (Ds e x h1),Ps I h2 r2]
theorem R6 (I:Am X pins σ H s) {A:Around} {d:PyData} {x:V} {v:Value} (hx:Rp H d x) (rx:B6 x v) (hu:A.units + d.depth < cLine):∀ {ds:List PyData} {vs:List V} {us:List Value},RpAll H ds vs -> B7 vs us -> ∀ w ∈ us,SeqAt.EqAt A s w v (Kb s.heap d w)
 | [],vs,us,h,r,w,hw=>by
  unfold RpAll at h
  subst h
  cases r
  cases hw
 | e :: ds,vs,us,h,r,w,hw=>by
  unfold RpAll at h
  obtain ⟨y,ys,rfl,h1,h2⟩ := h
  cases r with
  | cons r1 r2 =>
   rcases List.mem_cons.mp hw with z | z
   ·subst z
    obtain ⟨as,q⟩ := J2 I h1 r1
    obtain ⟨bs,q2⟩ := J2 I hx rx
    rw [Qr q (Ds e y h1)]
    exact PySem.SeqAt.eqAt_reads e d A s _ _ _ _ q q2 (Ds e y h1) (Ds d x hx) (by omega)
   ·exact R6 I hx rx hu h2 r2 w z
end
section
variable {X:Cx} {k:Nat}
def my (K:PySem.W.Frag) (neg:Bool):R2:=fun x y H Q=>∃ (p:Addr) (us:List V) (d:PyData) (ds:List PyData),y = .ref p /\ B9 K H p us /\ Rp H d x /\ RpAll H ds us /\ d.depth <= 50 /\ Q (.bl (if neg then !(ds.any fun e=>PyData.eqv e d) else ds.any fun e=>PyData.eqv e d)) H
theorem W0 (K:PySem.W.Frag) (hr:E9 k X.A) (hK:X.K = K:=by rfl):Hn X (compareOp .NotIn) (my K true):=by
 subst hK
 intro pins s σ H x y v u Q I rx ry h
 obtain ⟨p,us,d,ds,rfl,hq,hx,hall,hd,q⟩ := h
 cases ry
 obtain ⟨its,r,pl,hz⟩ := I.list hq
 have hu:=hr.units
 refine SeqAt.notIn_listAt (Kb s.heap d) pl.isList (fun w hw=>R6 I hx rx (by show X.A.units + 1 + d.depth < cLine; omega) hall r w (by simpa using hw)) ⟨.bl _,H,I,rfl,?_⟩
 rw [show its.toArray.any (Kb s.heap d) = its.any (Kb s.heap d) by simp,Ps I hall r]
 exact q
end
abbrev gc (K:PySem.W.Frag):TG:=Z0 K 3 (Na (Ft 0) (Na (Ft 1) (Na (Ft 2) c9)))
theorem Lg {K : PySem.W.Frag} {a : Addr} {xs : List V} {fr : List Nat} {tt : TT} {te : TE} {σ : St} {D : Addr} {H1 : Hp} {Q : Hp -> Prop} (Pv : Nat -> List V -> Hp -> Prop) (h0 : Pv 0 [] (upd H1 D (.lst [])))
  (hl:∀ i zs H,i <= xs.length -> Pv i zs H -> B9 K H a xs)
  (hs:∀ i x zs H,xs[i]? = some x -> Pv i zs H -> ∃ T y z z2,x = .ref T /\ Br K H T [y,z,z2] /\ tt (some y :: some z :: some z2 :: D6 fr σ) H fun b H4 =>
   if b = true then te (some y :: some z :: some z2 :: D6 fr σ) H4 fun v H5=>H5 D = some (.lst zs) /\ zs.length < sizeLine /\ Pv (i + 1) (zs ++ [v]) (upd H5 D (.lst (zs ++ [v]))) else Pv (i + 1) zs H4)
  (mt:∀ σ H Q Q',(∀ b H',Q b H' -> Q' b H') -> tt σ H Q -> tt σ H Q') (me:∀ σ H Q Q',(∀ v H',Q v H' -> Q' v H') -> te σ H Q -> te σ H Q')
  (hd:∀ zs H,Pv xs.length zs H -> Q H):Dw 3 fr (bd K a) (gc K) tt te σ D H1 Q:=by
 refine ⟨fun i m zs H=>m = xs.length - i /\ i <= xs.length /\ Pv i zs H,⟨xs.length,by simp,Nat.zero_le _,h0⟩,?_⟩
 rintro i m zs H' ⟨rfl,hi,p⟩
 have q1:=hl i zs H' hi p
 by_cases hlt:i < xs.length
 ·refine .inr ⟨⟨xs,xs[i],q1,by simp [hlt]⟩,fun v H2 y=>?_⟩
  obtain ⟨e,y⟩ := y
  subst e
  obtain ⟨T,y1,z1,w1,rfl,hT,ht⟩ := hs i v zs _ (y xs q1) p
  refine ⟨T,_,rfl,hT,rfl,_,_,rfl,z1,_,rfl,w1,_,rfl,rfl,⟨[some y1,some z1,some w1],rfl,rfl⟩,?_⟩
  refine mt _ _ _ _ ?_ ht
  intro b H4 q
  cases b with
  | false=>exact ⟨xs.length - (i + 1),by omega,rfl,hlt,q⟩
  | true=>exact me _ _ _ _ (fun v H5 ⟨r1,r2,r3⟩=>⟨r1,r2,xs.length - (i + 1),by omega,rfl,hlt,r3⟩) q
 ·have e:i = xs.length:=by omega
  subst e
  exact .inl ⟨⟨xs,q1,Nat.le_refl _⟩,hd zs H' p⟩
theorem Ee {k:Nat} {A:Around} (hr:E9 k A):A.units + 20 < cLine:=by have:=hr.units; omega
theorem oh {k:Nat} {A:Around} (hr:E9 k A):A.units + 24 < cLine:=by have:=hr.units; omega
section
variable {X:Cx}
theorem Ql {e:Expr} {t:TE} (h:PE X e t):PE X e (fun σ H Q=>∃ N:VK,t σ H N /\ ∀ v H',N v H' -> Q v H'):=by
 intro pins s σ H Q I z
 obtain ⟨N,z,m⟩ := z
 refine Cf (h pins s σ H N I z) fun v s1 z1=>?_
 obtain ⟨x,H1,I1,r1,q1⟩ := z1
 exact ⟨x,H1,I1,r1,m _ _ q1⟩
end
def Li:HO -> Prop
 | .dK _=>True
 | .dT _=>True
 | _=>False
section
variable {X:Cx} {pins:List (Addr × Obj)} {σ:St} {H:Hp} {s:Shared} {d:Addr}
theorem Am.swap {v u:HO} (I:Am X pins σ H s) (e:H d = some v) (n1:∀ xs,v ≠ .tup xs) (n2:∀ ps,v ≠ .tbl ps) (n3:∀ y,v ≠ .own y) (n4:∀ o u,X.H₀ d ≠ some (.frz o u)) (ok:Bw X.prog X.w (upd H d u) s.heap d u):Am X pins σ (upd H d u) s:=by
 have ht:∀ b xs,H b = some (.tup xs) -> (upd H d u) b = some (.tup xs):=fun b xs z=>by
  rw [Ac (fun y=>by rw [y,e] at z; exact n1 _ (Option.some.inj z))]
  exact z
 have hn:∀ b,H b = none -> (upd H d u) b = none:=fun b z=>by
  rw [Ac (fun y=>by rw [y,e] at z; cases z)]
  exact z
 refine ⟨I.ok,I.os,I.bare,⟨I.base.keep,I.base.slot,fun b o q n hx=>hn b (I.base.free b o q n hx),I.base.there,fun b xs q=>ht b xs (I.base.tups b xs q),fun b o x q=>?_,fun b ps q=>?_⟩,I.loc,I.cell,hn _ I.free,fun x c z=>hn c (I.freeC x c z),fun p hp=>?_,fun b o q=>?_,I.len⟩
 ·have hb : b ≠ d := fun y => by
   rw [y] at q
   exact n4 o x q
  rw [Ac hb]
  exact I.base.frzs b o x q
 ·obtain ⟨m,z⟩ := I.base.tbls b ps q
  refine ⟨m,?_⟩
  rw [Ac (fun y=>by rw [y,e] at z; exact n2 _ (Option.some.inj z))]
  exact z
 ·obtain ⟨a,b,c⟩ := I.pin p hp
  exact ⟨a,hn _ b,c⟩
 ·by_cases hb:b = d
  ·subst hb
   rw [A5] at q
   cases q
   exact ok
  ·rw [Ac hb] at q
   refine (I.hok b o q).stay (fun _ _ _ z=>z) (fun c z=>?_) ht
   rw [Ac (fun y=>by rw [y,e] at z; exact n3 _ (Option.some.inj z))]
   exact z
theorem Am.nofz {v:HO} (I:Am X pins σ H s) (e:H d = some v) (hv:Li v):∀ o u,X.H₀ d ≠ some (.frz o u):=fun o u z=>by
 have y:=I.base.frzs d o u z
 rw [e] at y
 cases y
 exact hv
theorem Am.frz {v:HO} (I:Am X pins σ H s) (e:H d = some v) (hv:Li v):∃ o,s.heap.get? d = some o /\ Am X pins σ (upd H d (.frz o v)) s:=by
 have hok:=I.hok d v e
 obtain ⟨o,ho⟩ : ∃ o,s.heap.get? d = some o:=by
  cases v with
  | dK kvs=>obtain ⟨_,_,_,_,o,_,_,z,_⟩ := hok; exact ⟨o,z⟩
  | dT kvs=>obtain ⟨_,_,_,_,o,_,_,z,_⟩ := hok; exact ⟨o,z⟩
  | _=>exact hv.elim
 have n1:∀ xs,v ≠ .tup xs:=fun xs z=>by rw [z] at hv; exact hv
 have n2:∀ ps,v ≠ .tbl ps:=fun ps z=>by rw [z] at hv; exact hv
 have n3:∀ y,v ≠ .own y:=fun y z=>by rw [z] at hv; exact hv
 refine ⟨o,ho,I.swap e n1 n2 n3 (I.nofz e hv) ⟨ho,hok.stay (fun _ _ _ z=>z) (fun c z=>?_) (fun b xs z=>?_)⟩⟩
 ·rw [Ac (fun y=>by rw [y,e] at z; exact n3 _ (Option.some.inj z))]
  exact z
 ·rw [Ac (fun y=>by rw [y,e] at z; exact n1 _ (Option.some.inj z))]
  exact z
theorem Am.thaw {v:HO} {o:Obj} (I:Am X pins σ H s) (e:H d = some (.frz o v)) (n4:∀ o u,X.H₀ d ≠ some (.frz o u)):Am X pins σ (upd H d v) s:=by
 refine I.swap e (fun _ z=>nomatch z) (fun _ z=>nomatch z) (fun _ z=>nomatch z) n4 ((I.hok d _ e).2.stay (fun _ _ _ z=>z) (fun c z=>?_) (fun b xs z=>?_))
 ·rw [Ac (fun y=>by rw [y,e] at z; cases z)]
  exact z
 ·rw [Ac (fun y=>by rw [y,e] at z; cases z)]
  exact z
end
def iq (t:TS):TS:=fun D σ H=>∃ d u,Li u /\ H d = some u /\ t { D with nx:=fun σ' H'=>∃ o,H' d = some (.frz o u) /\ D.nx σ' (upd H' d u) } σ H
def io (t:TE):TE:=fun σ H Q=>∃ d u,Li u /\ H d = some u /\ t σ H fun v H'=>∃ o,H' d = some (.frz o u) /\ Q v (upd H' d u)
section
variable {X:Cx}
theorem P8 {st:Stmt} {t:TS} (h:PS X st t):PS X st (iq t):=by
 intro pins s σ H D I z
 obtain ⟨d,u,hu,e,z⟩ := z
 have n4:=I.nofz e hu
 refine Cf (h pins s σ H _ I z) fun f s1 q=>?_
 cases f with
 | next =>
  obtain ⟨σ',H',I',o,e',q'⟩ := q
  exact ⟨σ',_,I'.thaw e' n4,q'⟩
 | brk=>exact q
 | cont=>exact q
 | ret v=>exact q
theorem Zi {e:Expr} {t:TE} (h:PE X e t):PE X e (io t):=by
 intro pins s σ H Q I z
 obtain ⟨d,u,hu,e0,z⟩ := z
 have n4:=I.nofz e0 hu
 refine Cf (h pins s σ H _ I z) fun v s1 q=>?_
 obtain ⟨x,H',I',r,o,e',q'⟩ := q
 exact ⟨x,_,I'.thaw e' n4,r,q'⟩
end
section
variable {P:Program} {w:World} {A:Around} {E:Value -> Shared -> Prop} {s:Shared}
theorem Xr {d : Addr} {o : Obj} {Q : Value -> Shared -> Prop} (hs : (d == sysModules) = false) (ho : s.heap.get? d = some o) (hx : o.ExactDict)
  (h:Q (.ref s.heap.objs.size) { s with heap:=s.heap.push { cls := .type "dict_items",data := .fields #[.ref d] } }):wpAny (model P w) A (call (.builtin "dict.items") [.ref d]) Q E s:=by
 have hT:s.TypeIs (.ref d) "dict" := ⟨o,ho,hx.1⟩
 refine wpAny_call_entry F.slot_dict_items hT F.entry_dict_items ?_ (F.args_dict_items_1 _)
 unfold Builtin.«dict.items» Builtin.Dict.noArgs
 refine wpAny_bind (wpAny_bind (wpAny_notOrdered_dict hT ?_))
 refine wpAny_bind (wpAny_of_eq (a:=()) rfl ?_)
 refine wpAny_bind (wpAny_of_eq (a:=Value.ref d) rfl ?_)
 refine wpAny_of_eq (a:=d) rfl ?_
 refine wpAny_bind ?_
 unfold Builtin.Dict.showsAll
 rw [hs,if_neg Bool.false_ne_true]
 refine wpAny_pure ?_
 refine wpAny_bind ?_
 unfold newFields
 exact wpAny_newObj_type (wpAny_pure ⟨_,rfl,h⟩)
theorem Yy {v d : Addr} {o : Obj} {es : Array DictEntry} {ep : Nat} {Q : Value -> Shared -> Prop} (hv : s.heap.IsItemsView v d) (ho : s.heap.get? d = some o) (hdd : o.data = .dict es ep)
  (h:Q (.ref s.heap.objs.size) { s with heap:=s.heap.push { cls := .type "dict_itemiterator",data := .fields #[.none,.bool false,.ref d,.int 0 0,.int es.size 0,.int ep 0,.none,.none] } }):wpAny (model P w) A (pyIter (.ref v)) Q E s:=by
 obtain ⟨ov,hov,hc,hd⟩ := hv
 have hT:s.TypeIs (.ref v) "dict_items" := ⟨ov,hov,hc⟩
 refine wpAny_pyIter_slot hT F.slot_dict_items_iter (wpAny_call_entry F.slot_dict_items_iter hT F.entry_dict_items_iter ?_ (F.args_dict_items_iter_1 _))
 unfold Builtin.«dict_items.__iter__» Builtin.Dict_items.slot0 Builtin.Dict_items.dictOf Builtin.Dict_items.newIterator
 refine wpAny_bind (wpAny_bind (wpAny_of_eq (a:=(Value.ref v,[])) rfl (wpAny_pure ?_)))
 refine wpAny_bind (wpAny_bind (wpAny_field hov hd (x := .ref d) rfl (wpAny_of_eq (a:=d) rfl ?_)))
 refine wpAny_bind (wpAny_bind (wpAny_dictEntries ho hdd (wpAny_bind (wpAny_dictEpoch ho hdd ?_))))
 show wpAny (model P w) _ (newObj (.type "dict_itemiterator") (.fields #[.none,.bool false,.ref d,.int 0 0,.int es.size 0,.int ep 0,.none,.none]) none) _ _ _
 refine wpAny_newObj_type (wpAny_pure ⟨_,rfl,"dict_itemiterator",_,⟨_,Heap.get?_push_size _ rfl,rfl⟩,F.slot_dict_itemiterator_next.lookup,h⟩)
theorem bm {it d : Addr} {i ep : Nat} {es : Array DictEntry} {ok ov : Value} {o : Obj} {Q : Option Value -> Shared -> Prop} (hh : A.handled = none) (hit : IsItemIter s.heap it d i es.size ep ok ov) (hod : s.heap.get? d = some o) (hdd : o.data = .dict es ep)
  (he:es[i]? = none) (hQ:∀ h',Heap.ExtBut it s.heap h' -> Q none { s with heap:=h' }):wpAny (model P w) A (pyNext (.ref it)) Q E s:=by
 have hT:s.TypeIs (.ref it) "dict_itemiterator" := ⟨_,hit,rfl⟩
 have own:Builtin.Dict_items.ownsTuple "dict_itemiterator" = true:=by decide
 unfold pyNext; refine wpAny_bind (wpAny_attempt (wpAny_callSpecial?_slot (name:=Str.ofString "__next__") hT F.slot_dict_itemiterator_next (wpAny_call_entry F.slot_dict_itemiterator_next hT F.entry_dict_itemiterator_next ?_ (F.args_dict_itemiterator_next_1 _))))
 refine wpAny_bind (wpAny_pure (wpAny_bind (wpAny_bind (wpAny_bind (wpAny_typeNameOfWhole_itemiter hT (wpAny_pure (wpAny_bind (wpAny_fieldsOf hit rfl ?_))))))))
 simp only [own,if_true]; show wpAny _ _ (if (Value.ref d == Value.none) = true then _ else _) _ _ s
 rw [if_neg (show ¬ (Value.ref d == Value.none) = true from Bool.false_ne_true)]; refine wpAny_bind (wpAny_pure (wpAny_bind (wpAny_dictEntries hod hdd ?_)))
 rw [if_neg (show ¬ ((es.size:Int) != (es.size:Int)) = true by simp)]; refine wpAny_bind (wpAny_pure (wpAny_bind (wpAny_dictEpoch hod hdd ?_)))
 rw [if_neg (show ¬ ((ep:Int) != (ep:Int)) = true by simp)]; refine wpAny_pure ?_
 simp only [show ¬ ((i:Int) < 0) by omega,if_false,Int.toNat_natCast,he]
 refine wpAny_bind (wpAny_bind (wpAny_typeNameOfWhole_itemiter hT (wpAny_pure ?_)))
 show wpAny _ _ (setField (.ref it) 2 Value.none >>= _) _ _ s
 refine wpAny_bind (wpAny_setField hit rfl (by simp) ?_)
 generalize hg:Heap.update s.heap it (Obj.mapFields (·.setIfInBounds 2 Value.none)) = h2
 have eb:Heap.ExtBut it s.heap h2:=by
  rw [<- hg]
  exact fun b ob hb e=>(Heap.get?_update_other _ _ (Ne.symm hb)).trans e
 show wpAny (model P w) _ (newExc (.type "StopIteration") [] >>= _) _ _ { s with heap:=h2 }
 refine wpAny_bind ?_; simp only [newExc,newTuple]
 refine wpAny_bind (wpAny_newObj_type (T := "tuple") ?_ (by size_fits))
 refine wpAny_bind (m:=firstArgMember _ _) (wpAny_of_eq (a:=Value.none) (by first | rfl | simp only [firstArgMember]) ?_)
 refine wpAny_newObj_type (T := "StopIteration") ?_ (by size_fits)
 simp only [raiseNew]; refine wpAny_bind (wpAny_handled ?_)
 first | rw [show A.in1.handled = Option.none from hh] | rw [hh]
 refine wpAny_bind (wpAny_pure (wpAny_throw ?_)); refine wpAny_bind (wpAny_isInstance (T := "StopIteration") (b:=true) ⟨_,Heap.get?_push_size _ rfl,rfl⟩ isSubtype_stop ?_)
 exact wpAny_pure (hQ _ ((eb.push _).push _))
end
theorem Vn:entryFor table "dict_itemiterator.__iter__" = some Builtin.«dict_keyiterator.__iter__» :=
 entryFor_alias (id' := "dict_keyiterator.__iter__") (by kernel_rfl) (by first | rfl | decide +kernel | (unfold String.splitOn; simp +decide [String.splitOnAux])) (by decide +kernel) (by kernel_rfl)
def lr:HO -> Hp -> Nat -> V -> V -> Prop
 | .dT kvs,H,i,x,y=>∃ k b,kvs[i]? = some (k,y) /\ x = .ref b /\ E5 H b k
 | .dK kvs,_,i,x,y=>∃ k,kvs[i]? = some (k,y) /\ x = kV k
 | _,_,_,_,_=>False
def Dh:HO -> Nat
 | .dT kvs=>kvs.length
 | .dK kvs=>kvs.length
 | _=>0
def br (d:Addr) (o:Obj) (u:HO):It :=
 ⟨fun i H=>H d = some (.frz o u) /\ i < Dh u,fun i H v H'=>∃ T x y,v = .ref T /\ H T = none /\ H' = upd H T (.tup [x,y]) /\ lr u H i x y,fun i H=>H d = some (.frz o u) /\ Dh u <= i⟩
theorem Zl {P:Program} {w:World} {k:Dv} {u:Value} (h:(Dj P w).is k u = true):B6 (kV k) u:=by
 have h':Ie k u = true:=h
 cases k with
 | inl i =>
  cases u <;> simp [Ie,Value.isInt] at h'
  subst h'
  exact ⟨_,rfl⟩
 | inr x =>
  cases u <;> simp [Ie,Value.isStrOf] at h'
  subst h'
  exact ⟨_,rfl⟩
theorem Hf {α β:Type} {F:α -> β -> Prop}:∀ {xs:List α} {ys:List β} {i:Nat},Paired F xs ys -> i < xs.length -> ∃ x y,xs[i]? = some x /\ ys[i]? = some y /\ F x y
 | _,_,i,.nil,h=>absurd h (by simp)
 | _,_,0,.cons r _,_=>⟨_,_,rfl,rfl,r⟩
 | _,_,i + 1,.cons _ t,h=>by
  obtain ⟨x,y,e1,e2,e3⟩ := Hf (i:=i) t (by simpa using h)
  exact ⟨x,y,by simpa using e1,by simpa using e2,e3⟩
theorem S7 {α β:Type} {F:α -> β -> Prop} {xs:List α} {ys:List β} (h:Paired F xs ys):xs.length = ys.length:=by
 induction h with
 | nil=>rfl
 | cons r t ih=>rw [List.length_cons,List.length_cons,ih]
theorem Ny {P:Program} {w:World} {K:Type} [DecidableEq K] {knd:PySem.KeyKind P w K}:∀ {es:List DictEntry} {vs:List (K × Value)} {i:Nat} {kv:K × Value},Pairs knd es vs -> vs[i]? = some kv -> ∃ e,es[i]? = some e /\ knd.is kv.1 e.key = true /\ e.val = kv.2
 | _,_,i,kv,.nil,h=>by simp at h
 | _,_,0,kv,.cons h1 h2 _,h=>by
  cases (show some _ = some _ from h)
  exact ⟨_,rfl,h1,h2⟩
 | _,_,i + 1,kv,.cons _ _ t,h=>by
  obtain ⟨e,e1,e2⟩ := Ny t (i:=i) (by simpa using h)
  exact ⟨e,by simpa using e1,e2⟩
theorem W3 {P:Program} {w:World} {K:Type} [DecidableEq K] {knd:PySem.KeyKind P w K} {es:List DictEntry} {vs:List (K × Value)} (h:Pairs knd es vs):es.length = vs.length:=by
 induction h with
 | nil=>rfl
 | cons r q t ih=>rw [List.length_cons,List.length_cons,ih]
theorem Xw {P : Program} {w : World} {H : Hp} {h : Heap} {d : Addr} {o : Obj} {u : HO} {es : Array DictEntry} {ep : Nat} (ok : Bw P w H h d u) (hu : Li u) (ho : h.get? d = some o) (hd : o.data = .dict es ep) :
  es.size = Dh u /\ ∀ i,i < Dh u -> ∃ e x y,es[i]? = some e /\ B6 x e.key /\ B6 y e.val /\ lr u H i x y:=by
 cases u with
 | dT kvs =>
  obtain ⟨_,_,xs,r,o',es',ep',h1,h2,h3,h4,h5⟩ := ok
  rw [ho] at h1
  cases h1
  rw [hd] at h3
  cases h3
  have hl:=S7 r
  refine ⟨?_,fun i hi=>?_⟩
  ·show es.size = kvs.length
   rw [<- Array.length_toList,h4,List.length_map,hl]
  ·obtain ⟨p,q,e1,e2,e3,e4,e5⟩ := Hf r hi
   refine ⟨entryOfKey (Ce P w) q,.ref q.2.1,p.2,?_,rfl,e5,p.1,q.2.1,e1,rfl,e4⟩
   rw [<- Array.getElem?_toList,h4,List.getElem?_map,e2]
   rfl
 | dK kvs =>
  obtain ⟨_,_,vs,r,o',es',ep',h1,h2,h3,h4,h5,h6⟩ := ok
  rw [ho] at h1
  cases h1
  rw [hd] at h3
  cases h3
  have hl:kvs.length = vs.length:=r.length
  refine ⟨?_,fun i hi=>?_⟩
  ·show es.size = kvs.length
   rw [<- Array.length_toList,W3 h5,hl]
  ·obtain ⟨p,q,e1,e2,e3⟩ := Hf r hi
   obtain ⟨e,f1,f2,f3⟩ := Ny h5 e2
   refine ⟨e,kV p.1,p.2,by rw [<- Array.getElem?_toList]; exact f1,?_,?_,p.1,e1,rfl⟩
   ·rw [e3.1]
    exact Zl f2
   ·rw [f3]
    exact e3.2
 | _=>exact hu.elim
theorem Ta {P : Program} {w : World} {K : PySem.W.Frag} {elts : List Expr} {kk : Nat} {pos : Pos} {it d : Addr} {o : Obj} {u : HO} {es : Array DictEntry} {ep : Nat} (hu : Li u) (hd : o.data = .dict es ep) (hne : d ≠ it) :
  Si P w K (.Tuple elts kk pos) (br d o u) [it] it (fun i h=>∃ ok ov,IsItemIter h it d i es.size ep ok ov) where
 mem:=by simp
 obj:=fun i h ⟨ok,ov,st⟩ b hb=>by
  have e:b = it:=by simpa using hb
  subst e
  exact ⟨_,st,fun v z=>by cases z⟩
 keep:=fun i h h' ⟨ok,ov,st⟩ k=>⟨ok,ov,k it (by simp) _ st⟩
 item:=by
  intro X hP hw hK hc i pins s σ H E I hf ⟨ok,ov,st⟩ ⟨hg1,hg2⟩
  subst hP hw hK
  obtain ⟨ho,hok⟩ := I.hok d _ hg1
  obtain ⟨hsz,hat⟩ := Xw hok hu ho hd
  obtain ⟨e,x,y,e1,rx,ry,hi⟩ := hat i hg2
  have hlt:it < s.heap.objs.size:=Heap.lt_size st
  refine X9 st ho hd e1 fun h' a1 a2 a3=>⟨_,rfl,?_⟩
  refine wpAny_letOwnedTupleGo_items (s:={ s with heap:=h' }) a1 fun h'' b1 b2=>?_
  have hTp:h''.get? s.heap.objs.size = some { cls := .type "tuple",data := .seq #[e.key,e.val] }:=b2.extBut _ _ (Nat.ne_of_gt hlt) a2
  refine ⟨.ref s.heap.objs.size,upd H s.heap.objs.size (.tup [x,y]),I.turnLaid (t':=s.toks) (ch:=[it]) hf (fun c ob hc e=>?_) (Nat.le_refl _) ?_,rfl,⟨_,x,y,rfl,I.fresh,rfl,hi⟩,⟨_,_,b1⟩,fun c hc=>?_⟩
  ·have hc':c ≠ it:=by simpa using hc
   exact b2.extBut _ _ hc' (a3 c ob hc' e)
  ·exact ⟨⟨Nat.le_trans (by decide:2 <= 1000) (Ot (Nat.le_refl _)),_,hTp,rfl⟩,[e.key,e.val],.cons rx (.cons ry .nil),⟨_,hTp,rfl,0,rfl⟩⟩
  ·have hc':c = it:=by simpa using hc
   subst hc'
   rw [Ac (Nat.ne_of_lt hlt)]
   exact (hf c hc).1
 done:=by
  intro X hP hw hK hc i pins s σ H E I hf ⟨ok,ov,st⟩ ⟨hg1,hg2⟩
  subst hP hw hK
  obtain ⟨ho,hok⟩ := I.hok d _ hg1
  obtain ⟨hsz,hat⟩ := Xw hok hu ho hd
  refine bm (I.ok.hd hc) st ho hd (Array.getElem?_eq_none (by omega)) fun h' eb=>⟨rfl,I.turnMany (t':=s.toks) (ch:=[it]) hf fun c ob hc e=>?_⟩
  have hc':c ≠ it:=by simpa using hc
  exact eb c ob hc' e
 self:=fun A i s Q E ⟨ok,ov,st⟩ hQ=>by
  have hT:s.TypeIs (.ref it) "dict_itemiterator" := ⟨_,st,rfl⟩
  refine wpAny_pyIter_slot hT F.slot_dict_itemiterator_iter (wpAny_call_entry F.slot_dict_itemiterator_iter hT Vn ?_ (F.args_dict_itemiterator_iter_1 _))
  exact wpAny_pure ⟨_,rfl,"dict_itemiterator",_,hT,F.slot_dict_itemiterator_next.lookup,hQ⟩
section
variable {X:Cx}
def f7 (td:TE):TI:=fun σ H R=>td σ H fun x H1=>∃ d u,x = .ref d /\ Li u /\ H1 d = some u /\ ∀ o,R (br d o u) (upd H1 d (.frz o u))
theorem Il {elts : List Expr} {kk : Nat} {tpos apos pos : Pos} {e : Expr} {td : TE} (he : PE X e td) (hbase : attributeBase e "items" X.env (eval e X.env) = eval e X.env := by rfl) (hline : (apos.endLine == pos.line) = true := by rfl) :
  PI X (.Tuple elts kk tpos) (.Call (.Attribute e "items" apos) [] [] pos) (f7 td):=by
 intro pins s σ H R I h
 refine wpAny_Call_method0_late hbase hline (Cf (he pins s σ H _ I h) fun v s1 hz0=>?_)
 obtain ⟨x,H1,I1,r1,d,u,ex,hu,hd,q⟩ := hz0
 subst ex
 obtain rfl:v = Value.ref d:=r1
 obtain ⟨o,ho,I2⟩ := I1.frz hd hu
 obtain ⟨es,ep,hx,hdd,hsys⟩ : ∃ es ep,o.ExactDict /\ o.data = .dict es ep /\ (d == sysModules) = false:=by
  have hok:=I1.hok d u hd
  cases u with
  | dT kvs =>
   obtain ⟨_,y,xs,r,o',es',ep',h1,h2,h3,_⟩ := hok
   rw [ho] at h1
   cases h1
   exact ⟨es',ep',h2,h3,y⟩
  | dK kvs =>
   obtain ⟨_,y,vs,r,o',es',ep',h1,h2,h3,_⟩ := hok
   rw [ho] at h1
   cases h1
   exact ⟨es',ep',h2,h3,y⟩
  | _=>exact hu.elim
 have hT:s1.TypeIs (.ref d) "dict" := ⟨o,ho,hx.1⟩
 refine ⟨"dict","dict.items",PySem.F.plainAttrs_dict,PySem.F.slot_dict_items,PySem.F.type_dict_items,hT,?_,Calls.callWith_builtin rfl (PySem.evalArgs_none (Xr hsys ho hx ?_))⟩
 ·intro a z
  cases z
  exact ⟨o,ho,hx.2.1⟩
 have hov:(s1.heap.push { cls := .type "dict_items",data := .fields #[.ref d] }).get? d = some o:=Heap.get?_push_of_some _ ho
 refine Yy (s:={ s1 with heap:=s1.heap.push { cls := .type "dict_items",data := .fields #[.ref d] } }) ⟨_,Heap.get?_push_size _ rfl,rfl,rfl⟩ hov hdd ?_
 have hk:∀ b ob,s1.heap.get? b = some ob -> ((s1.heap.push { cls := .type "dict_items",data := .fields #[.ref d] }).push { cls := .type "dict_itemiterator",data := .fields #[.none,.bool false,.ref d,.int 0 0,.int es.size 0,.int ep 0,.none,.none] }).get? b = some ob:=fun b ob z=>Heap.get?_push_of_some _ (Heap.get?_push_of_some _ z)
 have hsz:(s1.heap.push { cls := .type "dict_items",data := .fields #[.ref d] }).objs.size = s1.heap.objs.size + 1:=by simp [Heap.push]
 have hdl:d < s1.heap.objs.size:=Heap.lt_size ho
 refine ⟨_,[_],_,br d o u,upd H1 d (.frz o u),rfl,I2.kept (t':=s1.toks) hk,Ta (es:=es) (ep:=ep) hu hdd ?_,⟨.none,.none,Heap.get?_push_size _ rfl⟩,fun c hc=>?_,q o⟩
 ·rw [hsz]
  exact Nat.ne_of_lt (Nat.lt_succ_of_lt hdl)
 ·have hle : s1.heap.objs.size <= c := by
   have:c = (s1.heap.push { cls := .type "dict_items",data := .fields #[.ref d] }).objs.size:=by simpa using hc
   rw [this,hsz]
   omega
  exact I2.fpOk hle (I2.hok.fresh hle)
end
theorem Nt {o : Obj} {u : HO} {d : Addr} {g : TG} {tb : TS} {D : Gz} {σ : St} {H : Hp} (Pv : Nat -> St -> Hp -> Prop) (h0 : Pv 0 σ H) (hl : ∀ i σ H, i <= Dh u -> Pv i σ H -> H d = some (.frz o u))
  (hs:∀ i x y T σ H,i < Dh u -> lr u H i x y -> Pv i σ H -> H T = none -> g (.ref T) σ (upd H T (.tup [x,y])) fun σ2 H2=>tb { D with nx:=Pv (i + 1),ct:=Pv (i + 1),bk:=D.nx } σ2 H2) (hd:∀ σ H,Pv (Dh u) σ H -> D.nx σ H) :
  ∃ W:Nat -> Nat -> St -> Hp -> Prop,(∃ m,W 0 m σ H) /\ ∀ i m σ H,W i m σ H ->
   ((br d o u).stop i H /\ D.nx σ H) \/ ((br d o u).go i H /\ ∃ N:St -> Hp -> Prop,(∀ σ' H',N σ' H' -> ∃ m',m' < m /\ W (i + 1) m' σ' H') /\ ∀ x H',(br d o u).yld i H x H' -> g x σ H' fun σ2 H2=>tb { D with nx:=N,ct:=N,bk:=D.nx } σ2 H2):=by
 refine ⟨fun i m σ H=>m = Dh u - i /\ i <= Dh u /\ Pv i σ H,⟨Dh u,by simp,Nat.zero_le _,h0⟩,?_⟩
 rintro i m σ H ⟨rfl,hi,p⟩
 have q1:=hl i σ H hi p
 by_cases hlt:i < Dh u
 ·refine .inr ⟨⟨q1,hlt⟩,Pv (i + 1),fun σ' H' p'=>⟨Dh u - (i + 1),by omega,rfl,hlt,p'⟩,fun v H' y=>?_⟩
  obtain ⟨T,x,z,rfl,hT,rfl,e1⟩ := y
  exact hs i x z T σ H hlt e1 p hT
 ·have e:i = Dh u:=by omega
  subst e
  exact .inl ⟨⟨q1,Nat.le_refl _⟩,hd σ H p⟩
theorem Ki {K : PySem.W.Frag} {o : Obj} {u : HO} {d : Addr} {fr : List Nat} {tt : TT} {te : TE} {σ : St} {D : Addr} {H1 : Hp} {Q : Hp -> Prop} (Pv : Nat -> List V -> Hp -> Prop) (h0 : Pv 0 [] (upd H1 D (.lst [])))
  (hl:∀ i zs H,i <= Dh u -> Pv i zs H -> H d = some (.frz o u))
  (hs:∀ i x y T zs H,i < Dh u -> lr u H i x y -> Pv i zs H -> H T = none -> tt (some x :: some y :: D6 fr σ) (upd H T (.tup [x,y])) fun b H4 =>
   if b = true then te (some x :: some y :: D6 fr σ) H4 fun v H5=>H5 D = some (.lst zs) /\ zs.length < sizeLine /\ Pv (i + 1) (zs ++ [v]) (upd H5 D (.lst (zs ++ [v]))) else Pv (i + 1) zs H4)
  (mt:∀ σ H Q Q',(∀ b H',Q b H' -> Q' b H') -> tt σ H Q -> tt σ H Q') (me:∀ σ H Q Q',(∀ v H',Q v H' -> Q' v H') -> te σ H Q -> te σ H Q')
  (hd:∀ zs H,Pv (Dh u) zs H -> Q H):Dw 2 fr (br d o u) (jk K) tt te σ D H1 Q:=by
 refine ⟨fun i m zs H=>m = Dh u - i /\ i <= Dh u /\ Pv i zs H,⟨Dh u,by simp,Nat.zero_le _,h0⟩,?_⟩
 rintro i m zs H' ⟨rfl,hi,p⟩
 have q1:=hl i zs H' hi p
 by_cases hlt:i < Dh u
 ·refine .inr ⟨⟨q1,hlt⟩,fun v H2 y=>?_⟩
  obtain ⟨T,x,z,rfl,hT,rfl,e1⟩ := y
  refine ⟨T,_,rfl,Br.of A5,rfl,x,_,rfl,z,_,rfl,rfl,⟨[some x,some z],rfl,rfl⟩,?_⟩
  refine mt _ _ _ _ ?_ (hs i x z T zs H' hlt e1 p hT)
  intro b H4 q
  cases b with
  | false=>exact ⟨Dh u - (i + 1),by omega,rfl,hlt,q⟩
  | true=>exact me _ _ _ _ (fun v H5 ⟨r1,r2,r3⟩=>⟨r1,r2,Dh u - (i + 1),by omega,rfl,hlt,r3⟩) q
 ·have e:i = Dh u:=by omega
  subst e
  exact .inl ⟨⟨q1,Nat.le_refl _⟩,hd zs H' p⟩
section
variable {prog:Program} {w:World} {K:Type} [DecidableEq K] {knd:HeapKind prog w K} {A:Around} {E:Value -> Shared -> Prop} {s:Shared} {d a:Addr} {k:K} {xs:List (K × Addr × Value)}
theorem Vu {v:Value} (hn:(xs.map (·.1)).Nodup) (hnot:k ∉ xs.map (·.1)):((xs ++ [(k,a,v)]).map (·.1)).Nodup:=by
 rw [List.map_append,List.nodup_append]
 refine ⟨hn,by simp,fun x hx y hy=>?_⟩
 have e:y = k:=by simpa using hy
 rw [e]
 exact fun e=>hnot (e ▸ hx)
theorem Wm {dflt : Value} {Q : Value -> Shared -> Prop} (hu : knd.room A) (hkey : knd.is s.heap k a) (hm : s.heap.DictOfH knd d xs) (hsz : xs.length <= sizeLine)
  (h1:∀ p,atKey xs k = some p -> Q p.2 { s with toks:=s.toks + knd.draws k })
  (h2:atKey xs k = none -> ∀ h',h'.DictOfH knd d (xs ++ [(k,a,dflt)]) -> Heap.SameBut d s.heap h' -> Q dflt { s with heap:=h',toks:=s.toks + knd.draws k }) :
  wpAny (model prog w) A (dictSetDefault d (.ref a) dflt) Q E s:=by
 obtain ⟨o,es,ep,ho,hc,hd,he,his,hn⟩ := hm
 unfold dictSetDefault
 try with_reducible refine wpAny_holding ?_
 refine wpAny_bind (knd.pyHash hu hkey ?_)
 refine wpAny_bind (wpAny_dictFind_heap (s:={ s with toks:=s.toks + knd.draws k }) hu hkey ho hd he his hn ?_ ?_)
 ·intro hno
  have hnot:k ∉ xs.map (·.1):=not_mem_keys_of_get hno
  have hat:=atKey_none_of_get hno
  have hz:es.size <= sizeLine:=by
   have e:=size_of_entries he
   omega
  refine wpAny_bind (wpAny_rule (wpAny_bind (wpAny_updateDictKeys (hz:=hz) (s:={ s with toks:=s.toks + knd.draws k }) ho hd (wpAny_pure (h2 hat _
   ⟨_,_,ep + 1,Heap.get?_update_self _ ho (Obj.isFreed_of_dict (Obj.data_mapDictKeys hd _)),hc.mapDictKeys _,Obj.data_mapDictKeys hd _,?_,?_,Vu hn hnot⟩ (Heap.SameBut.update ..))))))
  ·simp [he,entryOfKey]
  ·intro x hx
   rcases List.mem_append.mp hx with hx | hx
   ·exact knd.keeps (his x hx) ho hd (Heap.SameBut.update ..)
   ·cases List.mem_singleton.mp hx
    exact knd.keeps hkey ho hd (Heap.SameBut.update ..)
 ·intro j p hj
  have hat:=atKey_of_get hn hj
  refine wpAny_bind (wpAny_dictEntries (s:={ s with toks:=s.toks + knd.draws k }) ho hd ?_)
  rw [entry_at he j,hj]
  exact wpAny_bind (wpAny_rule (wpAny_pure (h1 p hat)))
theorem S1 (hd : (d == sysModules) = false) (dflt : Value) :
  MeetsIn prog w (Builtin.«dict.setdefault» ⟨[.ref d,.ref a,dflt],[]⟩) (fun A R s=>knd.room A.in1 /\ ∃ k xs,knd.is s.heap k a /\ s.heap.DictOfH knd d xs /\ xs.length <= sizeLine /\
   (∀ p,atKey xs k = some p -> R (.ok (.ret p.2)) { s with toks:=s.toks + knd.draws k }) /\
   (atKey xs k = none -> ∀ h',h'.DictOfH knd d (xs ++ [(k,a,dflt)]) -> Heap.SameBut d s.heap h' -> R (.ok (.ret dflt)) { s with heap:=h',toks:=s.toks + knd.draws k })) :=
 .of_wp fun A R s ⟨hu,k,xs,hkey,hm,hz,h1,h2⟩=>by
  unfold Builtin.«dict.setdefault» Builtin.Dict.keyAndDefault
  refine wpAny_bind (wpAny_bind (wpAny_notOrdered_dict hm.typeIs ?_))
  show wpAny _ _ (pure (d,Value.ref a,some dflt)) _ _ s
  refine wpAny_pure ?_
  show wpAny _ _ (if (d == sysModules) = true then _ else (dictSetDefault d (.ref a) dflt >>= _)) _ _ s
  rw [if_neg (by rw [hd]; exact Bool.false_ne_true)]
  exact wpAny_bind (Wm hu hkey hm hz (fun p hp=>wpAny_pure ⟨p.2,rfl,h1 p hp⟩) fun hn h' hm' hs'=>wpAny_pure ⟨dflt,rfl,h2 hn h' hm' hs'⟩)
end
section
variable {X:Cx} {pins:List (Addr × Obj)} {σ:St} {H:Hp} {s:Shared} {a b:Addr} {kvs:List ((List Int × Int) × V)} {k:List Int × Int} {z:V} {r:Value} {A:Around} {E:Value -> Shared -> Prop}
theorem jn {Q : Value -> Shared -> Prop} (hu : A.units + 20 < cLine) (I : Am X pins σ H s) (e : H a = some (.dT kvs)) (eb : E5 H b k) (hl : kvs.length < sizeLine) (rz : B6 z r)
  (h1:∀ v w' s',Ai kvs k = some v -> Am X pins σ H s' -> B6 v w' -> Q w' s') (h2:Ai kvs k = none -> ∀ s',Am X pins σ (upd H a (.dT (Bm kvs k z))) s' -> Q r s') :
  wpAny (model X.prog X.w) A (call (.builtin "dict.setdefault") [.ref a,.ref b,r]) Q E s:=by
 obtain ⟨z0,hd,xs,rel,dd⟩ := X7 I.hok e
 have hz:xs.length <= sizeLine:=by rw [<- Paired.length rel]; exact z0
 have hv:=rel.val k
 refine call_meetsIn PySem.F.slot_dict_setdefault dd.typeIs PySem.F.entry_dict_setdefault (PySem.F.args_dict_setdefault_3 _ _ _) (S1 (knd:=Ce X.prog X.w) hd r) ⟨Dd hu,k,xs,Gh I.hok eb,dd,hz,fun p hp=>?_,fun hn h' dd' hs=>?_⟩
 ·rw [hp] at hv
  cases e2:Ai kvs k with
  | none=>rw [e2] at hv; exact hv.elim
  | some v =>
   rw [e2] at hv
   exact h1 v p.2 _ e2 (I.tok _) hv
 ·rw [hn] at hv
  cases e2:Ai kvs k with
  | some v=>rw [e2] at hv; exact hv.elim
  | none =>
   have hp:Bm kvs k z = kvs ++ [(k,z)]:=D9 z e2
   refine h2 e2 _ ?_
   rw [hp]
   obtain ⟨q,es,ep,hq,g2,g3,g4,_,g5⟩ := dd'
   refine K3 I (by rw [e]; exact True.intro) hs ⟨q,hq⟩ ⟨by rw [List.length_append,List.length_singleton]; omega,hd,_,KT.keeps (Paired.snoc rel ⟨rfl,eb,rz⟩) (fun c ys ec=>?_),q,es,ep,hq,g2,g3,g4,g5⟩
   rw [Ac (Bz ec e (fun z=>nomatch z))]
   exact ec
end
def kr (td ty tx:TE):TE:=fun σ H Q=>td σ H fun x H1=>∃ a,x = .ref a /\ i8 H1 a /\ ty σ H1 fun y H2=>tx σ H2 fun z H3=>∃ kvs k b,y = .ref b /\ E5 H3 b k /\ H3 a = some (.dT kvs) /\ kvs.length < sizeLine /\
 (∀ v,Ai kvs k = some v -> Q v H3) /\ (Ai kvs k = none -> Q z (upd H3 a (.dT (Bm kvs k z))))
section
variable {X:Cx} {o e f:Expr} {apos cpos:Pos} {td ty tx:TE}
theorem Z5 (hu:X.A.units + 20 < cLine) (ho:PE X o td) (he:PE X e ty) (hf:PE X f tx) (m:M2 X o "setdefault" apos e f cpos):PE X (.Call (.Attribute o "setdefault" apos) [e,f] [] cpos) (kr td ty tx):=by
 intro pins s σ H Q I h
 refine wpAny_Call_method m.base m.few m.line PySem.F.plainAttrs_dict PySem.F.slot_dict_setdefault PySem.F.type_dict_setdefault (Cf (ho pins s σ H _ I h) fun u s1 hz0=>?_)
 obtain ⟨x,H1,I1,rx,a,ex,d,q1⟩ := hz0
 subst ex
 obtain rfl:u = Value.ref a:=rx
 obtain ⟨t1,t2,_⟩ := Tu I1 d
 refine ⟨t1,t2,?_⟩
 rw [m.trees]
 refine Calls.callWith_builtin rfl (Calls.evalArgs_plain (Calls.spliced_cons (Cf (he pins s1 σ H1 _ I1 q1) fun iv s2 ⟨y,H2,I2,ry,q2⟩ =>
  Calls.spliced_cons (Cf (hf pins s2 σ H2 _ I2 q2) fun fv s3 ⟨z,H3,I3,rz,kvs,k,b,ey,eb,ea,hl,q3,q4⟩=>Calls.spliced_nil ?_))))
 subst ey
 obtain rfl:iv = Value.ref b:=ry
 exact jn hu I3 ea eb hl rz (fun v w' s4 hv I4 rw'=>⟨v,H3,I4,rw',q3 v hv⟩) fun hn s4 I4=>⟨z,_,I4,rz,q4 hn⟩
theorem Uo {a : Expr} {ta : TE} (ha : PE X a ta) (he : ∀ whole, isTrue a X.env whole = (do let v <- whole; standAt a.pos; holding [v] (truthy v)) := by intro _; rfl) :
  PT X a (fun σ H Q=>ta σ H fun x H'=>∃ d kvs,x = .ref d /\ Rd H' d (.dK kvs) /\ Q (!kvs.isEmpty) H'):=by
 intro pins s σ H Q I h
 refine isTrue_plain (Cf (ha pins s σ H _ I h) fun v s1 ⟨x,H1,I1,r1,d,kvs,ex,hd,q1⟩=>?_) (he _)
 subst ex
 obtain rfl:v = Value.ref d:=r1
 obtain ⟨z,hs,vs,rel,dd⟩ := Js I1.hok hd
 have hl:kvs.length = vs.length:=rel.length
 have h24:sizeLine < 2 ^ 30:=by decide
 refine wpAny_truthy_dict hs dd (by omega) ⟨H1,I1.tok _,?_⟩
 have e:kvs.isEmpty = vs.isEmpty:=by
  cases kvs <;> cases vs <;> simp at hl <;> rfl
 rw [<- e]
 exact q1
end
open PySem PySem.Spec PyProof.Rows PySem.SeqAt
def ez (A:Around) (s:Shared) (x y:Value) (b:Bool):Prop := ∀ (prog:Program) (w:World) (E:Value -> Shared -> Prop) (Q:Value -> Shared -> Prop),Q (.bool b) s -> wpAny (model prog w) A (richCompare .Gt x y) Q E s
theorem gj (l b : Addr) (xs ys : Array Value) (n n2 : Nat) (dd dd2 : Option Addr) (sl sl2 : Array (Option Value)) (e : Nat -> Bool) (r : Bool) :
  Meets (Builtin.«tuple.__gt__» ⟨[.ref l,.ref b],[]⟩)
   (fun A R s=>s.heap.get? l = some { cls := .type "tuple",dict:=dd,data := .seq xs n,slots:=sl } /\ s.heap.get? b = some { cls := .type "tuple",dict:=dd2,data := .seq ys n2,slots:=sl2 } /\
    (∀ j (h1:j < xs.size) (h2:j < ys.size),EqAt A.in1 s xs[j] ys[j] (e j)) /\ (∀ j (h1:j < xs.size) (h2:j < ys.size),(∀ i,i < j -> e i = true) -> e j = false -> ez A.in1 s xs[j] ys[j] r) /\
    ((∀ j,j < min xs.size ys.size -> e j = true) -> r = decide (xs.size > ys.size)) /\ R (.ok (.ret (.bool r))) s) :=
 .of_wp fun prog w A R s h=>by
  obtain ⟨hp,g,d,tk,os⟩ := s
  obtain ⟨hl,hb,he,hf,hz,h⟩ := h
  have f2:=AutoSeq1.sub_tuple_tuple
  have hZ:(xs.toList.zip ys.toList).length = min xs.size ys.size:=by simp
  wp_walk using wpAny_loadPart' hl,wpAny_loadPart' hb,wpAny_forIn_list _ (fun rest b s'=>b.1 = none /\ s' = ⟨hp,g,d,tk,os⟩ /\ ∃ i,rest = (xs.toList.zip ys.toList).drop i /\ ∀ k,k < i -> k < min xs.size ys.size -> e k = true) _
  case turn =>
   rintro ⟨y,x⟩ rest b s' ⟨hb',rfl,i,hq,hR⟩
   have hlt:i < (xs.toList.zip ys.toList).length:=by
    apply Classical.byContradiction
    intro z
    rw [List.drop_of_length_le (by omega)] at hq
    cases hq
   have h1:i < xs.size:=by omega
   have h2:i < ys.size:=by omega
   rw [List.drop_eq_getElem_cons hlt] at hq
   injection hq with hyx hrest
   have hy:y = xs[i]:=by simpa using congrArg Prod.fst hyx
   have hx:x = ys[i]:=by simpa using congrArg Prod.snd hyx
   subst hy hx
   refine wpAny_bind (he i h1 h2 prog w _ _ ?_)
   cases hy:e i with
   | true =>
    wp_walk
    refine ⟨rfl,rfl,i + 1,hrest,fun k hk hk2=>?_⟩
    by_cases z:k = i
    ·rw [z]
     exact hy
    ·exact hR k (by omega) hk2
   | false =>
    have hl2:=hf i h1 h2 (fun k hk=>hR k hk (by omega)) hy prog w
    wp_walk using hl2 _ _
    exact ⟨_,rfl,h⟩
  case fin =>
   rintro ⟨b1,b2⟩ s' ⟨hb',rfl,i,hq,hR⟩
   simp only at hb'
   subst hb'
   have hge:min xs.size ys.size <= i:=by
    apply Classical.byContradiction
    intro z
    rw [List.drop_eq_getElem_cons (by omega)] at hq
    cases hq
   have hr:=hz fun j hj=>hR j (by omega) hj
   wp_walk
   refine ⟨_,rfl,?_⟩
   rw [hr] at h
   simpa [Builtin.Tuple.tupleCompareSizes] using h
  case h =>
   exact ⟨rfl,rfl,0,rfl,fun k hk=>absurd hk (Nat.not_lt_zero k)⟩
mutual
def i7:PyData -> PyData -> Bool
 | .int a,.int b=>decide (a > b)
 | .tuple xs,.tuple ys=>gtvAll xs ys
 | _,_=>false
def gtvAll:List PyData -> List PyData -> Bool
 | [],[]=>false
 | [],_ :: _=>false
 | _ :: _,[]=>true
 | x :: xs,y :: ys=>if PyData.eqv x y then gtvAll xs ys else i7 x y
end
theorem Mu:∀ (xs ys:List PyData),(∀ j,j < min xs.length ys.length -> pairEq xs ys j = true) -> gtvAll xs ys = decide (xs.length > ys.length)
 | [],[],_=>rfl
 | [],y :: ys,_=>by simp [gtvAll]
 | x :: xs,[],_=>by simp [gtvAll]
 | x :: xs,y :: ys,h=>by
  have h0:PyData.eqv x y = true:=h 0 (by simp only [List.length_cons]; omega)
  have ih:=Mu xs ys fun j hj=>h (j + 1) (by simp only [List.length_cons]; omega)
  rw [gtvAll,if_pos h0,ih]
  simp
mutual
theorem X6 : ∀ (da db : PyData) (A : Around) (s : Shared) (a b : Value) (as bs : List Addr), Reads s.heap a da as -> Reads s.heap b db bs -> da.canLay0 = true -> db.canLay0 = true -> Hs da db ->
  A.units + min da.depth db.depth < cLine -> ez A s a b (i7 da db)
 | .int x,db,A,s,_,_,_,_,ra,rb,_,_,hc,hu=>by
  cases db with
  | int y =>
   cases ra with
   | int _ t =>
    cases rb with
    | int _ u =>
     intro prog w E Q h
     exact richCompare_gives (op := .Gt) (typeIs_int s _ t) (typeIs_int s _ u) F.slot_int_gt F.entry_int_gt (F.args_int_gt_2 _ _) (gives_int_gt _ _ t u) (fun z=>nomatch z) h
  | none=>exact hc.elim
  | bool _=>exact hc.elim
  | str _=>exact hc.elim
  | list _=>exact hc.elim
  | tuple _=>exact hc.elim
  | dict _=>exact hc.elim
 | .tuple xs,db,A,s,_,_,_,_,ra,rb,ha,hb,hc,hu=>by
  cases db with
  | tuple ys =>
   cases ra with
   | @tuple l o vs n _ as₁ h1 h2 h3 h4 =>
    cases rb with
    | @tuple l' o' vs' n' _ bs₁ k1 k2 k3 k4 =>
     obtain ⟨oc,od,odt,osl⟩ := o
     obtain ⟨oc',od',odt',osl'⟩ := o'
     simp only at h2 h3 k2 k3
     subst h2 h3 k2 k3
     have n1:vs.size = xs.length:=by simpa using ReadsAll.length _ _ _ h4
     have n2:vs'.size = ys.length:=by simpa using ReadsAll.length _ _ _ k4
     intro prog w E Q h
     refine richCompare_meets_room (op := .Gt) ⟨_,h1,rfl⟩ ⟨_,k1,rfl⟩ F.slot_tuple_gt F.entry_tuple_gt (F.args_tuple_gt_2 _ _) (gj l l' vs vs' n n' od od' osl osl' (pairEq xs ys) (gtvAll xs ys)) ⟨h1,k1,fun j j1 j2=>?_,fun j j1 j2 f1 f2=>?_,fun f=>?_,(fun z=>nomatch z),h⟩ (room_here hu)
     ·have:=eqAt_readsAll xs ys A.in1 s vs.toList vs'.toList _ _ h4 k4 ha hb (room_in hu) j (by simpa using j1) (by simpa using j2)
      simpa using this
     ·have:=gt_readsAll xs ys A.in1 s vs.toList vs'.toList _ _ h4 k4 ha hb hc (room_in hu) j (by simpa using j1) (by simpa using j2) f1 f2
      simpa using this
     ·rw [n1,n2] at f ⊢
      exact Mu xs ys f
  | none=>exact hc.elim
  | bool _=>exact hc.elim
  | str _=>exact hc.elim
  | list _=>exact hc.elim
  | int _=>exact hc.elim
  | dict _=>exact hc.elim
 | .none,_,_,_,_,_,_,_,_,_,_,_,hc,_=>hc.elim
 | .bool _,_,_,_,_,_,_,_,_,_,_,_,hc,_=>hc.elim
 | .str _,_,_,_,_,_,_,_,_,_,_,_,hc,_=>hc.elim
 | .list _,_,_,_,_,_,_,_,_,_,_,_,hc,_=>hc.elim
 | .dict _,_,_,_,_,_,_,_,_,_,_,_,hc,_=>hc.elim
theorem gt_readsAll : ∀ (xs ys : List PyData) (A : Around) (s : Shared) (vs ws : List Value) (as bs : List Addr), ReadsAll s.heap vs xs as -> ReadsAll s.heap ws ys bs -> PyData.canLayAll0 xs = true -> PyData.canLayAll0 ys = true -> CmpbAll xs ys ->
  A.units + min (PyData.depthAll xs) (PyData.depthAll ys) < cLine -> ∀ j (h1:j < vs.length) (h2:j < ws.length),(∀ i,i < j -> pairEq xs ys i = true) -> pairEq xs ys j = false -> ez A s vs[j] ws[j] (gtvAll xs ys)
 | [],_,_,_,_,_,_,_,ra,_,_,_,_,_,j,h1,_,_,_=>by cases ra; exact absurd h1 (Nat.not_lt_zero _)
 | _ :: _,[],_,_,_,_,_,_,_,rb,_,_,_,_,j,_,h2,_,_=>by cases rb; exact absurd h2 (Nat.not_lt_zero _)
 | x :: xs,y :: ys,A,s,_,_,_,_,ra,rb,ca,cb,hc,hu,j,h1,h2,f1,f2=>by
  cases ra with
  | cons r1 r2 =>
   cases rb with
   | cons q1 q2 =>
    have ca1:x.canLay0 = true /\ PyData.canLayAll0 xs = true:=by simpa [PyData.canLayAll0] using ca
    have cb1:y.canLay0 = true /\ PyData.canLayAll0 ys = true:=by simpa [PyData.canLayAll0] using cb
    have hd:A.units + min x.depth y.depth < cLine /\ A.units + min (PyData.depthAll xs) (PyData.depthAll ys) < cLine:=by
     simp only [PyData.depthAll] at hu
     omega
    cases j with
    | zero =>
     have e:gtvAll (x :: xs) (y :: ys) = i7 x y:=by
      have f3:PyData.eqv x y = false:=f2
      rw [gtvAll,f3]
      rfl
     rw [e]
     exact X6 x y A s _ _ _ _ r1 q1 ca1.1 cb1.1 hc.1 hd.1
    | succ j =>
     have e:gtvAll (x :: xs) (y :: ys) = gtvAll xs ys:=by
      have f3:PyData.eqv x y = true:=f1 0 (Nat.succ_pos _)
      rw [gtvAll,f3]
      rfl
     rw [e]
     exact gt_readsAll xs ys A s _ _ _ _ r2 q2 ca1.2 cb1.2 hc.2 hd.2 j (Nat.lt_of_succ_lt_succ h1) (Nat.lt_of_succ_lt_succ h2) (fun i hi=>f1 (i + 1) (Nat.succ_lt_succ hi)) f2
end
section
variable {X:Cx} {k:Nat}
def re:R2:=fun x y H Q=>∃ d e:PyData,Rp H d x /\ Rp H e y /\ Hs d e /\ d.depth <= 60 /\ Q (.bl (i7 d e)) H
end
open PySem PySem.Spec PyProof.Rows PySem.SeqAt
section
variable {prog:Program} {w:World} {A:Around} {R:Result -> Shared -> Prop} {I S:Addr} {fp wr:List Addr} {St:Nat -> Heap -> Prop} {its:Array Value} {bt:Nat -> Nat -> Bool} {Good:Heap -> Prop}
end
section
variable {prog:Program} {w:World} {A:Around} {R:Result -> Shared -> Prop} {I S:Addr} {fp wr:List Addr} {St:Nat -> Heap -> Prop} {its:Array Value} {bt:Nat -> Nat -> Bool} {Good:Heap -> Prop}
end
open PySem PySem.Spec PyProof.Rows PySem.SeqAt
section
variable {X:Cx} {k:Nat}
def Z8 (ds:List PyData):Nat:=argBest (fun i j=>Jw (ds.getD i .none) (ds.getD j .none)) (ds.length - 1)
def pr (K:PySem.W.Frag):List V -> Hp -> VK -> Prop:=fun xs H Q=>∃ (p:Addr) (us:List V) (ds:List PyData),xs = [.ref p] /\ B9 K H p us /\ RpAll H ds us /\ 0 < us.length /\ (∀ d ∈ ds,∀ e ∈ ds,Hs d e) /\ (∀ d ∈ ds,d.depth <= 50) /\ ∀ v,us[Z8 ds]? = some v -> Q v H
def qd:List V -> Hp -> VK -> Prop:=fun xs H Q=>∃ (x y:V) (d e:PyData),xs = [x,y] /\ Rp H d x /\ Rp H e y /\ (∀ a ∈ [d,e],∀ b ∈ [d,e],Hs a b) /\ d.depth <= 50 /\ e.depth <= 50 /\ Q (if Jw e d = true then y else x) H
end
section
variable {X:Cx} {k:Nat}
def Zn (ds:List PyData):Nat:=argBest (fun i j=>i7 (ds.getD i .none) (ds.getD j .none)) (ds.length - 1)
def pc (K:PySem.W.Frag):List V -> Hp -> VK -> Prop:=fun xs H Q=>∃ (p:Addr) (us:List V) (ds:List PyData),xs = [.ref p] /\ B9 K H p us /\ RpAll H ds us /\ 0 < us.length /\ (∀ d ∈ ds,∀ e ∈ ds,Hs d e) /\ (∀ d ∈ ds,d.depth <= 50) /\ ∀ v,us[Zn ds]? = some v -> Q v H
def qj:List V -> Hp -> VK -> Prop:=fun xs H Q=>∃ (x y:V) (d e:PyData),xs = [x,y] /\ Rp H d x /\ Rp H e y /\ (∀ a ∈ [d,e],∀ b ∈ [d,e],Hs a b) /\ d.depth <= 50 /\ e.depth <= 50 /\ Q (if i7 e d = true then y else x) H
end
section
variable {prog:Program} {w:World} {K:Type} [DecidableEq K] {knd:HeapKind prog w K} {A:Around} {E:Value -> Shared -> Prop} {s:Shared} {d:Addr} {xs:List (K × Addr × Value)}
theorem Sn (knd : HeapKind prog w K) (hd : (d == sysModules) = false) :
  MeetsIn prog w (Builtin.«dict.__len__» ⟨[.ref d],[]⟩) (fun _ R s=>∃ xs,s.heap.DictOfH knd d xs /\ R (.ok (.ret (.int xs.length s.toks))) { s with toks:=s.toks + 1 }) :=
 .of_wp fun A R s ⟨xs,hm,h⟩=>by
  obtain ⟨o,es,ep,ho,hc,hdat,he,his,hn⟩ := hm
  show wpAny _ _ (dictSize d >>= _) _ _ s
  unfold dictSize
  refine wpAny_bind (wpAny_bind (wpAny_dictEntries ho hdat (wpAny_pure ?_)))
  show wpAny _ _ (Builtin.Dict.pendingCount d >>= _) _ _ s
  refine wpAny_bind (wpAny_pendingCount_other hd ?_)
  refine wpAny_ret_mkInt ?_
  have e:es.size = xs.length:=size_of_entries he
  rw [Nat.add_zero,e]
  exact h
theorem Vj {Q : Value -> Shared -> Prop} (hd : (d == sysModules) = false) (hm : s.heap.DictOfH knd d xs) (hfit : (xs.length : Int) < 2 ^ 63)
  (h:Q (.int xs.length (s.toks + 1)) { s with toks:=s.toks + 1 + 1 }):wpAny (model prog w) A (Builtin.«len» ⟨[.ref d],[]⟩) (fun fin s'=>∃ r,fin = .done (.ret r) /\ Q r s') E s:=by
 unfold Builtin.«len»
 refine wpAny_bind (m:=oneArg "len" _) (wpAny_pure ?_)
 refine wpAny_bind (m:=callSpecial? (.ref d) (Str.ofString "__len__")) (wpAny_callSpecial?_slot (name:=Str.ofString "__len__") hm.typeIs F.slot_dict_len
  (call_meetsIn F.slot_dict_len hm.typeIs F.entry_dict_len (F.args_dict_len_1 _) (Sn knd hd) ⟨xs,hm,?_⟩))
 show wpAny _ _ _ _ _ { s with toks:=s.toks + 1 }
 refine wpAny_bind (wpAny_holding (wpAny_pure ?_))
 refine wpAny_bind (wpAny_letGo ?_)
 show wpAny _ _ (if ((xs.length:Nat):Int) < 0 then _ else _) _ _ _
 rw [if_neg (by omega)]
 show wpAny _ _ (if ((xs.length:Nat):Int) >= 2 ^ 63 then _ else _) _ _ _
 rw [if_neg (by omega)]
 exact wpAny_bind (wpAny_mkInt (wpAny_pure ⟨_,rfl,h⟩))
theorem nh {Q : Value -> Shared -> Prop} (hd : (d == sysModules) = false) (hm : s.heap.DictOfH knd d xs) (hfit : (xs.length : Int) < 2 ^ 63)
  (h:Q (.int xs.length (s.toks + 1)) { s with toks:=s.toks + 1 + 1 }):wpAny (model prog w) A (call (.builtin "len") [.ref d]) Q E s :=
 Calls.call_function_entry kind_len plain_len entry_len (args_len1 _) (Vj hd hm hfit h)
end
section
variable {X:Cx}
theorem Nd:Es X (.builtin "len") (fun xs H Q=>∃ d kvs,xs = [.ref d] /\ H d = some (.dT kvs) /\ Q (.int kvs.length) H):=by
 intro pins s σ H xs us Q I r h
 obtain ⟨d,kvs,rfl,hd,q⟩ := h
 obtain ⟨u,rfl,rx⟩ := Pp r
 cases rx
 obtain ⟨z0,hs,vs,rel,dd⟩ := X7 I.hok hd
 have hl:=Paired.length rel
 have h24:sizeLine < 2 ^ 30:=by decide
 refine nh hs dd (by omega) ⟨.int kvs.length,H,I.tok _,⟨_,by rw [hl]⟩,q⟩
end
section
variable {X:Cx} {pos:Pos} {ke ve:Expr} {tk tv:TE}
def mh (tk tv:TE):TE:=fun σ H Q=>∀ p,H p = none -> Pd [(tk,tv)] σ (upd H p (.dT [])) fun ps H2=>H2 p = some (.dT []) /\ ∃ b k y,ps = [(.ref b,y)] /\ E5 H2 b k /\ Q (.ref p) (upd H2 p (.dT [(k,y)]))
end
section
variable {P:Program} {w:World} {A:Around} {E:Value -> Shared -> Prop} {s:Shared}
end
section
variable {X:Cx}
def ol (P:Program) (w:World):List V -> Hp -> VK -> Prop:=fun xs H Q=>∃ (D:Addr) (kvs:List ((List Int × Int) × V)),xs = [.ref D] /\ H D = some (.dT kvs) /\ (kvs.map fun kv=>Gp P w kv.1).Nodup /\ ∀ d,H d = none -> Q (.ref d) (upd H d (.dT kvs))
end
section
variable {X:Cx} {pins:List (Addr × Obj)} {σ:St} {H:Hp} {s:Shared} {k:Nat}
def ln (K:PySem.W.Frag):V -> List V -> Hp -> VK -> Prop:=fun x vs H Q=>∃ (l:Addr) (us:List V) (y:V) (d:PyData) (ds:List PyData) (j:Nat),x = .ref l /\ vs = [y] /\ B9 K H l us /\ Rp H d y /\ RpAll H ds us /\ d.depth <= 50 /\ (∃ e,ds[j]? = some e /\ PyData.eqv e d = true) /\ (∀ m e,m < j -> ds[m]? = some e -> PyData.eqv e d = false) /\ Q (.int (j:Nat)) H
end
def lv:Expr -> Bool
 | .Starred _ _=>false
 | _=>true
section
variable {X:Cx} {e:Expr} {es:List Expr} {te:TE} {t:TA}
theorem Fz {u u':TE} (h:PE X e u) (hu:u = u':=by rfl):PE X e u':=hu ▸ h
theorem D4 {tg:Expr} {w w':TI} (h:PI X tg e w) (hw:w = w':=by rfl):PI X tg e w':=hw ▸ h
def jm (K:PySem.W.Frag):List V -> Hp -> VK -> Prop:=fun xs H Q=>∃ p ys,xs = [.ref p] /\ ((B9 K H p ys /\ ∀ l,H l = none -> Q (.ref l) (upd H l (.tup ys))) \/ (Br K H p ys /\ Q (.ref p) H))
theorem C8 (K:PySem.W.Frag) (hK:X.K = K:=by rfl):Es X (.type "tuple") (jm K):=by
 subst hK
 exact Mb
end
def Im:Bool -> Keyed -> Array Keyed -> Nat -> Nat -> Nat -> StateT SortSt Sem (Option Nat):=sortPriv% PySem.Builtin.gallop
def Xx:Array Keyed -> Array Keyed -> StateT SortSt Sem (Array Keyed):=sortPriv% PySem.Builtin.mergeLo
def Y8:Array Keyed -> Array Keyed -> StateT SortSt Sem (Array Keyed):=sortPriv% PySem.Builtin.mergeHi
def fa (f:Keyed -> Nat) (a:Array Keyed) (i:Nat):Nat:=match a[i]? with
 | some p=>f p
 | none=>0
theorem Az {f:Keyed -> Nat} {a:Array Keyed} {i:Nat} {p:Keyed} (h:a[i]? = some p):fa f a i = f p:=by unfold fa; rw [h]
theorem Ec {f:Keyed -> Nat} {a b:Array Keyed} {i j:Nat} (h:a[i]? = b[j]?):fa f a i = fa f b j:=by unfold fa; rw [h]
def Hr (f:Keyed -> Nat) (a:Array Keyed) (lo hi:Nat):Prop := ∀ i j,lo <= i -> i <= j -> j < hi -> fa f a i <= fa f a j
section
variable {prog:Program} {w:World} {A:Around} {E:Value -> Shared -> Prop} {s:Shared} {κ:SortKind} {f:Keyed -> Nat} {a₀:Array Keyed} {st:SortSt}
def Ig (prog:Program) (w:World) (A:Around) (s:Shared) (κ:SortKind) (f:Keyed -> Nat) (a₀:Array Keyed):Prop := ∀ x y,x ∈ a₀ -> y ∈ a₀ -> ∀ (Q:Bool -> Shared -> Prop) (E:Value -> Shared -> Prop),Q (decide (f x < f y)) s -> wpAny (model prog w) A (keyLt' κ x.1 y.1) Q E s
structure Bs (κ:SortKind) (a₀:Array Keyed) (st:SortSt):Prop where
 perm:(arrOf st).Perm a₀
 kind:kindOf st = κ
 failed:failedOf st = none
theorem Bs.size (h:Bs κ a₀ st):(arrOf st).size = a₀.size:=h.perm.size_eq
theorem Bs.mem (h:Bs κ a₀ st) {i:Nat} {p:Keyed} (e:(arrOf st)[i]? = some p):p ∈ a₀:=h.perm.mem_iff.mp (Array.mem_of_getElem? e)
theorem Kc (hA:Ig prog w A s κ f a₀) (hk:kindOf st = κ) {x y:Keyed} (hx:x ∈ a₀) (hy:y ∈ a₀) {Q:Option Bool -> SortSt -> Prop} (h:Q (some (decide (f x < f y))) st):wpS (model prog w) A E s (lt' x y) Q st:=by
 rw [lt'_eq]
 refine wpS_bind (wpS_get ?_)
 rw [hk]
 refine wpS_bind (wpS_lift (wpAny_attempt (hA x y hx hy _ _ ⟨rfl,?_⟩)))
 exact wpS_pure h
theorem Bi {a:Array Keyed} {i:Nat} {p:Keyed} (e:a[i]? = some p) {Q:Keyed -> SortSt -> Prop} (h:Q p st):wpS (model prog w) A E s (elem' a i) Q st:=by
 rw [elem'_eq,e]
 exact wpS_pure h
theorem C6 {a:Array Keyed} {i:Nat} (h:i < a.size):∃ p,a[i]? = some p:=⟨a[i],getElem?_pos a i h⟩
theorem Gq (hA:Ig prog w A s κ f a₀) (hB:Bs κ a₀ st) {i j:Nat} (hi:i < a₀.size) (hj:j < a₀.size) {Q:Option Bool -> SortSt -> Prop} (h:Q (some (decide (fa f (arrOf st) i < fa f (arrOf st) j))) st):wpS (model prog w) A E s (ltAt' i j) Q st:=by
 obtain ⟨p,ep⟩ := C6 (a:=arrOf st) (i:=i) (by rw [hB.size]; exact hi)
 obtain ⟨q,eq⟩ := C6 (a:=arrOf st) (i:=j) (by rw [hB.size]; exact hj)
 rw [Az ep,Az eq] at h
 rw [ltAt'_eq]
 refine wpS_bind (wpS_get ?_)
 exact wpS_bind (Bi ep (wpS_bind (Bi eq (Kc hA hB.kind (hB.mem ep) (hB.mem eq) h))))
theorem S6 (hA : Ig prog w A s κ f a₀) (hk : kindOf st = κ) {left : Bool} {key : Keyed} {arr : Array Keyed} {i : Nat} (hkey : key ∈ a₀) (harr : ∀ p, p ∈ arr -> p ∈ a₀) (hi : i < arr.size) {Q : Option Bool -> SortSt -> Prop}
  (h:Q (some (if left = true then decide (fa f arr i < f key) else !decide (f key < fa f arr i))) st):wpS (model prog w) A E s (elem' arr i >>= fun x=>if left = true then lt' x key else lt' key x >>= fun r=>pure (r.map fun b=>!b)) Q st:=by
 obtain ⟨p,ep⟩ := C6 hi
 rw [Az ep] at h
 refine wpS_bind (Bi ep ?_)
 have hp:=harr p (Array.mem_of_getElem? ep)
 cases left with
 | true=>exact Kc hA hk hp hkey h
 | false=>exact wpS_bind (Kc hA hk hkey hp (wpS_pure h))
theorem Dt (hA : Ig prog w A s κ f a₀) (hk : kindOf st = κ) {left : Bool} {key : Keyed} {arr : Array Keyed} {base n hint : Nat} (hkey : key ∈ a₀) (harr : ∀ p, p ∈ arr -> p ∈ a₀) (hn : base + n <= arr.size) (hh : hint < n) (hs : Hr f arr base (base + n)) {Q : Option Nat -> SortSt -> Prop}
  (h:∀ k,k <= n -> (∀ i,i < k -> if left = true then fa f arr (base + i) < f key else fa f arr (base + i) <= f key) -> (∀ i,k <= i -> i < n -> if left = true then f key <= fa f arr (base + i) else f key < fa f arr (base + i)) -> Q (some k) st):wpS (model prog w) A E s (Im left key arr base n hint) Q st:=by
 obtain ⟨P,hP⟩ : ∃ P:Nat -> Bool,∀ i,P i = if left = true then decide (fa f arr (base + i) < f key) else !decide (f key < fa f arr (base + i)):=⟨_,fun _=>rfl⟩
 have mono:∀ i j,i <= j -> j < n -> P j = true -> P i = true:=fun i j h1 h2 h3=>by
  have h4:=hs (base + i) (base + j) (by omega) (by omega) (by omega)
  rw [hP] at h3 ⊢
  cases left <;> simp at h3 ⊢ <;> omega
 have anti:∀ i j,i <= j -> j < n -> P i = false -> P j = false:=fun i j h1 h2 h3=>by
  cases e:P j with
  | false=>rfl
  | true=>rw [mono i j h1 h2 e] at h3; cases h3
 have ask:∀ i,i < n -> ∀ {Q':Option Bool -> SortSt -> Prop},Q' (some (P i)) st -> wpS (model prog w) A E s (elem' arr (base + i) >>= fun x=>if left = true then lt' x key else lt' key x >>= fun r=>pure (r.map fun b=>!b)) Q' st:=fun i hi Q' hq=>by
  rw [hP] at hq
  exact S6 hA hk hkey harr (by omega) hq
 have out:∀ k,k <= n -> (∀ i,i < k -> P i = true) -> (∀ i,k <= i -> i < n -> P i = false) -> Q (some k) st:=fun k h1 h2 h3=>by
  refine h k h1 (fun i hi=>?_) (fun i hi hi2=>?_)
  ·have:=h2 i hi
   rw [hP] at this
   cases left <;> simp at this ⊢ <;> omega
  ·have:=h3 i hi hi2
   rw [hP] at this
   cases left <;> simp at this ⊢ <;> omega
 refine wpS_bind (ask hint hh ?_)
 dsimp only
 cases hr:P hint with
 | true =>
  rw [if_pos rfl]
  refine wpS_bind (wpS_mono (wpS_forRange (I:=fun x c st'=>st' = st /\ ∃ l o,c = (none,l,o) /\ l < o /\ P (hint + l) = true /\ hint + l < n /\ x + 1 <= o) (Q:=fun c st'=>st' = st /\ ∃ l o,c = (none,l,o) /\ l < o /\ P (hint + l) = true /\ hint + l < n /\ (n - hint <= o \/ P (hint + o) = false)) ?_ ?_ ⟨rfl,0,1,rfl,by omega,hr,hh,by omega⟩) ?_)
  ·rintro x c st' _ hx ⟨rfl,l,o,rfl,h1,h2,h3,h4⟩
   dsimp only
   by_cases ho:o >= n - hint
   ·rw [if_pos ho]
    exact wpS_pure ⟨rfl,l,o,rfl,h1,h2,h3,.inl ho⟩
   ·rw [if_neg ho]
    refine wpS_bind (ask (hint + o) (by omega) ?_)
    dsimp only
    cases e:P (hint + o) with
    | false=>exact wpS_pure ⟨rfl,l,o,rfl,h1,h2,h3,.inr e⟩
    | true=>exact wpS_pure ⟨rfl,o,2 * o + 1,rfl,by omega,e,by omega,by omega⟩
  ·rintro c st' ⟨rfl,l,o,rfl,h1,h2,h3,h4⟩
   exact ⟨rfl,l,o,rfl,h1,h2,h3,.inl (by omega)⟩
  rintro c st' ⟨rfl,l,o,rfl,h1,h2,h3,h4⟩
  dsimp only
  refine wpS_bind (wpS_mono (wpS_forRange (I:=fun x c st2=>st2 = st' /\ ∃ lo hi,c = (none,lo,hi) /\ lo <= hi /\ hi <= n /\ (∀ i,i < lo -> P i = true) /\ (∀ i,hi <= i -> i < n -> P i = false) /\ hi + x <= lo + n) (Q:=fun c st2=>st2 = st' /\ ∃ k,c = (none,k,k) /\ k <= n /\ (∀ i,i < k -> P i = true) /\ (∀ i,k <= i -> i < n -> P i = false)) ?_ ?_ ⟨rfl,_,_,rfl,by omega,by omega,fun i hi=>?_,fun i hi hi2=>?_,by omega⟩) ?_)
  ·rintro x c st2 _ hx ⟨rfl,lo,hi,rfl,g1,g2,g3,g4,g5⟩
   dsimp only
   by_cases ho:lo >= hi
   ·rw [if_pos ho]
    obtain rfl:lo = hi:=by omega
    exact wpS_pure ⟨rfl,lo,rfl,g2,g3,g4⟩
   ·rw [if_neg ho]
    refine wpS_bind (ask (lo + (hi - lo) / 2) (by omega) ?_)
    dsimp only
    cases e:P (lo + (hi - lo) / 2) with
    | false =>
     refine wpS_pure ⟨rfl,lo,_,rfl,by omega,by omega,g3,fun i hi1 hi2=>anti _ i hi1 hi2 e,by omega⟩
    | true =>
     refine wpS_pure ⟨rfl,_,hi,rfl,by omega,g2,fun i hi1=>mono i _ (by omega) (by omega) e,g4,by omega⟩
  ·rintro c st2 ⟨rfl,lo,hi,rfl,g1,g2,g3,g4,g5⟩
   obtain rfl:lo = hi:=by omega
   exact ⟨rfl,lo,rfl,g2,g3,g4⟩
  ·exact mono i (hint + l) (by omega) h3 h2
  ·rcases h4 with h4 | h4
   ·omega
   ·by_cases z:n - hint <= o
    ·omega
    ·exact anti (hint + o) i (by omega) hi2 h4
  rintro c st2 ⟨rfl,k,rfl,g1,g2,g3⟩
  dsimp only
  exact wpS_pure (out k g1 g2 g3)
 | false =>
  rw [if_neg (by decide)]
  refine wpS_bind (wpS_mono (wpS_forRange (I:=fun x c st'=>st' = st /\ ∃ l o,c = (none,l,o) /\ l < o /\ P (hint - l) = false /\ l <= hint /\ x + 1 <= o) (Q:=fun c st'=>st' = st /\ ∃ l o,c = (none,l,o) /\ l < o /\ P (hint - l) = false /\ l <= hint /\ (hint + 1 <= o \/ P (hint - o) = true)) ?_ ?_ ⟨rfl,0,1,rfl,by omega,hr,by omega,by omega⟩) ?_)
  ·rintro x c st' _ hx ⟨rfl,l,o,rfl,h1,h2,h3,h4⟩
   dsimp only
   by_cases ho:o >= hint + 1
   ·rw [if_pos ho]
    exact wpS_pure ⟨rfl,l,o,rfl,h1,h2,h3,.inl ho⟩
   ·rw [if_neg ho]
    refine wpS_bind (ask (hint - o) (by omega) ?_)
    dsimp only
    cases e:P (hint - o) with
    | true=>exact wpS_pure ⟨rfl,l,o,rfl,h1,h2,h3,.inr e⟩
    | false=>exact wpS_pure ⟨rfl,o,2 * o + 1,rfl,by omega,e,by omega,by omega⟩
  ·rintro c st' ⟨rfl,l,o,rfl,h1,h2,h3,h4⟩
   exact ⟨rfl,l,o,rfl,h1,h2,h3,.inl (by omega)⟩
  rintro c st' ⟨rfl,l,o,rfl,h1,h2,h3,h4⟩
  dsimp only
  refine wpS_bind (wpS_mono (wpS_forRange (I:=fun x c st2=>st2 = st' /\ ∃ lo hi,c = (none,lo,hi) /\ lo <= hi /\ hi <= n /\ (∀ i,i < lo -> P i = true) /\ (∀ i,hi <= i -> i < n -> P i = false) /\ hi + x <= lo + n) (Q:=fun c st2=>st2 = st' /\ ∃ k,c = (none,k,k) /\ k <= n /\ (∀ i,i < k -> P i = true) /\ (∀ i,k <= i -> i < n -> P i = false)) ?_ ?_ ⟨rfl,_,_,rfl,by omega,by omega,fun i hi=>?_,fun i hi hi2=>?_,by omega⟩) ?_)
  ·rintro x c st2 _ hx ⟨rfl,lo,hi,rfl,g1,g2,g3,g4,g5⟩
   dsimp only
   by_cases ho:lo >= hi
   ·rw [if_pos ho]
    obtain rfl:lo = hi:=by omega
    exact wpS_pure ⟨rfl,lo,rfl,g2,g3,g4⟩
   ·rw [if_neg ho]
    refine wpS_bind (ask (lo + (hi - lo) / 2) (by omega) ?_)
    dsimp only
    cases e:P (lo + (hi - lo) / 2) with
    | false =>
     refine wpS_pure ⟨rfl,lo,_,rfl,by omega,by omega,g3,fun i hi1 hi2=>anti _ i hi1 hi2 e,by omega⟩
    | true =>
     refine wpS_pure ⟨rfl,_,hi,rfl,by omega,g2,fun i hi1=>mono i _ (by omega) (by omega) e,g4,by omega⟩
  ·rintro c st2 ⟨rfl,lo,hi,rfl,g1,g2,g3,g4,g5⟩
   obtain rfl:lo = hi:=by omega
   exact ⟨rfl,lo,rfl,g2,g3,g4⟩
  ·rcases h4 with h4 | h4
   ·omega
   ·by_cases z:hint + 1 <= o
    ·omega
    ·exact mono i (hint - o) (by omega) (by omega) h4
  ·exact anti (hint - l) i (by omega) hi2 h2
  rintro c st2 ⟨rfl,k,rfl,g1,g2,g3⟩
  dsimp only
  exact wpS_pure (out k g1 g2 g3)
end
section
variable {f:Keyed -> Nat}
def Dk (f:Keyed -> Nat) (l:List Keyed):Prop:=l.Pairwise fun p q=>f p <= f q
def Hd (f:Keyed -> Nat) (l m:List Keyed):Prop := ∀ p ∈ l,∀ q ∈ m,f p <= f q
theorem Gx {l m:List Keyed} (h1:Dk f l) (h2:Dk f m) (h3:Hd f l m):Dk f (l ++ m):=List.pairwise_append.mpr ⟨h1,h2,h3⟩
theorem Gn {l:List Keyed} (h:Dk f l) (n:Nat):Dk f (l.drop n):=h.sublist (List.drop_sublist n l)
theorem G9 {l:List Keyed} (h:Dk f l) (n:Nat):Dk f (l.take n):=h.sublist (List.take_sublist n l)
theorem Lb {l:List Keyed} (h:Dk f l) {i j:Nat} {p q:Keyed} (hi:l[i]? = some p) (hj:l[j]? = some q) (hij:i <= j):f p <= f q:=by
 obtain ⟨h1,e1⟩ := List.getElem?_eq_some_iff.mp hi
 obtain ⟨h2,e2⟩ := List.getElem?_eq_some_iff.mp hj
 rcases Nat.lt_or_ge i j with z | z
 ·have:=List.pairwise_iff_getElem.mp h i j h1 h2 z
  rw [e1,e2] at this
  exact this
 ·obtain rfl:i = j:=by omega
  rw [e1] at e2
  rw [e2]
  exact Nat.le_refl _
theorem En {l:List Keyed} {i:Nat} {p:Keyed} (h:p ∈ l.drop i):∃ j,l[i + j]? = some p:=by
 obtain ⟨j,hj⟩ := List.mem_iff_getElem?.mp h
 rw [List.getElem?_drop] at hj
 exact ⟨j,hj⟩
theorem Ef {l:List Keyed} {i k:Nat} {p:Keyed} (h:p ∈ (l.drop i).take k):∃ j,j < k /\ l[i + j]? = some p:=by
 obtain ⟨j,hj⟩ := List.mem_iff_getElem?.mp h
 have hjk:j < k:=by
  have:=(List.getElem?_eq_some_iff.mp hj).1
  rw [List.length_take] at this
  omega
 rw [List.getElem?_take_of_lt hjk,List.getElem?_drop] at hj
 exact ⟨j,hjk,hj⟩
def MI (f:Keyed -> Nat) (x y:List Keyed) (i j:Nat) (o:List Keyed):Prop:=o.Perm (x.take i ++ y.take j) /\ Dk f o /\ Hd f o (x.drop i ++ y.drop j)
theorem Mi (l:List Keyed) (i k:Nat):l.take (i + k) = l.take i ++ (l.drop i).take k:=by rw [List.take_add]
theorem Hi (l:List Keyed) (i k:Nat):l.drop i = (l.drop i).take k ++ l.drop (i + k):=by
 have:=(List.take_append_drop k (l.drop i)).symm
 rw [List.drop_drop] at this
 exact this
theorem MI.takeA {x y o:List Keyed} {i j k:Nat} (h:MI f x y i j o) (hx:Dk f x) (hle:Hd f ((x.drop i).take k) (y.drop j)):MI f x y (i + k) j (o ++ (x.drop i).take k):=by
 obtain ⟨h1,h2,h3⟩ := h
 have hd:=Hi x i k
 refine ⟨?_,?_,?_⟩
 ·rw [Mi]
  refine (h1.append_right _).trans ?_
  rw [List.append_assoc,List.append_assoc]
  exact List.Perm.append_left _ List.perm_append_comm
 ·refine Gx h2 (G9 (Gn hx i) k) fun p hp q hq=>h3 p hp q (List.mem_append_left _ (List.mem_of_mem_take hq))
 ·intro p hp q hq
  rcases List.mem_append.mp hp with z | z
  ·rcases List.mem_append.mp hq with y' | y'
   ·refine h3 p z q (List.mem_append_left _ ?_)
    rw [hd]
    exact List.mem_append_right _ y'
   ·exact h3 p z q (List.mem_append_right _ y')
  ·rcases List.mem_append.mp hq with y' | y'
   ·have hs:=Gn hx i
    rw [hd] at hs
    exact (List.pairwise_append.mp hs).2.2 p z q y'
   ·exact hle p z q y'
theorem MI.swap {x y o:List Keyed} {i j:Nat} (h:MI f x y i j o):MI f y x j i o:=⟨h.1.trans List.perm_append_comm,h.2.1,fun p hp q hq=>h.2.2 p hp q (List.perm_append_comm.mem_iff.mp hq)⟩
theorem MI.takeB {x y o:List Keyed} {i j k:Nat} (h:MI f x y i j o) (hy:Dk f y) (hle:Hd f ((y.drop j).take k) (x.drop i)):MI f x y i (j + k) (o ++ (y.drop j).take k):=(h.swap.takeA hy hle).swap
def Cz (f:Keyed -> Nat) (x y r:List Keyed):Prop:=r.Perm (x ++ y) /\ Dk f r
theorem MI.done {x y o:List Keyed} {i j:Nat} (h:MI f x y i j o) (hx:Dk f x) (hy:Dk f y) (hle:Hd f (x.drop i) (y.drop j)):Cz f x y (o ++ x.drop i ++ y.drop j):=by
 obtain ⟨h1,h2,h3⟩ := h
 refine ⟨?_,?_⟩
 ·rw [List.append_assoc]
  refine (h1.append_right _).trans ?_
  have e:x ++ y = (x.take i ++ x.drop i) ++ (y.take j ++ y.drop j):=by rw [List.take_append_drop,List.take_append_drop]
  rw [e,List.append_assoc,List.append_assoc]
  refine List.Perm.append_left _ ?_
  rw [<- List.append_assoc,<- List.append_assoc]
  exact List.Perm.append_right _ List.perm_append_comm
 ·rw [List.append_assoc]
  exact Gx h2 (Gx (Gn hx i) (Gn hy j) hle) h3
theorem MI.doneB {x y o:List Keyed} {i j:Nat} (h:MI f x y i j o) (hx:Dk f x) (hy:Dk f y) (hle:Hd f (y.drop j) (x.drop i)):Cz f x y (o ++ y.drop j ++ x.drop i):=by
 obtain ⟨g1,g2⟩ := h.swap.done hy hx hle
 exact ⟨g1.trans List.perm_append_comm,g2⟩
theorem Pf {l:List Keyed} {i:Nat} {p:Keyed} (h:l[i]? = some p):(l.drop i).take 1 = [p]:=by
 obtain ⟨h1,e⟩ := List.getElem?_eq_some_iff.mp h
 rw [List.drop_eq_getElem_cons h1,e]
 rfl
theorem MI.stepA {x y o:List Keyed} {i j:Nat} {p q:Keyed} (h:MI f x y i j o) (hx:Dk f x) (hy:Dk f y) (hp:x[i]? = some p) (hq:y[j]? = some q) (hle:f p <= f q):MI f x y (i + 1) j (o ++ [p]):=by
 rw [<- Pf hp]
 refine h.takeA hx fun a ha b hb=>?_
 rw [Pf hp] at ha
 cases List.mem_singleton.mp ha
 obtain ⟨k,hk⟩ := En hb
 exact Nat.le_trans hle (Lb hy hq hk (by omega))
theorem MI.stepB {x y o:List Keyed} {i j:Nat} {p q:Keyed} (h:MI f x y i j o) (hx:Dk f x) (hy:Dk f y) (hp:x[i]? = some p) (hq:y[j]? = some q) (hle:f q <= f p):MI f x y i (j + 1) (o ++ [q]):=(h.swap.stepA hy hx hq hp hle).swap
end
section
variable {f:Keyed -> Nat} {a b o:Array Keyed} {i j k:Nat}
theorem K6 (a:Array Keyed) (i:Nat):(a.extract i).toList = a.toList.drop i:=by
 rw [Array.toList_extract]
 show (a.toList.drop i).take (a.size - i) = _
 rw [List.take_of_length_le (by rw [List.length_drop,Array.length_toList]; omega)]
theorem Gu (a:Array Keyed) (i k:Nat):(a.extract i (i + k)).toList = (a.toList.drop i).take k:=by
 simp [List.extract]
theorem Ol (a:Array Keyed) (k:Nat):(a.extract 0 k).toList = a.toList.take k:=by simp
theorem MI.retDone (h:MI f a.toList b.toList i j o.toList) (hx:Dk f a.toList) (hy:Dk f b.toList) (e:j = b.size \/ i = a.size):Cz f a.toList b.toList (o ++ a.extract i ++ b.extract j).toList:=by
 rw [Array.toList_append,Array.toList_append,K6,K6]
 refine h.done hx hy ?_
 rcases e with e | e
 ·rw [List.drop_of_length_le (l:=b.toList) (by rw [Array.length_toList]; omega)]
  intro p _ q hq
  cases hq
 ·rw [List.drop_of_length_le (l:=a.toList) (by rw [Array.length_toList]; omega)]
  intro p hp
  cases hp
theorem MI.retLast (h:MI f a.toList b.toList i j o.toList) (hx:Dk f a.toList) (hy:Dk f b.toList) (e:i + 1 = a.size) (hl:∀ q ∈ b.toList,f q <= fa f a i):Cz f a.toList b.toList (o ++ b.extract j ++ a.extract i).toList:=by
 rw [Array.toList_append,Array.toList_append,K6,K6]
 refine h.doneB hx hy fun p hp q hq=>?_
 obtain ⟨m,hm⟩ := En hq
 have hlt:=(List.getElem?_eq_some_iff.mp hm).1
 rw [Array.length_toList] at hlt
 obtain rfl:m = 0:=by omega
 have h1:=hl p (List.mem_of_mem_drop hp)
 rw [Nat.add_zero,Array.getElem?_toList] at hm
 rw [Az hm] at h1
 exact h1
theorem MI.pushA (h:MI f a.toList b.toList i j o.toList) (hx:Dk f a.toList) (hy:Dk f b.toList) {p:Keyed} (hp:a[i]? = some p) (hj:j < b.size) (hle:f p <= fa f b j):MI f a.toList b.toList (i + 1) j (o.push p).toList:=by
 obtain ⟨q,hq⟩ := C6 hj
 rw [Az hq] at hle
 rw [Array.toList_push]
 exact h.stepA hx hy (by rw [Array.getElem?_toList]; exact hp) (by rw [Array.getElem?_toList]; exact hq) hle
theorem MI.pushB (h:MI f a.toList b.toList i j o.toList) (hx:Dk f a.toList) (hy:Dk f b.toList) {q:Keyed} (hq:b[j]? = some q) (hi:i < a.size) (hle:f q <= fa f a i):MI f a.toList b.toList i (j + 1) (o.push q).toList:=by
 obtain ⟨p,hp⟩ := C6 hi
 rw [Az hp] at hle
 rw [Array.toList_push]
 exact h.stepB hx hy (by rw [Array.getElem?_toList]; exact hp) (by rw [Array.getElem?_toList]; exact hq) hle
theorem MI.appA (h:MI f a.toList b.toList i j o.toList) (hx:Dk f a.toList) (hy:Dk f b.toList) {q:Keyed} (hq:b[j]? = some q) (hle:∀ m,m < k -> fa f a (i + m) <= f q):MI f a.toList b.toList (i + k) j (o ++ a.extract i (i + k)).toList:=by
 rw [Array.toList_append,Gu]
 refine h.takeA hx fun x hx' y hy'=>?_
 obtain ⟨m,hm,e⟩ := Ef hx'
 obtain ⟨m2,e2⟩ := En hy'
 have h1:=hle m hm
 rw [Array.getElem?_toList] at e
 rw [Az e] at h1
 exact Nat.le_trans h1 (Lb hy (by rw [Array.getElem?_toList]; exact hq) e2 (by omega))
theorem MI.appB (h:MI f a.toList b.toList i j o.toList) (hx:Dk f a.toList) (hy:Dk f b.toList) {p:Keyed} (hp:a[i]? = some p) (hle:∀ m,m < k -> fa f b (j + m) <= f p):MI f a.toList b.toList i (j + k) (o ++ b.extract j (j + k)).toList:=by
 rw [Array.toList_append,Gu]
 refine h.takeB hy fun x hx' y hy'=>?_
 obtain ⟨m,hm,e⟩ := Ef hx'
 obtain ⟨m2,e2⟩ := En hy'
 have h1:=hle m hm
 rw [Array.getElem?_toList] at e
 rw [Az e] at h1
 exact Nat.le_trans h1 (Lb hx (by rw [Array.getElem?_toList]; exact hp) e2 (by omega))
theorem K0 (h:Dk f a.toList) {lo hi:Nat} (hh:hi <= a.size):Hr f a lo hi:=fun i j h1 h2 h3=>by
 obtain ⟨p,hp⟩ := C6 (a:=a) (i:=i) (by omega)
 obtain ⟨q,hq⟩ := C6 (a:=a) (i:=j) (by omega)
 rw [Az hp,Az hq]
 exact Lb h (by rw [Array.getElem?_toList]; exact hp) (by rw [Array.getElem?_toList]; exact hq) h2
theorem Ey {m n:Nat} (h:m = n):(m == n) = true:=by simp [h]
theorem Ez {m n:Nat} (h:¬ m = n):¬ (m == n) = true:=by simp [h]
end
section
variable {prog:Program} {w:World} {A:Around} {E:Value -> Shared -> Prop} {s:Shared} {κ:SortKind} {f:Keyed -> Nat} {a₀:Array Keyed} {st:SortSt}
def Gs (st st':SortSt):Prop := ∃ g,st' = SortSt.mk' (kindOf st) (arrOf st) (pendingOf st) g (failedOf st)
theorem Gs.refl:Gs st st:=⟨gallopOf st,rfl⟩
theorem Yr {σ β:Type} {M:Model} {c:Prop} [Decidable c] {Q:β -> σ -> Prop} {st:σ} {g:Nat -> StateT σ Sem β} {X Y:StateT σ Sem β} (y x:Nat) (ey:Y = g y) (ex:X = g x) (h:∀ z,wpS M A E s (g z) Q st):wpS M A E s (if c then X else Y) Q st:=by
 subst ey ex
 split
 ·exact h x
 ·exact h y
theorem K4 {σ β:Type} {M:Model} {c:Prop} [Decidable c] {Q:β -> σ -> Prop} {st:σ} {g:Array Keyed -> Nat -> StateT σ Sem β} {X Y:StateT σ Sem β} (P:Array Keyed -> Nat -> Prop) (o:Array Keyed) (i:Nat) (ey:Y = g o i) (hy:¬ c -> P o i) (hx:c -> (∀ o i,P o i -> wpS M A E s (g o i) Q st) -> wpS M A E s X Q st) (h:∀ o i,P o i -> wpS M A E s (g o i) Q st):wpS M A E s (if c then X else Y) Q st:=by
 subst ey
 split
 ·rename_i z
  exact hx z h
 ·rename_i z
  exact h o i (hy z)
theorem Qv (hA : Ig prog w A s κ f a₀) (hk : kindOf st = κ) {a b : Array Keyed} (ha : ∀ p, p ∈ a -> p ∈ a₀) (hb : ∀ p, p ∈ b -> p ∈ a₀) (hx : Dk f a.toList) (hy : Dk f b.toList) (ha0 : 0 < a.size) (hb0 : 0 < b.size)
  (hfirst:fa f b 0 <= fa f a 0) (hlast:∀ q ∈ b.toList,f q <= fa f a (a.size - 1)) {Q:Array Keyed -> SortSt -> Prop} (h:∀ r st',Gs st st' -> Cz f a.toList b.toList r.toList -> Q r st'):wpS (model prog w) A E s (Xx a b) Q st:=by
 have last:∀ i,i + 1 = a.size -> ∀ q ∈ b.toList,f q <= fa f a i:=fun i hi q hq=>by
  have:=hlast q hq
  rwa [show a.size - 1 = i by omega] at this
 have hk':∀ g,kindOf (SortSt.mk' (kindOf st) (arrOf st) (pendingOf st) g (failedOf st)) = κ:=fun g=>hk
 obtain ⟨q0,hq0⟩ := C6 hb0
 refine wpS_bind (wpS_lift (wpAny_rule ⟨rfl,?_⟩))
 refine wpS_bind (Bi hq0 ?_)
 have M0:MI f a.toList b.toList 0 0 (#[]:Array Keyed).toList:=⟨by simp,List.Pairwise.nil,fun p hp=>by cases hp⟩
 have M1:=M0.pushB hx hy hq0 ha0 (by rw [Az hq0] at hfirst; exact hfirst)
 rw [show (#[]:Array Keyed).push q0 = #[q0] from rfl] at M1
 dsimp -zeta only
 by_cases e1:0 + 1 = b.size
 ·rw [if_pos (Ey e1)]
  exact wpS_pure (h _ _ Gs.refl (M1.retDone hx hy (.inl e1)))
 rw [if_neg (Ez e1)]
 by_cases e2:0 + 1 = a.size
 ·rw [if_pos (Ey e2)]
  exact wpS_pure (h _ _ Gs.refl (M1.retLast hx hy e2 (last 0 e2)))
 rw [if_neg (Ez e2)]
 refine wpS_bind (wpS_get ?_)
 refine wpS_bind (wpS_mono (wpS_forRange (I:=fun x c st'=>Gs st st' /\ ∃ o ia ib g,c = (none,o,ia,ib,g) /\ MI f a.toList b.toList ia ib o.toList /\ ia + 1 < a.size /\ ib < b.size /\ x + 1 <= ia + ib)
  (Q:=fun c st'=>Gs st st' /\ ∃ r z,c = (some r,z) /\ Cz f a.toList b.toList r.toList) ?_ ?_ ⟨Gs.refl,_,_,_,_,rfl,M1,by omega,by omega,by omega⟩) ?_)
 ·rintro x c st1 _ hx' ⟨G1,o,ia,ib,g,rfl,M,h1,h2,h3⟩
  dsimp -zeta only
  refine wpS_bind (wpS_mono (wpS_forRange (I:=fun y c st'=>Gs st st' /\ ∃ o ia ib ac bc,c = (none,o,ia,ib,ac,bc) /\ MI f a.toList b.toList ia ib o.toList /\ ia + 1 < a.size /\ ib < b.size /\ x + 1 + y <= ia + ib)
   (Q:=fun c st'=>Gs st st' /\ ((∃ r z,c = (some r,z) /\ Cz f a.toList b.toList r.toList) \/ ∃ o ia ib ac bc,c = (none,o,ia,ib,ac,bc) /\ MI f a.toList b.toList ia ib o.toList /\ ia + 1 < a.size /\ ib < b.size /\ x + 2 <= ia + ib)) ?_ ?_ ⟨G1,_,_,_,_,_,rfl,M,h1,h2,by omega⟩) ?_)
  ·clear M h1 h2 h3 G1
   rintro y c st1 _ hy' ⟨G1,o,ia,ib,ac,bc,rfl,M,h1,h2,h3⟩
   obtain ⟨gx,rfl⟩ := G1
   obtain ⟨q,hq⟩ := C6 h2
   obtain ⟨p,hp⟩ := C6 (a:=a) (i:=ia) (by omega)
   dsimp -zeta only
   refine wpS_bind (Bi hq (wpS_bind (Bi hp (wpS_bind (Kc hA (hk' gx) (hb q (Array.mem_of_getElem? hq)) (ha p (Array.mem_of_getElem? hp)) ?_)))))
   dsimp -zeta only
   by_cases z:f q < f p
   ·rw [if_pos (decide_eq_true z)]
    have M2:=M.pushB hx hy hq (by omega) (by rw [Az hp]; omega)
    refine wpS_bind (Bi hq ?_)
    by_cases e:ib + 1 = b.size
    ·rw [if_pos (Ey e)]
     exact wpS_pure ⟨⟨_,rfl⟩,.inl ⟨_,_,rfl,M2.retDone hx hy (.inl e)⟩⟩
    rw [if_neg (Ez e)]
    split
    ·exact wpS_pure ⟨⟨_,rfl⟩,.inr ⟨_,_,_,_,_,rfl,M2,h1,by omega,by omega⟩⟩
    ·exact wpS_pure ⟨⟨_,rfl⟩,_,_,_,_,_,rfl,M2,h1,by omega,by omega⟩
   ·rw [if_neg (by rw [decide_eq_true_eq]; exact z)]
    have M2:=M.pushA hx hy hp h2 (by rw [Az hq]; omega)
    refine wpS_bind (Bi hp ?_)
    by_cases e:ia + 1 + 1 = a.size
    ·rw [if_pos (Ey e)]
     exact wpS_pure ⟨⟨_,rfl⟩,.inl ⟨_,_,rfl,M2.retLast hx hy e (last _ e)⟩⟩
    rw [if_neg (Ez e)]
    split
    ·exact wpS_pure ⟨⟨_,rfl⟩,.inr ⟨_,_,_,_,_,rfl,M2,by omega,h2,by omega⟩⟩
    ·exact wpS_pure ⟨⟨_,rfl⟩,_,_,_,_,_,rfl,M2,by omega,h2,by omega⟩
  ·rintro c st' ⟨G1,o,ia,ib,ac,bc,rfl,M,h1,h2,h3⟩
   exact ⟨G1,.inr ⟨o,ia,ib,ac,bc,rfl,M,h1,h2,by omega⟩⟩
  clear M h1 h2 h3 G1
  rintro c st2 ⟨G2,⟨r,z,rfl,J⟩ | ⟨o,ia,ib,ac,bc,rfl,M,h1,h2,h3⟩⟩
  ·dsimp -zeta only
   exact wpS_pure ⟨G2,r,_,rfl,J⟩
  dsimp -zeta only
  refine wpS_bind (wpS_lift (wpAny_rule ⟨rfl,?_⟩))
  refine wpS_bind (wpS_mono (wpS_forRange (I:=fun y c st'=>Gs st st' /\ ∃ o ia ib mg ac bc,c = (none,o,ia,ib,mg,ac,bc) /\ MI f a.toList b.toList ia ib o.toList /\ ia + 1 < a.size /\ ib < b.size /\ x + 2 <= ia + ib)
   (Q:=fun c st'=>Gs st st' /\ ((∃ r z,c = (some r,z) /\ Cz f a.toList b.toList r.toList) \/ ∃ o ia ib mg ac bc,c = (none,o,ia,ib,mg,ac,bc) /\ MI f a.toList b.toList ia ib o.toList /\ ia + 1 < a.size /\ ib < b.size /\ x + 2 <= ia + ib)) ?_ ?_ ⟨G2,_,_,_,_,_,_,rfl,M,h1,h2,h3⟩) ?_)
  ·clear M h1 h2 h3 G2
   rintro y c st1 _ hy' ⟨G1,o,ia,ib,mg,ac,bc,rfl,M,h1,h2,h3⟩
   obtain ⟨gx,rfl⟩ := G1
   obtain ⟨q,hq⟩ := C6 h2
   dsimp -zeta only
   have ga : ∀ {Q' : Option Nat -> SortSt -> Prop} {mg}, (∀ k, ia + k <= a.size -> (∀ m, m < k -> fa f a (ia + m) <= f q) -> (∀ m, k <= m -> ia + m < a.size -> f q < fa f a (ia + m)) -> Q' (some k) (SortSt.mk' (kindOf st) (arrOf st) (pendingOf st) mg (failedOf st))) ->
     wpS (model prog w) A E s (Im false q a ia (a.size - ia) 0) Q' (SortSt.mk' (kindOf st) (arrOf st) (pendingOf st) mg (failedOf st)):=fun {Q'} {mg} hq'=>by
    refine Dt hA (hk' mg) (hb q (Array.mem_of_getElem? hq)) ha (by omega) (by omega) (K0 hx (by omega)) fun k g1 g2 g3=>hq' k (by omega) (fun m hm=>?_) (fun m hm1 hm2=>?_)
    ·have:=g2 m hm
     simpa using this
    ·have:=g3 m hm1 (by omega)
     simpa using this
   have gb : ∀ {Q' : Option Nat -> SortSt -> Prop} {mg i j p}, a[i]? = some p -> j < b.size -> (∀ k, j + k <= b.size -> (∀ m, m < k -> fa f b (j + m) <= f p) -> (∀ m, k <= m -> j + m < b.size -> f p <= fa f b (j + m)) -> Q' (some k) (SortSt.mk' (kindOf st) (arrOf st) (pendingOf st) mg (failedOf st))) ->
     wpS (model prog w) A E s (Im true p b j (b.size - j) 0) Q' (SortSt.mk' (kindOf st) (arrOf st) (pendingOf st) mg (failedOf st)):=fun {Q'} {mg i j p} hp hj hq'=>by
    refine Dt hA (hk' mg) (ha p (Array.mem_of_getElem? hp)) hb (by omega) (by omega) (K0 hy (by omega)) fun k g1 g2 g3=>hq' k (by omega) (fun m hm=>?_) (fun m hm1 hm2=>?_)
    ·have:=g2 m hm
     simp at this
     omega
    ·have:=g3 m hm1 (by omega)
     simpa using this
   dsimp only
   apply Yr mg (mg - 1) (Eq.refl _) (Eq.refl _)
   intro mg
   refine wpS_bind (wpS_modify ?_)
   refine wpS_bind (Bi hq (wpS_bind (ga fun k g1 g2 g3=>?_)))
   dsimp only
   apply K4 (fun o2 i2=>MI f a.toList b.toList i2 ib o2.toList /\ i2 + 1 < a.size /\ f q < fa f a i2 /\ ia <= i2) o ia (Eq.refl _) (fun z=>⟨M,h1,g3 0 (by omega) (by omega),Nat.le_refl _⟩)
   ·intro z K
    have M2:=M.appA hx hy hq g2
    by_cases e:ia + k + 1 = a.size
    ·rw [if_pos (Ey e)]
     exact wpS_pure ⟨⟨_,rfl⟩,.inl ⟨_,_,rfl,M2.retLast hx hy e (last _ e)⟩⟩
    rw [if_neg (Ez e)]
    by_cases e':ia + k = a.size
    ·rw [if_pos (Ey e')]
     exact wpS_pure ⟨⟨_,rfl⟩,.inl ⟨_,_,rfl,M2.retDone hx hy (.inr e')⟩⟩
    rw [if_neg (Ez e')]
    exact K _ _ ⟨M2,by omega,g3 k (Nat.le_refl _) (by omega),by omega⟩
   rintro o2 i2 ⟨M2,hi2,g3',hle⟩
   clear g1 g2 g3 M h1
   refine wpS_bind (Bi hq ?_)
   have M3:=M2.pushB hx hy hq (by omega) (Nat.le_of_lt g3')
   generalize hib:ib + 1 = ib1 at M3 ⊢
   generalize o2.push q = o3 at M3 ⊢
   by_cases e:ib1 = b.size
   ·rw [if_pos (Ey e)]
    exact wpS_pure ⟨⟨_,rfl⟩,.inl ⟨_,_,rfl,M3.retDone hx hy (.inl e)⟩⟩
   rw [if_neg (Ez e)]
   obtain ⟨p,hp⟩ := C6 (a:=a) (i:=i2) (by omega)
   refine wpS_bind (Bi hp (wpS_bind (gb hp (by omega) fun k2 c1 c2 c3=>?_)))
   dsimp only
   apply K4 (fun o3 j3=>MI f a.toList b.toList i2 j3 o3.toList /\ j3 < b.size /\ f p <= fa f b j3 /\ ib < j3) o3 ib1 (Eq.refl _) (fun z=>⟨M3,by omega,c3 0 (by omega) (by omega),by omega⟩)
   ·intro z K
    have M4:=M3.appB hx hy hp c2
    by_cases e4:ib1 + k2 = b.size
    ·rw [if_pos (Ey e4)]
     exact wpS_pure ⟨⟨_,rfl⟩,.inl ⟨_,_,rfl,M4.retDone hx hy (.inl e4)⟩⟩
    rw [if_neg (Ez e4)]
    exact K _ _ ⟨M4,by omega,c3 k2 (Nat.le_refl _) (by omega),by omega⟩
   rintro o4 j3 ⟨M4,hj,c4,hlt⟩
   clear c1 c2 c3 M3 M2
   refine wpS_bind (Bi hp ?_)
   have M5:=M4.pushA hx hy hp hj c4
   by_cases e5:i2 + 1 + 1 = a.size
   ·rw [if_pos (Ey e5)]
    exact wpS_pure ⟨⟨_,rfl⟩,.inl ⟨_,_,rfl,M5.retLast hx hy e5 (last _ e5)⟩⟩
   rw [if_neg (Ez e5)]
   split
   ·exact wpS_pure ⟨⟨_,rfl⟩,.inr ⟨_,_,_,_,_,_,rfl,M5,by omega,hj,by omega⟩⟩
   ·exact wpS_pure ⟨⟨_,rfl⟩,_,_,_,_,_,_,rfl,M5,by omega,hj,by omega⟩
  ·rintro c st' ⟨G1,o,ia,ib,mg,ac,bc,rfl,M,h1,h2,h3⟩
   exact ⟨G1,.inr ⟨o,ia,ib,mg,ac,bc,rfl,M,h1,h2,h3⟩⟩
  clear M h1 h2 h3 G2
  rintro c st2 ⟨G2,⟨r,z,rfl,J⟩ | ⟨o,ia,ib,mg,ac,bc,rfl,M,h1,h2,h3⟩⟩
  ·dsimp -zeta only
   exact wpS_pure ⟨G2,r,_,rfl,J⟩
  dsimp -zeta only
  obtain ⟨gx,rfl⟩ := G2
  refine wpS_bind (wpS_modify ?_)
  exact wpS_pure ⟨⟨_,rfl⟩,_,_,_,_,rfl,M,h1,h2,by omega⟩
 ·rintro c st' ⟨G1,o,ia,ib,g,rfl,M,h1,h2,h3⟩
  exfalso
  omega
 rintro c st' ⟨G1,r,z,rfl,J⟩
 dsimp -zeta only
 exact wpS_pure (h _ _ G1 J)
end
section
variable {f:Keyed -> Nat}
def MH (f:Keyed -> Nat) (x y:List Keyed) (i j:Nat) (o:List Keyed):Prop:=o.reverse.Perm (x.drop i ++ y.drop j) /\ Dk f o.reverse /\ Hd f (x.take i ++ y.take j) o.reverse
theorem MH.swap {x y o:List Keyed} {i j:Nat} (h:MH f x y i j o):MH f y x j i o:=⟨h.1.trans List.perm_append_comm,h.2.1,fun p hp=>h.2.2 p (List.perm_append_comm.mem_iff.mp hp)⟩
theorem MH.takeA {x y o:List Keyed} {i j k:Nat} (h:MH f x y (i + k) j o) (hx:Dk f x) (hle:Hd f (y.take j) ((x.drop i).take k)):MH f x y i j (o ++ ((x.drop i).take k).reverse):=by
 obtain ⟨h1,h2,h3⟩ := h
 have hd:=Hi x i k
 have ht:=Mi x i k
 have e:(o ++ ((x.drop i).take k).reverse).reverse = (x.drop i).take k ++ o.reverse:=by rw [List.reverse_append,List.reverse_reverse]
 have hsx:Dk f (x.take (i + k)):=G9 hx _
 rw [ht] at hsx
 unfold MH
 rw [e]
 refine ⟨?_,?_,?_⟩
 ·refine (List.Perm.append_left _ h1).trans ?_
  rw [<- List.append_assoc,<- hd]
 ·refine Gx (G9 (Gn hx i) k) h2 fun p hp q hq=>h3 p (List.mem_append_left _ ?_) q hq
  rw [ht]
  exact List.mem_append_right _ hp
 ·intro p hp q hq
  rcases List.mem_append.mp hp with z | z
  ·rcases List.mem_append.mp hq with y' | y'
   ·exact (List.pairwise_append.mp hsx).2.2 p z q y'
   ·refine h3 p (List.mem_append_left _ ?_) q y'
    rw [ht]
    exact List.mem_append_left _ z
  ·rcases List.mem_append.mp hq with y' | y'
   ·exact hle p z q y'
   ·exact h3 p (List.mem_append_right _ z) q y'
theorem MH.done {x y o:List Keyed} {i j:Nat} (h:MH f x y i j o) (hx:Dk f x) (hy:Dk f y) (hle:Hd f (x.take i) (y.take j)):Cz f x y (x.take i ++ y.take j ++ o.reverse):=by
 obtain ⟨h1,h2,h3⟩ := h
 refine ⟨?_,Gx (Gx (G9 hx i) (G9 hy j) hle) h2 h3⟩
 refine (List.Perm.append_left _ h1).trans ?_
 have e:x ++ y = (x.take i ++ x.drop i) ++ (y.take j ++ y.drop j):=by rw [List.take_append_drop,List.take_append_drop]
 rw [e,List.append_assoc,List.append_assoc]
 refine List.Perm.append_left _ ?_
 rw [<- List.append_assoc,<- List.append_assoc]
 exact List.Perm.append_right _ List.perm_append_comm
theorem MH.doneB {x y o:List Keyed} {i j:Nat} (h:MH f x y i j o) (hx:Dk f x) (hy:Dk f y) (hle:Hd f (y.take j) (x.take i)):Cz f x y (y.take j ++ x.take i ++ o.reverse):=by
 obtain ⟨g1,g2⟩ := h.swap.done hy hx hle
 exact ⟨g1.trans List.perm_append_comm,g2⟩
variable {a b o:Array Keyed} {i j k:Nat}
theorem Jo {l:List Keyed} {i:Nat} {p:Keyed} (h:p ∈ l.take i):∃ m,m < i /\ l[m]? = some p:=by
 have h':p ∈ (l.drop 0).take i:=h
 obtain ⟨m,h1,h2⟩ := Ef h'
 exact ⟨m,h1,by rw [Nat.zero_add] at h2; exact h2⟩
theorem MH.retDone (h:MH f a.toList b.toList i j o.toList) (hx:Dk f a.toList) (hy:Dk f b.toList) (e:i = 0 \/ j = 0):Cz f a.toList b.toList (a.extract 0 i ++ b.extract 0 j ++ o.reverse).toList:=by
 rw [Array.toList_append,Array.toList_append,Ol,Ol,Array.toList_reverse]
 refine h.done hx hy ?_
 rcases e with e | e <;> subst e
 ·intro p hp
  simp at hp
 ·intro p _ q hq
  simp at hq
theorem MH.retFirst (h:MH f a.toList b.toList i j o.toList) (hx:Dk f a.toList) (hy:Dk f b.toList) (e:j = 1) (hf:∀ p ∈ a.toList,fa f b 0 <= f p):Cz f a.toList b.toList (b.extract 0 j ++ a.extract 0 i ++ o.reverse).toList:=by
 rw [Array.toList_append,Array.toList_append,Ol,Ol,Array.toList_reverse]
 refine h.doneB hx hy fun p hp q hq=>?_
 obtain ⟨m,hm,e2⟩ := Jo hp
 obtain rfl:m = 0:=by omega
 rw [Array.getElem?_toList] at e2
 have:=hf q (List.mem_of_mem_take hq)
 rw [Az e2] at this
 exact this
theorem MH.appA (h:MH f a.toList b.toList i j o.toList) (hx:Dk f a.toList) (hy:Dk f b.toList) {m:Nat} (hm:m <= i) (hle:∀ n,m <= n -> n < i -> ∀ l,l < j -> fa f b l <= fa f a n):MH f a.toList b.toList m j (o ++ (a.extract m i).reverse).toList:=by
 obtain ⟨k,rfl⟩ : ∃ k,i = m + k:=⟨i - m,by omega⟩
 rw [Array.toList_append,Array.toList_reverse,Gu]
 refine h.takeA hx fun x hx' y hy'=>?_
 obtain ⟨l,hl,e⟩ := Jo hx'
 obtain ⟨n,hn,e2⟩ := Ef hy'
 rw [Array.getElem?_toList] at e e2
 have:=hle (m + n) (by omega) (by omega) l hl
 rw [Az e,Az e2] at this
 exact this
theorem MH.appB (h:MH f a.toList b.toList i j o.toList) (hx:Dk f a.toList) (hy:Dk f b.toList) {m:Nat} (hm:m <= j) (hle:∀ n,m <= n -> n < j -> ∀ l,l < i -> fa f a l <= fa f b n):MH f a.toList b.toList i m (o ++ (b.extract m j).reverse).toList:=(h.swap.appA hy hx hm hle).swap
theorem ae {a:Array Keyed} {i:Nat} {p:Keyed} (hp:a[i]? = some p):(a.extract i (i + 1)).toList = [p]:=by
 rw [Gu]
 exact Pf (by rw [Array.getElem?_toList]; exact hp)
theorem MH.pushA (h:MH f a.toList b.toList (i + 1) j o.toList) (hx:Dk f a.toList) (hy:Dk f b.toList) {p:Keyed} (hp:a[i]? = some p) (hle:∀ l,l < j -> fa f b l <= f p):MH f a.toList b.toList i j (o.push p).toList:=by
 have:=h.appA hx hy (m:=i) (by omega) fun n h1 h2 l hl=>by
  obtain rfl:n = i:=by omega
  rw [Az hp]
  exact hle l hl
 rw [Array.toList_append,Array.toList_reverse,ae hp] at this
 rw [Array.toList_push]
 exact this
theorem MH.pushB (h:MH f a.toList b.toList i (j + 1) o.toList) (hx:Dk f a.toList) (hy:Dk f b.toList) {q:Keyed} (hq:b[j]? = some q) (hle:∀ l,l < i -> fa f a l <= f q):MH f a.toList b.toList i j (o.push q).toList:=(h.swap.pushA hy hx hq hle).swap
end
section
variable {prog:Program} {w:World} {A:Around} {E:Value -> Shared -> Prop} {s:Shared} {κ:SortKind} {f:Keyed -> Nat} {a₀:Array Keyed} {st:SortSt}
theorem Qw (hA : Ig prog w A s κ f a₀) (hk : kindOf st = κ) {a b : Array Keyed} (ha : ∀ p, p ∈ a -> p ∈ a₀) (hb : ∀ p, p ∈ b -> p ∈ a₀) (hx : Dk f a.toList) (hy : Dk f b.toList) (ha0 : 0 < a.size) (hb0 : 0 < b.size)
  (hfirst:∀ p ∈ a.toList,fa f b 0 <= f p) (hlast:∀ j,j < b.size -> fa f b j <= fa f a (a.size - 1)) {Q:Array Keyed -> SortSt -> Prop} (h:∀ r st',Gs st st' -> Cz f a.toList b.toList r.toList -> Q r st'):wpS (model prog w) A E s (Y8 a b) Q st:=by
 have hk':∀ g,kindOf (SortSt.mk' (kindOf st) (arrOf st) (pendingOf st) g (failedOf st)) = κ:=fun g=>hk
 have hax:∀ {lo hi},hi <= a.size -> Hr f a lo hi:=fun h=>K0 hx h
 have hbx:∀ {lo hi},hi <= b.size -> Hr f b lo hi:=fun h=>K0 hy h
 obtain ⟨p0,hp0⟩ := C6 (a:=a) (i:=a.size - 1) (by omega)
 refine wpS_bind (wpS_lift (wpAny_rule ⟨rfl,?_⟩))
 refine wpS_bind (Bi hp0 ?_)
 have M0:MH f a.toList b.toList (a.size - 1 + 1) b.size (#[]:Array Keyed).toList:=by
  refine ⟨?_,List.Pairwise.nil,fun p _ q hq=>by cases hq⟩
  rw [List.drop_of_length_le (l:=a.toList) (by rw [Array.length_toList]; omega),List.drop_of_length_le (l:=b.toList) (by rw [Array.length_toList]; omega)]
  exact List.Perm.refl _
 have M1:=M0.pushA hx hy hp0 (fun l hl=>by have:=hlast l hl; rw [Az hp0] at this; exact this)
 rw [show (#[]:Array Keyed).push p0 = #[p0] from rfl] at M1
 dsimp -zeta only
 by_cases e1:a.size - 1 = 0
 ·rw [if_pos (Ey e1)]
  exact wpS_pure (h _ _ Gs.refl (M1.retDone hx hy (.inl e1)))
 rw [if_neg (Ez e1)]
 by_cases e2:b.size = 1
 ·rw [if_pos (Ey e2)]
  exact wpS_pure (h _ _ Gs.refl (M1.retFirst hx hy e2 hfirst))
 rw [if_neg (Ez e2)]
 refine wpS_bind (wpS_get ?_)
 refine wpS_bind (wpS_mono (wpS_forRange (I:=fun x c st'=>Gs st st' /\ ∃ o na nb g,c = (none,na,nb,o,g) /\ MH f a.toList b.toList na nb o.toList /\ 0 < na /\ na <= a.size /\ 1 < nb /\ nb <= b.size /\ na + nb + x + 1 <= a.size + b.size)
  (Q:=fun c st'=>Gs st st' /\ ∃ r z,c = (some r,z) /\ Cz f a.toList b.toList r.toList) ?_ ?_ ⟨Gs.refl,_,_,_,_,rfl,M1,by omega,by omega,by omega,by omega,by omega⟩) ?_)
 ·rintro x c st1 _ hx' ⟨G1,o,na,nb,g,rfl,M,h1,h1',h2,h2',h3⟩
  dsimp -zeta only
  refine wpS_bind (wpS_mono (wpS_forRange (I:=fun y c st'=>Gs st st' /\ ∃ o na nb ac bc,c = (none,na,nb,o,ac,bc) /\ MH f a.toList b.toList na nb o.toList /\ 0 < na /\ na <= a.size /\ 1 < nb /\ nb <= b.size /\ na + nb + x + 1 + y <= a.size + b.size)
   (Q:=fun c st'=>Gs st st' /\ ((∃ r z,c = (some r,z) /\ Cz f a.toList b.toList r.toList) \/ ∃ o na nb ac bc,c = (none,na,nb,o,ac,bc) /\ MH f a.toList b.toList na nb o.toList /\ 0 < na /\ na <= a.size /\ 1 < nb /\ nb <= b.size /\ na + nb + x + 2 <= a.size + b.size)) ?_ ?_ ⟨G1,_,_,_,_,_,rfl,M,h1,h1',h2,h2',by omega⟩) ?_)
  ·clear M h1 h2 h3 G1 h1' h2'
   rintro y c st1 _ hy' ⟨G1,o,na,nb,ac,bc,rfl,M,h1,h1',h2,h2',h3⟩
   obtain ⟨gx,rfl⟩ := G1
   obtain ⟨q,hq⟩ := C6 (a:=b) (i:=nb - 1) (by omega)
   obtain ⟨p,hp⟩ := C6 (a:=a) (i:=na - 1) (by omega)
   dsimp -zeta only
   refine wpS_bind (Bi hq (wpS_bind (Bi hp (wpS_bind (Kc hA (hk' gx) (hb q (Array.mem_of_getElem? hq)) (ha p (Array.mem_of_getElem? hp)) ?_)))))
   dsimp -zeta only
   by_cases z:f q < f p
   ·rw [if_pos (decide_eq_true z)]
    have M2:=MH.pushA (i:=na - 1) (by rw [show na - 1 + 1 = na by omega]; exact M) hx hy hp (fun l hl=>by have:=hbx (lo:=0) (hi:=b.size) (Nat.le_refl _) l (nb - 1) (by omega) (by omega) (by omega); rw [Az hq] at this; omega)
    refine wpS_bind (Bi hp ?_)
    by_cases e:na - 1 = 0
    ·rw [if_pos (Ey e)]
     exact wpS_pure ⟨⟨_,rfl⟩,.inl ⟨_,_,rfl,M2.retDone hx hy (.inl e)⟩⟩
    rw [if_neg (Ez e)]
    split
    ·exact wpS_pure ⟨⟨_,rfl⟩,.inr ⟨_,_,_,_,_,rfl,M2,by omega,by omega,h2,h2',by omega⟩⟩
    ·exact wpS_pure ⟨⟨_,rfl⟩,_,_,_,_,_,rfl,M2,by omega,by omega,h2,h2',by omega⟩
   ·rw [if_neg (by rw [decide_eq_true_eq]; exact z)]
    have M2:=MH.pushB (j:=nb - 1) (by rw [show nb - 1 + 1 = nb by omega]; exact M) hx hy hq (fun l hl=>by have:=hax (lo:=0) (hi:=a.size) (Nat.le_refl _) l (na - 1) (by omega) (by omega) (by omega); rw [Az hp] at this; omega)
    refine wpS_bind (Bi hq ?_)
    by_cases e:nb - 1 = 1
    ·rw [if_pos (Ey e)]
     exact wpS_pure ⟨⟨_,rfl⟩,.inl ⟨_,_,rfl,M2.retFirst hx hy e hfirst⟩⟩
    rw [if_neg (Ez e)]
    split
    ·exact wpS_pure ⟨⟨_,rfl⟩,.inr ⟨_,_,_,_,_,rfl,M2,h1,h1',by omega,by omega,by omega⟩⟩
    ·exact wpS_pure ⟨⟨_,rfl⟩,_,_,_,_,_,rfl,M2,h1,h1',by omega,by omega,by omega⟩
  ·rintro c st' ⟨G1,o,na,nb,ac,bc,rfl,M,h1,h1',h2,h2',h3⟩
   exact ⟨G1,.inr ⟨o,na,nb,ac,bc,rfl,M,h1,h1',h2,h2',by omega⟩⟩
  clear M h1 h2 h3 G1 h1' h2'
  rintro c st2 ⟨G2,⟨r,z,rfl,J⟩ | ⟨o,na,nb,ac,bc,rfl,M,h1,h1',h2,h2',h3⟩⟩
  ·dsimp -zeta only
   exact wpS_pure ⟨G2,r,_,rfl,J⟩
  dsimp -zeta only
  refine wpS_bind (wpS_lift (wpAny_rule ⟨rfl,?_⟩))
  refine wpS_bind (wpS_mono (wpS_forRange (I:=fun y c st'=>Gs st st' /\ ∃ o na nb mg ac bc,c = (none,na,nb,o,mg,ac,bc) /\ MH f a.toList b.toList na nb o.toList /\ 0 < na /\ na <= a.size /\ 1 < nb /\ nb <= b.size /\ na + nb + x + 2 <= a.size + b.size)
   (Q:=fun c st'=>Gs st st' /\ ((∃ r z,c = (some r,z) /\ Cz f a.toList b.toList r.toList) \/ ∃ o na nb mg ac bc,c = (none,na,nb,o,mg,ac,bc) /\ MH f a.toList b.toList na nb o.toList /\ 0 < na /\ na <= a.size /\ 1 < nb /\ nb <= b.size /\ na + nb + x + 2 <= a.size + b.size)) ?_ ?_ ⟨G2,_,_,_,_,_,_,rfl,M,h1,h1',h2,h2',h3⟩) ?_)
  ·clear M h1 h2 h3 G2 h1' h2'
   rintro y c st1 _ hy' ⟨G1,o,na,nb,mg,ac,bc,rfl,M,h1,h1',h2,h2',h3⟩
   obtain ⟨gx,rfl⟩ := G1
   obtain ⟨q,hq⟩ := C6 (a:=b) (i:=nb - 1) (by omega)
   dsimp -zeta only
   have ga : ∀ {Q' : Option Nat -> SortSt -> Prop} {mg}, (∀ k, k <= na -> (∀ m, m < k -> fa f a m <= f q) -> (∀ m, k <= m -> m < na -> f q <= fa f a m) -> Q' (some k) (SortSt.mk' (kindOf st) (arrOf st) (pendingOf st) mg (failedOf st))) ->
     wpS (model prog w) A E s (Im false q a 0 na (na - 1)) Q' (SortSt.mk' (kindOf st) (arrOf st) (pendingOf st) mg (failedOf st)):=fun {Q'} {mg} hq'=>by
    refine Dt hA (hk' mg) (hb q (Array.mem_of_getElem? hq)) ha (by omega) (by omega) (hax (by omega)) fun k g1 g2 g3=>hq' k (by omega) (fun m hm=>?_) (fun m hm1 hm2=>?_)
    ·have:=g2 m hm
     simpa using this
    ·have:=g3 m hm1 (by omega)
     simp at this
     omega
   have gb : ∀ {Q' : Option Nat -> SortSt -> Prop} {mg i j p}, a[i]? = some p -> 0 < j -> j <= b.size -> (∀ k, k <= j -> (∀ m, m < k -> fa f b m <= f p) -> (∀ m, k <= m -> m < j -> f p <= fa f b m) -> Q' (some k) (SortSt.mk' (kindOf st) (arrOf st) (pendingOf st) mg (failedOf st))) ->
     wpS (model prog w) A E s (Im true p b 0 j (j - 1)) Q' (SortSt.mk' (kindOf st) (arrOf st) (pendingOf st) mg (failedOf st)):=fun {Q'} {mg i j p} hp hj hj2 hq'=>by
    refine Dt hA (hk' mg) (ha p (Array.mem_of_getElem? hp)) hb (by omega) (by omega) (hbx (by omega)) fun k g1 g2 g3=>hq' k (by omega) (fun m hm=>?_) (fun m hm1 hm2=>?_)
    ·have:=g2 m hm
     simp at this
     omega
    ·have:=g3 m hm1 (by omega)
     simpa using this
   dsimp only
   apply Yr mg (mg - 1) (Eq.refl _) (Eq.refl _)
   intro mg
   refine wpS_bind (wpS_modify ?_)
   refine wpS_bind (Bi hq (wpS_bind (ga fun k g1 g2 g3=>?_)))
   dsimp only
   have hqb:∀ l,l < nb -> fa f b l <= f q:=fun l hl=>by
    have:=hbx (lo:=0) (hi:=b.size) (Nat.le_refl _) l (nb - 1) (by omega) (by omega) (by omega)
    rw [Az hq] at this
    exact this
   generalize hac:na - k = ac2
   apply K4 (fun o2 n2=>MH f a.toList b.toList n2 nb o2.toList /\ 0 < n2 /\ n2 <= na /\ ∀ l,l < n2 -> fa f a l <= f q) o na (Eq.refl _) (fun z=>⟨M,h1,Nat.le_refl _,fun l hl=>g2 l (by omega)⟩)
   ·intro z K
    have M2:=M.appA hx hy g1 (fun n hn1 hn2 l hl=>Nat.le_trans (hqb l hl) (g3 n hn1 hn2))
    by_cases e:k = 0
    ·rw [if_pos (Ey e)]
     exact wpS_pure ⟨⟨_,rfl⟩,.inl ⟨_,_,rfl,M2.retDone hx hy (.inl e)⟩⟩
    rw [if_neg (Ez e)]
    exact K _ _ ⟨M2,by omega,g1,g2⟩
   rintro o2 n2 ⟨M2,hn2,hn2',g2'⟩
   clear g2 g3 M hqb
   refine wpS_bind (Bi hq ?_)
   have M3:=MH.pushB (j:=nb - 1) (by rw [show nb - 1 + 1 = nb by omega]; exact M2) hx hy hq g2'
   generalize hnb:nb - 1 = nb1 at M3 hq ⊢
   generalize o2.push q = o3 at M3 ⊢
   by_cases e':nb1 = 1
   ·rw [if_pos (Ey e')]
    exact wpS_pure ⟨⟨_,rfl⟩,.inl ⟨_,_,rfl,M3.retFirst hx hy e' hfirst⟩⟩
   rw [if_neg (Ez e')]
   obtain ⟨p,hp⟩ := C6 (a:=a) (i:=n2 - 1) (by omega)
   refine wpS_bind (Bi hp (wpS_bind (gb hp (by omega) (by omega) fun k2 c1 c2 c3=>?_)))
   dsimp only
   generalize hbc:nb1 - k2 = bc2
   apply K4 (fun o4 j4=>MH f a.toList b.toList n2 j4 o4.toList /\ 1 < j4 /\ j4 <= nb1 /\ ∀ l,l < j4 -> fa f b l <= f p) o3 nb1 (Eq.refl _) (fun z=>⟨M3,by omega,Nat.le_refl _,fun l hl=>c2 l (by omega)⟩)
   ·intro z K
    have M4:=M3.appB hx hy c1 (fun n hn1 hn2 l hl=>Nat.le_trans (by
     have:=hax (lo:=0) (hi:=a.size) (Nat.le_refl _) l (n2 - 1) (by omega) (by omega) (by omega)
     rw [Az hp] at this
     exact this) (c3 n hn1 hn2))
    by_cases e4:k2 = 1
    ·rw [if_pos (Ey e4)]
     exact wpS_pure ⟨⟨_,rfl⟩,.inl ⟨_,_,rfl,M4.retFirst hx hy e4 hfirst⟩⟩
    rw [if_neg (Ez e4)]
    by_cases e5:k2 = 0
    ·rw [if_pos (Ey e5)]
     exact wpS_pure ⟨⟨_,rfl⟩,.inl ⟨_,_,rfl,M4.retDone hx hy (.inr e5)⟩⟩
    rw [if_neg (Ez e5)]
    exact K _ _ ⟨M4,by omega,c1,c2⟩
   rintro o4 j4 ⟨M4,hj4,hj4',c2'⟩
   clear c1 c2 c3 M3 M2
   refine wpS_bind (Bi hp ?_)
   have M5:=MH.pushA (i:=n2 - 1) (by rw [show n2 - 1 + 1 = n2 by omega]; exact M4) hx hy hp c2'
   by_cases e6:n2 - 1 = 0
   ·rw [if_pos (Ey e6)]
    exact wpS_pure ⟨⟨_,rfl⟩,.inl ⟨_,_,rfl,M5.retDone hx hy (.inl e6)⟩⟩
   rw [if_neg (Ez e6)]
   split
   ·exact wpS_pure ⟨⟨_,rfl⟩,.inr ⟨_,_,_,_,_,_,rfl,M5,by omega,by omega,hj4,by omega,by omega⟩⟩
   ·exact wpS_pure ⟨⟨_,rfl⟩,_,_,_,_,_,_,rfl,M5,by omega,by omega,hj4,by omega,by omega⟩
  ·rintro c st' ⟨G1,o,na,nb,mg,ac,bc,rfl,M,h1,h1',h2,h2',h3⟩
   exact ⟨G1,.inr ⟨o,na,nb,mg,ac,bc,rfl,M,h1,h1',h2,h2',h3⟩⟩
  clear M h1 h2 h3 G2 h1' h2'
  rintro c st2 ⟨G2,⟨r,z,rfl,J⟩ | ⟨o,na,nb,mg,ac,bc,rfl,M,h1,h1',h2,h2',h3⟩⟩
  ·dsimp -zeta only
   exact wpS_pure ⟨G2,r,_,rfl,J⟩
  dsimp -zeta only
  obtain ⟨gx,rfl⟩ := G2
  refine wpS_bind (wpS_modify ?_)
  exact wpS_pure ⟨⟨_,rfl⟩,_,_,_,_,rfl,M,h1,h1',h2,h2',by omega⟩
 ·rintro c st' ⟨G1,o,na,nb,g,rfl,M,h1,h1',h2,h2',h3⟩
  exfalso
  omega
 rintro c st' ⟨G1,r,z,rfl,J⟩
 dsimp -zeta only
 exact wpS_pure (h _ _ G1 J)
end
section
variable {f:Keyed -> Nat}
theorem F9 {xs:Array Keyed} {i j:Nat} (hj:j <= xs.size) (k:Nat):fa f (mirror xs i j ((j - i) / 2)) k = if i <= k /\ k < j then fa f xs (i + j - 1 - k) else fa f xs k:=by
 have e:=getElem?_mirror_all (i:=i) hj k
 by_cases h:i <= k /\ k < j
 ·rw [if_pos h] at e ⊢
  exact Ec e
 ·rw [if_neg h] at e ⊢
  exact Ec e
theorem Ik {xs:Array Keyed} {i j:Nat} (hj:j <= xs.size) (h:∀ k l,i <= k -> k < j -> i <= l -> l < j -> fa f xs k = fa f xs l) (k:Nat):fa f (mirror xs i j ((j - i) / 2)) k = fa f xs k:=by
 rw [F9 hj]
 split
 ·exact h _ _ (by omega) (by omega) (by omega) (by omega)
 ·rfl
theorem Uz {xs:Array Keyed} {src d:Nat} (hs:src < xs.size) (hd:d <= src) (k:Nat):fa f (bubble xs src d) k = if k = src - d then fa f xs src else if src - d < k /\ k <= src then fa f xs (k - 1) else fa f xs k:=by
 have e:=getElem?_bubble hs d hd k
 by_cases h1:k = src - d
 ·rw [if_pos h1] at e ⊢
  exact Ec e
 ·rw [if_neg h1] at e ⊢
  by_cases h2:src - d < k /\ k <= src
  ·rw [if_pos h2] at e ⊢
   exact Ec e
  ·rw [if_neg h2] at e ⊢
   exact Ec e
theorem Xy:∀ (m:List Keyed) (n base:Nat) (a:Array Keyed),base + n + m.length <= a.size -> ∀ k:Nat,(List.foldl (fun (a:Array Keyed) (x:Keyed × Nat)=>a.setIfInBounds (base + x.snd) x.fst) a (m.zipIdx n))[k]? = if base + n <= k /\ k < base + n + m.length then m[k - (base + n)]? else a[k]?
 | [],n,base,a,h,k=>by
  rw [if_neg (by rw [List.length_nil]; omega)]
  rfl
 | p :: m,n,base,a,h,k=>by
  rw [List.length_cons] at h
  rw [List.zipIdx_cons,List.foldl_cons,Xy m (n + 1) base _ (by rw [Array.size_setIfInBounds]; omega) k,List.length_cons]
  by_cases z:k = base + n
  ·subst z
   rw [if_neg (by omega),if_pos (by omega),Nat.sub_self,List.getElem?_cons_zero]
   show (a.setIfInBounds (base + n) p)[base + n]? = some p
   rw [Array.getElem?_setIfInBounds_self_of_lt (by omega)]
  ·by_cases y:base + n <= k /\ k < base + n + (m.length + 1)
   ·rw [if_pos (by omega),if_pos y,show k - (base + n) = (k - (base + (n + 1))) + 1 by omega,List.getElem?_cons_succ]
   ·rw [if_neg (by omega),if_neg y]
    show (a.setIfInBounds (base + n) p)[k]? = _
    rw [Array.getElem?_setIfInBounds_ne (by omega)]
theorem a9 {a:Array Keyed} {m:List Keyed} {base:Nat} (h:base + m.length <= a.size) (hp:m.Perm ((a.toList.drop base).take m.length)):(List.foldl (fun (a:Array Keyed) (x:Keyed × Nat)=>a.setIfInBounds (base + x.snd) x.fst) a m.zipIdx).Perm a:=by
 generalize hr:List.foldl (fun (a:Array Keyed) (x:Keyed × Nat)=>a.setIfInBounds (base + x.snd) x.fst) a m.zipIdx = r
 have e:∀ k:Nat,r[k]? = if base <= k /\ k < base + m.length then m[k - base]? else a[k]?:=fun k=>by
  rw [<- hr]
  exact Xy m 0 base a (by omega) k
 have el:r.toList = a.toList.take base ++ (m ++ a.toList.drop (base + m.length)):=by
  apply List.ext_getElem?
  intro k
  rw [Array.getElem?_toList,e k]
  have hlt:(a.toList.take base).length = base:=by rw [List.length_take,Array.length_toList]; omega
  by_cases z:k < base
  ·rw [if_neg (by omega),List.getElem?_append_left (by omega),List.getElem?_take_of_lt z,Array.getElem?_toList]
  ·rw [List.getElem?_append_right (by omega),hlt]
   by_cases y:k < base + m.length
   ·rw [if_pos (by omega),List.getElem?_append_left (by omega)]
   ·rw [if_neg (by omega),List.getElem?_append_right (by omega),List.getElem?_drop,Array.getElem?_toList]
    congr 1
    omega
 have ea:a.toList = a.toList.take base ++ ((a.toList.drop base).take m.length ++ a.toList.drop (base + m.length)):=by
  rw [<- Hi,List.take_append_drop]
 refine Array.perm_iff_toList_perm.mpr ?_
 rw [el]
 refine (List.Perm.append_left _ (hp.append_right _)).trans ?_
 rw [<- ea]
end
section
variable {prog:Program} {w:World} {A:Around} {E:Value -> Shared -> Prop} {s:Shared} {κ:SortKind} {f:Keyed -> Nat} {a₀:Array Keyed} {st:SortSt}
theorem R8 (a:Array Keyed) {i j:Nat} (h:i <= j):(a.extract i j).toList = (a.toList.drop i).take (j - i):=by
 obtain ⟨k,rfl⟩ : ∃ k,j = i + k:=⟨j - i,by omega⟩
 rw [Gu]
 congr 1
 omega
theorem Gw {a:Array Keyed} {i j:Nat} {p:Keyed} (h:p ∈ (a.extract i j).toList) (hij:i <= j):∃ k,i <= k /\ k < j /\ a[k]? = some p:=by
 rw [R8 a hij] at h
 obtain ⟨m,h1,h2⟩ := Ef h
 rw [Array.getElem?_toList] at h2
 exact ⟨i + m,by omega,by omega,h2⟩
theorem Tw {a:Array Keyed} {i j k:Nat} (hj:j <= a.size) (h:i + k < j):(a.extract i j)[k]? = a[i + k]?:=by
 rw [Array.getElem?_extract]
 split
 ·rfl
 ·omega
theorem Ul {a:Array Keyed} {i j:Nat} (h:Hr f a i j) (hj:j <= a.size) (hij:i <= j):Dk f (a.extract i j).toList:=by
 refine List.pairwise_iff_getElem.mpr fun m n hm hn hmn=>?_
 have hl:(a.extract i j).toList.length = j - i:=by rw [Array.length_toList,Array.size_extract]; omega
 rw [hl] at hm hn
 have e1:(a.extract i j)[m]? = some (a.extract i j).toList[m]:=by rw [<- Array.getElem?_toList]; exact List.getElem?_eq_getElem _
 have e2:(a.extract i j)[n]? = some (a.extract i j).toList[n]:=by rw [<- Array.getElem?_toList]; exact List.getElem?_eq_getElem _
 rw [Tw hj (by omega)] at e1 e2
 have:=h (i + m) (i + n) (by omega) (by omega) (by omega)
 rw [Az e1,Az e2] at this
 exact this
theorem Wq {a:Array Keyed} {i j k:Nat} (hj:j <= a.size) (h:i + k < j):fa f (a.extract i j) k = fa f a (i + k):=Ec (Tw hj h)
theorem Z7 {σ:Type} {s' st:σ} {Q:PUnit -> σ -> Prop} {M:Model} (h:Q ⟨⟩ s'):wpS M A E s (set s':StateT σ Sem PUnit) Q st:=by
 unfold wpS
 rw [StateT.run_set]
 exact wpAny_pure ⟨rfl,h⟩
theorem Q6 (hA : Ig prog w A s κ f a₀) (hB : Bs κ a₀ st) {i sa na pw sb nb pb : Nat} (hi : (pendingOf st)[i]? = some (sa, na, pw)) (hj : (pendingOf st)[i + 1]? = some (sb, nb, pb)) (hs : sb = sa + na) (hna : 0 < na) (hnb : 0 < nb) (hsz : sb + nb <= a₀.size)
  (hAs:Hr f (arrOf st) sa sb) (hBs:Hr f (arrOf st) sb (sb + nb)) {Q:Bool -> SortSt -> Prop}
  (h:∀ st',Bs κ a₀ st' -> pendingOf st' = ((pendingOf st).setIfInBounds i (sa,na + nb,pw)).eraseIdxIfInBounds (i + 1) -> Hr f (arrOf st') sa (sb + nb) -> (∀ k,k < sa \/ sb + nb <= k -> fa f (arrOf st') k = fa f (arrOf st) k) -> Q true st'):wpS (model prog w) A E s (mergeAt' i) Q st:=by
 have hsize:=hB.size
 have harr:∀ p,p ∈ arrOf st -> p ∈ a₀:=fun p hp=>hB.perm.mem_iff.mp hp
 refine wpS_bind (wpS_get ?_)
 dsimp only
 rw [hi,hj]
 dsimp only
 obtain ⟨q,hq⟩ := C6 (a:=arrOf st) (i:=sb) (by omega)
 have hk1:∀ P g,kindOf (SortSt.mk' (kindOf st) (arrOf st) P g (failedOf st)) = κ:=fun _ _=>hB.kind
 refine wpS_bind (Z7 ?_)
 refine wpS_bind (Bi hq (wpS_bind (Dt hA (hk1 _ _) (hB.mem hq) harr (base:=sa) (n:=na) (by omega) (by omega) (by rw [<- hs]; exact hAs) fun k k1 k2 k3=>?_)))
 dsimp only
 have k2':∀ m,sa <= m -> m < sa + k -> fa f (arrOf st) m <= fa f (arrOf st) sb:=fun m m1 m2=>by
  have:=k2 (m - sa) (by omega)
  rw [show sa + (m - sa) = m by omega] at this
  rw [Az hq]
  simpa using this
 have k3':∀ m,sa + k <= m -> m < sb -> fa f (arrOf st) sb <= fa f (arrOf st) m:=fun m m1 m2=>by
  have:=k3 (m - sa) (by omega) (by omega)
  rw [show sa + (m - sa) = m by omega] at this
  rw [Az hq]
  simp at this
  omega
 by_cases e1:na - k = 0
 ·rw [if_pos (Ey e1)]
  refine wpS_pure (h _ ⟨hB.perm,hB.kind,hB.failed⟩ rfl (fun m n h1 h2 h3=>?_) fun _ _=>rfl)
  by_cases z:n < sb
  ·exact hAs m n h1 h2 z
  ·by_cases y:m < sb
   ·exact Nat.le_trans (k2' m h1 (by omega)) (hBs sb n (Nat.le_refl _) (by omega) h3)
   ·exact hBs m n (by omega) h2 h3
 rw [if_neg (Ez e1)]
 obtain ⟨p,hp⟩ := C6 (a:=arrOf st) (i:=sa + k + (na - k) - 1) (by omega)
 have hp':(arrOf st)[sb - 1]? = some p:=by rw [<- hp]; congr 1; omega
 refine wpS_bind (Bi hp (wpS_bind (Dt hA (hk1 _ _) (hB.mem hp) harr (base:=sb) (n:=nb) (by omega) (by omega) hBs fun l l1 l2 l3=>?_)))
 dsimp only
 have l2':∀ m,sb <= m -> m < sb + l -> fa f (arrOf st) m <= fa f (arrOf st) (sb - 1):=fun m m1 m2=>by
  have:=l2 (m - sb) (by omega)
  rw [show sb + (m - sb) = m by omega] at this
  rw [Az hp']
  simp at this
  omega
 have l3':∀ m,sb + l <= m -> m < sb + nb -> fa f (arrOf st) (sb - 1) <= fa f (arrOf st) m:=fun m m1 m2=>by
  have:=l3 (m - sb) (by omega) (by omega)
  rw [show sb + (m - sb) = m by omega] at this
  rw [Az hp']
  simpa using this
 by_cases e2:l = 0
 ·rw [if_pos (Ey e2)]
  refine wpS_pure (h _ ⟨hB.perm,hB.kind,hB.failed⟩ rfl (fun m n h1 h2 h3=>?_) fun _ _=>rfl)
  by_cases z:n < sb
  ·exact hAs m n h1 h2 z
  ·by_cases y:m < sb
   ·exact Nat.le_trans (hAs m (sb - 1) h1 (by omega) (by omega)) (l3' n (by omega) h3)
   ·exact hBs m n (by omega) h2 h3
 rw [if_neg (Ez e2)]
 have hx:Dk f ((arrOf st).extract (sa + k) sb).toList:=Ul (fun m n h1 h2 h3=>hAs m n (by omega) h2 h3) (by omega) (by omega)
 have hy:Dk f ((arrOf st).extract sb (sb + l)).toList:=Ul (fun m n h1 h2 h3=>hBs m n h1 h2 (by omega)) (by omega) (by omega)
 have ax:∀ p,p ∈ (arrOf st).extract (sa + k) sb -> p ∈ a₀:=fun p hp=>by
  obtain ⟨m,_,_,e⟩ := Gw (Array.mem_toList_iff.mpr hp) (by omega)
  exact hB.mem e
 have ay:∀ p,p ∈ (arrOf st).extract sb (sb + l) -> p ∈ a₀:=fun p hp=>by
  obtain ⟨m,_,_,e⟩ := Gw (Array.mem_toList_iff.mpr hp) (by omega)
  exact hB.mem e
 have sx:((arrOf st).extract (sa + k) sb).size = na - k:=by rw [Array.size_extract]; omega
 have sy:((arrOf st).extract sb (sb + l)).size = l:=by rw [Array.size_extract]; omega
 have fx:∀ m,m < na - k -> fa f ((arrOf st).extract (sa + k) sb) m = fa f (arrOf st) (sa + k + m):=fun m hm=>Wq (by omega) (by omega)
 have fy:∀ m,m < l -> fa f ((arrOf st).extract sb (sb + l)) m = fa f (arrOf st) (sb + m):=fun m hm=>Wq (by omega) (by omega)
 have fin : ∀ (r : Array Keyed) (st1 : SortSt), Cz f ((arrOf st).extract (sa + k) sb).toList ((arrOf st).extract sb (sb + l)).toList r.toList -> kindOf st1 = κ -> failedOf st1 = none -> arrOf st1 = arrOf st -> pendingOf st1 = ((pendingOf st).setIfInBounds i (sa, na + nb, pw)).eraseIdxIfInBounds (i + 1) ->
   Q true (setArr st1 (List.foldl (fun (a:Array Keyed) (x:Keyed × Nat)=>a.setIfInBounds (sa + k + x.snd) x.fst) (arrOf st1) r.toList.zipIdx)):=fun r st1 J g1 g2 g3 g4=>by
  have hlen:r.toList.length = na - k + l:=by
   rw [J.1.length_eq,List.length_append,Array.length_toList,Array.length_toList,sx,sy]
  have hseg:((arrOf st).extract (sa + k) sb).toList ++ ((arrOf st).extract sb (sb + l)).toList = ((arrOf st).toList.drop (sa + k)).take r.toList.length:=by
   rw [hlen,R8 _ (by omega),Gu,show sb - (sa + k) = na - k by omega,List.take_add,List.drop_drop,show sa + k + (na - k) = sb by omega]
  have hwb:∀ m:Nat,(List.foldl (fun (a:Array Keyed) (x:Keyed × Nat)=>a.setIfInBounds (sa + k + x.snd) x.fst) (arrOf st1) r.toList.zipIdx)[m]? = if sa + k <= m /\ m < sa + k + r.toList.length then r.toList[m - (sa + k)]? else (arrOf st)[m]?:=fun m=>by
   rw [g3]
   exact Xy r.toList 0 (sa + k) (arrOf st) (by omega) m
  have hperm:(List.foldl (fun (a:Array Keyed) (x:Keyed × Nat)=>a.setIfInBounds (sa + k + x.snd) x.fst) (arrOf st1) r.toList.zipIdx).Perm (arrOf st):=by
   rw [g3]
   refine a9 (by omega) ?_
   rw [<- hseg]
   exact J.1
  generalize List.foldl (fun (a:Array Keyed) (x:Keyed × Nat)=>a.setIfInBounds (sa + k + x.snd) x.fst) (arrOf st1) r.toList.zipIdx = a' at hwb hperm ⊢
  have fout:∀ m,m < sa + k \/ sb + l <= m -> fa f a' m = fa f (arrOf st) m:=fun m hm=>by
   refine Ec ?_
   rw [hwb m,if_neg (by omega)]
  have fin2:∀ m,sa + k <= m -> m < sb + l -> ∃ p,r.toList[m - (sa + k)]? = some p /\ fa f a' m = f p /\ ∃ n,sa + k <= n /\ n < sb + l /\ (arrOf st)[n]? = some p:=fun m h1 h2=>by
   have hm:m - (sa + k) < r.toList.length:=by omega
   refine ⟨r.toList[m - (sa + k)],List.getElem?_eq_getElem hm,?_,?_⟩
   ·refine Az ?_
    rw [hwb m,if_pos (by omega)]
    exact List.getElem?_eq_getElem hm
   ·have hmem:=J.1.mem_iff.mp (List.getElem_mem hm)
    rcases List.mem_append.mp hmem with z | z
    ·obtain ⟨n,n1,n2,n3⟩ := Gw z (by omega)
     exact ⟨n,n1,by omega,n3⟩
    ·obtain ⟨n,n1,n2,n3⟩ := Gw z (by omega)
     exact ⟨n,by omega,n2,n3⟩
  have lowP:∀ m,sa <= m -> m < sa + k -> ∀ n,sa + k <= n -> n < sb + l -> fa f (arrOf st) m <= fa f (arrOf st) n:=fun m m1 m2 n n1 n2=>by
   by_cases z:n < sb
   ·exact hAs m n m1 (by omega) z
   ·exact Nat.le_trans (k2' m m1 m2) (hBs sb n (Nat.le_refl _) (by omega) (by omega))
  have highP:∀ m,sb + l <= m -> m < sb + nb -> ∀ n,sa + k <= n -> n < sb + l -> fa f (arrOf st) n <= fa f (arrOf st) m:=fun m m1 m2 n n1 n2=>by
   by_cases z:n < sb
   ·exact Nat.le_trans (hAs n (sb - 1) (by omega) (by omega) (by omega)) (l3' m m1 m2)
   ·exact hBs n m (by omega) (by omega) m2
  refine h _ ⟨hperm.trans hB.perm,g1,g2⟩ g4 (fun m n h1 h2 h3=>?_) (fun m hm=>fout m (by omega))
  by_cases c1:m < sa + k
  ·rw [fout m (.inl c1)]
   by_cases c2:n < sa + k
   ·rw [fout n (.inl c2)]
    exact hAs m n h1 h2 (by omega)
   ·by_cases c3:n < sb + l
    ·obtain ⟨p,_,e,n',n1,n2,n3⟩ := fin2 n (by omega) c3
     rw [e,<- Az (f:=f) n3]
     exact lowP m h1 c1 n' n1 n2
    ·rw [fout n (.inr (by omega))]
     exact Nat.le_trans (lowP m h1 c1 (sb - 1) (by omega) (by omega)) (l3' n (by omega) h3)
  ·by_cases c3:n < sb + l
   ·obtain ⟨p,e1,e2,_⟩ := fin2 m (by omega) (by omega)
    obtain ⟨q,e3,e4,_⟩ := fin2 n (by omega) c3
    rw [e2,e4]
    exact Lb J.2 e1 e3 (by omega)
   ·rw [fout n (.inr (by omega))]
    by_cases c4:m < sb + l
    ·obtain ⟨p,_,e,n',n1,n2,n3⟩ := fin2 m (by omega) c4
     rw [e,<- Az (f:=f) n3]
     exact highP n (by omega) h3 n' n1 n2
    ·rw [fout m (.inr (by omega))]
     exact hBs m n (by omega) h2 h3
 by_cases e3:na - k <= l
 ·rw [if_pos e3]
  refine wpS_bind (Qv hA (hk1 _ _) ax ay hx hy (by omega) (by omega) ?_ ?_ fun r st1 G J=>?_)
  ·rw [fx 0 (by omega),fy 0 (by omega)]
   exact k3' _ (by omega) (by omega)
  ·intro q hq
   obtain ⟨m,m1,m2,m3⟩ := Gw hq (by omega)
   rw [sx,fx _ (by omega),show sa + k + (na - k - 1) = sb - 1 by omega,<- Az (f:=f) m3]
   exact l2' m m1 m2
  ·obtain ⟨g,rfl⟩ := G
   refine wpS_bind (wpS_modify ?_)
   refine wpS_bind (wpS_get (wpS_pure ?_))
   have e:(failedOf st).isNone = true:=by rw [hB.failed]; rfl
   have:=fin r (SortSt.mk' (kindOf st) (arrOf st) (((pendingOf st).setIfInBounds i (sa,na + nb,pw)).eraseIdxIfInBounds (i + 1)) g (failedOf st)) J hB.kind hB.failed rfl rfl
   rw [<- e] at this
   exact this
 ·rw [if_neg e3]
  refine wpS_bind (Qw hA (hk1 _ _) ax ay hx hy (by omega) (by omega) ?_ ?_ fun r st1 G J=>?_)
  ·intro p hp
   obtain ⟨m,m1,m2,m3⟩ := Gw hp (by omega)
   rw [fy 0 (by omega),<- Az (f:=f) m3]
   exact k3' m m1 m2
  ·intro j hj
   rw [sx,fx _ (by omega),fy j (by omega),show sa + k + (na - k - 1) = sb - 1 by omega]
   exact l2' _ (by omega) (by omega)
  ·obtain ⟨g,rfl⟩ := G
   refine wpS_bind (wpS_modify ?_)
   refine wpS_bind (wpS_get (wpS_pure ?_))
   have e:(failedOf st).isNone = true:=by rw [hB.failed]; rfl
   have:=fin r (SortSt.mk' (kindOf st) (arrOf st) (((pendingOf st).setIfInBounds i (sa,na + nb,pw)).eraseIdxIfInBounds (i + 1)) g (failedOf st)) J hB.kind hB.failed rfl rfl
   rw [<- e] at this
   exact this
end
section
variable {prog:Program} {w:World} {A:Around} {E:Value -> Shared -> Prop} {s:Shared} {κ:SortKind} {f:Keyed -> Nat} {a₀:Array Keyed} {st:SortSt}
def Ch (f:Keyed -> Nat) (lo:Nat) (st st':SortSt):Prop:=pendingOf st' = pendingOf st /\ ∀ k,k < lo -> fa f (arrOf st') k = fa f (arrOf st) k
theorem Ch.refl {lo:Nat}:Ch f lo st st:=⟨rfl,fun _ _=>rfl⟩
theorem Ch.trans {lo:Nat} {st1 st2 st3:SortSt} (h:Ch f lo st1 st2) (g:Ch f lo st2 st3):Ch f lo st1 st3:=⟨g.1.trans h.1,fun k hk=>(g.2 k hk).trans (h.2 k hk)⟩
theorem Hy {i j:Nat} {Q:Unit -> SortSt -> Prop} (h:Q () (setArr st (mirror (arrOf st) i j ((j - i) / 2)))):wpS (model prog w) A E s (reverseSlice' i j) Q st:=by
 rw [reverseSlice'_eq]
 exact wpS_modify h
theorem Bs.rev (hB:Bs κ a₀ st) (i j:Nat):Bs κ a₀ (setArr st (mirror (arrOf st) i j ((j - i) / 2))):=⟨(mirror_perm _ _ _ _).trans hB.perm,hB.kind,hB.failed⟩
theorem Z6 {a:Array Keyed} {lo:Nat}:Hr f a lo (lo + 1):=fun i j h1 h2 h3=>by
 obtain rfl:i = j:=by omega
 exact Nat.le_refl _
theorem Rc {a:Array Keyed} {lo n:Nat} (h:Hr f a lo (lo + n)) (hn:0 < n) (e:fa f a (lo + n - 1) <= fa f a (lo + n)):Hr f a lo (lo + (n + 1)):=fun i j h1 h2 h3=>by
 by_cases z:j < lo + n
 ·exact h i j h1 h2 z
 ·obtain rfl:j = lo + n:=by omega
  by_cases y:i < lo + n
  ·exact Nat.le_trans (h i (lo + n - 1) h1 (by omega) (by omega)) e
  ·obtain rfl:i = lo + n:=by omega
   exact Nat.le_refl _
def b7 (f:Keyed -> Nat) (a:Array Keyed) (lo n q:Nat):Prop:=(∀ i j,lo <= i -> i <= j -> j < lo + n -> fa f a j <= fa f a i) /\ q < n /\ ∀ i,lo + n - (q + 1) <= i -> i < lo + n -> fa f a i = fa f a (lo + n - 1)
theorem b7.flat {a:Array Keyed} {lo n q:Nat} (h:b7 f a lo n q) (hs:lo + n <= a.size) (k:Nat):fa f (mirror a (lo + n - (q + 1)) (lo + n) ((lo + n - (lo + n - (q + 1))) / 2)) k = fa f a k:=Ik hs (fun k l h1 h2 h3 h4=>(h.2.2 k h1 h2).trans (h.2.2 l h3 h4).symm) k
theorem b7.asc {a b:Array Keyed} {lo n q:Nat} (h:b7 f a lo n q) (hs:lo + n <= b.size) (e:∀ k,fa f b k = fa f a k):Hr f (mirror b lo (lo + n) ((lo + n - lo) / 2)) lo (lo + n):=fun i j h1 h2 h3=>by
 rw [F9 hs,F9 hs,if_pos (by omega),if_pos (by omega),e,e]
 exact h.1 _ _ (by omega) (by omega) (by omega)
theorem Tg (hA : Ig prog w A s κ f a₀) (hB : Bs κ a₀ st) {lo nr : Nat} (hn0 : 0 < nr) (hsz : lo + nr <= a₀.size) {Q : Option Nat -> SortSt -> Prop}
  (h:∀ m st',0 < m -> m <= nr -> Bs κ a₀ st' -> Ch f lo st st' -> Hr f (arrOf st') lo (lo + m) -> Q (some m) st'):wpS (model prog w) A E s (countRun' lo nr) Q st:=by
 refine wpS_bind (wpS_mono (wpS_forRange (I:=fun x c st'=>st' = st /\ c = (none,x) /\ Hr f (arrOf st) lo (lo + x)) (Q:=fun c st'=>st' = st /\ ∃ n,c = (none,n) /\ 0 < n /\ n <= nr /\ Hr f (arrOf st) lo (lo + n) /\ (n < nr -> fa f (arrOf st) (lo + n) < fa f (arrOf st) (lo + n - 1))) ?_ ?_ ⟨rfl,rfl,Z6⟩) ?_)
 ·rintro x c st' h1 h2 ⟨rfl,rfl,h3⟩
  dsimp only
  refine wpS_bind (Gq hA hB (by omega) (by omega) ?_)
  dsimp only
  by_cases z:fa f (arrOf st') (lo + x) < fa f (arrOf st') (lo + x - 1)
  ·rw [if_pos (decide_eq_true z)]
   exact wpS_pure ⟨rfl,x,rfl,by omega,by omega,h3,fun _=>z⟩
  ·rw [if_neg (by rw [decide_eq_true_eq]; exact z)]
   exact wpS_pure ⟨rfl,rfl,Rc h3 (by omega) (by omega)⟩
 ·rintro c st' ⟨rfl,rfl,h3⟩
  have e:max 1 nr = nr:=by omega
  rw [e] at h3 ⊢
  exact ⟨rfl,nr,rfl,hn0,Nat.le_refl _,h3,fun z=>absurd z (Nat.lt_irrefl _)⟩
 rintro c st' ⟨rfl,n,rfl,h1,h2,h3,h4⟩
 dsimp only
 by_cases e1:n = nr
 ·rw [if_pos (Ey e1)]
  exact wpS_pure (h _ _ h1 h2 hB Ch.refl h3)
 rw [if_neg (Ez e1)]
 have h4':=h4 (by omega)
 have part:∀ st1,Bs κ a₀ st1 -> pendingOf st1 = pendingOf st' -> (∀ k,fa f (arrOf st1) k = fa f (arrOf st') k) -> (∀ i,lo <= i -> i < lo + n -> fa f (arrOf st') i = fa f (arrOf st') (lo + n - 1)) -> b7 f (arrOf st1) lo (n + 1) 0:=fun st1 B1 p1 f1 eq=>by
  refine ⟨fun i j i1 i2 i3=>?_,by omega,fun i i1 i2=>?_⟩
  ·rw [f1,f1]
   by_cases z:j < lo + n
   ·rw [eq i i1 (by omega),eq j (by omega) z]
    exact Nat.le_refl _
   ·obtain rfl:j = lo + n:=by omega
    by_cases y:i < lo + n
    ·rw [eq i i1 y]
     omega
    ·obtain rfl:i = lo + n:=by omega
     exact Nat.le_refl _
  ·obtain rfl:i = lo + n:=by omega
   rfl
 by_cases e2:n > 1
 case' pos =>
  rw [if_pos e2]
  refine wpS_bind (Gq hA hB (by omega) (by omega) ?_)
  dsimp only
  by_cases z:fa f (arrOf st') lo < fa f (arrOf st') (lo + n - 1)
  ·rw [if_pos (decide_eq_true z)]
   exact wpS_pure (h _ _ h1 h2 hB Ch.refl h3)
  rw [if_neg (by rw [decide_eq_true_eq]; exact z)]
  have eq:∀ i,lo <= i -> i < lo + n -> fa f (arrOf st') i = fa f (arrOf st') (lo + n - 1):=fun i i1 i2=>by
   have a1:=h3 lo i (Nat.le_refl _) i1 i2
   have a2:=h3 i (lo + n - 1) i1 (by omega) (by omega)
   omega
  refine wpS_bind (Hy ?_)
  have B1:=hB.rev lo (lo + n)
  have f1:∀ k,fa f (arrOf (setArr st' (mirror (arrOf st') lo (lo + n) ((lo + n - lo) / 2)))) k = fa f (arrOf st') k:=Ik (by rw [hB.size]; omega) fun k l k1 k2 l1 l2=>(eq k k1 k2).trans (eq l l1 l2).symm
  have F1:=part _ B1 rfl f1 eq
  have C1:Ch f lo st' (setArr st' (mirror (arrOf st') lo (lo + n) ((lo + n - lo) / 2))):=⟨rfl,fun k _=>f1 k⟩
  generalize setArr st' (mirror (arrOf st') lo (lo + n) ((lo + n - lo) / 2)) = st1 at B1 F1 C1 ⊢
 case' neg =>
  rw [if_neg e2]
  obtain rfl:n = 1:=by omega
  have F1:=part st' hB rfl (fun _=>rfl) fun i i1 i2=>by
   obtain rfl:i = lo:=by omega
   rfl
  have C1:Ch f lo st' st':=Ch.refl
  have B1:=hB
 all_goals
  refine wpS_bind (wpS_lift (wpAny_rule ⟨rfl,?_⟩))
  refine wpS_bind (wpS_mono (wpS_forRange (I:=fun x c st2=>∃ q,c = (none,x,q) /\ x <= nr /\ Bs κ a₀ st2 /\ Ch f lo st' st2 /\ b7 f (arrOf st2) lo x q) (Q:=fun c st2=>∃ n q,c = (none,n,q) /\ n <= nr /\ Bs κ a₀ st2 /\ Ch f lo st' st2 /\ b7 f (arrOf st2) lo n q) ?_ ?_ ⟨0,rfl,by omega,B1,C1,F1⟩) ?_)
  ·rintro x c st2 x1 x2 ⟨q,rfl,_,B2,C2,F2⟩
   dsimp only
   have sz:=B2.size
   refine wpS_bind (Gq hA B2 (by omega) (by omega) ?_)
   dsimp only
   by_cases z:fa f (arrOf st2) (lo + x) < fa f (arrOf st2) (lo + x - 1)
   ·rw [if_pos (decide_eq_true z)]
    have F3:∀ st3,(∀ k,fa f (arrOf st3) k = fa f (arrOf st2) k) -> b7 f (arrOf st3) lo (x + 1) 0:=fun st3 e3=>by
     have q1:=F2.2.1
     refine ⟨fun i j i1 i2 i3=>?_,by omega,fun i i1 i2=>?_⟩
     ·rw [e3,e3]
      by_cases y:j < lo + x
      ·exact F2.1 i j i1 i2 y
      ·obtain rfl:j = lo + x:=by omega
       by_cases v:i < lo + x
       ·exact Nat.le_trans (Nat.le_of_lt z) (F2.1 i (lo + x - 1) i1 (by omega) (by omega))
       ·obtain rfl:i = lo + x:=by omega
        exact Nat.le_refl _
     ·obtain rfl:i = lo + x:=by omega
      rfl
    by_cases e:q > 0
    ·rw [if_pos e]
     exact wpS_bind (Hy (wpS_pure ⟨0,rfl,by omega,B2.rev _ _,C2.trans ⟨rfl,fun k _=>F2.flat (by omega) k⟩,F3 _ fun k=>F2.flat (by omega) k⟩))
    ·rw [if_neg e]
     exact wpS_pure ⟨0,rfl,by omega,B2,C2,F3 _ fun _=>rfl⟩
   ·rw [if_neg (by rw [decide_eq_true_eq]; exact z)]
    refine wpS_bind (Gq hA B2 (by omega) (by omega) ?_)
    dsimp only
    by_cases y:fa f (arrOf st2) (lo + x - 1) < fa f (arrOf st2) (lo + x)
    ·rw [if_pos (decide_eq_true y)]
     exact wpS_pure ⟨x,q,rfl,by omega,B2,C2,F2⟩
    ·rw [if_neg (by rw [decide_eq_true_eq]; exact y)]
     have q1:=F2.2.1
     refine wpS_pure ⟨q + 1,rfl,by omega,B2,C2,fun i j i1 i2 i3=>?_,by omega,fun i i1 i2=>?_⟩
     ·by_cases v:j < lo + x
      ·exact F2.1 i j i1 i2 v
      ·obtain rfl:j = lo + x:=by omega
       by_cases u:i < lo + x
       ·have:=F2.1 i (lo + x - 1) i1 (by omega) (by omega)
        omega
       ·obtain rfl:i = lo + x:=by omega
        exact Nat.le_refl _
     ·rw [show lo + (x + 1) - 1 = lo + x by omega]
      by_cases v:i < lo + x
      ·have:=F2.2.2 i (by omega) v
       omega
      ·obtain rfl:i = lo + x:=by omega
       rfl
  ·rintro c st2 ⟨q,rfl,a1,B2,C2,F2⟩
   exact ⟨_,q,rfl,a1,B2,C2,F2⟩
  rintro c st2 ⟨m,q,rfl,a1,B2,C2,F2⟩
  dsimp only
  have sz:=B2.size
  have q1:=F2.2.1
  by_cases e:q > 0
  case' pos =>
   rw [if_pos e]
   refine wpS_bind (Hy (wpS_bind (Hy ?_)))
   have B3:=(B2.rev (lo + m - (q + 1)) (lo + m)).rev lo (lo + m)
   have A3:Hr f (arrOf (setArr (setArr st2 (mirror (arrOf st2) (lo + m - (q + 1)) (lo + m) ((lo + m - (lo + m - (q + 1))) / 2))) (mirror (mirror (arrOf st2) (lo + m - (q + 1)) (lo + m) ((lo + m - (lo + m - (q + 1))) / 2)) lo (lo + m) ((lo + m - lo) / 2)))) lo (lo + m):=F2.asc (b:=mirror (arrOf st2) (lo + m - (q + 1)) (lo + m) ((lo + m - (lo + m - (q + 1))) / 2)) (by rw [mirror_size]; omega) (fun k=>F2.flat (by omega) k)
   have C3:Ch f lo st' (setArr (setArr st2 (mirror (arrOf st2) (lo + m - (q + 1)) (lo + m) ((lo + m - (lo + m - (q + 1))) / 2))) (mirror (mirror (arrOf st2) (lo + m - (q + 1)) (lo + m) ((lo + m - (lo + m - (q + 1))) / 2)) lo (lo + m) ((lo + m - lo) / 2))):=C2.trans ⟨rfl,fun k hk=>by
    show fa f (mirror (mirror (arrOf st2) (lo + m - (q + 1)) (lo + m) ((lo + m - (lo + m - (q + 1))) / 2)) lo (lo + m) ((lo + m - lo) / 2)) k = _
    rw [F9 (by rw [mirror_size]; omega),if_neg (by omega)]
    exact F2.flat (by omega) k⟩
   generalize setArr (setArr st2 (mirror (arrOf st2) (lo + m - (q + 1)) (lo + m) ((lo + m - (lo + m - (q + 1))) / 2))) (mirror (mirror (arrOf st2) (lo + m - (q + 1)) (lo + m) ((lo + m - (lo + m - (q + 1))) / 2)) lo (lo + m) ((lo + m - lo) / 2)) = st3 at B3 C3 A3 ⊢
  case' neg =>
   rw [if_neg e]
   refine wpS_bind (Hy ?_)
   have B3:=B2.rev lo (lo + m)
   have A3:Hr f (arrOf (setArr st2 (mirror (arrOf st2) lo (lo + m) ((lo + m - lo) / 2)))) lo (lo + m):=F2.asc (b:=arrOf st2) (by omega) (fun k=>rfl)
   have C3:Ch f lo st' (setArr st2 (mirror (arrOf st2) lo (lo + m) ((lo + m - lo) / 2))):=C2.trans ⟨rfl,fun k hk=>by
    show fa f (mirror (arrOf st2) lo (lo + m) ((lo + m - lo) / 2)) k = _
    rw [F9 (by omega),if_neg (by omega)]⟩
   generalize setArr st2 (mirror (arrOf st2) lo (lo + m) ((lo + m - lo) / 2)) = st3 at B3 C3 A3 ⊢
  all_goals
   refine wpS_bind (wpS_mono (wpS_forRange (I:=fun x c st4=>st4 = st3 /\ c = (none,x) /\ Hr f (arrOf st3) lo (lo + x)) (Q:=fun c st4=>st4 = st3 /\ ∃ n,c = (none,n) /\ 0 < n /\ n <= nr /\ Hr f (arrOf st3) lo (lo + n)) ?_ ?_ ⟨rfl,rfl,A3⟩) ?_)
   ·rintro x c st4 y1 y2 ⟨rfl,rfl,y3⟩
    dsimp only
    refine wpS_bind (Gq hA B3 (by omega) (by omega) ?_)
    dsimp only
    by_cases z:fa f (arrOf st4) (lo + x) < fa f (arrOf st4) (lo + x - 1)
    ·rw [if_pos (decide_eq_true z)]
     exact wpS_pure ⟨rfl,x,rfl,by omega,by omega,y3⟩
    ·rw [if_neg (by rw [decide_eq_true_eq]; exact z)]
     exact wpS_pure ⟨rfl,rfl,Rc y3 (by omega) (by omega)⟩
   ·rintro c st4 ⟨rfl,rfl,y3⟩
    have e:max m nr = nr:=by omega
    rw [e] at y3 ⊢
    exact ⟨rfl,nr,rfl,hn0,Nat.le_refl _,y3⟩
   rintro c st4 ⟨rfl,n,rfl,n1,n2,n3⟩
   dsimp only
   exact wpS_pure (h _ _ n1 n2 B3 C3 n3)
end
section
variable {f:Keyed -> Nat}
def D0 (f:Keyed -> Nat) (a:Array Keyed):Nat -> List (Nat × Nat × Nat) -> Nat -> Prop
 | s0,[],hi=>s0 = hi
 | s0,x :: r,hi=>x.1 = s0 /\ 0 < x.2.1 /\ Hr f a s0 (s0 + x.2.1) /\ D0 f a (s0 + x.2.1) r hi
theorem D0.len {a:Array Keyed}:∀ {l:List (Nat × Nat × Nat)} {s0 hi:Nat},D0 f a s0 l hi -> s0 + l.length <= hi
 | [],s0,hi,h=>Nat.le_of_eq h
 | x :: r,s0,hi,h=>by
  have:=h.2.2.2.len
  have h2:=h.2.1
  rw [List.length_cons]
  omega
theorem D0.congr {a a':Array Keyed}:∀ {l:List (Nat × Nat × Nat)} {s0 hi:Nat},D0 f a s0 l hi -> (∀ k,s0 <= k -> k < hi -> fa f a' k = fa f a k) -> D0 f a' s0 l hi
 | [],s0,hi,h,e=>h
 | x :: r,s0,hi,h,e=>by
  obtain ⟨h1,h2,h3,h4⟩ := h
  have hl:=h4.len
  refine ⟨h1,h2,fun i j i1 i2 i3=>?_,h4.congr fun k k1 k2=>e k (by omega) k2⟩
  rw [e i i1 (by omega),e j (by omega) (by omega)]
  exact h3 i j i1 i2 i3
theorem D0.app {a:Array Keyed}:∀ {l m:List (Nat × Nat × Nat)} {s0 hi:Nat},D0 f a s0 (l ++ m) hi ↔ ∃ mid,D0 f a s0 l mid /\ D0 f a mid m hi
 | [],m,s0,hi=>⟨fun h=>⟨s0,rfl,h⟩,fun ⟨mid,h1,h2⟩=>by rw [show s0 = mid from h1]; exact h2⟩
 | x :: r,m,s0,hi=>by
  constructor
  ·rintro ⟨h1,h2,h3,h4⟩
   obtain ⟨mid,g1,g2⟩ := D0.app.mp h4
   exact ⟨mid,⟨h1,h2,h3,g1⟩,g2⟩
  ·rintro ⟨mid,⟨h1,h2,h3,g1⟩,g2⟩
   exact ⟨h1,h2,h3,D0.app.mpr ⟨mid,g1,g2⟩⟩
theorem D0.mod {a:Array Keyed} {pw:Nat}:∀ {l:List (Nat × Nat × Nat)} {i s0 hi:Nat},D0 f a s0 l hi -> D0 f a s0 (l.modify i fun x=>(x.fst,x.2.fst,pw)) hi
 | [],i,s0,hi,h=>by rw [List.modify_nil]; exact h
 | x :: r,0,s0,hi,h=>by rw [List.modify_zero_cons]; exact h
 | x :: r,i + 1,s0,hi,h=>by
  rw [List.modify_succ_cons]
  exact ⟨h.1,h.2.1,h.2.2.1,D0.mod h.2.2.2⟩
theorem U5 (p:Array (Nat × Nat × Nat)) (i:Nat) (x:Nat × Nat × Nat) (h:i + 1 < p.size):((p.setIfInBounds i x).eraseIdxIfInBounds (i + 1)).toList = p.toList.take i ++ x :: p.toList.drop (i + 2):=by
 have e:((p.setIfInBounds i x).eraseIdxIfInBounds (i + 1)).toList = (p.toList.set i x).eraseIdx (i + 1):=by
  unfold Array.eraseIdxIfInBounds
  rw [dif_pos (by rw [Array.size_setIfInBounds]; exact h),Array.toList_eraseIdx,Array.toList_setIfInBounds]
 rw [e,List.eraseIdx_eq_take_drop_succ]
 have hl:i < p.toList.length:=by rw [Array.length_toList]; omega
 rw [List.drop_set_of_lt (by omega),List.take_set,List.take_add_one,List.getElem?_eq_getElem hl]
 have ht:(p.toList.take i).length = i:=by rw [List.length_take]; omega
 rw [List.set_append_right _ _ (by omega),ht,Nat.sub_self,List.append_assoc]
 rfl
end
section
variable {prog:Program} {w:World} {A:Around} {E:Value -> Shared -> Prop} {s:Shared} {κ:SortKind} {f:Keyed -> Nat} {a₀:Array Keyed} {st:SortSt}
theorem Yo (hA : Ig prog w A s κ f a₀) (hB : Bs κ a₀ st) {lo n ok : Nat} (hok : 0 < ok) (hn : ok <= n) (hsz : lo + n <= a₀.size) (hs : Hr f (arrOf st) lo (lo + ok)) {Q : Bool -> SortSt -> Prop}
  (h:∀ st',Bs κ a₀ st' -> Ch f lo st st' -> Hr f (arrOf st') lo (lo + n) -> Q true st'):wpS (model prog w) A E s (binarySort' lo n ok) Q st:=by
 refine wpS_bind (wpS_mono (wpS_forRange (I:=fun k c st'=>c = (none,()) /\ Bs κ a₀ st' /\ Ch f lo st st' /\ Hr f (arrOf st') lo (lo + k)) (Q:=fun c st'=>c = (none,()) /\ Bs κ a₀ st' /\ Ch f lo st st' /\ Hr f (arrOf st') lo (lo + n)) ?_ ?_ ⟨rfl,hB,Ch.refl,by rw [show max ok 1 = ok by omega]; exact hs⟩) ?_)
 ·rintro k c st' k1 k2 ⟨rfl,B1,C1,A1⟩
  dsimp only
  have sz:=B1.size
  refine wpS_bind (wpS_mono (wpS_forRange (I:=fun x c st2=>st2 = st' /\ ∃ l r,c = (none,l,r) /\ l <= r /\ r <= k /\ r + x <= l + k /\ (∀ i,i < l -> fa f (arrOf st') (lo + i) <= fa f (arrOf st') (lo + k)) /\ (∀ i,r <= i -> i < k -> fa f (arrOf st') (lo + k) <= fa f (arrOf st') (lo + i)))
   (Q:=fun c st2=>st2 = st' /\ ∃ l,c = (none,l,l) /\ l <= k /\ (∀ i,i < l -> fa f (arrOf st') (lo + i) <= fa f (arrOf st') (lo + k)) /\ (∀ i,l <= i -> i < k -> fa f (arrOf st') (lo + k) <= fa f (arrOf st') (lo + i))) ?_ ?_ ⟨rfl,0,k,rfl,by omega,by omega,by omega,fun i hi=>by omega,fun i h1 h2=>by omega⟩) ?_)
  ·rintro x c st2 _ hx ⟨rfl,l,r,rfl,g1,g2,g3,g4,g5⟩
   dsimp only
   by_cases e:l >= r
   ·rw [if_pos e]
    obtain rfl:l = r:=by omega
    exact wpS_pure ⟨rfl,l,rfl,g2,g4,g5⟩
   ·rw [if_neg e]
    refine wpS_bind (Gq hA B1 (by omega) (by omega) ?_)
    dsimp only
    by_cases z:fa f (arrOf st2) (lo + k) < fa f (arrOf st2) (lo + (l + r) / 2)
    ·rw [if_pos (decide_eq_true z)]
     refine wpS_pure ⟨rfl,l,_,rfl,by omega,by omega,by omega,g4,fun i i1 i2=>?_⟩
     have:=A1 (lo + (l + r) / 2) (lo + i) (by omega) (by omega) (by omega)
     omega
    ·rw [if_neg (by rw [decide_eq_true_eq]; exact z)]
     refine wpS_pure ⟨rfl,_,r,rfl,by omega,by omega,by omega,fun i i1=>?_,g5⟩
     have:=A1 (lo + i) (lo + (l + r) / 2) (by omega) (by omega) (by omega)
     omega
  ·rintro c st2 ⟨rfl,l,r,rfl,g1,g2,g3,g4,g5⟩
   obtain rfl:l = r:=by omega
   exact ⟨rfl,l,rfl,g2,g4,g5⟩
  rintro c st2 ⟨rfl,l,rfl,g2,g4,g5⟩
  dsimp only
  have eb:∀ m,fa f (bubble (arrOf st2) (lo + k) (lo + k - (lo + l))) m = if m = lo + l then fa f (arrOf st2) (lo + k) else if lo + l < m /\ m <= lo + k then fa f (arrOf st2) (m - 1) else fa f (arrOf st2) m:=fun m=>by
   rw [Uz (by omega) (by omega),show lo + k - (lo + k - (lo + l)) = lo + l by omega]
  refine wpS_bind (m:=moveDown' (lo + k) (lo + l)) ?_
  rw [moveDown'_eq]
  refine wpS_modify (wpS_pure ⟨rfl,⟨(bubble_perm _ _ _).trans B1.perm,B1.kind,B1.failed⟩,C1.trans ⟨rfl,fun m hm=>?_⟩,fun i j i1 i2 i3=>?_⟩)
  ·show fa f (bubble (arrOf st2) (lo + k) (lo + k - (lo + l))) m = _
   rw [eb m,if_neg (by omega),if_neg (by omega)]
  ·show fa f (bubble (arrOf st2) (lo + k) (lo + k - (lo + l))) i <= fa f (bubble (arrOf st2) (lo + k) (lo + k - (lo + l))) j
   rw [eb i,eb j]
   have G4:∀ i,lo <= i -> i < lo + l -> fa f (arrOf st2) i <= fa f (arrOf st2) (lo + k):=fun i i1 i2=>by
    have:=g4 (i - lo) (by omega)
    rwa [show lo + (i - lo) = i by omega] at this
   have G5:∀ i,lo + l <= i -> i < lo + k -> fa f (arrOf st2) (lo + k) <= fa f (arrOf st2) i:=fun i i1 i2=>by
    have:=g5 (i - lo) (by omega) (by omega)
    rwa [show lo + (i - lo) = i by omega] at this
   by_cases c1:i = lo + l
   ·rw [if_pos c1]
    by_cases c2:j = lo + l
    ·rw [if_pos c2]
     exact Nat.le_refl _
    ·rw [if_neg c2,if_pos (by omega)]
     exact G5 (j - 1) (by omega) (by omega)
   ·rw [if_neg c1]
    by_cases c3:lo + l < i /\ i <= lo + k
    ·rw [if_pos c3,if_neg (by omega),if_pos (by omega)]
     exact A1 (i - 1) (j - 1) (by omega) (by omega) (by omega)
    ·rw [if_neg c3]
     by_cases c2:j = lo + l
     ·rw [if_pos c2]
      exact G4 i i1 (by omega)
     ·rw [if_neg c2]
      by_cases c4:lo + l < j /\ j <= lo + k
      ·rw [if_pos c4]
       exact Nat.le_trans (G4 i i1 (by omega)) (G5 (j - 1) (by omega) (by omega))
      ·rw [if_neg c4]
       exact A1 i j i1 i2 (by omega)
 ·rintro c st' ⟨rfl,B1,C1,A1⟩
  rw [show max (max ok 1) n = n by omega] at A1
  exact ⟨rfl,B1,C1,A1⟩
 rintro c st' ⟨rfl,B1,C1,A1⟩
 exact wpS_pure (h _ B1 C1 A1)
theorem L9 (hA : Ig prog w A s κ f a₀) (hB : Bs κ a₀ st) {i hi : Nat} (hR : D0 f (arrOf st) 0 (pendingOf st).toList hi) (hh : hi <= a₀.size) (hlt : i + 1 < (pendingOf st).size) {Q : Bool -> SortSt -> Prop}
  (h:∀ st',Bs κ a₀ st' -> D0 f (arrOf st') 0 (pendingOf st').toList hi -> (pendingOf st').size + 1 = (pendingOf st).size -> (∀ k,hi <= k -> fa f (arrOf st') k = fa f (arrOf st) k) -> Q true st'):wpS (model prog w) A E s (mergeAt' i) Q st:=by
 have hl:i + 1 < (pendingOf st).toList.length:=by rw [Array.length_toList]; exact hlt
 obtain ⟨sa,na,pw,ea⟩ : ∃ sa na pw,(pendingOf st).toList[i]? = some (sa,na,pw):=⟨_,_,_,List.getElem?_eq_getElem (by omega)⟩
 obtain ⟨sb,nb,pb,eb⟩ : ∃ sb nb pb,(pendingOf st).toList[i + 1]? = some (sb,nb,pb):=⟨_,_,_,List.getElem?_eq_getElem (by omega)⟩
 have ed:(pendingOf st).toList = (pendingOf st).toList.take i ++ (sa,na,pw) :: (sb,nb,pb) :: (pendingOf st).toList.drop (i + 2):=by
  have h1:=(List.take_append_drop i (pendingOf st).toList).symm
  rw [List.drop_eq_getElem_cons (by omega),(List.getElem?_eq_some_iff.mp ea).2,List.drop_eq_getElem_cons hl,(List.getElem?_eq_some_iff.mp eb).2] at h1
  exact h1
 have hR2:=hR
 rw [ed] at hR2
 obtain ⟨mid,r1,r2⟩ := D0.app.mp hR2
 obtain ⟨a1,a2,a3,b1,b2,b3,r3⟩ := r2
 dsimp only at a1 a2 a3 b1 b2 b3 r3
 subst a1 b1
 have l1:=r1.len
 have l3:=r3.len
 refine Q6 hA hB (by rw [<- Array.getElem?_toList]; exact ea) (by rw [<- Array.getElem?_toList]; exact eb) rfl a2 b2 (by omega) a3 b3 fun st' B' p' A' f'=>?_
 refine h st' B' ?_ ?_ fun k hk=>f' k (by omega)
 ·rw [p',U5 _ _ _ hlt]
  refine D0.app.mpr ⟨sa,r1.congr fun k k1 k2=>f' k (by omega),rfl,by show 0 < na + nb; omega,?_,?_⟩
  ·show Hr f (arrOf st') sa (sa + (na + nb))
   rw [<- Nat.add_assoc]
   exact A'
  ·show D0 f (arrOf st') (sa + (na + nb)) _ _
   rw [<- Nat.add_assoc]
   exact r3.congr fun k k1 k2=>f' k (by omega)
 ·rw [p',<- Array.length_toList,U5 _ _ _ hlt,<- Array.length_toList (xs:=pendingOf st)]
  rw [List.length_append,List.length_cons,List.length_take,List.length_drop]
  omega
end
section
variable {prog:Program} {w:World} {A:Around} {E:Value -> Shared -> Prop} {s:Shared} {κ:SortKind} {f:Keyed -> Nat} {a₀:Array Keyed} {st:SortSt}
theorem D0.push {a a':Array Keyed} {p:Array (Nat × Nat × Nat)} {lo n pw:Nat} (h:D0 f a 0 p.toList lo) (e:∀ k,k < lo -> fa f a' k = fa f a k) (hn:0 < n) (hs:Hr f a' lo (lo + n)):D0 f a' 0 (p.push (lo,n,pw)).toList (lo + n):=by
 rw [Array.toList_push]
 exact D0.app.mpr ⟨lo,h.congr fun k _ hk=>e k hk,rfl,hn,hs,rfl⟩
theorem Pu (hA:Ig prog w A s κ f a₀) (hB:Bs κ a₀ st) (hp:pendingOf st = #[]) {Q:Unit -> SortSt -> Prop} (h:∀ st',Bs κ a₀ st' -> Hr f (arrOf st') 0 a₀.size -> Q () st'):wpS (model prog w) A E s sortRuns' Q st:=by
 have sz0:=hB.size
 rw [sortRuns'_eq]
 refine wpS_bind (wpS_get ?_)
 refine wpS_bind (wpS_mono (wpS_forRange (I:=fun x c st'=>∃ lo,c = (none,lo) /\ Bs κ a₀ st' /\ D0 f (arrOf st') 0 (pendingOf st').toList lo /\ lo <= a₀.size /\ (lo < a₀.size -> x <= lo)) (Q:=fun c st'=>c = (none,a₀.size) /\ Bs κ a₀ st' /\ D0 f (arrOf st') 0 (pendingOf st').toList a₀.size) ?_ ?_ ⟨0,rfl,hB,by rw [hp]; rfl,by omega,fun _=>Nat.le_refl _⟩) ?_)
 ·rintro x c st1 _ x2 ⟨lo,rfl,B1,R1,l1,l2⟩
  dsimp only
  rw [show (arrOf st).size = a₀.size from sz0]
  by_cases e1:lo >= a₀.size
  ·rw [if_pos e1]
   obtain rfl:lo = a₀.size:=by omega
   exact wpS_pure ⟨rfl,B1,R1⟩
  rw [if_neg e1]
  refine wpS_bind (Tg hA B1 (by omega) (by omega) fun m st2 m1 m2 B2 C2 A2=>?_)
  dsimp only
  have R2:D0 f (arrOf st2) 0 (pendingOf st2).toList lo:=by
   rw [C2.1]
   exact R1.congr fun k _ hk=>C2.2 k hk
  by_cases e2:m < minRun' a₀.size a₀.size 0
  case' pos =>
   rw [if_pos e2]
   refine wpS_bind (wpS_lift (wpAny_rule ⟨rfl,?_⟩))
   generalize hn:min (a₀.size - lo) (minRun' a₀.size a₀.size 0) = n
   have hn1:0 < n /\ n <= a₀.size - lo /\ m <= n:=by omega
   refine wpS_bind (Yo hA B2 m1 hn1.2.2 (by omega) A2 fun st3 B3 C3 A3=>?_)
   rw [if_neg (by decide)]
   have R3:D0 f (arrOf st3) 0 (pendingOf st3).toList lo:=by
    rw [C3.1]
    exact R2.congr fun k _ hk=>C3.2 k hk
  case' neg =>
   rw [if_neg e2]
   obtain ⟨n,rfl⟩ : ∃ n,n = m:=⟨m,rfl⟩
   have hn1:0 < n /\ n <= a₀.size - lo:=⟨m1,m2⟩
   have B3:=B2
   have A3:=A2
   have R3:=R2
   obtain ⟨st3,rfl⟩ : ∃ st3,st3 = st2:=⟨st2,rfl⟩
  all_goals
   refine wpS_bind (wpS_get ?_)
   cases hb:(pendingOf st3).back? with
   | none =>
    dsimp only
    refine wpS_bind (wpS_modify (wpS_pure ⟨lo + n,rfl,⟨B3.perm,B3.kind,B3.failed⟩,R3.push (fun _ _=>rfl) hn1.1 A3,by omega,fun _=>by omega⟩))
   | some v =>
    obtain ⟨s1,n1,v1⟩ := v
    dsimp only
    refine wpS_bind (wpS_mono (wpS_forRange (I:=fun y c st4=>c = (none,()) /\ Bs κ a₀ st4 /\ D0 f (arrOf st4) 0 (pendingOf st4).toList lo /\ Hr f (arrOf st4) lo (lo + n)) (Q:=fun c st4=>c = (none,()) /\ Bs κ a₀ st4 /\ D0 f (arrOf st4) 0 (pendingOf st4).toList lo /\ Hr f (arrOf st4) lo (lo + n)) ?_ (fun c st4 h4=>h4) ⟨rfl,B3,R3,A3⟩) ?_)
    ·rintro y c st4 _ y2 ⟨rfl,B4,R4,A4⟩
     refine wpS_bind (wpS_get ?_)
     by_cases e3:(pendingOf st4).size > 1
     ·rw [if_pos e3]
      obtain ⟨⟨u1,u2,u3⟩,hu⟩ : ∃ u,(pendingOf st4)[(pendingOf st4).size - 2]? = some u:=⟨_,getElem?_pos (pendingOf st4) _ (by omega)⟩
      rw [hu]
      dsimp only
      split
      ·exact wpS_pure ⟨rfl,B4,R4,A4⟩
      ·refine wpS_bind (L9 hA B4 R4 l1 (by omega) fun st5 B5 R5 _ f5=>?_)
       rw [if_neg (by decide)]
       refine wpS_pure ⟨rfl,B5,R5,fun i j i1 i2 i3=>?_⟩
       rw [f5 i i1,f5 j (by omega)]
       exact A4 i j i1 i2 i3
     ·rw [if_neg e3]
      exact wpS_pure ⟨rfl,B4,R4,A4⟩
    ·rintro c st4 ⟨rfl,B4,R4,A4⟩
     dsimp only
     refine wpS_bind (wpS_modify (wpS_bind (wpS_modify (wpS_pure ⟨lo + n,rfl,⟨B4.perm,B4.kind,B4.failed⟩,?_,by omega,fun _=>by omega⟩))))
     refine D0.push (a:=arrOf st4) ?_ (fun _ _=>rfl) hn1.1 A4
     show D0 f (arrOf st4) 0 ((pendingOf st4).modify ((pendingOf st4).size - 1) _).toList lo
     rw [Array.toList_modify]
     exact R4.mod
 ·rintro c st1 ⟨lo,rfl,B1,R1,l1,l2⟩
  obtain rfl:lo = a₀.size:=by omega
  exact ⟨rfl,B1,R1⟩
 rintro c st1 ⟨rfl,B1,R1⟩
 dsimp only
 have n1:(pendingOf st1).size <= a₀.size:=by
  have:=R1.len
  rw [Array.length_toList] at this
  omega
 refine wpS_bind (wpS_mono (wpS_forRange (I:=fun y c st4=>c = (none,()) /\ Bs κ a₀ st4 /\ D0 f (arrOf st4) 0 (pendingOf st4).toList a₀.size /\ (pendingOf st4).size + y <= a₀.size + 1) (Q:=fun c st4=>c = (none,()) /\ Bs κ a₀ st4 /\ D0 f (arrOf st4) 0 (pendingOf st4).toList a₀.size /\ (pendingOf st4).size <= 1) ?_ ?_ ⟨rfl,B1,R1,by omega⟩) ?_)
 ·rintro y c st4 _ y2 ⟨rfl,B4,R4,n4⟩
  refine wpS_bind (wpS_get ?_)
  by_cases e3:(pendingOf st4).size <= 1
  ·rw [if_pos e3]
   exact wpS_pure ⟨rfl,B4,R4,e3⟩
  rw [if_neg e3]
  refine wpS_bind (L9 hA B4 R4 (Nat.le_refl _) ?_ fun st5 B5 R5 n5 f5=>?_)
  ·(repeat' split) <;> omega
  rw [if_neg (by decide)]
  exact wpS_pure ⟨rfl,B5,R5,by omega⟩
 ·rintro c st4 ⟨rfl,B4,R4,n4⟩
  exact ⟨rfl,B4,R4,by omega⟩
 rintro c st4 ⟨rfl,B4,R4,n4⟩
 dsimp only
 refine wpS_pure (h _ B4 ?_)
 rw [<- Array.length_toList] at n4
 match hl:(pendingOf st4).toList with
 | [] =>
  rw [hl] at R4
  have e:0 = a₀.size:=R4
  rw [<- e]
  exact fun i j _ _ h3=>absurd h3 (Nat.not_lt_zero _)
 | [x] =>
  rw [hl] at R4
  obtain ⟨_,_,r3,r4⟩ := R4
  rw [show 0 + x.2.1 = a₀.size from r4] at r3
  exact r3
 | x :: y :: r =>
  rw [hl,List.length_cons,List.length_cons] at n4
  omega
end
open PySem PySem.Spec PySem.SeqAt PyProof.Rows
section
variable {prog:Program} {w:World} {E:Value -> Shared -> Prop}
def Lx:List PyData -> List PyData -> Prop
 | x :: xs,y :: ys=>if PyData.eqv x y = true then Lx xs ys else Hs x y
 | _,_=>True
def Zu:PyData -> PyData -> Prop
 | .tuple xs,.tuple ys=>Lx xs ys
 | _,_=>False
theorem Qm {A : Around} {s : Shared} {b : Bool} {Q : Bool -> Shared -> Prop} : ∀ (xs ys : List PyData) (vs ws : List Value) (as bs : List Addr) (i : Nat), ReadsAll s.heap vs xs as -> ReadsAll s.heap ws ys bs -> PyData.canLayAll0 xs = true -> PyData.canLayAll0 ys = true -> Lx xs ys ->
  A.units + min (PyData.depthAll xs) (PyData.depthAll ys) < cLine -> (b = true -> i = 0 -> ∀ x xs' y ys',xs = x :: xs' -> ys = y :: ys' -> ∃ m n,x = .int m /\ y = .int n) -> Q (ltvAll xs ys) s -> PySem.W.KatLex prog w A b (decide (xs.length < ys.length)) Q (vs.zip ws) i s
 | [],ys,_,ws,_,_,i,ra,rb,_,_,_,_,_,h=>by
  cases ra
  rw [List.zip_nil_left]
  refine PySem.W.kat_nil ?_
  cases ys <;> exact h
 | x :: xs,[],_,_,_,_,i,ra,rb,_,_,_,_,_,h=>by
  cases rb
  rw [List.zip_nil_right]
  exact PySem.W.kat_nil h
 | x :: xs,y :: ys,_,_,_,_,i,ra,rb,ca,cb,hc,hu,hb,h=>by
  have e0:=eqAt_readsAll (x :: xs) (y :: ys) A s _ _ _ _ ra rb ca cb hu 0
  cases ra with
  | @cons v vs _ _ a1 a2 r1 r2 =>
   cases rb with
   | @cons u us _ _ b1 b2 q1 q2 =>
    have ca1:x.canLay0 = true /\ PyData.canLayAll0 xs = true:=by simpa [PyData.canLayAll0] using ca
    have cb1:y.canLay0 = true /\ PyData.canLayAll0 ys = true:=by simpa [PyData.canLayAll0] using cb
    have hd:A.units + min x.depth y.depth < cLine /\ A.units + min (PyData.depthAll xs) (PyData.depthAll ys) < cLine:=by
     simp only [PyData.depthAll] at hu
     omega
    have e1:SeqAt.EqAt A s v u (PyData.eqv x y):=e0 (by simp) (by simp)
    have el:decide ((x :: xs).length < (y :: ys).length) = decide (xs.length < ys.length):=by simp
    rw [List.zip_cons_cons,el]
    refine PySem.W.kat_cons (e1 prog w _ _ ?_)
    cases e:PyData.eqv x y with
    | true =>
     unfold Lx at hc
     rw [if_pos e] at hc
     refine PySem.W.kat_yes (Qm xs ys _ _ _ _ (i + 1) r2 q2 ca1.2 cb1.2 hc hd.2 (fun _ z=>by omega) ?_)
     rw [ltvAll,if_pos e] at h
     exact h
    | false =>
     unfold Lx at hc
     rw [if_neg (by rw [e]; decide)] at hc
     rw [ltvAll,if_neg (by rw [e]; decide)] at h
     refine PySem.W.kat_no ?_
     by_cases z:(b && i == 0) = true
     ·have z2:b = true /\ i = 0:=by simpa using z
      obtain ⟨m,n,rfl,rfl⟩ := hb z2.1 z2.2 x xs y ys rfl rfl
      cases r1
      cases q1
      rw [z]
      exact oneLt_int h
     ·rw [show (b && i == 0) = false from Bool.eq_false_iff.mpr z]
      refine PySem.W.kat_one _ _ ?_
      exact Ke x y A s _ _ _ _ r1 q1 ca1.1 cb1.1 hc hd.1 prog w _ _ (show PySem.W.BoolBack Q (.bool (Jw x y)) s from h)
def Ix (b:Bool) (d:PyData):Prop := ∃ x r,d = .tuple (x :: r) /\ if b = true then ∃ m,x = .int m else ∃ l,x = .tuple l
theorem Y3 {A : Around} {s : Shared} {b : Bool} {Q : Bool -> Shared -> Prop} {v u : Value} {d e : PyData} {as bs : List Addr} (rv : Reads s.heap v d as) (ru : Reads s.heap u e bs) (fd : Ix b d) (fe : Ix b e) (cd : d.canLay0 = true) (ce : e.canLay0 = true) (hc : Zu d e) (hu : A.units + d.depth < cLine) (h : Q (Jw d e) s) :
  wpAny (model prog w) A (keyLt' (PyProof.Rows.tuples' b) v u) Q E s:=by
 obtain ⟨x,r,rfl,hx⟩ := fd
 obtain ⟨y,r2,rfl,hy⟩ := fe
 cases rv with
 | @tuple l1 o1 vs n1 _ as1 h1 h2 h3 h4 =>
  cases ru with
  | @tuple l2 o2 ws n2 _ as2 k1 k2 k3 k4 =>
   have n1':vs.size = (x :: r).length:=by simpa using ReadsAll.length _ _ _ h4
   have n2':ws.size = (y :: r2).length:=by simpa using ReadsAll.length _ _ _ k4
   refine PySem.W.kat_lt h1 h3 k1 k3 ?_
   rw [n1',n2']
   refine Qm (x :: r) (y :: r2) _ _ _ _ 0 h4 k4 cd ce hc ?_ (fun hb _ x' _ y' _ e1 e2=>?_) h
   ·have e:(PyData.tuple (x :: r)).depth = PyData.depthAll (x :: r) + 1:=by simp [PyData.depth]
    omega
   ·cases e1
    cases e2
    rw [if_pos hb] at hx hy
    obtain ⟨m,rfl⟩ := hx
    obtain ⟨n,rfl⟩ := hy
    exact ⟨m,n,rfl,rfl⟩
theorem Vz {A:Around} {s:Shared} {b:Bool} {Q:SortKind -> Shared -> Prop}:∀ {vs:List Value} ,vs ≠ [] -> (∀ v ∈ vs,∃ d as,Reads s.heap v d as /\ Ix b d) -> Q (PyProof.Rows.tuples' b) s -> wpAny (model prog w) A (keyKind' vs.toArray) Q E s:=by
 intro vs hne hall h
 have key:∀ vs:List Value,(∀ v ∈ vs,∃ d as,Reads s.heap v d as /\ Ix b d) -> ∃ fs,PySem.W.KatTups s.heap vs fs /\ fs.length = vs.length /\ ∀ f ∈ fs,PySem.W.Looks (model prog w) s.heap (typeOf f) (.type (if b = true then "int" else "tuple")):=by
  intro vs
  induction vs with
  | nil=>exact fun _=>⟨[],PySem.W.KatTups.nil,rfl,fun f hf=>by cases hf⟩
  | cons v vs ih =>
   intro hall
   obtain ⟨fs,t1,t2,t3⟩ := ih fun v hv=>hall v (List.mem_cons_of_mem _ hv)
   obtain ⟨d,as,rv,x,r,rfl,hx⟩ := hall v List.mem_cons_self
   cases rv with
   | tuple h1 h2 h3 h4 =>
    rename_i a o us n
    obtain ⟨u,ur,eu⟩ : ∃ u ur,us.toList = u :: ur:=by
     cases hus:us.toList with
     | nil=>rw [hus] at h4; cases h4
     | cons u ur=>exact ⟨u,ur,rfl⟩
    have e0:us[0]? = some u:=by rw [<- Array.getElem?_toList,eu]; rfl
    refine ⟨u :: fs,PySem.W.KatTups.cons h1 h2 h3 e0 t1,by simp [t2],fun f hf=>?_⟩
    rcases List.mem_cons.mp hf with z | z
    ·subst z
     rw [eu] at h4
     cases h4 with
     | cons r1 r2 =>
      cases b with
      | true =>
       obtain ⟨m,rfl⟩ := hx
       cases r1
       exact PySem.W.Looks.now
      | false =>
       obtain ⟨l,rfl⟩ := hx
       cases r1 with
       | tuple g1 g2 g3 g4 =>
        show PySem.W.Looks (model prog w) s.heap _ (Value.type "tuple")
        rw [<- g2]
        exact (PySem.W.Looks.ld g1).andThen .now
    ·exact t3 f z
 obtain ⟨fs,t1,t2,t3⟩ := key vs hall
 refine PySem.W.kat_kind t1 ?_ t3 (by cases b <;> rfl) ?_
 ·rw [t2]
  exact List.length_pos_iff.mpr hne
 ·have e:(Value.type (if b = true then "int" else "tuple") != Value.type "tuple") = b:=by cases b <;> decide
  rw [e]
  exact h
theorem Fy (vs:List Value):vs.toArray.zip vs.toArray = (vs.map fun v=>(v,v)).toArray:=by
 apply Array.toList_inj.mp
 rw [Array.toList_zip,List.toList_toArray]
 induction vs with
 | nil=>rfl
 | cons v r ih=>rw [List.zip_cons_cons,ih,List.map_cons]
theorem Ua (vs:List Value):(vs.map fun v=>(v,v)).map (fun x:Value × Value=>x.2) = vs:=by
 rw [List.map_map]
 exact List.map_id'' (fun _=>rfl) vs
theorem Xh {A : Around} {s : Shared} {a : Addr} {vs : List Value} {n : Nat} {κ : SortKind} {g : Value -> Nat} {P : PySem.Fin -> Shared -> Prop} (ho : s.heap.get? a = some (seqObj "list" vs.toArray n)) (hsz : vs.length <= sizeLine)
  (hkk:∀ h6:Heap,(∀ b o,b ≠ a -> s.heap.get? b = some o -> h6.get? b = some o) -> 2 <= vs.length -> (∀ Q,Q κ { s with heap:=h6 } -> wpAny (model prog w) A (keyKind' vs.toArray) Q E { s with heap:=h6 }) /\ Ig prog w A { s with heap:=h6 } κ (fun p=>g p.1) (vs.toArray.zip vs.toArray))
  (h:∀ out:Array Value,out.toList.Perm vs -> out.toList.Pairwise (fun x y=>g x <= g y) -> P (.done (.ret .none)) { s with heap:=sortedHeap s.heap a vs out }) :
  wpAny (model prog w) A (Builtin.«list.sort» ⟨[.ref a],[]⟩) P E s:=by
 rw [list_sort_plain]
 have ha:a < s.heap.objs.size:=Heap.lt_size ho
 refine wpAny_bind (listItems_at ho rfl (wpAny_bind (listUpdate_at ho rfl ?_ (by rw [List.size_toArray]; exact hsz) (Nat.zero_le _))))
 obtain ⟨e1,ho1⟩ : ∃ e1,(s.heap.update a (Obj.mapSeq fun _=>(#[]:Array Value))).get? a = some (seqObj "list" #[] e1):=⟨_,get?_update_seq ho (fun _=>#[])⟩
 refine wpAny_bind (seqEpoch_at ho1 rfl (wpAny_bind (wpAny_newTuple (wpAny_bind (wpAny_newList (wpAny_holding ?_))))))
 have ho6:(((s.heap.update a (Obj.mapSeq fun _=>(#[]:Array Value))).push (seqObj "tuple" vs.toArray 0)).push (seqObj "list" #[] 0)).get? a = some (seqObj "list" #[] e1):=Heap.get?_push_of_some _ (Heap.get?_push_of_some _ ho1)
 have kp:∀ b o,b ≠ a -> s.heap.get? b = some o -> (((s.heap.update a (Obj.mapSeq fun _=>(#[]:Array Value))).push (seqObj "tuple" vs.toArray 0)).push (seqObj "list" #[] 0)).get? b = some o:=fun b o hb e=>Heap.get?_push_of_some _ (Heap.get?_push_of_some _ ((Heap.get?_update_other _ _ (Ne.symm hb)).trans e))
 have hk:=hkk _ kp
 have fin:=h
 unfold sortedHeap at fin
 generalize ((s.heap.update a (Obj.mapSeq fun _=>(#[]:Array Value))).push (seqObj "tuple" vs.toArray 0)).push (seqObj "list" #[] 0) = h6 at ho6 kp hk fin
 show wpAny (model prog w) A _ P E { s with heap:=h6 }
 dsimp only
 have hs2:vs.toArray.size = vs.length:=by simp
 by_cases h2:vs.toArray.size < 2
 ·rw [if_pos h2,if_pos h2]
  refine wpAny_bind (wpAny_pure ?_)
  rw [StateT.run_pure]
  refine wpAny_bind (wpAny_pure ?_)
  dsimp only
  have eo:Array.map (fun x=>x.snd) (vs.toArray.zip vs.toArray) = vs.toArray:=by
   rw [Fy]
   apply Array.toList_inj.mp
   rw [Array.toList_map]
   exact Ua vs
  refine wpAny_bind (seqEpoch_at ho6 rfl (wpAny_bind (listUpdate_at ho6 rfl ?_ (Nat.zero_le _) (by rw [eo,hs2]; omega))))
  simp only [bne_self_eq_false,Bool.false_eq_true,if_false]
  rw [show Array.map (fun x=>x.snd) (arrOf (SortSt.mk' general' (vs.toArray.zip vs.toArray) #[] 7 none)) = vs.toArray from eo]
  refine wpAny_pure (fin vs.toArray (by simp) ?_)
  match vs,hs2,h2 with
  | [],_,_=>exact List.Pairwise.nil
  | [x],_,_=>exact List.pairwise_singleton _ _
  | x :: y :: r,hs2,h2=>exact absurd h2 (by rw [hs2,List.length_cons,List.length_cons]; omega)
 ·rw [if_neg h2,if_neg h2]
  obtain ⟨hk1,hk2⟩ := hk (by omega)
  refine wpAny_bind (hk1 _ ?_)
  have hz:(vs.toArray.zip vs.toArray).size = vs.length:=by rw [Fy]; simp
  refine wpAny_bind (wpAny_mono (Pu (st:=SortSt.mk' κ (vs.toArray.zip vs.toArray) #[] 7 none) hk2 ⟨Array.Perm.refl _,rfl,rfl⟩ rfl (Q:=fun _ st'=>Bs κ (vs.toArray.zip vs.toArray) st' /\ Hr (fun p=>g p.1) (arrOf st') 0 (vs.toArray.zip vs.toArray).size) fun st' b1 b2=>⟨b1,b2⟩) ?_ fun _ _ e=>e)
  rintro ⟨⟨⟩,st'⟩ s' ⟨rfl,hB,hS⟩
  dsimp only at hB hS ⊢
  have hmem:∀ p ∈ arrOf st',p.1 = p.2 /\ p.1 ∈ vs:=fun p hp=>by
   have:=hB.perm.mem_iff.mp hp
   rw [Fy] at this
   have h3:p ∈ vs.map fun v=>(v,v):=by simpa using this
   obtain ⟨v,hv,rfl⟩ := List.mem_map.mp h3
   exact ⟨rfl,hv⟩
  have hperm:((arrOf st').map (·.2)).toList.Perm vs:=by
   rw [Array.toList_map]
   have:=(Array.perm_iff_toList_perm.mp hB.perm).map (·.2)
   rw [Fy,Ua] at this
   exact this
  have hsort:((arrOf st').map (·.2)).toList.Pairwise (fun x y=>g x <= g y):=by
   rw [Array.toList_map]
   refine List.pairwise_iff_getElem.mpr fun i j hi hj hij=>?_
   rw [List.length_map,Array.length_toList] at hi hj
   have ei:(arrOf st')[i]? = some (arrOf st')[i]:=getElem?_pos (arrOf st') i hi
   have ej:(arrOf st')[j]? = some (arrOf st')[j]:=getElem?_pos (arrOf st') j hj
   have h4:=hS i j (Nat.zero_le _) (Nat.le_of_lt hij) (by rw [<- hB.size]; exact hj)
   rw [Az ei,Az ej] at h4
   have e1:=(hmem _ (Array.mem_of_getElem? ei)).1
   have e2:=(hmem _ (Array.mem_of_getElem? ej)).1
   rw [e1,e2] at h4
   simpa using h4
  refine wpAny_bind (seqEpoch_at ho6 rfl (wpAny_bind (listUpdate_at ho6 rfl ?_ (Nat.zero_le _) (by
   have:=hperm.length_eq
   rw [Array.length_toList] at this
   rw [this]
   omega))))
  rw [show failedOf st' = none from hB.failed]
  simp only [bne_self_eq_false,Bool.false_eq_true,if_false]
  exact wpAny_pure (fin _ hperm hsort)
end
open PySem PySem.Spec PySem.SeqAt PyProof.Rows
section
variable {prog:Program} {w:World} {E:Value -> Shared -> Prop}
theorem V9 {A : Around} {s : Shared} {vs : List Value} {κ : SortKind} {g : Value -> Nat} {r : Value} {Q : Value -> Shared -> Prop} {h1 : Heap} {t1 : Nat} (hsz : vs.length <= sizeLine) (hcol : ∀ R : List Value -> Shared -> Prop, R vs { s with heap := h1, toks := t1 } -> wpAny (model prog w) A.in1 (collect r) R E s)
  (hkk:∀ (h6:Heap) (A':Around),A'.units <= A.units + 4 -> (∀ b o,h1.get? b = some o -> h6.get? b = some o) -> 2 <= vs.length -> (∀ Q E,Q κ { s with heap:=h6,toks:=t1 } -> wpAny (model prog w) A' (keyKind' vs.toArray) Q E { s with heap:=h6,toks:=t1 }) /\ Ig prog w A' { s with heap:=h6,toks:=t1 } κ (fun p=>g p.1) (vs.toArray.zip vs.toArray))
  (h:∀ (out:Array Value) (h':Heap) (c:Nat),out.toList.Perm vs -> out.toList.Pairwise (fun x y=>g x <= g y) -> (∀ b o,h1.get? b = some o -> h'.get? b = some o) -> h'.get? h1.objs.size = some (seqObj "list" out c) -> Q (.ref h1.objs.size) { s with heap:=h',toks:=t1 }) :
  wpAny (model prog w) A (call (.builtin "sorted") [r]) Q E s:=by
 refine Calls.call_function_entry kind_sorted plain_sorted entry_sorted (args_sorted1 _) ?_
 unfold Builtin.«sorted»
 refine wpAny_bind (m:=checkCount "sorted" 1 1 _) (wpAny_pure ?_)
 refine wpAny_bind (hcol _ (wpAny_bind (wpAny_newList ?_ )))
 have hoL:(h1.push (seqObj "list" vs.toArray 0)).get? h1.objs.size = some (seqObj "list" vs.toArray 0):=Heap.get?_push_size _ rfl
 show wpAny _ _ _ _ _ { s with heap:=h1.push (seqObj "list" vs.toArray 0),toks:=t1 }
 refine wpAny_bind (wpAny_holding (wpAny_call_entry slot_list_sort ⟨_,hoL,rfl⟩ entry_list_sort (Xh (κ:=κ) (g:=g) (s:={ s with heap:=h1.push (seqObj "list" vs.toArray 0),toks:=t1 }) hoL hsz (fun h6 kp h2=>?_) fun out p1 p2=>⟨_,rfl,?_⟩) (args_list_sort _)))
 ·obtain ⟨k1,k2⟩ := hkk h6 A.in1.in1 (show A.units + 1 + 1 <= A.units + 4 by omega) (fun b o e=>kp b o (Nat.ne_of_lt (Heap.lt_size e)) (Heap.get?_push_of_some _ e)) h2
  exact ⟨fun Q hq=>k1 Q _ hq,k2⟩
 ·obtain ⟨c,hc⟩ : ∃ c,(sortedHeap (h1.push (seqObj "list" vs.toArray 0)) h1.objs.size vs out).get? h1.objs.size = some (seqObj "list" out c):=sortedHeap_at hoL
  refine wpAny_pure ⟨_,rfl,h out _ c p1 p2 (fun b o e=>?_) hc⟩
  rw [sortedHeap_old (Nat.ne_of_lt (Heap.lt_size e)) (by rw [size_push']; exact Nat.lt_succ_of_lt (Heap.lt_size e))]
  exact Heap.get?_push_of_some _ e
end
section
variable {X:Cx} {k:Nat}
def Od:Value -> Addr
 | .ref a=>a
 | _=>0
def Qi (H:Hp) (b:Bool) (D:V -> PyData) (g:V -> Nat) (us:List V):Prop:=(∀ u ∈ us,Rp H (D u) u /\ Ix b (D u) /\ (D u).depth <= 50) /\ ∀ u ∈ us,∀ v ∈ us,Zu (D u) (D v) /\ Jw (D u) (D v) = decide (g u < g v)
theorem Qi.ref {H:Hp} {b:Bool} {D:V -> PyData} {g:V -> Nat} {us:List V} (h:Qi H b D g us):∃ as:List Addr,us = as.map V.ref:=by
 have key:∀ us:List V,(∀ u ∈ us,Rp H (D u) u /\ Ix b (D u)) -> ∃ as:List Addr,us = as.map V.ref:=by
  intro us
  induction us with
  | nil=>exact fun _=>⟨[],rfl⟩
  | cons u us ih =>
   intro hall
   obtain ⟨as,rfl⟩ := ih fun v hv=>hall v (List.mem_cons_of_mem _ hv)
   obtain ⟨h1,x,r,e,_⟩ := hall u List.mem_cons_self
   rw [e] at h1
   unfold Rp at h1
   obtain ⟨a,us0,ea,_⟩ := h1
   exact ⟨a :: as,by rw [ea]; rfl⟩
 exact key us fun u hu=>⟨(h.1 u hu).1,(h.1 u hu).2.1⟩
theorem Qi.asks {P : Program} {w : World} {pins : List (Addr × Obj)} {σ : St} {H : Hp} {s : Shared} {b : Bool} {D : V -> PyData} {g : V -> Nat} {as : List Addr} {A' : Around} {E : Value -> Shared -> Prop} (I : Am X pins σ H s) (hP : X.prog = P) (hw : X.w = w) (h : Qi H b D g (as.map V.ref)) (hu : A'.units + 50 < cLine) (h2 : 2 <= as.length) :
  (∀ Q E,Q (PyProof.Rows.tuples' b) s -> wpAny (model P w) A' (keyKind' (as.map Value.ref).toArray) Q E s) /\ Ig P w A' s (PyProof.Rows.tuples' b) (fun p=>g (.ref (Od p.1))) ((as.map Value.ref).toArray.zip (as.map Value.ref).toArray):=by
 subst hP hw
 have rd:∀ a ∈ as,∃ xs,Reads s.heap (.ref a) (D (.ref a)) xs:=fun a ha=>Eg I _ _ _ (h.1 _ (List.mem_map_of_mem ha)).1 rfl
 refine ⟨fun Q E hq=>Vz (b:=b) ?_ (fun v hv=>?_) hq,fun x y hx hy Q E hq=>?_⟩
 ·intro e
  have:=congrArg List.length e
  rw [List.length_map,List.length_nil] at this
  omega
 ·obtain ⟨a,ha,rfl⟩ := List.mem_map.mp hv
  obtain ⟨xs,r⟩ := rd a ha
  exact ⟨_,xs,r,(h.1 _ (List.mem_map_of_mem ha)).2.1⟩
 ·have mem : ∀ z, z ∈ (as.map Value.ref).toArray.zip (as.map Value.ref).toArray -> ∃ a ∈ as, z.1 = Value.ref a := fun z hz => by
   rw [Fy] at hz
   have h3:z ∈ (as.map Value.ref).map fun v=>(v,v):=by simpa using hz
   obtain ⟨v,hv,rfl⟩ := List.mem_map.mp h3
   obtain ⟨a,ha,rfl⟩ := List.mem_map.mp hv
   exact ⟨a,ha,rfl⟩
  obtain ⟨a,ha,ea⟩ := mem x hx
  obtain ⟨c,hc,ec⟩ := mem y hy
  have ha':=List.mem_map_of_mem (f:=V.ref) ha
  have hc':=List.mem_map_of_mem (f:=V.ref) hc
  obtain ⟨xs,r1⟩ := rd a ha
  obtain ⟨ys,r2⟩ := rd c hc
  obtain ⟨c1,c2⟩ := h.2 _ ha' _ hc'
  obtain ⟨x1,x2⟩ := x
  obtain ⟨y1,y2⟩ := y
  obtain rfl:x1 = Value.ref a:=ea
  obtain rfl:y1 = Value.ref c:=ec
  refine Y3 r1 r2 (h.1 _ ha').2.1 (h.1 _ hc').2.1 (Ds _ _ (h.1 _ ha').1) (Ds _ _ (h.1 _ hc').1) c1 ?_ ?_
  ·have:=(h.1 _ ha').2.2
   omega
  ·rw [c2]
   exact hq
theorem Vm {g:V -> Nat} {as:List Addr} {out:List Value} (hp:out.Perm (as.map Value.ref)) (hs:out.Pairwise (fun x y=>g (.ref (Od x)) <= g (.ref (Od y)))):∃ us':List V,B7 us' out /\ us'.Perm (as.map V.ref) /\ us'.Pairwise (fun x y=>g x <= g y):=by
 have hr:∀ v ∈ out,v = .ref (Od v):=fun v hv=>by
  obtain ⟨a,_,rfl⟩ := List.mem_map.mp (hp.mem_iff.mp hv)
  rfl
 refine ⟨out.map fun v=>.ref (Od v),?_,?_,?_⟩
 ·have key : ∀ l : List Value, (∀ v ∈ l, v = .ref (Od v)) -> B7 (l.map fun v => V.ref (Od v)) l := by
   intro l
   induction l with
   | nil=>exact fun _=>.nil
   | cons v l ih=>exact fun h=>.cons (h v List.mem_cons_self) (ih fun v hv=>h v (List.mem_cons_of_mem _ hv))
  exact key out hr
 ·have:=hp.map fun v=>V.ref (Od v)
  rw [List.map_map] at this
  exact this
 ·rw [List.pairwise_map]
  exact hs
def Wl (K:PySem.W.Frag):List V -> Hp -> VK -> Prop:=fun xs H Q=>∃ (l:Addr) (us:List V) (b:Bool) (D:V -> PyData) (g:V -> Nat),xs = [.ref l] /\ B9 K H l us /\ us.length <= 20000 /\ Qi H b D g us /\ ∀ (p:Addr) (us':List V),H p = none -> us'.Perm us -> us'.Pairwise (fun x y=>g x <= g y) -> Q (.ref p) (upd H p (.lst us'))
theorem O9 (hr:E9 k X.A):Es X (.builtin "sorted") (Wl X.K):=by
 intro pins s σ H xs us Q I r h
 obtain ⟨l,vs,b,D,g,rfl,hq,hl,hD,q⟩ := h
 obtain ⟨u,rfl,ru⟩ := r.one
 cases ru
 obtain ⟨its,rv,pl,hz⟩ := I.list hq
 obtain ⟨as,rfl⟩ := hD.ref
 obtain rfl:=Nx as its rv
 have hu:=hr.units
 have h63:=Iq
 have hlen:(as.map Value.ref).length <= sizeLine:=by
  rw [List.length_map]
  rw [List.length_map] at hl
  exact Nat.le_trans hl (by rw [sizeLine_eq]; decide)
 have kp:∀ b o,s.heap.get? b = some o -> ((s.heap.push (seqObj "list" #[] 0)).update s.heap.objs.size (Obj.mapSeq (· ++ (as.map Value.ref).toArray))).get? b = some o:=fun b o e=>(Heap.get?_update_other _ _ (Ne.symm (Nat.ne_of_lt (Heap.lt_size e)))).trans (Heap.get?_push_of_some _ e)
 refine V9 (h1:=(s.heap.push (seqObj "list" #[] 0)).update s.heap.objs.size (Obj.mapSeq (· ++ (as.map Value.ref).toArray))) (t1:=s.toks) (κ:=PyProof.Rows.tuples' b) (g:=fun v=>g (.ref (Od v))) hlen (fun R hR=>collect_list pl.isList hR hlen) (fun h6 A' hA' k6 h2=>?_) fun out h' c p1 p2 k' e'=>?_
 ·have I6:Am X pins σ H { s with heap:=h6 }:=I.kept (t':=s.toks) fun b o e=>k6 b o (kp b o e)
  rw [List.length_map] at h2
  exact hD.asks (E:=fun _ _=>True) I6 rfl rfl (by have:=hr.un; omega) h2
 ·obtain ⟨us',v1,v2,v3⟩ := Vm p1 p2
  refine ⟨.ref _,upd H _ (.lst us'),I.laid (t':=s.toks) (fun b o e=>k' b o (kp b o e)) ?_ ?_,rfl,q _ us' (I.hok.fresh ?_) v2 v3⟩
  ·rw [Heap.size_update,size_push']
   exact Nat.le_succ _
  ·exact ⟨by rw [v2.length_eq]; exact hz,out.toList,c,v1,e'⟩
  ·rw [Heap.size_update,size_push']
   exact Nat.le_succ _
end
open PySem.W (KdxIt)
section
variable {P:Program} {w:World} {A:Around} {E:Value -> Shared -> Prop} {s:Shared}
def dr (h:Heap) (it d S:Addr) (i n ep:Nat):Prop:=(i = 0 /\ ∃ ok ov,IsItemIter h it d 0 n ep ok ov) \/ ∃ ok ov a f oa,KdxIt h it d i n ep ok ov a f /\ h.get? a = some oa /\ a ≠ it /\ a ≠ S
structure qk (es:Array DictEntry) (lo:Addr) (h:Heap) (as:List Addr):Prop where
 rise:as.Pairwise (· < ·)
 above:∀ a ∈ as,lo < a
 at_:∀ (j:Nat) (a:Addr),as[j]? = some a -> ∃ en,es[j]? = some en /\ h.get? a = some { cls := .type "tuple",data := .seq #[en.key,en.val] }
theorem qk.lt {es:Array DictEntry} {lo:Addr} {h:Heap} {as:List Addr} (g:qk es lo h as) {a:Addr} (ha:a ∈ as):a < h.objs.size:=by
 obtain ⟨j,hj⟩ := List.mem_iff_getElem?.mp ha
 obtain ⟨_,_,e⟩ := g.at_ j a hj
 exact Heap.lt_size e
theorem dr.keep {h h':Heap} {it d S:Addr} {i n ep:Nat} (x:dr h it d S i n ep) (hk:∀ b o,b ≠ S -> h.get? b = some o -> h'.get? b = some o) (hI:it ≠ S):dr h' it d S i n ep:=by
 rcases x with ⟨e,ok,ov,hit⟩ | ⟨ok,ov,a,f,oa,hit,ha,hai,haS⟩
 ·exact .inl ⟨e,ok,ov,hk it _ hI hit⟩
 ·exact .inr ⟨ok,ov,a,f,oa,hk it _ hI hit,hk a _ haS ha,hai,haS⟩
end
section
variable {prog:Program} {w:World} {E:Value -> Shared -> Prop}
end
section
variable {X:Cx} {k:Nat} {pins:List (Addr × Obj)} {σ:St} {H H':Hp} {s:Shared} {h':Heap}
def ai (v D:Addr):HO := .ext fun h=>h.IsItemsView v D
def lm:V -> List V -> Hp -> VK -> Prop:=fun x vs H Q=>∃ D kvs,x = .ref D /\ vs = [] /\ H D = some (.dT kvs) /\ ∀ v,H v = none -> Q (.ref v) (upd H v (ai v D))
def rm (k:(List Int × Int)):PyData := .tuple [.tuple (k.1.map PyData.int),.int k.2]
mutual
theorem ju {H H':Hp} (sm:A7 H H'):∀ (d:PyData) (v:V),Rp H d v -> Rp H' d v
 | .none,v,h=>h
 | .bool _,v,h=>h
 | .int _,v,h=>h
 | .str _,v,h=>h
 | .dict _,v,h=>h
 | .tuple ds,v,h=>by
  unfold Rp at h ⊢
  obtain ⟨a,xs,e,h1,h2⟩ := h
  exact ⟨a,xs,e,sm _ _ h1,rpa_sm sm ds xs h2⟩
 | .list ds,v,h=>by
  unfold Rp at h ⊢
  obtain ⟨a,xs,e,h1,h2⟩ := h
  exact ⟨a,xs,e,sm _ _ h1,rpa_sm sm ds xs h2⟩
theorem rpa_sm {H H':Hp} (sm:A7 H H'):∀ (ds:List PyData) (vs:List V),RpAll H ds vs -> RpAll H' ds vs
 | [],vs,h=>by
  unfold RpAll at h ⊢
  exact h
 | d :: ds,vs,h=>by
  unfold RpAll at h ⊢
  obtain ⟨x,xs,e,h1,h2⟩ := h
  exact ⟨x,xs,e,ju sm d x h1,rpa_sm sm ds xs h2⟩
end
def r9 (H:Hp) (kv:(List Int × Int) × V) (u:V):Prop := ∃ a b,u = .ref a /\ H a = some (.tup [.ref b,kv.2]) /\ E5 H b kv.1
def U6 (dv:(List Int × Int) × V -> PyData) (kv:(List Int × Int) × V):PyData := .tuple [rm kv.1,dv kv]
def nj:List V -> Hp -> VK -> Prop:=fun xs H Q=>∃ (v D:Addr) (kvs:List ((List Int × Int) × V)) (dv:(List Int × Int) × V -> PyData) (g:(List Int × Int) × V -> Nat),xs = [.ref v] /\ H v = some (ai v D) /\ H D = some (.dT kvs) /\ (∀ kv ∈ kvs,Rp H (dv kv) kv.2 /\ (dv kv).depth <= 40) /\
 (∀ a ∈ kvs,∀ b ∈ kvs,Zu (U6 dv a) (U6 dv b) /\ Jw (U6 dv a) (U6 dv b) = decide (g a < g b)) /\
 ∀ (p:Addr) (us:List V) (ps:List ((List Int × Int) × V)) (H':Hp),A7 H H' -> H p = none -> H' p = some (.lst us) -> ps.Perm kvs -> ps.Pairwise (fun x y=>g x <= g y) -> Paired (r9 H') ps us -> Q (.ref p) H'
end
end L2
namespace Law
local macro_rules | `(tactic| omega) => `(tactic| lia)
open PySem L2 PyProof.Rows
open PySem.Builtin.Int (intBits)
def top (i:Nat):Stmt:=PySem.Challenge.pw_roundcall_k36_broken_papers_let_by.main.body.getD i (.Pass ⟨0,0,0,0⟩)
abbrev Nq:Stmt:=top 7
abbrev Mj:Stmt:=top 8
abbrev W1:Stmt:=top 9
abbrev Vv:Stmt:=top 10
abbrev Lo:Stmt:=top 11
abbrev Vc:Stmt:=top 12
abbrev Fr:Stmt:=top 13
abbrev Mm:Stmt:=top 14
abbrev V0:Stmt:=top 15
abbrev N6:Stmt:=top 16
abbrev Kd:Stmt:=top 17
abbrev Lp:Stmt:=top 18
abbrev N5:Stmt:=top 20
abbrev Mt:Stmt:=top 21
abbrev Kw:Stmt:=top 22
abbrev Uy:Stmt:=top 24
abbrev Nr:Stmt:=top 25
abbrev Vd:Stmt:=top 26
abbrev Kl:Stmt:=top 27
abbrev Ml:Stmt:=top 28
abbrev Uw:Stmt:=top 29
abbrev Km:Stmt:=top 31
abbrev R0:Stmt:=top 32
abbrev Rl:Stmt:=top 33
abbrev Mz:Stmt:=top 35
abbrev Nh:Stmt:=top 36
abbrev Hb:Stmt:=top 37
abbrev V2:Stmt:=top 38
abbrev Nf:Stmt:=top 39
abbrev Ng:Stmt:=top 40
abbrev Mx:Stmt:=top 41
abbrev L7:Stmt:=top 42
abbrev O5:Stmt:=top 43
abbrev Nm:Stmt:=top 44
abbrev Mp:Stmt:=top 45
abbrev Ii:Stmt:=top 46
theorem f8:Av (["hall"]:List Str) ["hall"] (Aa Nq):=⟨rfl,rfl,rfl,by decide +kernel,rfl,by decide +kernel,by decide +kernel⟩
theorem gh:Av (["hall","standing"]:List Str) ["hall","standing"] (Aa Mj):=⟨rfl,rfl,rfl,by decide +kernel,rfl,by decide +kernel,by decide +kernel⟩
theorem l0:Av (["hall","who"]:List Str) ["hall","who"] (Aa W1):=⟨rfl,rfl,rfl,by decide +kernel,rfl,by decide +kernel,by decide +kernel⟩
theorem jb:Av (["hall","standing","who","lost"]:List Str) ["hall","standing","who","lost"] (Aa Vv):=⟨rfl,rfl,rfl,by decide +kernel,rfl,by decide +kernel,by decide +kernel⟩
theorem Yn:Av (["hall","standing","who","lost","left"]:List Str) ["hall","standing","who","lost"] (Aa Lo):=⟨rfl,rfl,rfl,by decide +kernel,rfl,by decide +kernel,by decide +kernel⟩
def Iv:Scope:={ kind := .function,names:=[(PySem.Str.ofString ".0",NameKind.local),(PySem.Str.ofString "turns",NameKind.local)],isGenerator:=false,isCoroutine:=false,more:=[] }
theorem J0:Cw (Aa Lo) Iv (["hall","standing","who","lost","left"]:List Str) (["turns"]:List Str) []:=⟨rfl,by decide +kernel,by decide +kernel,by decide +kernel,by decide +kernel⟩
theorem Jm:(Bx (["hall","standing","who","lost","left"]:List Str) (["turns"]:List Str) []).Nodup:=by decide +kernel
theorem kz:Av (["hall","standing","lost"]:List Str) ["hall","standing","lost"] (Aa Vc):=⟨rfl,rfl,rfl,by decide +kernel,rfl,by decide +kernel,by decide +kernel⟩
theorem Ym:Av (["hall","standing","who","lost","left"]:List Str) ["hall","standing","who","lost"] (Aa Fr):=⟨rfl,rfl,rfl,by decide +kernel,rfl,by decide +kernel,by decide +kernel⟩
theorem Xm:Av (["hall","standing","who","behind"]:List Str) ["hall","standing","who"] (Aa Mm):=⟨rfl,rfl,rfl,by decide +kernel,rfl,by decide +kernel,by decide +kernel⟩
theorem j9:Av (["hall"]:List Str) ["hall"] (Aa V0):=⟨rfl,rfl,rfl,by decide +kernel,rfl,by decide +kernel,by decide +kernel⟩
theorem Op:Av (["hall","product","wait"]:List Str) ["hall"] (Aa N6):=⟨rfl,rfl,rfl,by decide +kernel,rfl,by decide +kernel,by decide +kernel⟩
theorem Jh:Av (["waits","rows","wait","longer","row"]:List Str) ["waits"] (Aa Kd):=⟨rfl,rfl,rfl,by decide +kernel,rfl,by decide +kernel,by decide +kernel⟩
def M6:Scope:={ kind := .function,names:=[(PySem.Str.ofString ".0",NameKind.local),(PySem.Str.ofString "turns",NameKind.local),(PySem.Str.ofString "row",NameKind.free)],isGenerator:=false,isCoroutine:=false,more:=[] }
theorem M8:Cw (Aa Kd) M6 (["waits","rows","wait","longer","row"]:List Str) (["turns"]:List Str) [4]:=⟨rfl,by decide +kernel,by decide +kernel,by decide +kernel,by decide +kernel⟩
theorem Lq:(Bx (["waits","rows","wait","longer","row"]:List Str) (["turns"]:List Str) [4]).Nodup:=by decide +kernel
theorem Th:Av (["hall","told","left"]:List Str) ["hall"] (Aa Lp):=⟨rfl,rfl,rfl,by decide +kernel,rfl,by decide +kernel,by decide +kernel⟩
def Kn:Scope:={ kind := .function,names:=[(PySem.Str.ofString ".0",NameKind.local),(PySem.Str.ofString "quiet",NameKind.local),(PySem.Str.ofString "left",NameKind.free)],isGenerator:=false,isCoroutine:=false,more:=[] }
theorem Ku:Cw (Aa Lp) Kn (["hall","told","left"]:List Str) (["quiet"]:List Str) [2]:=⟨rfl,by decide +kernel,by decide +kernel,by decide +kernel,by decide +kernel⟩
theorem Kx:(Bx (["hall","told","left"]:List Str) (["quiet"]:List Str) [2]).Nodup:=by decide +kernel
theorem g8:Av (["hall","standing","answers"]:List Str) ["hall","standing","answers"] (Aa N5):=⟨rfl,rfl,rfl,by decide +kernel,rfl,by decide +kernel,by decide +kernel⟩
theorem P2:Av (["hall","listed","standing","answers","who","lost","behind"]:List Str) ["hall","listed","standing","answers"] (Aa Mt):=⟨rfl,rfl,rfl,by decide +kernel,rfl,by decide +kernel,by decide +kernel⟩
theorem L3:Av (["hall","paper","listed","standing","rank","answers"]:List Str) ["hall","paper"] (Aa Kw):=⟨rfl,rfl,rfl,by decide +kernel,rfl,by decide +kernel,by decide +kernel⟩
def Jf:Scope:={ kind := .function,names:=[(PySem.Str.ofString ".0",NameKind.local),(PySem.Str.ofString "standing",NameKind.local),(PySem.Str.ofString "rank",NameKind.local),(PySem.Str.ofString "answers",NameKind.local)],isGenerator:=false,isCoroutine:=false,more:=[] }
theorem Je:Cw (Aa Kw) Jf (["hall","paper","listed","standing","rank","answers"]:List Str) (["standing","rank","answers"]:List Str) []:=⟨rfl,by decide +kernel,by decide +kernel,by decide +kernel,by decide +kernel⟩
theorem Dn:(Bx (["hall","paper","listed","standing","rank","answers"]:List Str) (["standing","rank","answers"]:List Str) []).Nodup:=by decide +kernel
theorem O0:Av (["hall","pending","standing","calls","who","behind"]:List Str) ["hall"] (Aa Uy):=⟨rfl,rfl,rfl,by decide +kernel,rfl,by decide +kernel,by decide +kernel⟩
theorem Hg:Av (["pending","ways","standing","calls","who","behind","later"]:List Str) ["pending"] (Aa Nr):=⟨rfl,rfl,rfl,by decide +kernel,rfl,by decide +kernel,by decide +kernel⟩
theorem No:Av (["pending","ways","ranked","bare","later","standing","who","calls"]:List Str) ["pending","ways","ranked"] (Aa Vd):=⟨rfl,rfl,rfl,by decide +kernel,rfl,by decide +kernel,by decide +kernel⟩
theorem Fk:Av (["hall","pending","ways","table","rank","ranked","standing"]:List Str) ["hall"] (Aa Kl):=⟨rfl,rfl,rfl,by decide +kernel,rfl,by decide +kernel,by decide +kernel⟩
def So:Scope:={ kind := .function,names:=[(PySem.Str.ofString ".0",NameKind.local),(PySem.Str.ofString "standing",NameKind.local),(PySem.Str.ofString "calls",NameKind.local)],isGenerator:=false,isCoroutine:=false,more:=[] }
theorem Ry:Cw (Aa Kl) So (["hall","pending","ways","table","rank","ranked","standing"]:List Str) (["standing","calls"]:List Str) []:=⟨rfl,by decide +kernel,by decide +kernel,by decide +kernel,by decide +kernel⟩
theorem Lc:(Bx (["hall","pending","ways","table","rank","ranked","standing"]:List Str) (["standing","calls"]:List Str) []).Nodup:=by decide +kernel
theorem dq:Av (["table","behind"]:List Str) ["table","behind"] (Aa Ml):=⟨rfl,rfl,rfl,by decide +kernel,rfl,by decide +kernel,by decide +kernel⟩
theorem b6:Av (["hall","table","standing","who","reached"]:List Str) ["hall","table","standing","who"] (Aa Uw):=⟨rfl,rfl,rfl,by decide +kernel,rfl,by decide +kernel,by decide +kernel⟩
theorem gl:Av (["hall","table","standing"]:List Str) ["hall","table","standing"] (Aa Km):=⟨rfl,rfl,rfl,by decide +kernel,rfl,by decide +kernel,by decide +kernel⟩
def Ir:Scope:={ kind := .function,names:=[(PySem.Str.ofString ".0",NameKind.local),(PySem.Str.ofString "who",NameKind.local),(PySem.Str.ofString "worst_answer",NameKind.globalImplicit),(PySem.Str.ofString "hall",NameKind.free),(PySem.Str.ofString "standing",NameKind.free),(PySem.Str.ofString "table",NameKind.free)],isGenerator:=false,isCoroutine:=false,more:=[] }
theorem J5:Cw (Aa Km) Ir (["hall","table","standing"]:List Str) (["who"]:List Str) [0,1,2]:=⟨rfl,by decide +kernel,by decide +kernel,by decide +kernel,by decide +kernel⟩
theorem Ja:(Bx (["hall","table","standing"]:List Str) (["who"]:List Str) [0,1,2]).Nodup:=by decide +kernel
theorem b8:Av (["hall","standing","answers","behind"]:List Str) ["hall","standing","answers"] (Aa R0):=⟨rfl,rfl,rfl,by decide +kernel,rfl,by decide +kernel,by decide +kernel⟩
def Gd:Scope:={ kind := .function,names:=[(PySem.Str.ofString ".0",NameKind.local),(PySem.Str.ofString "who",NameKind.local),(PySem.Str.ofString "lost",NameKind.local),(PySem.Str.ofString "after",NameKind.globalImplicit),(PySem.Str.ofString "hall",NameKind.free),(PySem.Str.ofString "standing",NameKind.free)],isGenerator:=false,isCoroutine:=false,more:=[] }
theorem Ge:Cw (Aa R0) Gd (["hall","standing","answers","behind"]:List Str) (["who","lost"]:List Str) [0,1]:=⟨rfl,by decide +kernel,by decide +kernel,by decide +kernel,by decide +kernel⟩
theorem Dy:(Bx (["hall","standing","answers","behind"]:List Str) (["who","lost"]:List Str) [0,1]).Nodup:=by decide +kernel
def G0:Scope:={ kind := .function,names:=[(PySem.Str.ofString ".0",NameKind.local),(PySem.Str.ofString "later",NameKind.local)],isGenerator:=false,isCoroutine:=false,more:=[] }
theorem G6:Cw (Aa R0) G0 (["hall","standing","answers","behind"]:List Str) (["later"]:List Str) []:=⟨rfl,by decide +kernel,by decide +kernel,by decide +kernel,by decide +kernel⟩
theorem Gk:(Bx (["hall","standing","answers","behind"]:List Str) (["later"]:List Str) []).Nodup:=by decide +kernel
theorem Rb:Av (["hall","table","told","coming","standing"]:List Str) ["hall"] (Aa Rl):=⟨rfl,rfl,rfl,by decide +kernel,rfl,by decide +kernel,by decide +kernel⟩
def Ht:Scope:={ kind := .function,names:=[(PySem.Str.ofString ".0",NameKind.local),(PySem.Str.ofString "standing",NameKind.local),(PySem.Str.ofString "answers",NameKind.local),(PySem.Str.ofString "table",NameKind.free)],isGenerator:=false,isCoroutine:=false,more:=[] }
theorem Hw:Cw (Aa Rl) Ht (["hall","table","told","coming","standing"]:List Str) (["standing","answers"]:List Str) [1]:=⟨rfl,by decide +kernel,by decide +kernel,by decide +kernel,by decide +kernel⟩
theorem El:(Bx (["hall","table","told","coming","standing"]:List Str) (["standing","answers"]:List Str) [1]).Nodup:=by decide +kernel
theorem gq:Av (["script","k"]:List Str) ["script","k"] (Aa Mz):=⟨rfl,rfl,rfl,by decide +kernel,rfl,by decide +kernel,by decide +kernel⟩
theorem Lj:Av (["cells","room","waits","one"]:List Str) ["cells"] (Aa Nh):=⟨rfl,rfl,rfl,by decide +kernel,rfl,by decide +kernel,by decide +kernel⟩
theorem Dp:Av (["script","kind","cell","cells","waits","most","k"]:List Str) ["script"] (Aa Hb):=⟨rfl,rfl,rfl,by decide +kernel,rfl,by decide +kernel,by decide +kernel⟩
def Ma:Scope:={ kind := .function,names:=[(PySem.Str.ofString ".0",NameKind.local),(PySem.Str.ofString "k",NameKind.local),(PySem.Str.ofString "_law_cell",NameKind.globalImplicit),(PySem.Str.ofString "script",NameKind.free)],isGenerator:=false,isCoroutine:=false,more:=[] }
theorem Lu:Cw (Aa Hb) Ma (["script","kind","cell","cells","waits","most","k"]:List Str) (["k"]:List Str) [0]:=⟨rfl,by decide +kernel,by decide +kernel,by decide +kernel,by decide +kernel⟩
theorem Mh:(Bx (["script","kind","cell","cells","waits","most","k"]:List Str) (["k"]:List Str) [0]).Nodup:=by decide +kernel
def Lv:Scope:={ kind := .function,names:=[(PySem.Str.ofString ".0",NameKind.local),(PySem.Str.ofString "one",NameKind.local),(PySem.Str.ofString "max",NameKind.globalImplicit)],isGenerator:=false,isCoroutine:=false,more:=[] }
theorem Lr:Cw (Aa Hb) Lv (["script","kind","cell","cells","waits","most","k"]:List Str) (["one"]:List Str) []:=⟨rfl,by decide +kernel,by decide +kernel,by decide +kernel,by decide +kernel⟩
theorem Lw:(Bx (["script","kind","cell","cells","waits","most","k"]:List Str) (["one"]:List Str) []).Nodup:=by decide +kernel
def M9:Scope:={ kind := .function,names:=[(PySem.Str.ofString ".0",NameKind.local),(PySem.Str.ofString "one",NameKind.local),(PySem.Str.ofString "max",NameKind.globalImplicit)],isGenerator:=false,isCoroutine:=false,more:=[] }
theorem Ls:Cw (Aa Hb) M9 (["script","kind","cell","cells","waits","most","k"]:List Str) (["one"]:List Str) []:=⟨rfl,by decide +kernel,by decide +kernel,by decide +kernel,by decide +kernel⟩
theorem Md:(Bx (["script","kind","cell","cells","waits","most","k"]:List Str) (["one"]:List Str) []).Nodup:=by decide +kernel
def Mc:Scope:={ kind := .function,names:=[(PySem.Str.ofString ".0",NameKind.local),(PySem.Str.ofString "one",NameKind.local),(PySem.Str.ofString "max",NameKind.globalImplicit)],isGenerator:=false,isCoroutine:=false,more:=[] }
theorem Mf:Cw (Aa Hb) Mc (["script","kind","cell","cells","waits","most","k"]:List Str) (["one"]:List Str) []:=⟨rfl,by decide +kernel,by decide +kernel,by decide +kernel,by decide +kernel⟩
theorem Lz:(Bx (["script","kind","cell","cells","waits","most","k"]:List Str) (["one"]:List Str) []).Nodup:=by decide +kernel
theorem Uh:Av (["hall","cell","left","wait"]:List Str) ["hall","cell"] (Aa V2):=⟨rfl,rfl,rfl,by decide +kernel,rfl,by decide +kernel,by decide +kernel⟩
theorem Ru:Av (["hall","standing","who","lost","left","k"]:List Str) ["hall","standing","who","lost"] (Aa Nf):=⟨rfl,rfl,rfl,by decide +kernel,rfl,by decide +kernel,by decide +kernel⟩
theorem df:Av (["answers","at"]:List Str) ["answers","at"] (Aa Ng):=⟨rfl,rfl,rfl,by decide +kernel,rfl,by decide +kernel,by decide +kernel⟩
theorem Pe:Av (["entry","way","cell","standing","rank","answers"]:List Str) ["entry","way","cell"] (Aa Mx):=⟨rfl,rfl,rfl,by decide +kernel,rfl,by decide +kernel,by decide +kernel⟩
theorem F0:Av (["hall","paper","cell","way","at","to","more","turned","one"]:List Str) ["hall","paper","cell"] (Aa L7):=⟨rfl,rfl,rfl,by decide +kernel,rfl,by decide +kernel,by decide +kernel⟩
def Iy:Scope:={ kind := .function,names:=[(PySem.Str.ofString ".0",NameKind.local),(PySem.Str.ofString "standing",NameKind.local),(PySem.Str.ofString "rank",NameKind.local),(PySem.Str.ofString "answers",NameKind.local),(PySem.Str.ofString "more",NameKind.free)],isGenerator:=false,isCoroutine:=false,more:=[] }
theorem Ji:Cw (Aa L7) Iy (["hall","paper","cell","way","at","to","more","turned","one"]:List Str) (["standing","rank","answers"]:List Str) [6]:=⟨rfl,by decide +kernel,by decide +kernel,by decide +kernel,by decide +kernel⟩
theorem Dr:(Bx (["hall","paper","cell","way","at","to","more","turned","one"]:List Str) (["standing","rank","answers"]:List Str) [6]).Nodup:=by decide +kernel
theorem S2:Av (["hall","there","standing","answers","who","behind"]:List Str) ["hall","there","standing","answers"] (Aa O5):=⟨rfl,rfl,rfl,by decide +kernel,rfl,by decide +kernel,by decide +kernel⟩
theorem G7:Av (["hall","paper","there","standing","rank","answers"]:List Str) ["hall","paper"] (Aa Nm):=⟨rfl,rfl,rfl,by decide +kernel,rfl,by decide +kernel,by decide +kernel⟩
theorem Sc:Av (["hall","paper","handed","found"]:List Str) ["hall","paper"] (Aa Mp):=⟨rfl,rfl,rfl,by decide +kernel,rfl,by decide +kernel,by decide +kernel⟩
theorem J1:Av (["script","hall","told","paper","cell"]:List Str) ["script"] (Aa Ii):=⟨rfl,rfl,rfl,by decide +kernel,rfl,by decide +kernel,by decide +kernel⟩
set_option genInjectivity false in
set_option genSizeOf false in
structure qm where
 f_x19:Addr
 f_x24:Addr
 f_x9:Addr
 f_x1:Addr
 f_x10:Addr
 f_x4:Addr
 f_x32:Addr
 f_x15:Addr
 f_x5:Addr
 f_x25:Addr
 f_x26:Addr
 f_x20:Addr
 f_x16:Addr
 f_x21:Addr
 f_x11:Addr
 f_x2:Addr
 f_x31:Addr
 f_x0:Addr
 f_x33:Addr
 f_x34:Addr
 f_x6:Addr
 f_x12:Addr
 f_x3:Addr
 f_x7:Addr
 f_x27:Addr
 f_x28:Addr
 f_x29:Addr
 f_x8:Addr
 f_x17:Addr
 f_x18:Addr
 f_x13:Addr
 f_x14:Addr
 f_x22:Addr
 f_x30:Addr
 f_x23:Addr
 f_law:Addr
structure Txt (K:PySem.W.Frag) (mg:Str -> Option Value) (ad:qm):Prop where
 m_x19:mg "beginning" = some (.ref ad.f_x19)
 k_x19:PySem.W.keepIn K (.ref ad.f_x19) = true
 m_x24:mg "may_lose" = some (.ref ad.f_x24)
 k_x24:PySem.W.keepIn K (.ref ad.f_x24) = true
 m_x9:mg "is_listener" = some (.ref ad.f_x9)
 k_x9:PySem.W.keepIn K (.ref ad.f_x9) = true
 m_x1:mg "refuse_wrong_turn" = some (.ref ad.f_x1)
 k_x1:PySem.W.keepIn K (.ref ad.f_x1) = true
 m_x10:mg "left_behind" = some (.ref ad.f_x10)
 k_x10:PySem.W.keepIn K (.ref ad.f_x10) = true
 m_x4:mg "quiet_behind" = some (.ref ad.f_x4)
 k_x4:PySem.W.keepIn K (.ref ad.f_x4) = true
 m_x32:mg "after" = some (.ref ad.f_x32)
 k_x32:PySem.W.keepIn K (.ref ad.f_x32) = true
 m_x15:mg "all_behind" = some (.ref ad.f_x15)
 k_x15:PySem.W.keepIn K (.ref ad.f_x15) = true
 m_x5:mg "quiet_values" = some (.ref ad.f_x5)
 k_x5:PySem.W.keepIn K (.ref ad.f_x5) = true
 m_x25:mg "how_many" = some (.ref ad.f_x25)
 k_x25:PySem.W.keepIn K (.ref ad.f_x25) = true
 m_x26:mg "all_left" = some (.ref ad.f_x26)
 k_x26:PySem.W.keepIn K (.ref ad.f_x26) = true
 m_x20:mg "standings" = some (.ref ad.f_x20)
 k_x20:PySem.W.keepIn K (.ref ad.f_x20) = true
 m_x16:mg "may_answer" = some (.ref ad.f_x16)
 k_x16:PySem.W.keepIn K (.ref ad.f_x16) = true
 m_x21:mg "goes_down" = some (.ref ad.f_x21)
 k_x21:PySem.W.keepIn K (.ref ad.f_x21) = true
 m_x11:mg "lets_broken" = some (.ref ad.f_x11)
 k_x11:PySem.W.keepIn K (.ref ad.f_x11) = true
 m_x2:mg "calls_by_standing" = some (.ref ad.f_x2)
 k_x2:PySem.W.keepIn K (.ref ad.f_x2) = true
 m_x31:mg "ways_to" = some (.ref ad.f_x31)
 k_x31:PySem.W.keepIn K (.ref ad.f_x31) = true
 m_x0:mg "without_calls_left" = some (.ref ad.f_x0)
 k_x0:PySem.W.keepIn K (.ref ad.f_x0) = true
 m_x33:mg "ranks" = some (.ref ad.f_x33)
 k_x33:PySem.W.keepIn K (.ref ad.f_x33) = true
 m_x34:mg "worth" = some (.ref ad.f_x34)
 k_x34:PySem.W.keepIn K (.ref ad.f_x34) = true
 m_x6:mg "worst_answer" = some (.ref ad.f_x6)
 k_x6:PySem.W.keepIn K (.ref ad.f_x6) = true
 m_x12:mg "all_answers" = some (.ref ad.f_x12)
 k_x12:PySem.W.keepIn K (.ref ad.f_x12) = true
 m_x3:mg "unbroken_behind" = some (.ref ad.f_x3)
 k_x3:PySem.W.keepIn K (.ref ad.f_x3) = true
 m_x7:mg "broken_paper" = some (.ref ad.f_x7)
 k_x7:PySem.W.keepIn K (.ref ad.f_x7) = true
 m_x27:mg "_law_cell" = some (.ref ad.f_x27)
 k_x27:PySem.W.keepIn K (.ref ad.f_x27) = true
 m_x28:mg "_law_wide" = some (.ref ad.f_x28)
 k_x28:PySem.W.keepIn K (.ref ad.f_x28) = true
 m_x29:mg "_law_hall" = some (.ref ad.f_x29)
 k_x29:PySem.W.keepIn K (.ref ad.f_x29) = true
 m_x8:mg "_law_standing" = some (.ref ad.f_x8)
 k_x8:PySem.W.keepIn K (.ref ad.f_x8) = true
 m_x17:mg "_law_behind" = some (.ref ad.f_x17)
 k_x17:PySem.W.keepIn K (.ref ad.f_x17) = true
 m_x18:mg "_law_turned" = some (.ref ad.f_x18)
 k_x18:PySem.W.keepIn K (.ref ad.f_x18) = true
 m_x13:mg "_law_changed" = some (.ref ad.f_x13)
 k_x13:PySem.W.keepIn K (.ref ad.f_x13) = true
 m_x14:mg "_law_spoiled" = some (.ref ad.f_x14)
 k_x14:PySem.W.keepIn K (.ref ad.f_x14) = true
 m_x22:mg "_law_falls" = some (.ref ad.f_x22)
 k_x22:PySem.W.keepIn K (.ref ad.f_x22) = true
 m_x30:mg "_law_lets" = some (.ref ad.f_x30)
 k_x30:PySem.W.keepIn K (.ref ad.f_x30) = true
 m_x23:mg "_law_asked" = some (.ref ad.f_x23)
 k_x23:PySem.W.keepIn K (.ref ad.f_x23) = true
 m_law:mg "law" = some (.ref ad.f_law)
 k_law:PySem.W.keepIn K (.ref ad.f_law) = true
 n_len:mg "len" = none
 n_max:mg "max" = none
 n_tuple:mg "tuple" = none
 n_range:mg "range" = none
 n_enumerate:mg "enumerate" = none
 n_dict:mg "dict" = none
 n_sorted:mg "sorted" = none
 n_min:mg "min" = none
 n_list:mg "list" = none
 n_isinstance:mg "isinstance" = none
 n_bool:mg "bool" = none
 g_MOST_STANDINGS:∃ t,mg "MOST_STANDINGS" = some (.int 3000 t)
inductive Ou (p0 p1 p2:Prop):Prop where
 | mk (h0:p0) (h1:p1) (h2:p2):Ou p0 p1 p2
inductive Kt (p0 p1 p2 p3:Prop):Prop where
 | mk (h0:p0) (h1:p1) (h2:p2) (h3:p3):Kt p0 p1 p2 p3
inductive Gy (p0 p1 p2 p3 p4:Prop):Prop where
 | mk (h0:p0) (h1:p1) (h2:p2) (h3:p3) (h4:p4):Gy p0 p1 p2 p3 p4
inductive L6 (p0 p1 p2 p3 p4 p5:Prop):Prop where
 | mk (h0:p0) (h1:p1) (h2:p2) (h3:p3) (h4:p4) (h5:p5):L6 p0 p1 p2 p3 p4 p5
inductive Xp (p0 p1 p2 p3 p4 p5 p6:Prop):Prop where
 | mk (h0:p0) (h1:p1) (h2:p2) (h3:p3) (h4:p4) (h5:p5) (h6:p6):Xp p0 p1 p2 p3 p4 p5 p6
inductive Vt (p0 p1 p2 p3 p4 p5 p6 p7:Prop):Prop where
 | mk (h0:p0) (h1:p1) (h2:p2) (h3:p3) (h4:p4) (h5:p5) (h6:p6) (h7:p7):Vt p0 p1 p2 p3 p4 p5 p6 p7
inductive Oq (p0 p1 p2 p3 p4 p5 p6 p7 p8:Prop):Prop where
 | mk (h0:p0) (h1:p1) (h2:p2) (h3:p3) (h4:p4) (h5:p5) (h6:p6) (h7:p7) (h8:p8):Oq p0 p1 p2 p3 p4 p5 p6 p7 p8
inductive Ko (p0 p1 p2 p3 p4 p5 p6 p7 p8 p9:Prop):Prop where
 | mk (h0:p0) (h1:p1) (h2:p2) (h3:p3) (h4:p4) (h5:p5) (h6:p6) (h7:p7) (h8:p8) (h9:p9):Ko p0 p1 p2 p3 p4 p5 p6 p7 p8 p9
inductive Uj (p0 p1 p2 p3 p4 p5 p6 p7 p8 p9 p10:Prop):Prop where
 | mk (h0:p0) (h1:p1) (h2:p2) (h3:p3) (h4:p4) (h5:p5) (h6:p6) (h7:p7) (h8:p8) (h9:p9) (h10:p10):Uj p0 p1 p2 p3 p4 p5 p6 p7 p8 p9 p10
inductive ak (p0 p1 p2 p3 p4 p5 p6 p7 p8 p9 p10 p11 p12 p13 p14:Prop):Prop where
 | mk (h0:p0) (h1:p1) (h2:p2) (h3:p3) (h4:p4) (h5:p5) (h6:p6) (h7:p7) (h8:p8) (h9:p9) (h10:p10) (h11:p11) (h12:p12) (h13:p13) (h14:p14):ak p0 p1 p2 p3 p4 p5 p6 p7 p8 p9 p10 p11 p12 p13 p14
inductive ap (p0 p1 p2 p3 p4 p5 p6 p7 p8 p9 p10 p11 p12 p13 p14 p15:Prop):Prop where
 | mk (h0:p0) (h1:p1) (h2:p2) (h3:p3) (h4:p4) (h5:p5) (h6:p6) (h7:p7) (h8:p8) (h9:p9) (h10:p10) (h11:p11) (h12:p12) (h13:p13) (h14:p14) (h15:p15):ap p0 p1 p2 p3 p4 p5 p6 p7 p8 p9 p10 p11 p12 p13 p14 p15
inductive We {T0 T1:Type} (p:T0 -> T1 -> Prop):Prop where
 | mk (x0:T0) (x1:T1) (h:p x0 x1):We p
inductive Pj {T0 T1 T2:Type} (p:T0 -> T1 -> T2 -> Prop):Prop where
 | mk (x0:T0) (x1:T1) (x2:T2) (h:p x0 x1 x2):Pj p
inductive Wh {T0 T1 T2 T3:Type} (p:T0 -> T1 -> T2 -> T3 -> Prop):Prop where
 | mk (x0:T0) (x1:T1) (x2:T2) (x3:T3) (h:p x0 x1 x2 x3):Wh p
inductive iw {T0 T1 T2 T3 T4:Type} (p:T0 -> T1 -> T2 -> T3 -> T4 -> Prop):Prop where
 | mk (x0:T0) (x1:T1) (x2:T2) (x3:T3) (x4:T4) (h:p x0 x1 x2 x3 x4):iw p
inductive Z9 {T0 T1 T2 T3 T4 T5:Type} (p:T0 -> T1 -> T2 -> T3 -> T4 -> T5 -> Prop):Prop where
 | mk (x0:T0) (x1:T1) (x2:T2) (x3:T3) (x4:T4) (x5:T5) (h:p x0 x1 x2 x3 x4 x5):Z9 p
inductive n8 {T0 T1 T2 T3 T4 T5 T6:Type} (p:T0 -> T1 -> T2 -> T3 -> T4 -> T5 -> T6 -> Prop):Prop where
 | mk (x0:T0) (x1:T1) (x2:T2) (x3:T3) (x4:T4) (x5:T5) (x6:T6) (h:p x0 x1 x2 x3 x4 x5 x6):n8 p
inductive au {T0 T1 T2 T3 T4 T5 T6 T7:Type} (p:T0 -> T1 -> T2 -> T3 -> T4 -> T5 -> T6 -> T7 -> Prop):Prop where
 | mk (x0:T0) (x1:T1) (x2:T2) (x3:T3) (x4:T4) (x5:T5) (x6:T6) (x7:T7) (h:p x0 x1 x2 x3 x4 x5 x6 x7):au p
inductive pz {T0 T1 T2 T3 T4 T5 T6 T7 T8:Type} (p:T0 -> T1 -> T2 -> T3 -> T4 -> T5 -> T6 -> T7 -> T8 -> Prop):Prop where
 | mk (x0:T0) (x1:T1) (x2:T2) (x3:T3) (x4:T4) (x5:T5) (x6:T6) (x7:T7) (x8:T8) (h:p x0 x1 x2 x3 x4 x5 x6 x7 x8):pz p
inductive fo {T0 T1 T2 T3 T4 T5 T6 T7 T8 T9:Type} (p:T0 -> T1 -> T2 -> T3 -> T4 -> T5 -> T6 -> T7 -> T8 -> T9 -> Prop):Prop where
 | mk (x0:T0) (x1:T1) (x2:T2) (x3:T3) (x4:T4) (x5:T5) (x6:T6) (x7:T7) (x8:T8) (x9:T9) (h:p x0 x1 x2 x3 x4 x5 x6 x7 x8 x9):fo p
def Bq (H:Hp) (a:Addr) (ws:List Int) (calm:Option Int):Prop := ∃ t,H a = some (.tup [.ref t,vO calm]) /\ H t = some (.tup (ws.map V.int))
def Dx (H:Hp) (b:Addr) (ls:List Int) (q:Int):Prop := ∃ u,H b = some (.tup [.ref u,.int q]) /\ H u = some (.tup (ls.map V.int))
theorem Bq.same {H H':Hp} {a:Addr} {ws:List Int} {calm:Option Int} (s:A7 H H') (h:Bq H a ws calm):Bq H' a ws calm:=by
 obtain ⟨t,h1,h2⟩ := h
 exact ⟨t,s _ _ h1,s _ _ h2⟩
theorem Dx.same {H H':Hp} {a:Addr} {ls:List Int} {q:Int} (s:A7 H H') (h:Dx H a ls q):Dx H' a ls q:=by
 obtain ⟨t,h1,h2⟩ := h
 exact ⟨t,s _ _ h1,s _ _ h2⟩
theorem fk (c:Option Int):decide (vO c = V.non) = decide (c = none):=by cases c <;> simp [vO]
def Bj (ws ls:List Int) (who:Nat) (lost:Bool):List Int:=if lost = true then ls.map (fun x=>x - 1) else (ls.map (fun x=>x - 1)).set who (ws.getD who 0)
def D1 (calm:Option Int) (q:Int) (lost:Bool):Int:=if lost = true then calm.getD 0 else max (q - 1) 0
def R7 (calm:Option Int) (q:Int) (lost:Bool):Prop:=lost = true -> calm ≠ none /\ q = 0
theorem Ib (ws ls:List Int) (who:Nat) (lost:Bool):(Bj ws ls who lost).length = ls.length:=by
 unfold Bj
 split <;> simp
theorem Qb (x:Int):∀ ns:List Int,i9 (.int x) (ns.map V.int) = decide (x ∈ ns)
 | []=>rfl
 | n :: ns=>by
  show (Xc (V.int n) (V.int x) || i9 (.int x) (ns.map V.int)) = _
  rw [Qb x ns]
  show ((n == x) || decide (x ∈ ns)) = _
  by_cases h:n = x
  ·simp [h]
  ·have h':¬ x = n:=fun e=>h e.symm
   simp [h,h']
theorem N4:∀ ns:List Int,(ns.map V.int).all Fc = true
 | []=>rfl
 | n :: ns=>by
  show (Fc (V.int n) && (ns.map V.int).all Fc) = true
  rw [N4 ns]
  rfl
theorem U1 {ws:List Int} {k:Nat} (h:k < ws.length):Oz (ws.map V.int) (k:Int) = some (.int (ws.getD k 0)):=by
 refine P3 ?_
 rw [List.getElem?_map,List.getElem?_eq_getElem h,List.getD_eq_getElem?_getD,List.getElem?_eq_getElem h]
 rfl
theorem U0 {n k:Nat} (h:k < n):Rr n (k:Int) = some k:=by
 unfold Rr
 rw [if_pos (by omega),if_pos (by omega)]
 simp
theorem Z1 {a:Int} {n:Nat} (h:a.natAbs < 2 ^ n):intBits a <= n:=intBits_le h
theorem Bl (x:Int) {m:Int} (h:0 < m):0 <= x % m /\ x % m < m:=⟨Int.emod_nonneg x (by omega),Int.emod_lt_of_pos x h⟩
def cy (xs:List Int) (lo hi:Option Int):List Int:=(xs.drop (HT.sIx xs.length 0 lo)).take (HT.sIx xs.length xs.length hi - HT.sIx xs.length 0 lo)
theorem Vb (xs:List Int) (lo hi:Option Int):Eh (xs.map V.int) lo hi = (cy xs lo hi).map V.int:=by
 unfold Eh cy
 rw [List.length_map,List.map_take,List.map_drop]
theorem Gr {xs:List V} {c:Int} (h0:0 <= c) (h:c <= xs.length):Eh xs none (some c) = xs.take c.toNat:=by
 obtain ⟨n,rfl⟩ : ∃ n:Nat,c = n:=⟨c.toNat,by omega⟩
 unfold Eh
 rw [HT.sIx_none,HT.sIx_nat]
 have e:min n xs.length = n:=by omega
 rw [e]
 simp
theorem W4 {xs:List V} {c:Int} (h0:0 <= c) (h:c <= xs.length):Eh xs (some c) none = xs.drop c.toNat:=by
 obtain ⟨n,rfl⟩ : ∃ n:Nat,c = n:=⟨c.toNat,by omega⟩
 unfold Eh
 rw [HT.sIx_none,HT.sIx_nat]
 have e:min n xs.length = n:=by omega
 rw [e,Int.toNat_natCast,List.take_of_length_le]
 rw [List.length_drop]
 omega
theorem V8 {a b:Int} {m n:Nat} (ha:intBits a <= m) (hb:intBits b <= n):intBits (a * b) <= m + n:=by
 apply intBits_le
 rw [Int.natAbs_mul,Nat.pow_add]
 have h1:=Nat.lt_of_lt_of_le (natAbs_lt_pow_bits a) (Nat.pow_le_pow_right (by decide) ha)
 have h2:=Nat.lt_of_lt_of_le (natAbs_lt_pow_bits b) (Nat.pow_le_pow_right (by decide) hb)
 exact Nat.mul_lt_mul'' h1 h2
theorem Fe {n:Nat} (h:n <= 10000):n < sizeLine:=Nat.lt_of_le_of_lt h (by decide)
def Ae (H H':Hp):Prop := ∀ b xs,H b = some (.tup xs) -> H' b = some (.tup xs)
theorem Ae.of {H H':Hp} (s:A7 H H'):Ae H H':=fun b xs e=>s b _ e
theorem Ae.trans {H H1 H2:Hp} (a:Ae H H1) (b:Ae H1 H2):Ae H H2:=fun c xs e=>b c xs (a c xs e)
theorem Ae.lst {H:Hp} {D:Addr} {zs:List V} {o:HO} (h:H D = some (.lst zs)):Ae H (upd H D o):=fun b xs e=>by
 rw [Ac (Bz e h (by intro z; cases z))]
 exact e
def Ej (H:Hp) (r:List Int) (v:V):Prop := ∃ p,v = .ref p /\ H p = some (.tup (r.map V.int))
def G8 (H:Hp) (z:List Int × Int) (v:V):Prop := ∃ p u,v = .ref p /\ H p = some (.tup [.ref u,.int z.2]) /\ H u = some (.tup (z.1.map V.int))
theorem Ej.up {H H':Hp} {r:List Int} {v:V} (t:Ae H H') (h:Ej H r v):Ej H' r v:=by
 obtain ⟨p,e,h1⟩ := h
 exact ⟨p,e,t _ _ h1⟩
theorem G8.up {H H':Hp} {z:List Int × Int} {v:V} (t:Ae H H') (h:G8 H z v):G8 H' z v:=by
 obtain ⟨p,u,e,h1,h2⟩ := h
 exact ⟨p,u,e,t _ _ h1,t _ _ h2⟩
def Ah {α:Type} (P:α -> V -> Prop) (rs:List α) (vs:List V):Prop:=vs.length = rs.length /\ ∀ (i:Nat) (r:α) (v:V),rs[i]? = some r -> vs[i]? = some v -> P r v
theorem Ah.nil {α:Type} {P:α -> V -> Prop}:Ah P [] []:=⟨rfl,fun i r v e=>by cases e⟩
theorem Ah.imp {α:Type} {P P':α -> V -> Prop} {rs:List α} {vs:List V} (f:∀ r v,P r v -> P' r v) (h:Ah P rs vs):Ah P' rs vs:=⟨h.1,fun i r v e1 e2=>f _ _ (h.2 i r v e1 e2)⟩
theorem Ah.append {α:Type} {P:α -> V -> Prop} {rs ss:List α} {vs us:List V} (h:Ah P rs vs) (g:Ah P ss us):Ah P (rs ++ ss) (vs ++ us):=by
 refine ⟨by rw [List.length_append,List.length_append,h.1,g.1],fun i r v e1 e2=>?_⟩
 rcases Nat.lt_or_ge i rs.length with z | z
 ·rw [List.getElem?_append_left z] at e1
  rw [List.getElem?_append_left (by rw [h.1]; exact z)] at e2
  exact h.2 i r v e1 e2
 ·rw [List.getElem?_append_right z] at e1
  rw [List.getElem?_append_right (by rw [h.1]; exact z),h.1] at e2
  exact g.2 _ r v e1 e2
theorem Ah.one {α:Type} {P:α -> V -> Prop} {r:α} {v:V} (h:P r v):Ah P [r] [v]:=by
 refine ⟨rfl,fun i r' v' e1 e2=>?_⟩
 cases i with
 | zero=>cases e1; cases e2; exact h
 | succ i=>cases e1
theorem Ah.get {α:Type} {P:α -> V -> Prop} {rs:List α} {vs:List V} (h:Ah P rs vs) {i:Nat} {v:V} (e:vs[i]? = some v):∃ r,rs[i]? = some r /\ P r v:=by
 have hi:=(List.getElem?_eq_some_iff.mp e).1
 have hi2:i < rs.length:=by
  rw [<- h.1]
  exact hi
 have h2:rs[i]? = some rs[i]:=List.getElem?_eq_getElem hi2
 exact ⟨_,h2,h.2 i _ v h2 e⟩
def qv:Option Int -> Int
 | none=>1
 | some c=>c + 1
def Aq (q:Int) (ws:List Int):Int:=ws.foldl (· * ·) q
def Ox (r:List Int) (w:Int):List (List Int):=(List.range w.toNat).map fun t=>r ++ [1 + ((t:Nat):Int)]
def C9 (rows:List (List Int)) (w:Int):List (List Int):=rows.flatMap fun r=>Ox r w
def Cd (ws:List Int):List (List Int):=ws.foldl C9 [[]]
def Fa (r:List Int) (q:Int):List (List Int × Int):=(List.range q.toNat).map fun k=>(r,0 + ((k:Nat):Int))
def Bk (ws:List Int) (q:Int):List (List Int × Int):=(Cd ws).flatMap fun r=>Fa r q
theorem Fh {α β:Type} (f:β -> α -> β) (b:β) (xs:List α) {i:Nat} {x:α} (h:xs[i]? = some x):(xs.take (i + 1)).foldl f b = f ((xs.take i).foldl f b) x:=by
 rw [List.take_add_one,h,List.foldl_append]
 rfl
theorem Mr {α β:Type} (f:α -> List β) (xs:List α) {i:Nat} {x:α} (h:xs[i]? = some x):(xs.take (i + 1)).flatMap f = (xs.take i).flatMap f ++ f x:=by
 rw [List.take_add_one,h,List.flatMap_append]
 simp
theorem Mv {q:Int} (hq:intBits q <= 256):∀ {ws:List Int},(∀ w ∈ ws,intBits w <= 256) -> ∀ i,i <= ws.length -> intBits (Aq q (ws.take i)) <= 256 * (i + 1)
 | ws,h,0,_=>by simpa [Aq] using hq
 | ws,h,i + 1,hi=>by
  have hx:ws[i]? = some ws[i]:=List.getElem?_eq_getElem (by omega)
  have ih:=Mv hq h i (by omega)
  unfold Aq at ih ⊢
  rw [Fh _ _ _ hx]
  exact Nat.le_trans (V8 ih (h _ (List.getElem_mem _))) (by omega)
theorem Iw (q:Int):∀ (ws:List Int) (a:Int),Aq (q * a) ws = q * Aq a ws
 | [],a=>rfl
 | w :: ws,a=>by
  show Aq (q * a * w) ws = q * Aq (a * w) ws
  rw [Int.mul_assoc,Iw q ws (a * w)]
theorem Lk {α β:Type} {f:α -> List β} {n:Nat}:∀ {xs:List α},(∀ x ∈ xs,(f x).length = n) -> (xs.flatMap f).length = xs.length * n
 | [],_=>by simp
 | x :: xs,h=>by
  rw [List.flatMap_cons,List.length_append,h x (List.mem_cons_self ..),Lk fun y hy=>h y (List.mem_cons_of_mem _ hy),List.length_cons,Nat.succ_mul]
  omega
theorem Qa (r:List Int) (w:Int):(Ox r w).length = w.toNat:=by simp [Ox]
theorem Nu (r:List Int) (q:Int):(Fa r q).length = q.toNat:=by simp [Fa]
theorem Kq (rows:List (List Int)) (w:Int):(C9 rows w).length = rows.length * w.toNat:=Lk fun r _=>Qa r w
theorem Lh:∀ (ws:List Int) (rows:List (List Int)),(∀ w ∈ ws,1 <= w) -> ((ws.foldl C9 rows).length:Int) = Aq (rows.length:Int) ws
 | [],rows,_=>rfl
 | w :: ws,rows,h=>by
  have hw:=h w (List.mem_cons_self ..)
  show ((ws.foldl C9 (C9 rows w)).length:Int) = Aq ((rows.length:Int) * w) ws
  rw [Lh ws _ (fun x hx=>h x (List.mem_cons_of_mem _ hx)),Kq]
  congr 1
  rw [Int.natCast_mul]
  congr 1
  omega
theorem E6:∀ (ws:List Int) (a:Int),0 <= a -> (∀ w ∈ ws,1 <= w) -> a <= Aq a ws
 | [],a,_,_=>Int.le_refl _
 | w :: ws,a,ha,h=>by
  have hw:=h w (List.mem_cons_self ..)
  have h1:a <= a * w:=by
   have:=Int.mul_le_mul_of_nonneg_left hw ha
   rw [Int.mul_one] at this
   exact this
  exact Int.le_trans h1 (E6 ws (a * w) (Int.le_trans ha h1) fun x hx=>h x (List.mem_cons_of_mem _ hx))
theorem V7 {ws:List Int} {a:Int} (ha:0 <= a) (h:∀ w ∈ ws,1 <= w) (i:Nat):Aq a (ws.take i) <= Aq a ws:=by
 have e:Aq a ws = Aq (Aq a (ws.take i)) (ws.drop i):=by
  unfold Aq
  rw [<- List.foldl_append,List.take_append_drop]
 rw [e]
 refine E6 _ _ (Int.le_trans ha (E6 _ _ ha fun w hw=>h w (List.mem_of_mem_take hw))) fun w hw=>h w (List.mem_of_mem_drop hw)
theorem Om {r x:List Int} {w:Int} (h:x ∈ Ox r w):∃ t:Nat,t < w.toNat /\ x = r ++ [1 + (t:Int)]:=by
 unfold Ox at h
 obtain ⟨t,h1,rfl⟩ := List.mem_map.mp h
 exact ⟨t,List.mem_range.mp h1,rfl⟩
theorem Ia (ws:List Int):∀ i,i <= ws.length -> ∀ r ∈ Cd (ws.take i),r.length = i /\ ∀ (k:Nat) (x w:Int),r[k]? = some x -> ws[k]? = some w -> 1 <= x /\ x <= w
 | 0,_,r,h=>by
  have e:r = []:=List.mem_singleton.mp h
  subst e
  exact ⟨rfl,fun k x w e=>by cases e⟩
 | i + 1,hi,r,h=>by
  have hw:ws[i]? = some ws[i]:=List.getElem?_eq_getElem (by omega)
  have e:Cd (ws.take (i + 1)) = C9 (Cd (ws.take i)) ws[i]:=Fh _ _ _ hw
  rw [e] at h
  obtain ⟨r',h1,h2⟩ := List.mem_flatMap.mp h
  obtain ⟨t,h3,rfl⟩ := Om h2
  obtain ⟨h4,h5⟩ := Ia ws i (by omega) r' h1
  refine ⟨by simp [h4],fun k x w e1 e2=>?_⟩
  rcases Nat.lt_or_ge k r'.length with z | z
  ·rw [List.getElem?_append_left z] at e1
   exact h5 k x w e1 e2
  ·have hk : k = i := by
    have:=(List.getElem?_eq_some_iff.mp e1).1
    rw [List.length_append,List.length_singleton] at this
    omega
   subst hk
   rw [List.getElem?_append_right z,h4,Nat.sub_self] at e1
   cases e1
   rw [hw] at e2
   cases e2
   omega
def V4 (r s:List Int):Prop:=ltvAll (r.map PyData.int) (s.map PyData.int) = true
theorem K1 (a b:Int):PyData.eqv (.int a) (.int b) = decide (a = b):=by
 show (a == b) = _
 by_cases h:a = b <;> simp [h]
theorem P6:∀ r:List Int,¬ V4 r r
 | []=>by unfold V4; simp [ltvAll]
 | x :: r=>fun h=>by
  have ih:=P6 r
  unfold V4 at h ih
  rw [List.map_cons,ltvAll,K1,if_pos (by simp)] at h
  exact ih h
theorem Q5:∀ {r s:List Int} {x y:Int},r.length = s.length -> V4 r s -> V4 (r ++ [x]) (s ++ [y])
 | [],[],x,y,_,h=>absurd h (P6 [])
 | [],_ :: _,_,_,hl,_=>by simp at hl
 | _ :: _,[],_,_,hl,_=>by simp at hl
 | a :: r,b :: s,x,y,hl,h=>by
  unfold V4 at h ⊢
  rw [List.cons_append,List.cons_append,List.map_cons,List.map_cons,ltvAll] at *
  by_cases e:PyData.eqv (.int a) (.int b) = true
  ·rw [if_pos e] at h ⊢
   exact Q5 (r:=r) (s:=s) (by simpa using hl) h
  ·rw [if_neg e] at h ⊢
   exact h
theorem Q4:∀ {r:List Int} {x y:Int},x < y -> V4 (r ++ [x]) (r ++ [y])
 | [],x,y,h=>by
  unfold V4
  show ltvAll [PyData.int x] [PyData.int y] = true
  rw [ltvAll,K1,if_neg (by simp; omega),Jw]
  exact decide_eq_true h
 | a :: r,x,y,h=>by
  unfold V4
  rw [List.cons_append,List.cons_append,List.map_cons,List.map_cons,ltvAll,K1,if_pos (by simp)]
  exact Q4 (r:=r) h
theorem Tq (r:List Int) (w:Int):(Ox r w).Pairwise V4:=by
 unfold Ox
 rw [List.pairwise_map]
 exact List.pairwise_lt_range.imp fun h=>Q4 (by omega)
theorem Jt (ws:List Int):∀ i,i <= ws.length -> (Cd (ws.take i)).Pairwise V4
 | 0,_=>by
  show ([[]]:List (List Int)).Pairwise V4
  exact List.pairwise_singleton _ _
 | i + 1,hi=>by
  have hw:ws[i]? = some ws[i]:=List.getElem?_eq_getElem (by omega)
  have e:Cd (ws.take (i + 1)) = C9 (Cd (ws.take i)) ws[i]:=Fh _ _ _ hw
  rw [e]
  unfold C9
  rw [List.pairwise_flatMap]
  refine ⟨fun r _=>Tq r _,?_⟩
  refine (Jt ws i (by omega)).imp_of_mem fun {a b} ha hb h x hx y hy=>?_
  obtain ⟨t,_,rfl⟩ := Om hx
  obtain ⟨u,_,rfl⟩ := Om hy
  have h1:=(Ia ws i (by omega) a ha).1
  have h2:=(Ia ws i (by omega) b hb).1
  exact Q5 (by omega) h
def dS (z:List Int × Int):PyData:=dP (dT z.1) (.int z.2)
theorem Yc {a b:List Int × Int} (h:V4 a.1 b.1 \/ (a.1 = b.1 /\ a.2 < b.2)):Jw (dS a) (dS b) = true:=by
 show ltvAll [dT a.1,.int a.2] [dT b.1,.int b.2] = true
 rw [ltvAll,Xo]
 rcases h with h | ⟨h1,h2⟩
 ·have hne : ¬ a.1 = b.1 := fun e => by
   rw [e] at h
   exact P6 _ h
  rw [if_neg (by simpa using hne)]
  exact h
 ·rw [if_pos (by simpa using h1),ltvAll,K1,if_neg (by simp; omega),Jw]
  exact decide_eq_true h2
theorem Ow {r:List Int} {q:Int} {z:List Int × Int} (h:z ∈ Fa r q):z.1 = r /\ 0 <= z.2 /\ z.2 < q:=by
 unfold Fa at h
 obtain ⟨k,h1,rfl⟩ := List.mem_map.mp h
 have:=List.mem_range.mp h1
 exact ⟨rfl,by show 0 <= 0 + (k:Int); omega,by show 0 + (k:Int) < q; omega⟩
theorem Fn (ws:List Int) (q:Int):(Bk ws q).Pairwise fun a b=>Jw (dS a) (dS b) = true:=by
 unfold Bk
 rw [List.pairwise_flatMap]
 refine ⟨fun r _=>?_,?_⟩
 ·unfold Fa
  rw [List.pairwise_map]
  exact List.pairwise_lt_range.imp fun {a b} h=>Yc (a:=(r,0 + ((a:Nat):Int))) (b:=(r,0 + ((b:Nat):Int))) (.inr ⟨rfl,by show 0 + ((a:Nat):Int) < 0 + ((b:Nat):Int); omega⟩)
 ·have h:=Jt ws ws.length (Nat.le_refl _)
  rw [List.take_length] at h
  refine h.imp fun {a b} h x hx y hy=>?_
  exact Yc (.inl (by rw [(Ow hx).1,(Ow hy).1]; exact h))
theorem Io {ws:List Int} {q:Int} (h:∀ w ∈ ws,1 <= w) (hq:0 <= q):((Bk ws q).length:Int) = Aq q ws:=by
 unfold Bk
 rw [Lk fun r _=>Nu r q,Int.natCast_mul]
 have e:((Cd ws).length:Int) = Aq 1 ws:=Lh ws [[]] h
 rw [e,Int.toNat_of_nonneg hq,Int.mul_comm,<- Iw,Int.mul_one]
theorem Np {ws:List Int} {q:Int} {z:List Int × Int} (h:z ∈ Bk ws q):z.1.length = ws.length /\ (∀ (k:Nat) (x w:Int),z.1[k]? = some x -> ws[k]? = some w -> 1 <= x /\ x <= w) /\ 0 <= z.2 /\ z.2 < q:=by
 obtain ⟨r,h1,h2⟩ := List.mem_flatMap.mp h
 obtain ⟨h3,h4,h5⟩ := Ow h2
 have h6:=Ia ws ws.length (Nat.le_refl _) r (by rw [List.take_length]; exact h1)
 rw [h3]
 exact ⟨h6.1,h6.2,h4,h5⟩
theorem My {ws:List Int} (h:∀ w ∈ ws,1 <= w) (hp:Aq 1 ws <= 3000) (i:Nat):(Cd (ws.take i)).length <= 3000:=by
 have e:=Lh (ws.take i) [[]] fun w hw=>h w (List.mem_of_mem_take hw)
 have e2:=V7 (ws:=ws) (a:=1) (by decide) h i
 have e3:Aq (([[]]:List (List Int)).length:Int) (ws.take i) = Aq 1 (ws.take i):=rfl
 unfold Cd
 omega
theorem Rg (z:List Int × Int):(dS z).depth = 2:=by
 unfold dS
 rw [Q7,Wi]
 rfl
theorem Vw (q:Int) (ws:List Int) (w:Int):Aq q (ws ++ [w]) = Aq q ws * w:=by
 unfold Aq
 rw [List.foldl_append]
 rfl
def i6 (H:Hp) (v:V):Option (List Int × Int) -> Prop
 | none=>v = .non
 | some r=>∃ b,v = .ref b /\ Dx H b r.1 r.2
def cn:Option (List Int × Int) -> PyData
 | none=>.none
 | some r=>dP (dT r.1) (.int r.2)
theorem dn {H:Hp} {v:V} {r:Option (List Int × Int)} (h:i6 H v r):Rp H (cn r) v:=by
 cases r with
 | none =>
  cases h
  exact X0
 | some r =>
  obtain ⟨b,rfl,t,h1,h2⟩ := h
  exact Xt h1 (am h2) (Ll _)
theorem Ah.tail {α:Type} {P:α -> V -> Prop} {r:α} {v:V} {rs:List α} {vs:List V} (h:Ah P (r :: rs) (v :: vs)):P r v /\ Ah P rs vs:=⟨h.2 0 r v rfl rfl,by have:=h.1; simpa using this,fun i a b e1 e2=>h.2 (i + 1) a b e1 e2⟩
theorem Ld {α:Type} {P:α -> Prop} {xs:List α} {x:α} (h:∀ y ∈ xs,P y) (hx:P x):∀ y ∈ xs ++ [x],P y:=fun y hy=>by
 rcases List.mem_append.mp hy with z | z
 ·exact h y z
 ·cases List.mem_singleton.mp z
  exact hx
theorem Dx.up {H H':Hp} {b:Addr} {ls:List Int} {q:Int} (t:Ae H H') (h:Dx H b ls q):Dx H' b ls q:=by
 obtain ⟨u,h1,h2⟩ := h
 exact ⟨u,t _ _ h1,t _ _ h2⟩
theorem i6.up {H H':Hp} {v:V} {r:Option (List Int × Int)} (s:Ae H H') (h:i6 H v r):i6 H' v r:=by
 cases r with
 | none=>exact h
 | some r =>
  obtain ⟨b,e,h⟩ := h
  exact ⟨b,e,h.up s⟩
def F5 (ws ls:List Int) (cm:Option Int) (q:Int) (who:Nat) (lost:Bool):Option (List Int × Int):=if (0:Int) ∈ Bj ws ls who lost then none else some (Bj ws ls who lost,D1 cm q lost)
def Fw (cm:Option Int) (q:Int):Bool := !decide (cm = none) && decide (q = 0)
def Cj (ws ls:List Int) (cm:Option Int) (q:Int) (who:Nat):List (Option (List Int × Int)):=F5 ws ls cm q who false :: if Fw cm q = true then [F5 ws ls cm q who true] else []
def F4 (H:Hp) (r:Option (List Int × Int)) (v:V):Prop:=i6 H v r
theorem F4.up {H H':Hp} {v:V} {r:Option (List Int × Int)} (s:Ae H H') (h:F4 H r v):F4 H' r v:=i6.up s h
theorem Ah.cons {α:Type} {P:α -> V -> Prop} {r:α} {v:V} {rs:List α} {vs:List V} (h:P r v) (g:Ah P rs vs):Ah P (r :: rs) (v :: vs):=(Ah.one h).append g
theorem N8 {H:Hp}:∀ {rs:List (Option (List Int × Int))} {us:List V},Ah (F4 H) rs us -> RpAll H (rs.map cn) us
 | [],[],_=>by unfold RpAll; rfl
 | [],_ :: _,h=>by have:=h.1; simp at this
 | _ :: _,[],h=>by have:=h.1; simp at this
 | r :: rs,u :: us,h=>by
  obtain ⟨h1,h2⟩ := h.tail
  show RpAll H (cn r :: rs.map cn) (u :: us)
  unfold RpAll
  exact ⟨_,_,rfl,dn h1,N8 h2⟩
theorem Z3 (r:Option (List Int × Int)):PyData.eqv (cn r) .none = decide (r = none):=by cases r <;> rfl
theorem P1:∀ rs:List (Option (List Int × Int)),(rs.map cn).any (fun e=>PyData.eqv e .none) = decide (none ∈ rs)
 | []=>rfl
 | r :: rs=>by
  rw [List.map_cons,List.any_cons,P1 rs,Z3,Bool.eq_iff_iff]
  simp only [Bool.or_eq_true,decide_eq_true_eq,List.mem_cons]
  exact ⟨fun z=>z.imp Eq.symm id,fun z=>z.imp Eq.symm id⟩
def SV (H:Hp) (v:V):Prop := ∃ b k,v = .ref b /\ E5 H b k
def Ud (H:Hp) (cs:List (Dv × V)):Prop := ∀ e ∈ cs,(∃ i:Int,e.1 = .inl i) /\ ∃ (l:Addr) (us:List V),e.2 = .ref l /\ H l = some (.lst us) /\ us.length <= 2 /\ ∀ u ∈ us,SV H u
def iz (H:Hp) (v:V):Prop := ∃ (c:Addr) (cs:List (Dv × V)),v = .ref c /\ H c = some (.dK cs) /\ cs.length <= 8 /\ Ud H cs
def LT (H H':Hp):Prop:=(∀ b xs,H b = some (.lst xs) -> H' b = some (.lst xs)) /\ Ae H H'
theorem LT.of {H H':Hp} (s:A7 H H'):LT H H':=⟨fun b xs e=>s b _ e,Ae.of s⟩
theorem LT.dT {H:Hp} {D:Addr} {kvs:List ((List Int × Int) × V)} {o:HO} (h:H D = some (.dT kvs)):LT H (upd H D o) :=
 ⟨fun b xs e=>by rw [Ac (Bz e h (by intro z; cases z))]; exact e,fun b xs e=>by rw [Ac (Bz e h (by intro z; cases z))]; exact e⟩
theorem LT.dK {H:Hp} {D:Addr} {kvs:List (Dv × V)} {o:HO} (h:H D = some (.dK kvs)):LT H (upd H D o) :=
 ⟨fun b xs e=>by rw [Ac (Bz e h (by intro z; cases z))]; exact e,fun b xs e=>by rw [Ac (Bz e h (by intro z; cases z))]; exact e⟩
theorem LT.trans {H H1 H2:Hp} (a:LT H H1) (b:LT H1 H2):LT H H2:=⟨fun c xs e=>b.1 c xs (a.1 c xs e),a.2.trans b.2⟩
def Hh (H:Hp) (kvs:List ((List Int × Int) × V)):Prop := ∀ kv ∈ kvs,iz H kv.2
theorem Qg {κ:Type} [DecidableEq κ] {P:V -> Prop} {kvs:List (κ × V)} {k:κ} {v:V} (h:∀ kv ∈ kvs,P kv.2) (hv:P v):∀ kv ∈ Bm kvs k v,P kv.2:=fun kv hkv=>by
 unfold Bm at hkv
 split at hkv
 ·obtain ⟨x,hx,rfl⟩ := List.mem_map.mp hkv
  split
  ·exact hv
  ·exact h x hx
 ·rcases List.mem_append.mp hkv with z | z
  ·exact h kv z
  ·cases List.mem_singleton.mp z
   exact hv
theorem Ba {n:Nat} (h:n <= 200000):n < sizeLine:=Nat.lt_of_le_of_lt h (by decide)
theorem Bo {κ:Type} [DecidableEq κ] {kvs:List (κ × V)} {k:κ} {v:V} (h:Ai kvs k = some v):(k,v) ∈ kvs:=by
 unfold Ai at h
 obtain ⟨p,hp,rfl⟩ := Option.map_eq_some_iff.mp h
 have h1:=List.find?_some hp
 have h2:=List.mem_of_find?_eq_some hp
 have h3:p.1 = k:=by simpa using h1
 rw [<- h3]
 exact h2
theorem Jp {κ:Type} [DecidableEq κ] {kvs:List (κ × V)} {k:κ} {v:V} (h:(k,v) ∈ kvs):∃ w,Ai kvs k = some w:=by
 cases e:Ai kvs k with
 | some w=>exact ⟨w,rfl⟩
 | none=>exact absurd (List.mem_map_of_mem (f:=(·.1)) h) (Lm e)
def Ei (kvs:List ((List Int × Int) × V)) (H H':Hp):Prop := ∀ b o,H b = some o -> (∀ kv ∈ kvs,kv.2 ≠ .ref b) -> H' b = some o
theorem Ei.of {kvs:List ((List Int × Int) × V)} {H H':Hp} (s:A7 H H'):Ei kvs H H':=fun b o e _=>s b o e
theorem Ei.trans {kvs:List ((List Int × Int) × V)} {H H1 H2:Hp} (a:Ei kvs H H1) (b:Ei kvs H1 H2):Ei kvs H H2:=fun c o e n=>b c o (a c o e n) n
theorem Ei.new {kvs:List ((List Int × Int) × V)} {H H':Hp} {p:Addr} {o:HO} (a:Ei kvs H H') (h:H p = none):Ei kvs H (upd H' p o):=fun b u e n=>by
 rw [Ac (An e h)]
 exact a b u e n
theorem Ei.keep {kvs:List ((List Int × Int) × V)} {H H':Hp} {b:Addr} {o:HO} (a:Ei kvs H H') (p:Hh H kvs) (e:H b = some o) (n:∀ cs,o ≠ .dK cs):H' b = some o:=a b o e fun kv hkv z=>by
 obtain ⟨c,cs,e1,e2,_⟩ := p kv hkv
 rw [z] at e1
 cases e1
 rw [e] at e2
 exact n cs (Option.some.inj e2)
theorem Ei.lt {kvs:List ((List Int × Int) × V)} {H H':Hp} (a:Ei kvs H H') (p:Hh H kvs):LT H H':=⟨fun b xs e=>a.keep p e (fun cs z=>nomatch z),fun b xs e=>a.keep p e (fun cs z=>nomatch z)⟩
theorem Ei.pop {kvs:List ((List Int × Int) × V)} {H:Hp} {c:Addr} {o:HO} {kv:(List Int × Int) × V} (h:kv ∈ kvs) (e:kv.2 = .ref c):Ei kvs H (upd H c o):=fun b u eb n=>by
 rw [Ac (fun z=>n kv h (by rw [e,z]))]
 exact eb
def bf (H:Hp):V -> Nat
 | .ref c=>match H c with
  | some (.dK cs)=>cs.length
  | _=>0
 | _=>0
def Cn (H:Hp) (kvs:List ((List Int × Int) × V)):Nat:=(kvs.map fun kv=>bf H kv.2).sum
theorem L4 {H:Hp} {c:Addr} {cs:List (Dv × V)} (h:H c = some (.dK cs)):bf H (.ref c) = cs.length:=by
 unfold bf
 simp only [h]
theorem Ea {H H':Hp}:∀ {kvs:List ((List Int × Int) × V)},Hh H kvs -> (∀ c cs,H c = some (.dK cs) -> H' c = some (.dK cs)) -> Cn H' kvs = Cn H kvs
 | [],_,_=>rfl
 | kv :: kvs,p,k=>by
  obtain ⟨c,cs,e,h1,_⟩ := p kv (by simp)
  have ih:=Ea (kvs:=kvs) (fun x hx=>p x (List.mem_cons_of_mem _ hx)) k
  unfold Cn at ih ⊢
  rw [List.map_cons,List.map_cons,List.sum_cons,List.sum_cons,ih,e,L4 h1,L4 (k c cs h1)]
theorem Kf {H:Hp}:∀ {kvs:List ((List Int × Int) × V)},Hh H kvs -> Cn H kvs <= 8 * kvs.length
 | [],_=>Nat.zero_le _
 | kv :: kvs,p=>by
  obtain ⟨c,cs,e,h1,h2,_⟩ := p kv (by simp)
  have ih:=Kf (kvs:=kvs) (fun x hx=>p x (List.mem_cons_of_mem _ hx))
  unfold Cn at ih ⊢
  rw [List.map_cons,List.sum_cons,e,L4 h1,List.length_cons]
  omega
theorem O2 {H:Hp} {c:Addr} {cs cs':List (Dv × V)} (hc:H c = some (.dK cs)) (hlt:cs'.length < cs.length):∀ {kvs:List ((List Int × Int) × V)},Cn (upd H c (.dK cs')) kvs <= Cn H kvs /\ ((∃ kv ∈ kvs,kv.2 = .ref c) -> Cn (upd H c (.dK cs')) kvs + 1 <= Cn H kvs)
 | []=>⟨Nat.le_refl _,fun ⟨kv,h,_⟩=>by cases h⟩
 | kv :: kvs=>by
  obtain ⟨i1,i2⟩ := O2 hc hlt (kvs:=kvs)
  have one:bf (upd H c (.dK cs')) kv.2 <= bf H kv.2 /\ (kv.2 = .ref c -> bf (upd H c (.dK cs')) kv.2 + 1 <= bf H kv.2):=by
   by_cases z:kv.2 = .ref c
   ·rw [z,L4 hc,L4 A5]
    omega
   ·refine ⟨Nat.le_of_eq ?_,fun y=>absurd y z⟩
    unfold bf
    cases hv:kv.2 with
    | ref d =>
     rw [hv] at z
     have hd:d ≠ c:=fun y=>z (by rw [y])
     simp only [Ac hd]
    | _=>rfl
  unfold Cn at i1 i2 ⊢
  rw [List.map_cons,List.map_cons,List.sum_cons,List.sum_cons]
  refine ⟨by omega,fun ⟨x,hx,ex⟩=>?_⟩
  rcases List.mem_cons.mp hx with y | y
  ·subst y
   have:=one.2 ex
   omega
  ·have:=i2 ⟨x,y,ex⟩
   omega
theorem Zq {cs:List (Dv × V)} {k:Dv} {v:V} (h:Ai cs k = some v):(C4 cs k).length < cs.length:=by
 have hm:=Bo h
 unfold C4
 exact List.length_filter_lt_length_iff_exists.mpr ⟨(k,v),hm,by simp⟩
theorem Kv {cs:List (Dv × V)} {k:Dv} {e:Dv × V} (h:e ∈ C4 cs k):e ∈ cs:=(List.mem_filter.mp h).1
def Vs (B:Addr) (H:Hp) (kvs:List ((List Int × Int) × V)):Prop := ∀ kv ∈ kvs,∀ c cs,kv.2 = .ref c -> H c = some (.dK cs) -> ∀ e ∈ cs,e.2 ≠ .ref B
theorem Vs.start {B:Addr} {H:Hp} {kvs:List ((List Int × Int) × V)} (p:Hh H kvs) (h:H B = none):Vs B H kvs:=fun kv hkv c cs e1 e2 e he z=>by
 obtain ⟨d,ds,f1,f2,_,f3⟩ := p kv hkv
 rw [e1] at f1
 cases f1
 rw [e2] at f2
 cases f2
 obtain ⟨_,l,us,g1,g2,_⟩ := f3 e he
 rw [z] at g1
 cases g1
 rw [h] at g2
 cases g2
theorem Vs.keep {B:Addr} {H H':Hp} {kvs:List ((List Int × Int) × V)} (n:Vs B H kvs) (p:Hh H kvs) (k:∀ c cs,H c = some (.dK cs) -> H' c = some (.dK cs)):Vs B H' kvs:=fun kv hkv c cs e1 e2=>by
 obtain ⟨d,ds,f1,f2,_⟩ := p kv hkv
 have f1':=f1
 rw [e1] at f1'
 cases f1'
 have:=k _ _ f2
 rw [e2] at this
 cases this
 exact n kv hkv c cs e1 f2
theorem Vs.pop {B c:Addr} {H:Hp} {cs:List (Dv × V)} {k:Dv} {kvs:List ((List Int × Int) × V)} (n:Vs B H kvs) (hc:H c = some (.dK cs)):Vs B (upd H c (.dK (C4 cs k))) kvs:=fun kv hkv d ds e1 e2 e he=>by
 by_cases z:d = c
 ·subst z
  rw [A5] at e2
  cases e2
  exact n kv hkv d cs e1 hc e (Kv he)
 ·rw [Ac z] at e2
  exact n kv hkv d ds e1 e2 e he
theorem U8 (k:List Int × Int):Jw (dS k) (dS k) = false:=by
 have e1:PyData.eqv (dT k.1) (dT k.1) = true:=by
  show PyData.eqvAll (k.1.map PyData.int) (k.1.map PyData.int) = true
  rw [Eo]
  simp
 show ltvAll [dT k.1,.int k.2] [dT k.1,.int k.2] = false
 rw [ltvAll,if_pos e1,ltvAll,if_pos (show PyData.eqv (.int k.2) (.int k.2) = true from PySem.SeqAt.eqv_refl _ rfl)]
 rfl
theorem Jr (ws:List Int) (q:Int):(Bk ws q).Nodup:=(Fn ws q).imp fun {a b} h e=>by
 rw [e,U8] at h
 cases h
theorem O7 {α:Type} {xs:List α} {i:Nat} {x:α} (h:xs.Nodup) (e:xs[i]? = some x):x ∉ xs.take i:=fun z=>by
 obtain ⟨j,hj⟩ := List.mem_iff_getElem?.mp z
 have hlt:j < i:=by
  apply Classical.byContradiction
  intro y
  rw [List.getElem?_take_eq_none (by omega)] at hj
  cases hj
 rw [List.getElem?_take_of_lt hlt] at hj
 have h1:=(List.getElem?_eq_some_iff.mp hj)
 have h2:=(List.getElem?_eq_some_iff.mp e)
 obtain ⟨a1,a2⟩ := h1
 obtain ⟨b1,b2⟩ := h2
 exact (List.pairwise_iff_getElem.mp h) j i a1 b1 hlt (a2.trans b2.symm)
theorem Dc {κ:Type} [DecidableEq κ] {kvs:List (κ × V)} {k:κ} {v:V} (hn:(kvs.map (·.1)).Nodup) (h:(k,v) ∈ kvs):Ai kvs k = some v:=by
 induction kvs with
 | nil=>cases h
 | cons p r ih =>
  rw [List.map_cons,List.nodup_cons] at hn
  rcases List.mem_cons.mp h with z | z
  ·subst z
   exact Cb rfl
  ·have hp:¬ p.1 = k:=fun e=>hn.1 (by rw [e]; exact List.mem_map_of_mem (f:=(·.1)) z)
   rw [Ca hp]
   exact ih hn.2 z
theorem Ov {κ:Type} {kvs:List (κ × V)} {x y:κ × V} (hn:(kvs.map (·.2)).Nodup) (hx:x ∈ kvs) (hy:y ∈ kvs) (e:x.2 = y.2):x = y:=by
 induction kvs with
 | nil=>cases hx
 | cons p r ih =>
  rw [List.map_cons,List.nodup_cons] at hn
  rcases List.mem_cons.mp hx with z | z <;> rcases List.mem_cons.mp hy with y' | y'
  ·rw [z,y']
  ·subst z
   exact absurd (by rw [e]; exact List.mem_map_of_mem (f:=(·.2)) y') hn.1
  ·subst y'
   exact absurd (by rw [<- e]; exact List.mem_map_of_mem (f:=(·.2)) z) hn.1
  ·exact ih hn.2 z y'
theorem Yi {κ:Type} [DecidableEq κ] {kvs:List (κ × V)} {k:κ} {v:V} {e:κ × V} (h:e ∈ Bm kvs k v):e ∈ kvs \/ e = (k,v):=by
 unfold Bm at h
 split at h
 ·obtain ⟨x,hx,rfl⟩ := List.mem_map.mp h
  split
  ·rename_i hk
   exact .inr (by rw [hk])
  ·exact .inl hx
 ·rcases List.mem_append.mp h with z | z
  ·exact .inl z
  ·exact .inr (List.mem_singleton.mp z)
theorem S0 {κ:Type} [DecidableEq κ] {kvs:List (κ × V)} {k j:κ} {v:V} (h:(Ai kvs j).isSome = true \/ j = k):(Ai (Bm kvs k v) j).isSome = true:=by
 rw [Gg]
 split
 ·rfl
 ·rename_i hn
  rcases h with h | h
  ·exact h
  ·exact absurd h hn
def Gc (ws:List Int) (cm:Option Int) (z:List Int × Int) (H:Hp) (cs:List (Dv × V)):Prop := ∀ e ∈ cs,∃ (who:Nat) (l:Addr) (us:List V),e.1 = .inl (who:Int) /\ who < ws.length /\ none ∉ Cj ws z.1 cm z.2 who /\ e.2 = .ref l /\ H l = some (.lst us) /\ Ah (F4 H) (Cj ws z.1 cm z.2 who) us
def Ui (ws:List Int) (cm:Option Int) (H:Hp) (z:List Int × Int) (v:V):Prop := ∃ (c:Addr) (cs:List (Dv × V)),v = .ref c /\ H c = some (.dK cs) /\ cs.length <= 8 /\ Gc ws cm z H cs
theorem Gc.up {ws:List Int} {cm:Option Int} {z:List Int × Int} {H H':Hp} {cs:List (Dv × V)} (t:LT H H') (h:Gc ws cm z H cs):Gc ws cm z H' cs:=fun e he=>by
 obtain ⟨who,l,us,h1,h2,h3,h4,h5,h6⟩ := h e he
 exact ⟨who,l,us,h1,h2,h3,h4,t.1 _ _ h5,h6.imp fun _ _ y=>F4.up t.2 y⟩
theorem Gc.ok {ws:List Int} {cm:Option Int} {z:List Int × Int} {H:Hp} {cs:List (Dv × V)} (h:Gc ws cm z H cs):Ud H cs:=fun e he=>by
 obtain ⟨who,l,us,h1,h2,h3,h4,h5,h6⟩ := h e he
 refine ⟨⟨_,h1⟩,l,us,h4,h5,?_,fun u hu=>?_⟩
 ·rw [h6.1]
  unfold Cj
  split <;> simp
 ·obtain ⟨m,hm⟩ := List.mem_iff_getElem?.mp hu
  obtain ⟨r,hr1,hr2⟩ := h6.get hm
  cases r with
  | none=>exact absurd (List.mem_of_getElem? hr1) h3
  | some r =>
   obtain ⟨bb,e,h1⟩ := hr2
   exact ⟨bb,r,e,h1⟩
theorem Ui.up {ws:List Int} {cm:Option Int} {z:List Int × Int} {H H':Hp} {v:V} (t:LT H H') (k:∀ c cs,H c = some (.dK cs) -> H' c = some (.dK cs)) (h:Ui ws cm H z v):Ui ws cm H' z v:=by
 obtain ⟨c,cs,e,h1,h2,h3⟩ := h
 exact ⟨c,cs,e,k _ _ h1,h2,h3.up t⟩
def Ct (ws:List Int) (cm:Option Int) (H:Hp) (kvs:List ((List Int × Int) × V)):Prop:=(∀ kv ∈ kvs,Ui ws cm H kv.1 kv.2) /\ (kvs.map (·.1)).Nodup /\ (kvs.map (·.2)).Nodup
theorem Ct.ok {ws:List Int} {cm:Option Int} {H:Hp} {kvs:List ((List Int × Int) × V)} (h:Ct ws cm H kvs):Hh H kvs:=fun kv hkv=>by
 obtain ⟨c,cs,e,h1,h2,h3⟩ := h.1 kv hkv
 exact ⟨c,cs,e,h1,h2,h3.ok⟩
theorem Ct.keep {ws:List Int} {cm:Option Int} {H H':Hp} {kvs:List ((List Int × Int) × V)} (p:Ct ws cm H kvs) (t:LT H H') (k:∀ c cs,H c = some (.dK cs) -> H' c = some (.dK cs)):Ct ws cm H' kvs:=⟨fun kv hkv=>(p.1 kv hkv).up t k,p.2⟩
def Ka (ws:List Int) (cm:Option Int) (H:Hp) (kvs:List ((List Int × Int) × V)):Prop := ∀ kv ∈ kvs,∀ c cs,kv.2 = .ref c -> H c = some (.dK cs) -> ∀ who:Nat,who < ws.length -> none ∉ Cj ws kv.1.1 cm kv.1.2 who -> (Ai cs (.inl (who:Int))).isSome = true
theorem Ka.keep {ws:List Int} {cm:Option Int} {H H':Hp} {kvs:List ((List Int × Int) × V)} (f:Ka ws cm H kvs) (p:Ct ws cm H kvs) (k:∀ c cs,H c = some (.dK cs) -> H' c = some (.dK cs)):Ka ws cm H' kvs:=fun kv hkv c cs e1 e2=>by
 obtain ⟨d,ds,f1,f2,_⟩ := p.1 kv hkv
 have f1':=f1
 rw [e1] at f1'
 cases f1'
 have:=k _ _ f2
 rw [e2] at this
 cases this
 exact f kv hkv c cs e1 f2
def Au (H:Hp) (kvs:List ((List Int × Int) × V)) (k:List Int × Int) (who:Nat):Prop := ∃ (c:Addr) (cs:List (Dv × V)),Ai kvs k = some (.ref c) /\ H c = some (.dK cs) /\ (Ai cs (.inl (who:Int))).isSome = true
theorem Ep {α:Type} {xs:List α} {x:α} (h:xs.Nodup) (hx:x ∉ xs):(xs ++ [x]).Nodup:=by
 rw [List.nodup_append]
 refine ⟨h,by simp,fun a ha b hb e=>?_⟩
 rw [List.mem_singleton.mp hb] at e
 exact hx (e ▸ ha)
def Pa (ws:List Int) (cm:Option Int) (kvs:List ((List Int × Int) × V)) (H:Hp) (later:List Int × Int) (u:V):Prop := ∃ (t b:Addr) (who:Nat) (k:List Int × Int),u = .ref t /\ H t = some (.tup [.ref b,.int (who:Int)]) /\ E5 H b k /\ (∃ v,Ai kvs k = some v) /\ some later ∈ Cj ws k.1 cm k.2 who
theorem Pa.up {ws:List Int} {cm:Option Int} {kvs:List ((List Int × Int) × V)} {H H':Hp} {later:List Int × Int} {u:V} (t:Ae H H') (h:Pa ws cm kvs H later u):Pa ws cm kvs H' later u:=by
 obtain ⟨a,b,i,k,e,h1,h2,h3,h4⟩ := h
 exact ⟨a,b,i,k,e,t _ _ h1,h2.up t,h3,h4⟩
def F8 (ws:List Int) (cm:Option Int) (H0:Hp) (kvs:List ((List Int × Int) × V)) (n:Nat) (H:Hp) (wv:List ((List Int × Int) × V)):Prop:=(∀ kv ∈ wv,∃ (l:Addr) (us:List V),kv.2 = .ref l /\ H0 l = none /\ H l = some (.lst us) /\ us.length <= n /\ ∀ u ∈ us,Pa ws cm kvs H kv.1 u) /\ (wv.map (·.2)).Nodup
theorem F8.up {ws:List Int} {cm:Option Int} {H0 H H':Hp} {kvs wv:List ((List Int × Int) × V)} {n m:Nat} (t:LT H H') (hn:n <= m) (h:F8 ws cm H0 kvs n H wv):F8 ws cm H0 kvs m H' wv:=⟨fun kv hkv=>by
 obtain ⟨l,us,e,h0,h1,h2,h3⟩ := h.1 kv hkv
 exact ⟨l,us,e,h0,t.1 _ _ h1,by omega,fun u hu=>(h3 u hu).up t.2⟩,h.2⟩
theorem F8.app {ws:List Int} {cm:Option Int} {H0 H:Hp} {kvs wv:List ((List Int × Int) × V)} {n:Nat} {l:Addr} {us:List V} {x:V} {later:List Int × Int} (h:F8 ws cm H0 kvs n H wv) (hm:(later,V.ref l) ∈ wv) (hl:H l = some (.lst us)) (hu:us.length <= n) (ha:∀ u ∈ us,Pa ws cm kvs H later u) (hx:Pa ws cm kvs H later x):F8 ws cm H0 kvs (n + 1) (upd H l (.lst (us ++ [x]))) wv:=⟨fun kv hkv=>by
 have t:Ae H (upd H l (.lst (us ++ [x]))):=Ae.lst hl
 obtain ⟨l2,us2,e,h0,h1,h2,h3⟩ := h.1 kv hkv
 by_cases z:l2 = l
 ·subst z
  have ek:kv = (later,V.ref l2):=Ov h.2 hkv hm e
  refine ⟨l2,us ++ [x],e,h0,A5,by rw [List.length_append,List.length_singleton]; omega,fun u hu=>?_⟩
  rw [ek]
  exact (Ld ha hx u hu).up t
 ·exact ⟨l2,us2,e,h0,(Ac z).trans h1,by omega,fun u hu=>(h3 u hu).up t⟩,h.2⟩
def Cv (H:Hp) (wv:List ((List Int × Int) × V)) (later k:List Int × Int) (who:Nat):Prop := ∃ (l:Addr) (us:List V) (t b:Addr),Ai wv later = some (.ref l) /\ H l = some (.lst us) /\ V.ref t ∈ us /\ H t = some (.tup [.ref b,.int (who:Int)]) /\ E5 H b k
theorem Cv.up {H H':Hp} {wv:List ((List Int × Int) × V)} {later k:List Int × Int} {who:Nat} (t:LT H H') (h:Cv H wv later k who):Cv H' wv later k who:=by
 obtain ⟨l,us,a,b,h1,h2,h3,h4,h5⟩ := h
 exact ⟨l,us,a,b,h1,t.1 _ _ h2,h3,t.2 _ _ h4,h5.up t.2⟩
theorem Cv.put {H:Hp} {wv:List ((List Int × Int) × V)} {later k lk:List Int × Int} {who:Nat} {v:V} (hn:Ai wv lk = none) (h:Cv H wv later k who):Cv H (Bm wv lk v) later k who:=by
 obtain ⟨l,us,a,b,h1,h2⟩ := h
 refine ⟨l,us,a,b,?_,h2⟩
 rw [Gg,if_neg (fun e=>by rw [e,hn] at h1; cases h1)]
 exact h1
theorem Cv.app {H:Hp} {wv:List ((List Int × Int) × V)} {later k:List Int × Int} {who:Nat} {l:Addr} {us:List V} {x:V} (hl:H l = some (.lst us)) (h:Cv H wv later k who):Cv (upd H l (.lst (us ++ [x]))) wv later k who:=by
 have t:Ae H (upd H l (.lst (us ++ [x]))):=Ae.lst hl
 obtain ⟨l2,us2,a,b,h1,h2,h3,h4,h5⟩ := h
 by_cases z:l2 = l
 ·subst z
  rw [hl] at h2
  cases h2
  exact ⟨l2,_,a,b,h1,A5,List.mem_append_left _ h3,t _ _ h4,h5.up t⟩
 ·exact ⟨l2,us2,a,b,h1,(Ac z).trans h2,h3,t _ _ h4,h5.up t⟩
theorem Qx {cs:List (Dv × V)} {k j:Dv}:Ai (C4 cs k) j = if j = k then none else Ai cs j:=by
 induction cs with
 | nil=>split <;> rfl
 | cons p r ih =>
  by_cases e:p.1 = k
  ·rw [Vr e,ih]
   by_cases z:j = k
   ·rw [if_pos z,if_pos z]
   ·rw [if_neg z,if_neg z,Ca (fun y=>z (by rw [<- y,e]))]
  ·have ed : C4 (p :: r) k = p :: C4 r k := by
    unfold C4
    rw [List.filter_cons,if_pos (by simpa using e)]
   rw [ed]
   by_cases z:p.1 = j
   ·rw [Cb z,Cb z,if_neg (fun y=>e (z.trans y))]
   ·rw [Ca z,Ca z,ih]
theorem Au.keep {ws:List Int} {cm:Option Int} {H H':Hp} {kvs:List ((List Int × Int) × V)} {k:List Int × Int} {who:Nat} (p:Ct ws cm H kvs) (kk:∀ c cs,H c = some (.dK cs) -> H' c = some (.dK cs)):Au H' kvs k who ↔ Au H kvs k who:=by
 constructor
 ·rintro ⟨c,cs,h1,h2,h3⟩
  obtain ⟨d,ds,e,f1,_⟩ := p.1 _ (Bo h1)
  cases e
  have:=kk _ _ f1
  rw [h2] at this
  cases this
  exact ⟨c,cs,h1,f1,h3⟩
 ·rintro ⟨c,cs,h1,h2,h3⟩
  exact ⟨c,cs,h1,kk _ _ h2,h3⟩
theorem Au.pop {ws : List Int} {cm : Option Int} {H : Hp} {kvs : List ((List Int × Int) × V)} {k k' : List Int × Int} {who who' : Nat} {c : Addr} {cs : List (Dv × V)} (p : Ct ws cm H kvs) (hk : Ai kvs k = some (.ref c)) (hc : H c = some (.dK cs)) :
  Au (upd H c (.dK (C4 cs (.inl (who:Int))))) kvs k' who' ↔ Au H kvs k' who' /\ ¬ (k' = k /\ who' = who):=by
 constructor
 ·rintro ⟨d,ds,h1,h2,h3⟩
  by_cases z:d = c
  ·subst z
   rw [A5] at h2
   cases h2
   have ek:(k',V.ref d) = (k,V.ref d):=Ov p.2.2 (Bo h1) (Bo hk) rfl
   cases ek
   rw [Qx] at h3
   by_cases y:(Sum.inl (who':Int):Dv) = .inl (who:Int)
   ·rw [if_pos y] at h3
    cases h3
   ·rw [if_neg y] at h3
    exact ⟨⟨d,cs,h1,hc,h3⟩,fun w=>y (by rw [w.2])⟩
  ·rw [Ac z] at h2
   refine ⟨⟨d,ds,h1,h2,h3⟩,fun w=>z ?_⟩
   rw [w.1,hk] at h1
   cases h1
   rfl
 ·rintro ⟨⟨d,ds,h1,h2,h3⟩,hn⟩
  by_cases z:d = c
  ·subst z
   have ek:(k',V.ref d) = (k,V.ref d):=Ov p.2.2 (Bo h1) (Bo hk) rfl
   cases ek
   rw [hc] at h2
   cases h2
   refine ⟨d,_,h1,A5,?_⟩
   rw [Qx,if_neg]
   ·exact h3
   ·intro y
    have y2:(who':Int) = (who:Int):=Sum.inl.inj y
    exact hn ⟨rfl,by omega⟩
  ·exact ⟨d,ds,h1,(Ac z).trans h2,h3⟩
theorem Ct.pop {ws:List Int} {cm:Option Int} {H:Hp} {c:Addr} {cs:List (Dv × V)} {k:Dv} {kvs:List ((List Int × Int) × V)} (p:Ct ws cm H kvs) (hc:H c = some (.dK cs)):Ct ws cm (upd H c (.dK (C4 cs k))) kvs:=⟨fun kv hkv=>by
 obtain ⟨d,ds,e,h1,h2,h3⟩ := p.1 kv hkv
 have t:LT H (upd H c (.dK (C4 cs k))):=LT.dK hc
 by_cases z:d = c
 ·subst z
  rw [hc] at h1
  cases h1
  exact ⟨d,C4 cs k,e,A5,Nat.le_trans (Qj cs k) h2,fun x hx=>(h3.up t) x (Kv hx)⟩
 ·exact ⟨d,ds,e,(Ac z).trans h1,h2,h3.up t⟩,p.2⟩
theorem Ct.keepB {ws:List Int} {cm:Option Int} {B:Addr} {H H':Hp} {kvs:List ((List Int × Int) × V)} (p:Ct ws cm H kvs) (n:Vs B H kvs) (t:Ae H H') (kl:∀ l us,l ≠ B -> H l = some (.lst us) -> H' l = some (.lst us)) (k:∀ c cs,H c = some (.dK cs) -> H' c = some (.dK cs)):Ct ws cm H' kvs:=⟨fun kv hkv=>by
 obtain ⟨c,cs,e1,e2,e3,e4⟩ := p.1 kv hkv
 refine ⟨c,cs,e1,k _ _ e2,e3,fun e he=>?_⟩
 obtain ⟨who,l,us,g1,g2,g3,g4,g5,g6⟩ := e4 e he
 exact ⟨who,l,us,g1,g2,g3,g4,kl _ _ (fun z=>n kv hkv c cs e1 e2 e he (by rw [g4,z])) g5,g6.imp fun _ _ y=>F4.up t y⟩,p.2⟩
theorem Jn:∀ {xs ys:List Int},xs.map V.int = ys.map V.int -> xs = ys
 | [],[],_=>rfl
 | [],_ :: _,h=>by cases h
 | _ :: _,[],h=>by cases h
 | x :: xs,y :: ys,h=>by
  rw [List.map_cons,List.map_cons] at h
  injection h with h1 h2
  injection h1 with h1
  rw [h1,Jn h2]
def Q8 (ws:List Int) (cm:Option Int) (tv:List ((List Int × Int) × V)) (k:List Int × Int) (m:Int):Prop :=
 (∀ who,who < ws.length -> none ∈ Cj ws k.1 cm k.2 who \/ ∃ later m',some later ∈ Cj ws k.1 cm k.2 who /\ Ai tv later = some (.int m') /\ m' <= m - 1) /\
 (m = 1 \/ ∃ who,who < ws.length /\ none ∉ Cj ws k.1 cm k.2 who /\ ∀ later m',some later ∈ Cj ws k.1 cm k.2 who -> Ai tv later = some (.int m') -> m - 1 <= m')
def He (ws:List Int) (cm:Option Int) (tv:List ((List Int × Int) × V)):Prop :=
 (∀ k v,Ai tv k = some v -> ∃ m:Int,v = .int m /\ 1 <= m /\ k ∈ Bk ws (qv cm) /\ Q8 ws cm tv k m) /\
 (∀ k,k ∈ Bk ws (qv cm) -> Ai tv k = none -> ∃ who,who < ws.length /\ none ∉ Cj ws k.1 cm k.2 who /\ ∀ later,some later ∈ Cj ws k.1 cm k.2 who -> Ai tv later = none)
def Fq (ws:List Int) (cm:Option Int) (tv:List ((List Int × Int) × V)) (rho:List (List Int × Int)) (r:Int) (Lf:(List Int × Int) -> Nat -> Prop):Prop :=
 1 <= r /\ (∀ kv ∈ tv,∃ n:Int,kv.2 = .int n /\ 1 <= n /\ n < r) /\ (∀ k ∈ rho,k ∈ Bk ws (qv cm) /\ Ai tv k = none) /\ (∀ k v,Ai tv k = some v -> k ∈ Bk ws (qv cm)) /\
 (∀ k who,Lf k who ↔ (k ∈ Bk ws (qv cm) /\ who < ws.length /\ none ∉ Cj ws k.1 cm k.2 who /\ ∀ later,some later ∈ Cj ws k.1 cm k.2 who -> Ai tv later = none)) /\
 (∀ k,k ∈ Bk ws (qv cm) -> ((∀ who,¬ Lf k who) ↔ (k ∈ rho \/ (Ai tv k).isSome = true))) /\
 (∀ k m,Ai tv k = some (.int m) -> Q8 ws cm tv k m) /\ ∀ k ∈ rho,Q8 ws cm tv k r
theorem Fq.done {ws:List Int} {cm:Option Int} {tv:List ((List Int × Int) × V)} {r:Int} {Lf:(List Int × Int) -> Nat -> Prop} (h:Fq ws cm tv [] r Lf):He ws cm tv:=by
 obtain ⟨h0,hv,ha1,ha2,hb,hc,hd1,hd2⟩ := h
 refine ⟨fun k v e=>?_,fun k hk e=>?_⟩
 ·obtain ⟨n,e1,e2,_⟩ := hv _ (Bo e)
  have e1':v = .int n:=e1
  subst e1'
  exact ⟨n,rfl,e2,ha2 k _ e,hd1 k n e⟩
 ·have hn : ¬ ∀ who, ¬ Lf k who := fun z => by
   rcases (hc k hk).mp z with y | y
   ·cases y
   ·rw [e] at y
    cases y
  obtain ⟨who,hw⟩ := Classical.not_forall.mp hn
  obtain ⟨g1,g2,g3,g4⟩ := (hb k who).mp (Classical.not_not.mp hw)
  exact ⟨who,g2,g3,g4⟩
theorem Fq.step {ws : List Int} {cm : Option Int} {tv tv' : List ((List Int × Int) × V)} {rho beta : List (List Int × Int)} {r : Int} {Lf Lf' : (List Int × Int) -> Nat -> Prop} (h : Fq ws cm tv rho r Lf)
  (ht:∀ k,Ai tv' k = if k ∈ rho then some (.int r) else Ai tv k) (hv':∀ kv ∈ tv',∃ n:Int,kv.2 = .int n /\ 1 <= n /\ n < r + 1)
  (hl:∀ k who,Lf' k who ↔ (Lf k who /\ ∀ later ∈ rho,some later ∉ Cj ws k.1 cm k.2 who)) (hbt:∀ k,k ∈ beta ↔ ((∃ who,Lf k who) /\ ∀ who,¬ Lf' k who)):Fq ws cm tv' beta (r + 1) Lf':=by
 obtain ⟨h0,hv,ha1,ha2,hb,hc,hd1,hd2⟩ := h
 have none':∀ k,Ai tv' k = none ↔ (k ∉ rho /\ Ai tv k = none):=fun k=>by
  rw [ht]
  by_cases z:k ∈ rho
  ·rw [if_pos z]
   exact ⟨fun y=>(nomatch y),fun y=>absurd z y.1⟩
  ·rw [if_neg z]
   exact ⟨fun y=>⟨z,y⟩,fun y=>y.2⟩
 have old:∀ later m',Ai tv later = some (.int m') -> Ai tv' later = some (.int m'):=fun later m' e=>by
  rw [ht,if_neg (fun z=>by rw [(ha1 later z).2] at e; cases e)]
  exact e
 have back:∀ later m',Ai tv' later = some (.int m') -> (later ∈ rho /\ m' = r) \/ Ai tv later = some (.int m'):=fun later m' e=>by
  rw [ht] at e
  by_cases z:later ∈ rho
  ·rw [if_pos z] at e
   cases e
   exact .inl ⟨z,rfl⟩
  ·rw [if_neg z] at e
   exact .inr e
 have more:∀ k m,m <= r -> Q8 ws cm tv k m -> Q8 ws cm tv' k m:=fun k m hm ⟨p1,p2⟩=>by
  refine ⟨fun who hw=>?_,?_⟩
  ·rcases p1 who hw with y | ⟨later,m',y1,y2,y3⟩
   ·exact .inl y
   ·exact .inr ⟨later,m',y1,old _ _ y2,y3⟩
  ·rcases p2 with y | ⟨who,y1,y2,y3⟩
   ·exact .inl y
   ·refine .inr ⟨who,y1,y2,fun later m' z1 z2=>?_⟩
    rcases back later m' z2 with ⟨_,e⟩ | e
    ·omega
    ·exact y3 later m' z1 e
 have hb':∀ k who,Lf' k who ↔ (k ∈ Bk ws (qv cm) /\ who < ws.length /\ none ∉ Cj ws k.1 cm k.2 who /\ ∀ later,some later ∈ Cj ws k.1 cm k.2 who -> Ai tv' later = none):=fun k who=>by
  rw [hl,hb]
  constructor
  ·rintro ⟨⟨g1,g2,g3,g4⟩,g5⟩
   exact ⟨g1,g2,g3,fun later z=>(none' later).mpr ⟨fun y=>g5 later y z,g4 later z⟩⟩
  ·rintro ⟨g1,g2,g3,g4⟩
   exact ⟨⟨g1,g2,g3,fun later z=>((none' later).mp (g4 later z)).2⟩,fun later y z=>((none' later).mp (g4 later z)).1 y⟩
 refine ⟨by omega,hv',fun k hk=>?_,fun k v e=>?_,hb',fun k hk=>?_,fun k m e=>?_,fun k hk=>?_⟩
 ·obtain ⟨⟨who,hw⟩,hn⟩ := (hbt k).mp hk
  have hs:=((hb k who).mp hw).1
  refine ⟨hs,(none' k).mpr ⟨fun z=>?_,?_⟩⟩
  ·exact (hc k hs).mpr (.inl z) who hw
  ·cases hvk:Ai tv k with
   | none=>rfl
   | some v=>exact absurd hw ((hc k hs).mpr (.inr (by rw [hvk]; rfl)) who)
 ·rw [ht] at e
  by_cases z:k ∈ rho
  ·exact (ha1 k z).1
  ·rw [if_neg z] at e
   exact ha2 k v e
 ·constructor
  ·intro z
   by_cases y:∃ who,Lf k who
   ·exact .inl ((hbt k).mpr ⟨y,z⟩)
   ·right
    rcases (hc k hk).mp (fun who w=>y ⟨who,w⟩) with x | x
    ·rw [ht,if_pos x]
     rfl
    ·obtain ⟨v,hv2⟩ := Option.isSome_iff_exists.mp x
     obtain ⟨n,e1,_⟩ := hv _ (Bo hv2)
     have e1':v = .int n:=e1
     rw [e1'] at hv2
     rw [old k n hv2]
     rfl
  ·rintro (z | z) who w
   ·exact ((hbt k).mp z).2 who w
   ·have w1:=((hl k who).mp w).1
    rw [ht] at z
    by_cases y:k ∈ rho
    ·exact (hc k hk).mpr (.inl y) who w1
    ·rw [if_neg y] at z
     exact (hc k hk).mpr (.inr z) who w1
 ·rcases back k m e with ⟨y1,y2⟩ | y
  ·subst y2
   exact more k m (Int.le_refl _) (hd2 k y1)
  ·obtain ⟨n,e1,e2,e3⟩ := hv _ (Bo y)
   cases e1
   exact more k m (by omega) (hd1 k m y)
 ·obtain ⟨⟨who0,hw0⟩,hn⟩ := (hbt k).mp hk
  obtain ⟨g1,g2,g3,g4⟩ := (hb k who0).mp hw0
  refine ⟨fun who hw=>?_,.inr ⟨who0,g2,g3,fun later m' z1 z2=>?_⟩⟩
  ·by_cases y:none ∈ Cj ws k.1 cm k.2 who
   ·exact .inl y
   ·right
    have hnn:¬ ∀ later,some later ∈ Cj ws k.1 cm k.2 who -> Ai tv' later = none:=fun z=>hn who ((hb' k who).mpr ⟨g1,hw,y,z⟩)
    obtain ⟨later,hx⟩ := Classical.not_forall.mp hnn
    obtain ⟨x1,x2⟩ := Classical.not_imp.mp hx
    cases hvl:Ai tv' later with
    | none=>exact absurd hvl x2
    | some v =>
     obtain ⟨n,e1,e2,e3⟩ := hv' _ (Bo hvl)
     have e1':v = .int n:=e1
     exact ⟨later,n,x1,by rw [hvl,e1'],by omega⟩
  ·rcases back later m' z2 with ⟨_,e⟩ | e
   ·omega
   ·rw [g4 later z1] at e
    cases e
theorem gf {κ:Type} [DecidableEq κ] {kvs:List (κ × V)} {k:κ} {v:V} (hn:(kvs.map (·.1)).Nodup):((Bm kvs k v).map (·.1)).Nodup:=by
 cases e:Ai kvs k with
 | none =>
  rw [D9 v e,List.map_append]
  exact Ep hn (Lm e)
 | some w =>
  have hk:(kvs.any fun kv=>decide (kv.1 = k)) = true:=by
   rw [Dz,e]
   rfl
  unfold Bm
  rw [if_pos hk,List.map_map]
  have:(kvs.map ((fun x=>x.1) ∘ fun kv=>if kv.1 = k then (kv.1,v) else kv)) = kvs.map (·.1):=by
   apply List.map_congr_left
   intro x _
   show (if x.1 = k then (x.1,v) else x).1 = x.1
   split <;> rfl
  rw [this]
  exact hn
def Xs (H:Hp) (v:V):Prop := ∃ c,v = .ref c /\ H c = some (.dK [])
theorem Fq.start {ws:List Int} {cm:Option Int} {H:Hp} {kvs:List ((List Int × Int) × V)} {rho:List (List Int × Int)} (hp:Ct ws cm H kvs) (hk:kvs.map (·.1) = Bk ws (qv cm)) (hf:Ka ws cm H kvs) (hr:∀ k,k ∈ rho ↔ ∃ v,(k,v) ∈ kvs /\ Xs H v):Fq ws cm [] rho 1 (Au H kvs):=by
 have mem:∀ k,k ∈ Bk ws (qv cm) ↔ ∃ v,(k,v) ∈ kvs:=fun k=>by
  rw [<- hk,List.mem_map]
  exact ⟨fun ⟨x,h1,h2⟩=>⟨x.2,by rw [<- h2]; exact h1⟩,fun ⟨v,h1⟩=>⟨_,h1,rfl⟩⟩
 have hb:∀ k who,Au H kvs k who ↔ (k ∈ Bk ws (qv cm) /\ who < ws.length /\ none ∉ Cj ws k.1 cm k.2 who):=fun k who=>by
  constructor
  ·rintro ⟨c,cs,h1,h2,h3⟩
   have hm:=Bo h1
   obtain ⟨d,ds,e,f1,_,f2⟩ := hp.1 _ hm
   cases e
   rw [h2] at f1
   cases f1
   obtain ⟨w',hw'⟩ := Option.isSome_iff_exists.mp h3
   obtain ⟨who2,l,us,g1,g2,g3,_⟩ := f2 _ (Bo hw')
   have g1':(who:Int) = (who2:Int):=Sum.inl.inj g1
   have:who = who2:=by omega
   subst this
   exact ⟨(mem k).mpr ⟨_,hm⟩,g2,g3⟩
  ·rintro ⟨h1,h2,h3⟩
   obtain ⟨v,hm⟩ := (mem k).mp h1
   obtain ⟨c,cs,e,f1,_,f2⟩ := hp.1 _ hm
   have e':v = .ref c:=e
   subst e'
   exact ⟨c,cs,Dc hp.2.1 hm,f1,hf _ hm c cs rfl f1 who h2 h3⟩
 have hc:∀ k,k ∈ Bk ws (qv cm) -> ((∀ who,¬ Au H kvs k who) ↔ k ∈ rho):=fun k hks=>by
  obtain ⟨v,hm⟩ := (mem k).mp hks
  obtain ⟨c,cs,e,f1,_,f2⟩ := hp.1 _ hm
  have e':v = .ref c:=e
  subst e'
  rw [hr]
  constructor
  ·intro z
   refine ⟨_,hm,c,rfl,?_⟩
   cases cs with
   | nil=>exact f1
   | cons x xs =>
    obtain ⟨who,l,us,g1,_⟩ := f2 x (by simp)
    exact absurd ⟨c,_,Dc hp.2.1 hm,f1,by rw [Cb g1]; rfl⟩ (z who)
  ·rintro ⟨v',hm',c',e1,e2⟩ who ⟨c2,cs2,g1,g2,g3⟩
   have h1:=Dc hp.2.1 hm
   rw [Dc hp.2.1 hm',e1] at h1
   cases h1
   rw [Dc hp.2.1 hm] at g1
   cases g1
   rw [e2] at g2
   cases g2
   cases g3
 refine ⟨Int.le_refl _,(fun kv z=>by cases z),fun k hk'=>?_,(fun k v z=>by cases z),fun k who=>?_,fun k hks=>?_,(fun k m z=>by cases z),fun k hk'=>?_⟩
 ·obtain ⟨v,hm,_⟩ := (hr k).mp hk'
  exact ⟨(mem k).mpr ⟨v,hm⟩,rfl⟩
 ·rw [hb]
  exact ⟨fun z=>⟨z.1,z.2.1,z.2.2,fun _ _=>rfl⟩,fun z=>⟨z.1,z.2.1,z.2.2.1⟩⟩
 ·rw [hc k hks]
  exact ⟨fun z=>.inl z,fun z=>z.elim id (fun y=>by cases y)⟩
 ·obtain ⟨v,hm,_⟩ := (hr k).mp hk'
  have hks:=(mem k).mpr ⟨v,hm⟩
  refine ⟨fun who hw=>?_,.inl rfl⟩
  left
  apply Classical.byContradiction
  intro y
  exact (hc k hks).mpr hk' who ((hb k who).mpr ⟨hks,hw,y⟩)
theorem Ff (ws:List Int) (w:Int):ws.map V.int ++ [V.int w] = (ws ++ [w]).map V.int:=by rw [List.map_append]; rfl
theorem Fg {α:Type} {ls:List α} {x:α} {i:Nat} (h:ls.length = i):(ls ++ [x]).length = i + 1:=by
 rw [List.length_append,h]
 rfl
theorem Yf {H:Hp} {L:Addr} {ls:List Int} {x:Int}:(upd H L (.lst (ls.map V.int ++ [V.int x]))) L = some (.lst ((ls ++ [x]).map V.int)):=by
 rw [Ff]
 exact A5
theorem Xu {ls:List Int} {j:Nat} (h:j < ls.length):ls[j]? = some (ls.getD j 0):=by
 rw [List.getD_eq_getElem?_getD,List.getElem?_eq_getElem h]
 rfl
theorem N7 {ls:List Int} {j:Nat} (h:j < ls.length):ls.getD j 0 ∈ ls:=List.mem_of_getElem? (Xu h)
def E4 (ws:List Int) (cm:Option Int):Prop:=(∀ w ∈ ws,1 <= w /\ w <= 3000) /\ (∀ c,cm = some c -> 1 <= c /\ c < 3000) /\ 0 < ws.length /\ ws.length <= 8 /\ Aq (qv cm) ws <= 300
theorem Q9 {w:Int} (h1:0 <= w) (h2:w <= 3000):intBits w <= 256:=Nat.le_trans (Z1 (n:=12) (by omega)) (by decide)
theorem E4.qv {ws:List Int} {cm:Option Int} (h:E4 ws cm):1 <= qv cm /\ qv cm <= 3000:=by
 cases cm with
 | none=>exact ⟨Int.le_refl _,by decide⟩
 | some c =>
  have:=h.2.1 c rfl
  show 1 <= c + 1 /\ c + 1 <= 3000
  omega
theorem Ms:∀ (ws:List Int) (a b:Int),0 <= a -> a <= b -> (∀ w ∈ ws,1 <= w) -> Aq a ws <= Aq b ws
 | [],_,_,_,h,_=>h
 | w :: ws,a,b,h0,h,hw=>by
  have h1:=hw w (by simp)
  exact Ms ws (a * w) (b * w) (Int.mul_nonneg h0 (by omega)) (Int.mul_le_mul_of_nonneg_right h (by omega)) fun x hx=>hw x (List.mem_cons_of_mem _ hx)
theorem Kg {b:Int}:∀ (ws:List Int) (a:Int),0 <= a -> (∀ w ∈ ws,1 <= w /\ w <= b) -> Aq a ws <= a * b ^ ws.length
 | [],a,_,_=>by
  show a <= a * b ^ 0
  rw [Int.pow_zero,Int.mul_one]
  exact Int.le_refl _
 | w :: ws,a,h0,hw=>by
  have h1:=hw w (by simp)
  have ih:=Kg ws (a * w) (Int.mul_nonneg h0 (by omega)) fun x hx=>hw x (List.mem_cons_of_mem _ hx)
  have hb:0 <= b ^ ws.length:=Int.pow_nonneg (by omega)
  have h2:a * w * b ^ ws.length <= a * b * b ^ ws.length:=Int.mul_le_mul_of_nonneg_right (Int.mul_le_mul_of_nonneg_left h1.2 h0) hb
  have e:a * b ^ (w :: ws).length = a * b * b ^ ws.length:=by
   rw [List.length_cons,Int.pow_succ,Int.mul_comm (b ^ ws.length) b,Int.mul_assoc]
  rw [e]
  exact Int.le_trans ih h2
theorem Qk {x:Int} (hx:1 <= x):∀ (ws:List Int) (a:Int) (k:Nat),0 <= a -> (∀ w ∈ ws,1 <= w) -> Aq a (ws.set k x) <= Aq a ws * x
 | [],a,_,h0,_=>by
  show a <= a * x
  have:a * 1 <= a * x:=Int.mul_le_mul_of_nonneg_left hx h0
  omega
 | w :: ws,a,0,h0,hw=>by
  have h1:=hw w (by simp)
  show Aq (a * x) ws <= Aq (a * w) ws * x
  have h2:a * x <= x * (a * w):=by
   have:x * a * 1 <= x * a * w:=Int.mul_le_mul_of_nonneg_left h1 (Int.mul_nonneg (by omega) h0)
   rw [Int.mul_one] at this
   rw [Int.mul_comm a x,<- Int.mul_assoc]
   exact this
  refine Int.le_trans (Ms ws _ _ (Int.mul_nonneg h0 (by omega)) h2 fun y hy=>hw y (List.mem_cons_of_mem _ hy)) ?_
  rw [Iw,Int.mul_comm]
  exact Int.le_refl _
 | w :: ws,a,k + 1,h0,hw=>by
  have h1:=hw w (by simp)
  exact Qk hx ws (a * w) k (Int.mul_nonneg h0 (by omega)) fun y hy=>hw y (List.mem_cons_of_mem _ hy)
theorem Zd {P:Int -> Prop} {ws:List Int} {k:Nat} {x:Int} (h:∀ w ∈ ws,P w) (hx:P x):∀ w ∈ ws.set k x,P w:=fun w hw=>by
 rcases List.mem_or_eq_of_mem_set hw with z | z
 ·exact h w z
 ·rw [z]
  exact hx
theorem Hk {xs:List Int} {k:Nat} {i:Int} (h:k < xs.length) (e:i = (k:Int)):Oz (xs.map V.int) i = some (.int (xs.getD k 0)):=by
 rw [e]
 exact U1 h
def Ys (ws:List Int) (most:Int):Prop:=(∀ w ∈ ws,1 <= w /\ w <= 3000) /\ 0 < ws.length /\ ws.length <= 8 /\ 1 <= most /\ most <= 4 /\ Aq 1 ws * (most + 1) <= 300
theorem Ys.of {ws:List Int} {most b:Int} {n:Nat} (h:∀ w ∈ ws,1 <= w /\ w <= b) (hl:ws.length = n) (h0:0 < n) (h8:n <= 8) (hb:b <= 3000) (hm:1 <= most /\ most <= 4) (hp:b ^ n * (most + 1) <= 300):Ys ws most:=by
 have h1:=Kg ws 1 (by decide) h
 rw [hl,Int.one_mul] at h1
 have h2:Aq 1 ws * (most + 1) <= b ^ n * (most + 1):=Int.mul_le_mul_of_nonneg_right h1 (by omega)
 exact ⟨fun w hw=>by have:=h w hw; omega,by omega,by omega,hm.1,hm.2,by omega⟩
theorem Ys.hall {ws:List Int} {most:Int} (h:Ys ws most):E4 ws none /\ ∀ x:Int,E4 ws (some (1 + x % most)):=by
 obtain ⟨h1,h2,h3,h4,h5,h6⟩ := h
 have hp:=E6 ws 1 (by decide) fun w hw=>(h1 w hw).1
 refine ⟨⟨h1,(fun c z=>nomatch z),h2,h3,?_⟩,fun x=>⟨h1,(fun c z=>?_),h2,h3,?_⟩⟩
 ·show Aq 1 ws <= 300
  have:Aq 1 ws * 1 <= Aq 1 ws * (most + 1):=Int.mul_le_mul_of_nonneg_left (by omega) (by omega)
  omega
 ·cases z
  have:=Bl x (m:=most) (by omega)
  omega
 ·have hx:=Bl x (m:=most) (by omega)
  show Aq (1 + x % most + 1) ws <= 300
  have e:Aq (1 + x % most + 1) ws = (1 + x % most + 1) * Aq 1 ws:=by rw [<- Iw,Int.mul_one]
  rw [e,Int.mul_comm]
  have:Aq 1 ws * (1 + x % most + 1) <= Aq 1 ws * (most + 1):=Int.mul_le_mul_of_nonneg_left (by omega) (by omega)
  omega
theorem Pz:∀ n:Nat,(List.replicate n [V.int 1]).flatten = (List.replicate n (1:Int)).map V.int
 | 0=>rfl
 | n + 1=>by
  rw [List.replicate_succ,List.flatten_cons,Pz n,List.replicate_succ,List.map_cons]
  rfl
theorem N3:∀ n:Nat,Aq 1 (List.replicate n (1:Int)) = 1
 | 0=>rfl
 | n + 1=>by
  rw [List.replicate_succ]
  show Aq (1 * 1) (List.replicate n 1) = 1
  exact N3 n
theorem Nb {ws ls:List Int} {who i:Nat} {lost:Bool} (hi:i < ls.length):(Bj ws ls who lost)[i]? = some (if i = who /\ lost = false then ws.getD who 0 else ls.getD i 0 - 1):=by
 have e:(ls.map fun x=>x - 1)[i]? = some (ls.getD i 0 - 1):=by
  rw [List.getElem?_map,List.getElem?_eq_getElem hi,List.getD_eq_getElem?_getD,List.getElem?_eq_getElem hi]
  rfl
 unfold Bj
 cases lost with
 | true =>
  rw [if_pos rfl,if_neg (fun z=>nomatch z.2)]
  exact e
 | false =>
  rw [if_neg Bool.false_ne_true,List.getElem?_set]
  by_cases z:i = who
  ·subst z
   rw [if_pos rfl,if_pos (by rw [List.length_map]; exact hi),if_pos ⟨rfl,rfl⟩]
  ·rw [if_neg (fun y=>z y.symm),if_neg (fun y=>z y.1)]
   exact e
def bg (cm:Option Int) (q:Int):List Bool:=if Fw cm q = true then [false,true] else [false]
theorem Kp {xs:List Int} {i:Nat} (h:i < xs.length):xs[i]? = some (xs.getD i 0):=by
 rw [List.getD_eq_getElem?_getD,List.getElem?_eq_getElem h]
 rfl
theorem U3:∀ (ws:List Int) (rows:List (List Int)) (r0 ext:List Int),r0 ∈ rows -> ext.length = ws.length -> (∀ i,i < ws.length -> 1 <= ext.getD i 0 /\ ext.getD i 0 <= ws.getD i 0) -> r0 ++ ext ∈ ws.foldl C9 rows
 | [],rows,r0,ext,h,hl,_=>by
  have e:ext = []:=List.length_eq_zero_iff.mp hl
  rw [e,List.append_nil]
  exact h
 | w :: ws,rows,r0,[],h,hl,_=>by simp at hl
 | w :: ws,rows,r0,x :: ext,h,hl,hb=>by
  have h0:=hb 0 (by simp)
  have hx:1 <= x /\ x <= w:=h0
  have hmem:r0 ++ [x] ∈ C9 rows w:=by
   refine List.mem_flatMap.mpr ⟨r0,h,List.mem_map.mpr ⟨(x - 1).toNat,List.mem_range.mpr (by omega),?_⟩⟩
   have e:1 + (((x - 1).toNat:Nat):Int) = x:=by omega
   rw [e]
  have ih:=U3 ws (C9 rows w) (r0 ++ [x]) ext hmem (by simpa using hl) fun i hi=>hb (i + 1) (by simp; omega)
  rw [List.append_assoc] at ih
  exact ih
theorem Ic {ws:List Int} {q:Int} {z:List Int × Int} (h1:z.1.length = ws.length) (h2:∀ i,i < ws.length -> 1 <= z.1.getD i 0 /\ z.1.getD i 0 <= ws.getD i 0) (h3:0 <= z.2) (h4:z.2 < q):z ∈ Bk ws q:=by
 refine List.mem_flatMap.mpr ⟨z.1,?_,List.mem_map.mpr ⟨z.2.toNat,List.mem_range.mpr (by omega),?_⟩⟩
 ·have:=U3 ws [[]] [] z.1 (by simp) h1 h2
  exact this
 ·have e:0 + ((z.2.toNat:Nat):Int) = z.2:=by omega
  rw [e]
theorem Fi {ws:List Int} {q:Int} {z:List Int × Int} (h:z ∈ Bk ws q):z.1.length = ws.length /\ (∀ i,i < ws.length -> 1 <= z.1.getD i 0 /\ z.1.getD i 0 <= ws.getD i 0) /\ 0 <= z.2 /\ z.2 < q:=by
 obtain ⟨m1,m2,m3,m4⟩ := Np h
 exact ⟨m1,fun i hi=>m2 i _ _ (Kp (by omega)) (Kp hi),m3,m4⟩
theorem Zs {ws ls:List Int} {who i:Nat} {lost:Bool} (hi:i < ls.length):(Bj ws ls who lost).getD i 0 = if i = who /\ lost = false then ws.getD who 0 else ls.getD i 0 - 1:=by
 rw [List.getD_eq_getElem?_getD,Nb hi]
 rfl
theorem Y6 {ws ls:List Int} {cm:Option Int} {q:Int} {who:Nat} {lost:Bool} {k:List Int × Int} (h:F5 ws ls cm q who lost = some k):(0:Int) ∉ Bj ws ls who lost /\ k = (Bj ws ls who lost,D1 cm q lost):=by
 unfold F5 at h
 by_cases z:(0:Int) ∈ Bj ws ls who lost
 ·rw [if_pos z] at h
  cases h
 ·rw [if_neg z] at h
  exact ⟨z,(Option.some.inj h).symm⟩
theorem Wt {ws ls:List Int} {cm:Option Int} {q:Int} {who:Nat} {lost:Bool}:F5 ws ls cm q who lost = none ↔ (0:Int) ∈ Bj ws ls who lost:=by
 unfold F5
 by_cases z:(0:Int) ∈ Bj ws ls who lost
 ·rw [if_pos z]
  exact ⟨fun _=>z,fun _=>rfl⟩
 ·rw [if_neg z]
  exact ⟨fun y=>(nomatch y),fun y=>absurd y z⟩
theorem c0 {ws:List Int} {cm:Option Int} {k l:List Int × Int} {who:Nat} {lost:Bool} (hw1:∀ w ∈ ws,1 <= w) (hk:k ∈ Bk ws (qv cm)) (hwho:who < ws.length) (hlo:lost ∈ bg cm k.2) (h:F5 ws k.1 cm k.2 who lost = some l):l ∈ Bk ws (qv cm):=by
 obtain ⟨g1,g2,g3,g4⟩ := Fi hk
 obtain ⟨hz,rfl⟩ := Y6 h
 have hwp:1 <= ws.getD who 0:=hw1 _ (N7 hwho)
 have hlen:(Bj ws k.1 who lost).length = k.1.length:=Ib _ _ _ _
 refine Ic (by rw [hlen]; exact g1) (fun i hi=>?_) ?_ ?_
 ·have b:=g2 i hi
  have hne:(Bj ws k.1 who lost).getD i 0 ≠ 0:=fun e=>by
   have:=Kp (xs:=Bj ws k.1 who lost) (i:=i) (by omega)
   rw [e] at this
   exact hz (List.mem_of_getElem? this)
  show 1 <= (Bj ws k.1 who lost).getD i 0 /\ (Bj ws k.1 who lost).getD i 0 <= ws.getD i 0
  rw [Zs (by omega)] at hne ⊢
  by_cases y:i = who /\ lost = false
  ·rw [if_pos y,y.1]
   omega
  ·rw [if_neg y] at hne
   rw [if_neg y]
   omega
 ·show 0 <= D1 cm k.2 lost
  unfold D1
  cases lost with
  | true =>
   rw [if_pos rfl]
   cases cm with
   | none=>exact Int.le_refl _
   | some c =>
    show 0 <= c
    have:k.2 < c + 1:=g4
    omega
  | false =>
   rw [if_neg Bool.false_ne_true]
   omega
 ·show D1 cm k.2 lost < qv cm
  unfold D1
  cases lost with
  | true =>
   rw [if_pos rfl]
   cases cm with
   | none=>decide
   | some c =>
    show c < c + 1
    omega
  | false =>
   rw [if_neg Bool.false_ne_true]
   have:0 < qv cm:=by omega
   omega
def wd (x:Int × Int):PyData:=dP (.int x.1) (.int x.2)
def Wg (x y:Int × Int):Bool:=decide (y.1 < x.1 \/ (x.1 = y.1 /\ y.2 < x.2))
theorem X1 (a b:Int):PyData.eqv (.int a) (.int b) = decide (a = b):=rfl
theorem gu (x y:Int × Int):Jw (wd x) (wd y) = Wg y x:=by
 obtain ⟨a,b⟩ := x
 obtain ⟨c,d⟩ := y
 show (if PyData.eqv (.int a) (.int c) = true then (if PyData.eqv (.int b) (.int d) = true then ltvAll [] [] else Jw (.int b) (.int d)) else Jw (.int a) (.int c)) = decide (a < c \/ (c = a /\ b < d))
 rw [X1,X1]
 show (if decide (a = c) = true then (if decide (b = d) = true then false else decide (b < d)) else decide (a < c)) = decide (a < c \/ (c = a /\ b < d))
 by_cases h1:a = c
 ·rw [if_pos (decide_eq_true h1)]
  by_cases h2:b = d
  ·rw [if_pos (decide_eq_true h2)]
   exact (decide_eq_false (by omega)).symm
  ·rw [if_neg (by simpa using h2)]
   exact decide_eq_decide.mpr (by omega)
 ·rw [if_neg (by simpa using h1)]
  exact decide_eq_decide.mpr (by omega)
theorem eg (x y:Int × Int):Hs (wd x) (wd y):=by
 show Hs (.tuple [.int x.1,.int x.2]) (.tuple [.int y.1,.int y.2])
 simp [Hs,CmpbAll]
theorem Yl (x:Int × Int):(wd x).depth <= 50:=by
 show (dP _ _).depth <= 50
 rw [Q7]
 show max 0 0 + 1 <= 50
 decide
theorem af {H:Hp} {p:Addr} {x:Int × Int} (h:H p = some (.tup [.int x.1,.int x.2])):Rp H (wd x) (.ref p):=Xt h (Ll _) (Ll _)
def Qh:Option V -> Int × Int
 | some (.int m)=>(0,m)
 | _=>(1,0)
def told (tv:List ((List Int × Int) × V)):Option (List Int × Int) -> Int × Int
 | none=>(0,0)
 | some k=>Qh (Ai tv k)
def Zy (tv:List ((List Int × Int) × V)):Prop := ∀ k v,Ai tv k = some v -> ∃ m:Int,v = .int m
theorem fg {xs:List Int} {x:Int} {i:Nat} (h:i < (xs ++ [x]).length):(xs ++ [x]).getD i 0 = if i < xs.length then xs.getD i 0 else x:=by
 rw [List.getD_eq_getElem?_getD]
 by_cases z:i < xs.length
 ·rw [if_pos z,List.getElem?_append_left z,List.getD_eq_getElem?_getD]
 ·rw [if_neg z,List.getElem?_append_right (by omega)]
  rw [List.length_append,List.length_singleton] at h
  rw [show i - xs.length = 0 by omega]
  rfl
def Dg (tv:List ((List Int × Int) × V)) (ws ls:List Int) (cm:Option Int) (q:Int) (who:Nat):Bool:=Fw cm q && Wg (told tv (F5 ws ls cm q who false)) (told tv (F5 ws ls cm q who true))
theorem Nv {tv:List ((List Int × Int) × V)} {k:List Int × Int} {m:Int} (h:Ai tv k = some (.int m)):told tv (some k) = (0,m):=by
 show Qh (Ai tv k) = _
 rw [h]
 rfl
theorem Sb {ws:List Int} {cm:Option Int} {tv:List ((List Int × Int) × V)} (h:He ws cm tv) (o:Option (List Int × Int)):(o = none /\ told tv o = (0,0)) \/ (∃ k m,o = some k /\ Ai tv k = some (.int m) /\ 1 <= m /\ told tv o = (0,m)) \/ told tv o = (1,0):=by
 cases o with
 | none=>exact .inl ⟨rfl,rfl⟩
 | some k =>
  cases hv:Ai tv k with
  | none =>
   refine .inr (.inr ?_)
   show Qh (Ai tv k) = _
   rw [hv]
   rfl
  | some v =>
   obtain ⟨m,e1,h1,_⟩ := h.1 k v hv
   subst e1
   exact .inr (.inl ⟨k,m,rfl,hv,h1,Nv hv⟩)
theorem Qn {ws:List Int} {cm:Option Int} {tv:List ((List Int × Int) × V)} {k b:List Int × Int} {m:Int} {who:Nat} (h:He ws cm tv) (hv:Ai tv k = some (.int m)) (hw:who < ws.length) (ho:F5 ws k.1 cm k.2 who (Dg tv ws k.1 cm k.2 who) = some b):∃ m':Int,Ai tv b = some (.int m') /\ 1 <= m' /\ m' <= m - 1:=by
 obtain ⟨m0,e0,h1,hks,p1,p2⟩ := h.1 k _ hv
 cases e0
 have least:∀ o ∈ Cj ws k.1 cm k.2 who,Wg (told tv (some b)) (told tv o) = false:=fun o hm=>by
  have g:∀ x:Int × Int,Wg x x = false:=fun x=>by
   unfold Wg
   exact decide_eq_false (by omega)
  have asym:∀ x y:Int × Int,Wg x y = true -> Wg y x = false:=fun x y e=>by
   unfold Wg at e ⊢
   have:=of_decide_eq_true e
   exact decide_eq_false (by omega)
  unfold Dg at ho
  unfold Cj at hm
  by_cases z:Fw cm k.2 = true
  ·rw [if_pos z] at hm
   rw [z,Bool.true_and] at ho
   have hm2:o = F5 ws k.1 cm k.2 who false \/ o = F5 ws k.1 cm k.2 who true:=by simpa using hm
   cases y:Wg (told tv (F5 ws k.1 cm k.2 who false)) (told tv (F5 ws k.1 cm k.2 who true)) with
   | true =>
    rw [y] at ho
    rw [<- ho]
    rcases hm2 with e | e <;> rw [e]
    ·exact asym _ _ y
    ·exact g _
   | false =>
    rw [y] at ho
    rw [<- ho]
    rcases hm2 with e | e <;> rw [e]
    ·exact g _
    ·exact y
  ·rw [if_neg z] at hm
   have z':Fw cm k.2 = false:=by simpa using z
   rw [z',Bool.false_and] at ho
   have hm2:o = F5 ws k.1 cm k.2 who false:=by simpa using hm
   rw [hm2,ho]
   exact g _
 have key:∃ c:Int,Wg (told tv (some b)) (0,c) = false /\ c <= m - 1:=by
  rcases p1 who hw with z | ⟨later,m',z1,z2,z3⟩
  ·exact ⟨0,least none z,by omega⟩
  ·have:=least _ z1
   rw [Nv z2] at this
   exact ⟨m',this,z3⟩
 obtain ⟨c,c1,c2⟩ := key
 unfold Wg at c1
 have c3:=of_decide_eq_false c1
 rcases Sb h (some b) with ⟨e,_⟩ | ⟨k',m',e,e1,e2,e3⟩ | e
 ·cases e
 ·cases e
  rw [e3] at c3
  have c4:¬ ((0:Int) < 0 \/ ((0:Int) = 0 /\ c < m')):=c3
  exact ⟨m',e1,e2,by omega⟩
 ·rw [e] at c3
  have c4:¬ ((0:Int) < 1 \/ ((1:Int) = 0 /\ c < 0)):=c3
  omega
theorem Ya (a b:List Int × Int):PyData.eqv (dS a) (dS b) = decide (a = b):=by
 show (PyData.eqvAll (a.1.map PyData.int) (b.1.map PyData.int) && (PyData.eqv (.int a.2) (.int b.2) && true)) = _
 rw [Eo]
 have e:PyData.eqv (.int a.2) (.int b.2) = decide (a.2 = b.2):=by
  show (a.2 == b.2) = _
  rw [Bool.eq_iff_iff]
  simp
 rw [e,Bool.and_true,Bool.eq_iff_iff]
 simp [Prod.ext_iff]
def Vy (o:Option HO):Nat:=match o with
 | some (.lst vs)=>vs.length
 | _=>0
def Nj (o:Option HO):Nat:=match o with
 | some (.dT wv)=>wv.length
 | _=>0
theorem Zt {α:Type} {xs:List α} (h:0 < xs.length):∃ y,xs[xs.length - 1]? = some y:=⟨xs[xs.length - 1],List.getElem?_eq_getElem (by omega)⟩
theorem Ah.take {α:Type} {P:α -> V -> Prop} {rs:List α} {vs:List V} (h:Ah P rs vs) (n:Nat):Ah P (rs.take n) (vs.take n):=by
 refine ⟨by rw [List.length_take,List.length_take,h.1],fun i r v e1 e2=>?_⟩
 rcases Nat.lt_or_ge i n with z | z
 ·rw [List.getElem?_take_of_lt z] at e1 e2
  exact h.2 i r v e1 e2
 ·rw [List.getElem?_take_eq_none z] at e1
  cases e1
theorem Ew:∀ xs ys:List Int,ltvAll (xs.map PyData.int) (ys.map PyData.int) = true -> ltvAll (ys.map PyData.int) (xs.map PyData.int) = false
 | [],[],_=>rfl
 | [],y :: ys,h=>rfl
 | x :: xs,[],h=>by simp [ltvAll] at h
 | x :: xs,y :: ys,h=>by
  have e:∀ a b:Int,PyData.eqv (.int a) (.int b) = decide (a = b):=fun a b=>by
   show (a == b) = _
   rw [Bool.eq_iff_iff]
   simp
  rw [List.map_cons,List.map_cons,ltvAll,e] at h ⊢
  by_cases z:x = y
  ·subst z
   rw [if_pos (by simp)] at h ⊢
   exact Ew xs ys h
  ·rw [if_neg (by simp; exact z)] at h
   rw [if_neg (by simp; exact fun y=>z y.symm)]
   have h1:x < y:=of_decide_eq_true h
   exact decide_eq_false (by omega)
theorem Pq {a b:List Int × Int} (h:Jw (dS a) (dS b) = true):Jw (dS b) (dS a) = false:=by
 have h':ltvAll [dT a.1,.int a.2] [dT b.1,.int b.2] = true:=h
 show ltvAll [dT b.1,.int b.2] [dT a.1,.int a.2] = false
 rw [ltvAll,Xo] at h' ⊢
 by_cases z:a.1 = b.1
 ·rw [if_pos (by simp [z])] at h' ⊢
  exact Ew [a.2] [b.2] h'
 ·rw [if_neg (by simp [z])] at h'
  rw [if_neg (by simp; exact fun y=>z y.symm)]
  exact Ew a.1 b.1 h'
theorem Nk {L:List (List Int × Int)} (hs:L.Pairwise fun a b=>Jw (dS a) (dS b) = true) {a b:List Int × Int} (ha:a ∈ L) (hb:b ∈ L):Jw (dS a) (dS b) = decide (L.idxOf a < L.idxOf b):=by
 have la:=List.idxOf_lt_length_of_mem ha
 have lb:=List.idxOf_lt_length_of_mem hb
 have ea:L[L.idxOf a] = a:=List.getElem_idxOf la
 have eb:L[L.idxOf b] = b:=List.getElem_idxOf lb
 have hp:=List.pairwise_iff_getElem.mp hs
 rcases Nat.lt_trichotomy (L.idxOf a) (L.idxOf b) with z | z | z
 ·have:=hp _ _ la lb z
  rw [ea,eb] at this
  rw [this,decide_eq_true z]
 ·have e : a = b := by
   rw [<- ea,<- eb]
   congr 1
  subst e
  rw [decide_eq_false (Nat.lt_irrefl _)]
  exact U8 a
 ·have:=hp _ _ lb la z
  rw [ea,eb] at this
  rw [Pq this,decide_eq_false (by omega)]
theorem mo {i:Nat} {v:V} {σ:L2.St} {H:Hp} {Q:L2.St -> Hp -> Prop} (h:Q (List.set σ i (some v)) H):Ft i v σ H Q:=h
theorem o8 {c:TT} {tb u:TS} {D:Gz} {σ:L2.St} {H:Hp} (h:P9 c tb { D with nx:=u D } σ H):kd (P9 c tb) u D σ H:=h
theorem aq {H:Hp} {b:Addr} {k:List Int × Int} (h:E5 H b k):Rp H (dS k) (.ref b):=by
 obtain ⟨u,h1,h2⟩ := h
 exact Xt h1 (am h2) (by unfold Rp; rfl)
theorem ge (a b:List Int × Int):Hs (dS a) (dS b):=by
 have cs:∀ x y:List Int,CmpbAll (x.map PyData.int) (y.map PyData.int):=by
  intro x
  induction x with
  | nil=>intro y; unfold CmpbAll; trivial
  | cons u x ih =>
   intro y
   cases y with
   | nil=>unfold CmpbAll; trivial
   | cons v y=>exact ⟨trivial,ih y⟩
 exact ⟨cs _ _,trivial,trivial⟩
def Gm (tv:List ((List Int × Int) × V)) (ws ls:List Int) (cm:Option Int) (q:Int):List Bool:=(List.range ws.length).map fun w=>Dg tv ws ls cm q w
theorem Er (tv:List ((List Int × Int) × V)) (ws ls:List Int) (cm:Option Int) (q:Int):(Gm tv ws ls cm q).length = ws.length:=by unfold Gm; rw [List.length_map,List.length_range]
theorem Ut {tv:List ((List Int × Int) × V)} {ws ls:List Int} {cm:Option Int} {q:Int} {i:Nat} (h:i < ws.length):(Gm tv ws ls cm q)[i]? = some (Dg tv ws ls cm q i):=by
 unfold Gm
 rw [List.getElem?_map,List.getElem?_range h]
 rfl
def N2 (tv:List ((List Int × Int) × V)) (ws:List Int) (cm:Option Int) (k:List Int × Int) (who:Nat):Option (List Int × Int):=F5 ws k.1 cm k.2 who (Dg tv ws k.1 cm k.2 who)
inductive Zm (ws:List Int) (cm:Option Int) (tv:List ((List Int × Int) × V)):(List Int × Int) -> Prop
 | base:Zm ws cm tv (ws,0)
 | step {k k':List Int × Int} {j:Nat}:Zm ws cm tv k -> j < ws.length -> N2 tv ws cm k j = some k' -> Zm ws cm tv k'
def Uf (ws:List Int) (cm:Option Int) (tv:List ((List Int × Int) × V)) (k:List Int × Int):Prop:=k ∈ Bk ws (qv cm) /\ (∃ m:Int,Ai tv k = some (.int m)) /\ Zm ws cm tv k
structure Pk (ws:List Int) (cm:Option Int) (tv cv:List ((List Int × Int) × V)) (E:List (List Int × Int)):Prop where
 nd:(cv.map (·.1)).Nodup
 sf:∀ k ∈ E,Uf ws cm tv k
 ent:∀ kv ∈ cv,Uf ws cm tv kv.1 /\ ∀ j k',j < ws.length -> N2 tv ws cm kv.1 j = some k' -> k' ∈ cv.map (·.1) \/ k' ∈ E
 beg:(ws,0) ∈ cv.map (·.1) \/ (ws,0) ∈ E
theorem Pk.len {ws:List Int} {cm:Option Int} {tv cv:List ((List Int × Int) × V)} {E:List (List Int × Int)} (h:Pk ws cm tv cv E) (hok:E4 ws cm):cv.length <= 300:=by
 have h1:=List.Nodup.length_le_of_subset h.nd (show cv.map (·.1) ⊆ Bk ws (qv cm) from fun k hk=>by
  obtain ⟨kv,hkv,rfl⟩ := List.mem_map.mp hk
  exact (h.ent kv hkv).1.1)
 have h2:=Io (ws:=ws) (q:=qv cm) (fun w hw=>(hok.1 w hw).1) (by have:=hok.qv.1; omega)
 have h3:=hok.2.2.2.2
 rw [List.length_map] at h1
 omega
theorem Pk.start {ws:List Int} {cm:Option Int} {tv:List ((List Int × Int) × V)} (h:Uf ws cm tv (ws,0)):Pk ws cm tv [] [(ws,0)]:=⟨List.nodup_nil,fun k hk=>by cases List.mem_singleton.mp hk; exact h,(fun kv hkv=>by cases hkv),.inr (List.mem_singleton.mpr rfl)⟩
theorem Pk.skip {ws:List Int} {cm:Option Int} {tv cv:List ((List Int × Int) × V)} {E:List (List Int × Int)} {k:List Int × Int} (h:Pk ws cm tv cv (E ++ [k])) (hk:k ∈ cv.map (·.1)):Pk ws cm tv cv E:=by
 have key:∀ x,x ∈ cv.map (·.1) \/ x ∈ E ++ [k] -> x ∈ cv.map (·.1) \/ x ∈ E:=fun x hx=>by
  rcases hx with z | z
  ·exact .inl z
  ·rcases List.mem_append.mp z with y | y
   ·exact .inr y
   ·rw [List.mem_singleton.mp y]
    exact .inl hk
 exact ⟨h.nd,fun x hx=>h.sf x (List.mem_append_left _ hx),fun kv hkv=>⟨(h.ent kv hkv).1,fun j k' h1 h2=>key _ ((h.ent kv hkv).2 j k' h1 h2)⟩,key _ h.beg⟩
theorem Pk.put {ws:List Int} {cm:Option Int} {tv cv:List ((List Int × Int) × V)} {E:List (List Int × Int)} {k:List Int × Int} {v:V} (h:Pk ws cm tv cv (E ++ [k])) (hk:Ai cv k = none) (hs:∀ x ∈ (List.range ws.length).filterMap (N2 tv ws cm k),Uf ws cm tv x):Pk ws cm tv (Bm cv k v) (E ++ (List.range ws.length).filterMap (N2 tv ws cm k)):=by
 have ep:=D9 (kvs:=cv) (k:=k) v hk
 have key:∀ x,x ∈ cv.map (·.1) \/ x ∈ E ++ [k] -> x ∈ (Bm cv k v).map (·.1) \/ x ∈ E ++ (List.range ws.length).filterMap (N2 tv ws cm k):=fun x hx=>by
  rw [ep,List.map_append]
  rcases hx with z | z
  ·exact .inl (List.mem_append_left _ z)
  ·rcases List.mem_append.mp z with y | y
   ·exact .inr (List.mem_append_left _ y)
   ·rw [List.mem_singleton.mp y]
    exact .inl (List.mem_append_right _ (by simp))
 refine ⟨Zg _ h.nd hk,fun x hx=>?_,fun kv hkv=>?_,key _ h.beg⟩
 ·rcases List.mem_append.mp hx with y | y
  ·exact h.sf x (List.mem_append_left _ y)
  ·exact hs x y
 ·have hkv':=hkv
  rw [ep] at hkv'
  rcases List.mem_append.mp hkv' with z | z
  ·exact ⟨(h.ent kv z).1,fun j k' h1 h2=>key _ ((h.ent kv z).2 j k' h1 h2)⟩
  ·rw [List.mem_singleton.mp z]
   exact ⟨h.sf k (by simp),fun j k' h1 h2=>.inr (List.mem_append_right _ (List.mem_filterMap.mpr ⟨j,List.mem_range.mpr h1,h2⟩))⟩
theorem Pk.perm {ws:List Int} {cm:Option Int} {tv cv ps:List ((List Int × Int) × V)} (h:Pk ws cm tv cv []) (hp:ps.Perm cv):Pk ws cm tv ps []:=by
 have hm:=hp.map (·.1)
 exact ⟨hm.nodup_iff.mpr h.nd,h.sf,fun kv hkv=>⟨(h.ent kv (hp.mem_iff.mp hkv)).1,fun j k' h1 h2=>((h.ent kv (hp.mem_iff.mp hkv)).2 j k' h1 h2).imp (fun y=>hm.mem_iff.mpr y) id⟩,h.beg.imp (fun y=>hm.mem_iff.mpr y) id⟩
theorem Mn {tv:List ((List Int × Int) × V)} {ws ls:List Int} {cm:Option Int} {q:Int} {who:Nat}:R7 cm q (Dg tv ws ls cm q who):=fun h=>by
 have h1:Fw cm q = true:=by
  unfold Dg at h
  exact (Bool.and_eq_true_iff.mp h).1
 unfold Fw at h1
 simpa using h1
theorem g7 {ws:List Int} {cm:Option Int} {tv:List ((List Int × Int) × V)} {k:List Int × Int} (hrk:He ws cm tv) (hok:E4 ws cm) (h:Uf ws cm tv k):∀ x ∈ (List.range ws.length).filterMap (N2 tv ws cm k),Uf ws cm tv x:=fun x hx=>by
 obtain ⟨j,hj,e⟩ := List.mem_filterMap.mp hx
 have hj':=List.mem_range.mp hj
 obtain ⟨m,hm⟩ := h.2.1
 obtain ⟨m',hm',_⟩ := Qn hrk hm hj' e
 refine ⟨c0 (fun w hw=>(hok.1 w hw).1) h.1 hj' ?_ e,⟨m',hm'⟩,.step h.2.2 hj' e⟩
 have hm2:=Mn (tv:=tv) (ws:=ws) (ls:=k.1) (cm:=cm) (q:=k.2) (who:=j)
 unfold bg
 cases e2:Dg tv ws k.1 cm k.2 j with
 | false=>split <;> simp
 | true =>
  obtain ⟨a1,a2⟩ := hm2 e2
  have h1:Fw cm k.2 = true:=by
   unfold Fw
   simp [a1,a2]
  first
   | (rw [if_pos h1]; simp)
   | (split
      ·simp
      ·exact absurd (by simpa [Fw] using h1) (by assumption))
def Iu (tv:List ((List Int × Int) × V)) (ws:List Int) (cm:Option Int) (H:Hp) (kv:(List Int × Int) × V) (u:V):Prop := ∃ (p b t:Addr) (m:Int),u = .ref p /\ H p = some (.tup [.ref b,.int m,.ref t]) /\ E5 H b kv.1 /\ Ai tv kv.1 = some (.int m) /\ kv.2 = .ref t /\ H t = some (.tup ((Gm tv ws kv.1.1 cm kv.1.2).map V.bl))
theorem Iu.up {tv:List ((List Int × Int) × V)} {ws:List Int} {cm:Option Int} {H H':Hp} {kv:(List Int × Int) × V} {u:V} (s:Ae H H') (h:Iu tv ws cm H kv u):Iu tv ws cm H' kv u:=by
 obtain ⟨p,b,t,m,h1,h2,h3,h4,h5,h6⟩ := h
 exact ⟨p,b,t,m,h1,s _ _ h2,h3.up s,h4,h5,s _ _ h6⟩
def lh (tv:List ((List Int × Int) × V)) (k:List Int × Int):Int:=match Ai tv k with
 | some (.int m)=>m
 | _=>0
def Jg (tv:List ((List Int × Int) × V)) (ws:List Int) (cm:Option Int) (kv:(List Int × Int) × V):PyData := .tuple [dS kv.1,.int (lh tv kv.1),.tuple ((Gm tv ws kv.1.1 cm kv.1.2).map PyData.bool)]
theorem Rj {H:Hp}:∀ l:List Bool,RpAll H (l.map PyData.bool) (l.map V.bl)
 | []=>by unfold RpAll; rfl
 | x :: l=>by
  show RpAll H (PyData.bool x :: l.map PyData.bool) (V.bl x :: l.map V.bl)
  unfold RpAll
  exact ⟨_,_,rfl,l6 x,Rj l⟩
theorem Iu.rp {tv:List ((List Int × Int) × V)} {ws:List Int} {cm:Option Int} {H:Hp} {kv:(List Int × Int) × V} {u:V} (h:Iu tv ws cm H kv u):Rp H (Jg tv ws cm kv) u:=by
 obtain ⟨p,b,t,m,rfl,h2,h3,h4,h5,h6⟩ := h
 have e:lh tv kv.1 = m:=by unfold lh; rw [h4]
 unfold Jg
 rw [e]
 unfold Rp
 refine ⟨p,_,rfl,h2,?_⟩
 unfold RpAll
 refine ⟨_,_,rfl,aq h3,?_⟩
 unfold RpAll
 refine ⟨_,_,rfl,Ll m,?_⟩
 unfold RpAll
 refine ⟨_,_,rfl,?_,?_⟩
 ·unfold Rp
  exact ⟨t,_,rfl,h6,Rj _⟩
 ·unfold RpAll
  rfl
theorem Ti (tv:List ((List Int × Int) × V)) (ws:List Int) (cm:Option Int) (kv:(List Int × Int) × V):(Jg tv ws cm kv).depth <= 50:=by
 have hb:∀ l:List Bool,PyData.depthAll (l.map PyData.bool) = 0:=by
  intro l
  induction l with
  | nil=>rfl
  | cons x l ih=>simp only [List.map_cons,PyData.depthAll,PyData.depth,ih]; rfl
 unfold Jg
 simp only [PyData.depth,PyData.depthAll,Rg,hb]
 omega
theorem Ju:∀ l:List PyData,PyData.canLayAll0 l = true -> ltvAll l l = false
 | [],_=>rfl
 | x :: l,h=>by
  have h1:x.canLay0 = true /\ PyData.canLayAll0 l = true:=by simpa [PyData.canLayAll0] using h
  rw [ltvAll,if_pos (PySem.SeqAt.eqv_refl x h1.1)]
  exact Ju l h1.2
theorem N9:∀ l:List PyData,PyData.canLayAll0 l = true -> Lx l l
 | [],_=>by unfold Lx; trivial
 | x :: l,h=>by
  have h1:x.canLay0 = true /\ PyData.canLayAll0 l = true:=by simpa [PyData.canLayAll0] using h
  unfold Lx
  rw [if_pos (PySem.SeqAt.eqv_refl x h1.1)]
  exact N9 l h1.2
theorem Vh {ws:List Int} {cm:Option Int} {tv:List ((List Int × Int) × V)} {H:Hp} {a b:(List Int × Int) × V} {u:V} (hr:Rp H (Jg tv ws cm a) u) (ha:a.1 ∈ Bk ws (qv cm)) (hb:b.1 ∈ Bk ws (qv cm)):Zu (Jg tv ws cm a) (Jg tv ws cm b) /\ Jw (Jg tv ws cm a) (Jg tv ws cm b) = decide ((Bk ws (qv cm)).idxOf a.1 < (Bk ws (qv cm)).idxOf b.1):=by
 by_cases z:a.1 = b.1
 ·have e:Jg tv ws cm b = Jg tv ws cm a:=by unfold Jg; rw [z]
  have hc:PyData.canLayAll0 [dS a.1,.int (lh tv a.1),.tuple ((Gm tv ws a.1.1 cm a.1.2).map PyData.bool)] = true:=Ds _ _ hr
  rw [e,z,decide_eq_false (Nat.lt_irrefl _)]
  exact ⟨N9 _ hc,Ju _ hc⟩
 ·refine ⟨?_,?_⟩
  ·show Lx (dS a.1 :: _) (dS b.1 :: _)
   unfold Lx
   rw [Ya,if_neg (by simp [z])]
   exact ge _ _
  ·show ltvAll (dS a.1 :: _) (dS b.1 :: _) = _
   rw [ltvAll,Ya,if_neg (by simp [z])]
   exact Nk (Fn ws (qv cm)) ha hb
def Te (ws:List Int) (cm:Option Int) (tv ps:List ((List Int × Int) × V)):Prop:=Pk ws cm tv ps [] /\ ps.Pairwise fun x y=>Jw (dS x.1) (dS y.1) = true
theorem Vf {ws:List Int} {cm:Option Int} {tv cv ps:List ((List Int × Int) × V)} (h:Pk ws cm tv cv []) (hp:ps.Perm cv) (hs:ps.Pairwise fun x y=>(Bk ws (qv cm)).idxOf x.1 <= (Bk ws (qv cm)).idxOf y.1):Te ws cm tv ps:=by
 have h':=h.perm hp
 refine ⟨h',?_⟩
 have hn:=List.pairwise_map.mp h'.nd
 refine List.Pairwise.imp_of_mem (fun {x y} hx hy z=>?_) (hs.and hn)
 have hx1:=(h'.ent x hx).1.1
 have hy1:=(h'.ent y hy).1.1
 rw [Nk (Fn ws (qv cm)) hx1 hy1]
 refine decide_eq_true (Nat.lt_of_le_of_ne z.1 fun e=>z.2 ?_)
 have lx:=List.idxOf_lt_length_of_mem hx1
 have ly:=List.idxOf_lt_length_of_mem hy1
 rw [<- List.getElem_idxOf lx,<- List.getElem_idxOf ly]
 congr 1
theorem Mq {l:List Bool} {j:Nat} {b:Bool} (h:l[j]? = some b):Oz (l.map V.bl) (j:Int) = some (.bl b):=by
 have hj:=(List.getElem?_eq_some_iff.mp h).1
 have e:(l.map V.bl)[j]? = some (.bl b):=by rw [List.getElem?_map,h]; rfl
 exact P3 e
theorem X2 {α:Type} {H:Hp} {P:α -> V -> Prop} {d:α -> PyData} (hd:∀ r v,P r v -> Rp H (d r) v):∀ {rs:List α} {us:List V},Ah P rs us -> RpAll H (rs.map d) us
 | [],us,h=>by
  have:us = []:=List.length_eq_zero_iff.mp h.1
  rw [this]
  unfold RpAll
  rfl
 | r :: rs,[],h=>by have:=h.1; simp at this
 | r :: rs,u :: us,h=>by
  show RpAll H (d r :: rs.map d) (u :: us)
  unfold RpAll
  refine ⟨u,us,rfl,hd r u (h.2 0 r u rfl rfl),X2 hd ⟨by simpa using h.1,fun i r' v' e1 e2=>h.2 (i + 1) r' v' (by simpa using e1) (by simpa using e2)⟩⟩
theorem O8 {H:Hp} {p:Addr} {us:List V} {ds:List PyData} (e:H p = some (.lst us)) (h:RpAll H ds us):Rp H (.list ds) (.ref p):=by
 unfold Rp
 exact ⟨p,us,rfl,e,h⟩
theorem Gf {n:Nat}:∀ {ds:List PyData},(∀ d ∈ ds,d.depth <= n) -> PyData.depthAll ds <= n
 | [],_=>by simp [PyData.depthAll]
 | d :: ds,h=>by
  have h1:=h d List.mem_cons_self
  have h2:=Gf fun x hx=>h x (List.mem_cons_of_mem d hx)
  simp only [PyData.depthAll]
  omega
theorem Sd {d:PyData} {ds:List PyData}:PyData.eqv (.list (d :: ds)) (.list []) = false:=by
 show PyData.eqvAll (d :: ds) [] = false
 simp [PyData.eqvAll]
theorem K9 {kvs:List ((List Int × Int) × V)} {k:List Int × Int} {v:V} (h:Ai kvs k = some v):k ∈ kvs.map (·.1):=by
 unfold Ai at h
 obtain ⟨p,hp,_⟩ := Option.map_eq_some_iff.mp h
 have h1:=List.find?_some hp
 have h2:=List.mem_of_find?_eq_some hp
 have h3:p.1 = k:=by simpa using h1
 rw [<- h3]
 exact List.mem_map_of_mem h2
theorem Sw {kvs:List ((List Int × Int) × V)} {k:List Int × Int}:(Ai kvs k).isSome = true ↔ k ∈ kvs.map (·.1):=by
 constructor
 ·intro h
  obtain ⟨v,e⟩ := Option.isSome_iff_exists.mp h
  exact K9 e
 ·intro h
  cases e:Ai kvs k with
  | some v=>rfl
  | none =>
   obtain ⟨p,hp,rfl⟩ := List.mem_map.mp h
   unfold Ai at e
   have e':kvs.find? (fun kv=>decide (kv.1 = p.1)) = none:=by simpa using e
   have:=List.find?_eq_none.mp e' p hp
   simp at this
def av (H:Hp) (q:(List Int × Int) × V) (u:V):Prop := ∃ t b,u = .ref t /\ H t = some (.tup [.ref b,q.2]) /\ E5 H b q.1
theorem Cs {H H':Hp} {b:Addr} {k:List Int × Int} (s:A7 H H') (h:E5 H b k):E5 H' b k:=h.up fun c xs e=>s c _ e
theorem F7 (kvs:List ((List Int × Int) × V)) (k:List Int × Int) (v:V):(Bm kvs k v).map (·.1) = if k ∈ kvs.map (·.1) then kvs.map (·.1) else kvs.map (·.1) ++ [k]:=by
 by_cases h:k ∈ kvs.map (·.1)
 ·rw [if_pos h]
  have ha:(kvs.any fun kv=>decide (kv.1 = k)) = true:=by
   obtain ⟨p,hp,e⟩ := List.mem_map.mp h
   exact List.any_eq_true.mpr ⟨p,hp,decide_eq_true e⟩
  unfold Bm
  rw [if_pos ha,List.map_map]
  refine List.map_congr_left fun p _=>?_
  show (if p.1 = k then (p.1,v) else p).1 = p.1
  split <;> rfl
 ·rw [if_neg h, D9 v (by
   cases e:Ai kvs k with
   | none=>rfl
   | some w=>exact absurd (K9 e) h),List.map_append]
  rfl
theorem Ty:∀ (qs kvs:List ((List Int × Int) × V)) (k:List Int × Int),k ∈ (putAll kvs qs).map (·.1) ↔ k ∈ kvs.map (·.1) \/ k ∈ qs.map (·.1)
 | [],kvs,k=>by
  show k ∈ kvs.map (·.1) ↔ _
  simp
 | q :: qs,kvs,k=>by
  show k ∈ (putAll (Bm kvs q.1 q.2) qs).map (·.1) ↔ _
  rw [Ty qs,F7,List.map_cons,List.mem_cons]
  split
  ·rename_i h
   constructor
   ·rintro (z | z)
    ·exact .inl z
    ·exact .inr (.inr z)
   ·rintro (z | z | z)
    ·exact .inl z
    ·rw [z]
     exact .inl h
    ·exact .inr z
  ·rw [List.mem_append,List.mem_singleton]
   constructor
   ·rintro ((z | z) | z)
    ·exact .inl z
    ·exact .inr (.inl z)
    ·exact .inr (.inr z)
   ·rintro (z | z | z)
    ·exact .inl (.inl z)
    ·exact .inl (.inr z)
    ·exact .inr z
theorem Tx:∀ (qs kvs:List ((List Int × Int) × V)),(putAll kvs qs).length = kvs.length + qs.length -> (qs.map (·.1)).Nodup /\ ∀ k ∈ qs.map (·.1),k ∉ kvs.map (·.1)
 | [],kvs,_=>⟨List.nodup_nil,fun k hk=>by cases hk⟩
 | q :: qs,kvs,h=>by
  have h':(putAll (Bm kvs q.1 q.2) qs).length = kvs.length + (qs.length + 1):=h
  have h1:=Ed qs (Bm kvs q.1 q.2)
  have hl:(Bm kvs q.1 q.2).length = if q.1 ∈ kvs.map (·.1) then kvs.length else kvs.length + 1:=by
   have:=congrArg List.length (F7 kvs q.1 q.2)
   rw [List.length_map] at this
   rw [this]
   split
   ·rw [List.length_map]
   ·rw [List.length_append,List.length_map]
    rfl
  by_cases hq:q.1 ∈ kvs.map (·.1)
  ·rw [if_pos hq] at hl
   omega
  rw [if_neg hq] at hl
  obtain ⟨h2,h3⟩ := Tx qs (Bm kvs q.1 q.2) (by omega)
  rw [F7,if_neg hq] at h3
  refine ⟨?_,fun k hk=>?_⟩
  ·rw [List.map_cons,List.nodup_cons]
   exact ⟨fun z=>h3 _ z (by simp),h2⟩
  ·rw [List.map_cons,List.mem_cons] at hk
   rcases hk with z | z
   ·rw [z]
    exact hq
   ·exact fun y=>h3 k z (List.mem_append_left _ y)
theorem Po:∀ (qs kvs:List ((List Int × Int) × V)),(qs.map (·.1)).Nodup -> (∀ k ∈ qs.map (·.1),k ∉ kvs.map (·.1)) -> (putAll kvs qs).length = kvs.length + qs.length
 | [],kvs,_,_=>rfl
 | q :: qs,kvs,h,g=>by
  rw [List.map_cons,List.nodup_cons] at h
  have hq:q.1 ∉ kvs.map (·.1):=g q.1 (by simp)
  show (putAll (Bm kvs q.1 q.2) qs).length = _
  rw [Po qs _ h.2 (fun k hk=>?_)]
  ·have:=congrArg List.length (F7 kvs q.1 q.2)
   rw [List.length_map,if_neg hq,List.length_append,List.length_map] at this
   rw [this,List.length_cons]
   simp only [List.length_cons,List.length_nil]
   omega
  ·rw [F7,if_neg hq,List.mem_append,List.mem_singleton]
   rintro (z | z)
   ·exact g k (by rw [List.map_cons]; exact List.mem_cons_of_mem _ hk) z
   ·rw [z] at hk
    exact h.1 hk
theorem Qu (kvs qs:List ((List Int × Int) × V)) (q:(List Int × Int) × V):putAll kvs (qs ++ [q]) = Bm (putAll kvs qs) q.1 q.2:=by
 unfold L2.putAll
 rw [List.foldl_append]
 rfl
theorem Yq {xs:List V} {lo hi:Option Int} {u:V} (h:u ∈ Eh xs lo hi):u ∈ xs:=List.mem_of_mem_drop (List.mem_of_mem_take h)
theorem Xg {us:List V} {i:Int} (h0:0 <= i) (h1:i < (us.length:Int)):∃ u,Oz us i = some u /\ u ∈ us:=by
 have hi:i.toNat < us.length:=by omega
 refine ⟨us[i.toNat],?_,List.getElem_mem hi⟩
 unfold Oz Rr
 rw [if_pos h0,if_pos h1]
 exact List.getElem?_eq_getElem hi
theorem b9 {n:Nat} {i:Int} (h0:0 <= i) (h1:i < (n:Int)):Rr n i = some i.toNat:=by
 unfold Rr
 rw [if_pos h0,if_pos h1]
structure Eb where
 k:List Int × Int
 r:Int
 a:List Bool
def EV (H:Hp) (p:Eb) (u:V):Prop := ∃ t b m:Addr,u = .ref t /\ H t = some (.tup [.ref b,.int p.r,.ref m]) /\ E5 H b p.k /\ H m = some (.tup (p.a.map V.bl))
theorem EV.up {H H':Hp} {p:Eb} {u:V} (s:Ae H H') (h:EV H p u):EV H' p u:=by
 obtain ⟨t,b,m,e,h1,h2,h3⟩ := h
 exact ⟨t,b,m,e,s _ _ h1,h2.up s,s _ _ h3⟩
def Jq (ps:List Eb):List ((List Int × Int) × V):=ps.map fun p=>(p.k,V.int p.r)
theorem Gb (ps:List Eb):(Jq ps).map (·.1) = ps.map (·.k):=by
 unfold Jq
 rw [List.map_map]
 rfl
theorem Oi (ps:List Eb):(Jq ps).length = ps.length:=by
 unfold Jq
 rw [List.length_map]
theorem X8 (ps:List Eb) (p:Eb):Jq (ps ++ [p]) = Jq ps ++ [(p.k,V.int p.r)]:=by
 unfold Jq
 rw [List.map_append]
 rfl
def Y7 (n:Nat) (ps:List Eb):Prop:=(∀ p ∈ ps,p.k.1.length = n /\ 0 <= p.k.2 /\ p.a.length <= 20) /\ ps.length <= 2000
abbrev Cy (ps:List Eb):List ((List Int × Int) × V):=putAll [] (Jq ps)
def I8 (ws:List Int) (cm:Option Int) (p:Eb):Prop:=p.a.length = ws.length /\ (true ∈ p.a -> cm ≠ none /\ p.k.2 = 0)
def G3 (ws:List Int) (cm:Option Int) (D:List ((List Int × Int) × V)) (p:Eb) (w:Nat):Prop := ∀ lost,p.a[w]? = some lost -> ∀ k,F5 ws p.k.1 cm p.k.2 w lost = some k -> ∃ r,Ai D k = some (.int r) /\ r < p.r
def al (ws:List Int) (cm:Option Int) (ps:List Eb):Prop:=(ps.map (·.k)).Nodup /\ (ws,0) ∈ ps.map (·.k) /\ ∀ p ∈ ps,1 <= p.r /\ I8 ws cm p /\ ∀ w,w < ws.length -> G3 ws cm (Cy ps) p w
theorem Id (ps:List Eb):(Cy ps).length < ps.length ↔ ¬ (ps.map (·.k)).Nodup:=by
 have h1:(Cy ps).length <= 0 + (Jq ps).length:=Ed (Jq ps) []
 have e:=Oi ps
 constructor
 ·intro h hn
  have:(Cy ps).length = 0 + (Jq ps).length:=Po (Jq ps) [] (by rw [Gb]; exact hn) (fun k _ z=>by cases z)
  omega
 ·intro h
  apply Classical.byContradiction
  intro hn
  have:=(Tx (Jq ps) [] (show (Cy ps).length = 0 + (Jq ps).length by omega)).1
  rw [Gb] at this
  exact h this
theorem Yb (ps:List Eb) (k:List Int × Int):(Ai (Cy ps) k).isSome = true ↔ k ∈ ps.map (·.k):=by
 rw [Sw,Ty,Gb]
 simp
theorem N0:∀ (qs kvs:List ((List Int × Int) × V)),((kvs ++ qs).map (·.1)).Nodup -> putAll kvs qs = kvs ++ qs
 | [],kvs,_=>(List.append_nil _).symm
 | p :: qs,kvs,h=>by
  have hnew:p.1 ∉ kvs.map (·.1):=fun z=>by
   rw [List.map_append,List.map_cons] at h
   exact (List.nodup_append.mp h).2.2 _ z _ List.mem_cons_self rfl
  have hv:Ai kvs p.1 = none:=by
   cases e:Ai kvs p.1 with
   | none=>rfl
   | some v=>exact absurd (K9 e) hnew
  show putAll (Bm kvs p.1 p.2) qs = _
  rw [D9 p.2 hv,N0 qs _ (by rw [List.append_assoc]; exact h),List.append_assoc]
  rfl
theorem Us {ps:List Eb} (h:(ps.map (·.k)).Nodup) {p:Eb} (hp:p ∈ ps):Ai (Cy ps) p.k = some (.int p.r):=by
 have e:Cy ps = Jq ps:=N0 (Jq ps) [] (by rw [List.nil_append,Gb]; exact h)
 rw [e]
 refine Dc (by rw [Gb]; exact h) ?_
 unfold Jq
 exact List.mem_map.mpr ⟨p,hp,rfl⟩
theorem Uq:∀ (qs:List Eb) (kvs:List ((List Int × Int) × V)),(∀ kv ∈ kvs,∃ r,kv.2 = V.int r) -> ∀ kv ∈ putAll kvs (Jq qs),∃ r,kv.2 = V.int r
 | [],kvs,h=>h
 | q :: qs,kvs,h=>by
  show ∀ kv ∈ putAll (Bm kvs q.k (.int q.r)) (Jq qs),_
  refine Uq qs _ fun kv hkv=>?_
  unfold Bm at hkv
  split at hkv
  ·obtain ⟨x,hx,rfl⟩ := List.mem_map.mp hkv
   split
   ·exact ⟨_,rfl⟩
   ·exact h x hx
  ·rcases List.mem_append.mp hkv with z | z
   ·exact h kv z
   ·rw [List.mem_singleton.mp z]
    exact ⟨_,rfl⟩
theorem Px {ps:List Eb} {k:List Int × Int} {v:V} (h:Ai (Cy ps) k = some v):∃ r,v = .int r:=Uq ps [] (fun kv hkv=>by cases hkv) (k,v) (Bo h)
theorem d7 {ws ls:List Int} {cm:Option Int} {q:Int} {who:Nat} {lost:Bool} (h:(0:Int) ∉ Bj ws ls who lost):F5 ws ls cm q who lost = some (Bj ws ls who lost,D1 cm q lost):=by
 unfold F5
 rw [if_neg h]
theorem K5 (bs:List Bool):i9 (V.bl true) (bs.map V.bl) = decide (true ∈ bs):=by
 unfold i9
 rw [Bool.eq_iff_iff,List.any_eq_true,decide_eq_true_eq]
 constructor
 ·rintro ⟨x,hx,e⟩
  obtain ⟨b,hb,rfl⟩ := List.mem_map.mp hx
  cases b with
  | true=>exact hb
  | false=>simp [Xc] at e
 ·exact fun h=>⟨V.bl true,List.mem_map.mpr ⟨true,h,rfl⟩,by simp [Xc]⟩
theorem Uv (bs:List Bool):(bs.map V.bl).all Fc = true:=by
 rw [List.all_map]
 simp [Fc]
theorem Yv {H:Hp} {ps:List Eb} {us:List V} (h:Ah (fun (e:Eb) u=>av H (e.k,.int e.r) u) ps us):us.length = (Jq ps).length /\ ∀ (j:Nat) u q,us[j]? = some u -> (Jq ps)[j]? = some q -> ∃ t b,u = .ref t /\ H t = some (.tup [.ref b,q.2]) /\ E5 H b q.1:=by
 refine ⟨by rw [Oi]; exact h.1,fun j u q e1 e2=>?_⟩
 unfold Jq at e2
 rw [List.getElem?_map] at e2
 obtain ⟨p,hp,rfl⟩ := Option.map_eq_some_iff.mp e2
 exact h.2 j p u hp e1
theorem Wy {n k:Nat} (h:k < n):¬ (HT.sIx n 0 none = 0 /\ HT.sIx n n (some (k:Int)) = n):=by
 rw [HT.sIx_nat]
 omega
theorem gm {n k:Nat} (h:k < n):¬ (HT.sIx n 0 (some ((k:Int) + 1)) = 0 /\ HT.sIx n n none = n):=by
 have e:((k:Int) + 1) = ((k + 1:Nat):Int):=by omega
 rw [e,HT.sIx_nat]
 omega
def Ck (n m:Nat) (X:Nat -> Prop) (H:Hp) (us:List V):Prop:=us.length <= m /\ ∀ u ∈ us,∃ p:Eb,EV H p u /\ p.k.1.length = n /\ 0 <= p.k.2 /\ X p.a.length
theorem Ck.up {n m:Nat} {X:Nat -> Prop} {H H':Hp} {us:List V} (s:Ae H H') (h:Ck n m X H us):Ck n m X H' us:=⟨h.1,fun u hu=>by
 obtain ⟨p,h1,h2⟩ := h.2 u hu
 exact ⟨p,h1.up s,h2⟩⟩
theorem Ck.mono {n m m':Nat} {X Y:Nat -> Prop} {H:Hp} {us:List V} (h:Ck n m X H us) (hm:m <= m') (hx:∀ i,X i -> Y i):Ck n m' Y H us:=⟨Nat.le_trans h.1 hm,fun u hu=>by
 obtain ⟨p,h1,h2,h3,h4⟩ := h.2 u hu
 exact ⟨p,h1,h2,h3,hx _ h4⟩⟩
theorem Ck.all {n m:Nat} {H:Hp} {us:List V} (hm:m <= 2000) (h:Ck n m (· <= 20) H us):∃ ps,Ah (EV H) ps us /\ Y7 n ps:=by
 have key:∀ us:List V,(∀ u ∈ us,∃ p:Eb,EV H p u /\ p.k.1.length = n /\ 0 <= p.k.2 /\ p.a.length <= 20) -> ∃ ps,Ah (EV H) ps us /\ ∀ p ∈ ps,p.k.1.length = n /\ 0 <= p.k.2 /\ p.a.length <= 20:=by
  intro us
  induction us with
  | nil=>exact fun _=>⟨[],Ah.nil,fun p hp=>by cases hp⟩
  | cons u us ih =>
   intro h
   obtain ⟨ps,h1,h2⟩ := ih fun v hv=>h v (List.mem_cons_of_mem _ hv)
   obtain ⟨p,h3,h4⟩ := h u List.mem_cons_self
   refine ⟨p :: ps,Ah.cons h3 h1,fun x hx=>?_⟩
   rcases List.mem_cons.mp hx with z | z
   ·rw [z]
    exact h4
   ·exact h2 x z
 obtain ⟨ps,h1,h2⟩ := key us h.2
 exact ⟨ps,h1,h2,by have:=h1.1; have:=h.1; omega⟩
theorem Ck.cut {n m:Nat} {X:Nat -> Prop} {H:Hp} {us:List V} (h:Ck n m X H us) (lo hi:Option Int):Ck n m X H (Eh us lo hi):=⟨Nat.le_trans (Gj _ _ _) h.1,fun u hu=>h.2 u (Yq hu)⟩
theorem Ck.app {n m k:Nat} {X:Nat -> Prop} {H:Hp} {us vs:List V} (h:Ck n m X H us) (g:Ck n k X H vs):Ck n (m + k) X H (us ++ vs):=⟨by rw [List.length_append]; have:=h.1; have:=g.1; omega,fun u hu=>by
 rcases List.mem_append.mp hu with z | z
 ·exact h.2 u z
 ·exact g.2 u z⟩
theorem Ck.one {n:Nat} {X:Nat -> Prop} {H:Hp} {u:V} {p:Eb} (h:EV H p u) (hl:p.k.1.length = n) (hq:0 <= p.k.2) (hx:X p.a.length):Ck n 1 X H [u]:=⟨Nat.le_refl _,fun v hv=>by
 rw [List.mem_singleton.mp hv]
 exact ⟨p,h,hl,hq,hx⟩⟩
theorem Ck.sub {n m k:Nat} {X:Nat -> Prop} {H:Hp} {us vs:List V} (h:Ck n m X H us) (hs:∀ v ∈ vs,v ∈ us) (hl:vs.length <= k):Ck n k X H vs:=⟨hl,fun u hu=>h.2 u (hs u hu)⟩
theorem X5 {H:Hp}:∀ bs:List Bool,RpAll H (bs.map PyData.bool) (bs.map V.bl)
 | []=>by unfold RpAll; rfl
 | b :: bs=>by
  show RpAll H (PyData.bool b :: bs.map PyData.bool) (V.bl b :: bs.map V.bl)
  unfold RpAll
  exact ⟨_,_,rfl,by unfold Rp; rfl,X5 bs⟩
def dE (p:Eb):PyData := .tuple [dS p.k,.int p.r,.tuple (p.a.map PyData.bool)]
theorem EV.rp {H:Hp} {p:Eb} {u:V} (h:EV H p u):Rp H (dE p) u:=by
 obtain ⟨t,b,m,rfl,h1,h2,h3⟩ := h
 unfold dE Rp
 refine ⟨_,_,rfl,h1,?_⟩
 unfold RpAll
 refine ⟨_,_,rfl,aq h2,?_⟩
 unfold RpAll
 refine ⟨_,_,rfl,Ll _,?_⟩
 unfold RpAll
 refine ⟨_,_,rfl,?_,?_⟩
 ·unfold Rp
  exact ⟨_,_,rfl,h3,X5 _⟩
 ·unfold RpAll
  rfl
theorem Ts {H:Hp} {ps:List Eb} {us:List V} (h:Ah (EV H) ps us):RpAll H (ps.map dE) us:=X2 (fun _ _ y=>EV.rp y) h
theorem Wv (bs:List Bool):PyData.depthAll (bs.map PyData.bool) <= 1:=by
 refine Gf (n:=1) fun d hd=>?_
 obtain ⟨b,_,rfl⟩ := List.mem_map.mp hd
 simp [PyData.depth]
theorem Rh (ps:List Eb):(PyData.list (ps.map dE)).depth <= 60:=by
 have:=Gf (n:=50) (ds:=ps.map dE) fun d hd=>by
  obtain ⟨p,_,rfl⟩ := List.mem_map.mp hd
  have:=Wv p.a
  unfold dE
  simp only [PyData.depth,PyData.depthAll,Rg]
  omega
 simp only [PyData.depth]
 omega
theorem Ln {α:Type} (x:α):∀ n:Nat,(List.replicate n [x]).flatten = List.replicate n x
 | 0=>rfl
 | n + 1=>by
  rw [List.replicate_succ,List.flatten_cons,Ln x n,List.replicate_succ]
  rfl
theorem Py {ws:List Int} {cm:Option Int} {tv ps:List ((List Int × Int) × V)} {H:Hp} {us:List V} (hok:E4 ws cm) (hk:Te ws cm tv ps) (hall:Ah (Iu tv ws cm H) ps us):Ck ws.length 301 (· = ws.length) H us:=by
 refine ⟨by have:=hk.1.len hok; have:=hall.1; omega,fun u hu=>?_⟩
 obtain ⟨i,hi⟩ := List.mem_iff_getElem?.mp hu
 obtain ⟨kv,hkv,p,b,t,m,rfl,h1,h2,h3,h4,h5⟩ := hall.get hi
 have hs:=(hk.1.ent kv (List.mem_of_getElem? hkv)).1.1
 exact ⟨⟨kv.1,m,Gm tv ws kv.1.1 cm kv.1.2⟩,⟨p,b,t,rfl,h1,h2,h5⟩,(Fi hs).1,(Fi hs).2.2.1,Er _ _ _ _ _⟩
def r8 (D:Addr) (H H':Hp):Prop := ∀ b ob,b ≠ D -> H b = some ob -> H' b = some ob
def km (D c:Addr) (H H':Hp):Prop := ∀ b ob,b ≠ D -> b ≠ c -> H b = some ob -> H' b = some ob
def cu (ws:List Int) (cm:Option Int) (H:Hp) (kvs:List ((List Int × Int) × V)) (i:Nat) (H':Hp) (wv:List ((List Int × Int) × V)):Prop := ∀ k who later,(∃ v,(k,v) ∈ kvs.take i) -> Au H kvs k who -> some later ∈ Cj ws k.1 cm k.2 who -> Cv H' wv later k who
def jo (ws:List Int) (cm:Option Int) (cs:List (Dv × V)) (j:Nat) (kk:List Int × Int) (H':Hp) (wv:List ((List Int × Int) × V)):Prop := ∀ who later,(∃ e ∈ cs.take j,e.1 = .inl ((who:Nat):Int)) -> some later ∈ Cj ws kk.1 cm kk.2 who -> Cv H' wv later kk who
def ab (kvs:List ((List Int × Int) × V)) (H' H:Hp):Prop := ∀ k who,Au H' kvs k who -> Au H kvs k who
def cc (ws:List Int) (cm:Option Int) (kvs:List ((List Int × Int) × V)) (rho:List (List Int × Int)) (i:Nat) (H H':Hp):Prop := ∀ k who,Au H kvs k who -> (∀ later ∈ rho.take i,some later ∉ Cj ws k.1 cm k.2 who) -> Au H' kvs k who
def g9 (ws:List Int) (cm:Option Int) (kvs:List ((List Int × Int) × V)) (rho:List (List Int × Int)) (i:Nat) (H':Hp):Prop := ∀ later ∈ rho.take i,∀ k who,some later ∈ Cj ws k.1 cm k.2 who -> ¬ Au H' kvs k who
def k9 (kvs:List ((List Int × Int) × V)) (H H':Hp) (beta:List (List Int × Int)):Prop := ∀ k,k ∈ beta ↔ ((∃ who,Au H kvs k who) /\ ∀ who,¬ Au H' kvs k who)
def rh (H7:Hp) (us2:List V) (j:Nat) (H8:Hp) (kvs:List ((List Int × Int) × V)):Prop := ∀ t b who k,V.ref t ∈ us2.take j -> H7 t = some (.tup [.ref b,.int ((who:Nat):Int)]) -> E5 H7 b k -> ¬ Au H8 kvs k who
def si (T:Addr) (kvs:List ((List Int × Int) × V)) (H4 H':Hp):Prop := ∀ b ob,b ≠ T -> H4 b = some ob -> (∀ kv ∈ kvs,kv.2 ≠ .ref b) -> H' b = some ob
theorem Hv:B7 [V.bl false] [Value.bool false] := .cons rfl .nil
theorem md {us:List Value} (h:us.length = 0):us = []:=List.length_eq_zero_iff.mp h
theorem Jz {us:List Value} (h:us.length = 1):∃ a0,us = [a0]:=by
 cases us with
 | nil=>cases h
 | cons a us =>
  obtain rfl:=md (Nat.succ.inj h)
  exact ⟨a,rfl⟩
theorem Mg {us:List Value} (h:us.length = 2):∃ a0 a1,us = [a0,a1]:=by
 cases us with
 | nil=>cases h
 | cons a us =>
  obtain ⟨a1,rfl⟩ := Jz (Nat.succ.inj h)
  exact ⟨a,a1,rfl⟩
theorem Me {us:List Value} (h:us.length = 3):∃ a0 a1 a2,us = [a0,a1,a2]:=by
 cases us with
 | nil=>cases h
 | cons a us =>
  obtain ⟨a1,a2,rfl⟩ := Mg (Nat.succ.inj h)
  exact ⟨a,a1,a2,rfl⟩
theorem Se {us:List Value} (h:us.length = 4):∃ a0 a1 a2 a3,us = [a0,a1,a2,a3]:=by
 cases us with
 | nil=>cases h
 | cons a us =>
  obtain ⟨a1,a2,a3,rfl⟩ := Me (Nat.succ.inj h)
  exact ⟨a,a1,a2,a3,rfl⟩
section
variable {P:Program} {w:World} {K:PySem.W.Frag} {mg:Str -> Option Value} {base:Heap} {ad:qm}
def Oa (K:PySem.W.Frag):Sp:=fun vs H Q _=>Pj fun (a:Addr) (ws:List Int) (cm:Option Int)=>Ou (vs = [.ref a]) (Bq H a ws cm) (∀ (p:Addr) (H':Hp),A7 H H' -> Dx H' p ws 0 -> Q (.ref p) H')
theorem de {fd  : FuncData} (T:Txt K mg ad) (F:Fj K "beginning" "beginning" Nq ad.f_x19 fd):Al P w K mg base Bv 1 ad.f_x19 fd ["hall"] (Oa K):=by
 refine F.ok f8 (fun vs H Q E h=>?_) (fun cdv A outer s H vs Q E hr h=>?_)
 ·rcases h with ⟨a,ws,cm,rfl,⟨t,ha,ht⟩,q⟩ <;> rfl
 ·obtain ⟨a,ws,cm,rfl,⟨t,ha,ht⟩,q⟩ := h
  refine ⟨_,(Ab (Ad (Bh (A0 (Bc (Bb K) (pv 0) A9 (fun _ _=>rfl)) (A0 A9 A8))))),?_⟩
  refine ⟨_,rfl,a,_,_,_,rfl,rfl,.inr (Br.of ha),rfl,?_⟩
  exact ⟨B0,fun p hp=>q p _ (A7.upd hp) ⟨t,A5,A7.upd hp _ _ ht⟩⟩
def Iz (K:PySem.W.Frag):Sp:=fun vs H Q _=>Z9 fun (a b:Addr) (ws ls:List Int) (calm:Option Int) (q:Int)=>Kt (vs = [.ref a,.ref b]) (Bq H a ws calm) (Dx H b ls q) (Q (.bl (!decide (calm = none) && decide (q = 0))) H)
theorem gp {fd  : FuncData} (T:Txt K mg ad) (F:Fj K "may_lose" "may_lose" Mj ad.f_x24 fd):Al P w K mg base Bv 1 ad.f_x24 fd ["hall","standing"] (Iz K):=by
 refine F.ok gh (fun vs H Q E h=>?_) (fun cdv A outer s H vs Q E hr h=>?_)
 ·rcases h with ⟨a,b,ws,ls,calm,n,rfl,⟨t,ha,_⟩,⟨u,hb,_⟩,q⟩ <;> rfl
 ·obtain ⟨a,b,ws,ls,calm,n,rfl,⟨t,ha,_⟩,⟨u,hb,_⟩,q⟩ := h
  refine ⟨_,(Ab (Ad (U7 (E8 Ij (Bc (Bb K) (pv 0) A9 (fun _ _=>rfl)) D7 (Aw _)) (On (E8 Dm (Bc (Bb K) (pv 1) A9 (fun _ _=>rfl)) A9 (Aw _)))))),?_⟩
  refine ⟨_,rfl,a,_,_,_,rfl,rfl,.inr (Br.of ha),rfl,rfl,_,decide (V.int n = V.int 0),rfl,fun _ Q' z=>⟨_,rfl,b,_,_,_,rfl,rfl,.inr (Br.of hb),rfl,rfl,z⟩,?_⟩
  have e2:decide (V.int n = V.int 0) = decide (n = 0):=by simp
  rw [fk,e2]
  exact q
def Xb (K:PySem.W.Frag):Sp:=fun vs H Q _=>Wh fun (a:Addr) (ws:List Int) (calm:Option Int) (who:Int)=>Ou (vs = [.ref a,.int who]) (Bq H a ws calm) (Q (.bl (decide (0 <= who /\ who < ws.length))) H)
theorem kh {fd  : FuncData} (T:Txt K mg ad) (F:Fj K "is_listener" "is_listener" W1 ad.f_x9 fd):Al P w K mg base Bv 1 ad.f_x9 fd ["hall","who"] (Xb K):=by
 refine F.ok l0 (fun vs H Q E h=>?_) (fun cdv A outer s H vs Q E hr h=>?_)
 ·rcases h with ⟨a,ws,calm,who,rfl,⟨t,ha1,ha2⟩,q⟩ <;> rfl
 ·obtain ⟨a,ws,calm,who,rfl,⟨t,ha1,ha2⟩,q⟩ := h
  refine ⟨_,(Ab (Ad (U7 (E8 Xn (pv 1) A9 (Aw _)) (On (E8 Hx (pv 1) (Ay (Be K) (by rfl) T.n_len PySem.boot_len (A0 (Bc (Bb K) (pv 0) A9 (fun _ _=>rfl)) A8)) (Aw _)))))),?_⟩
  refine ⟨_,rfl,_,_,rfl,rfl,_,decide (who < (ws.length:Int)),rfl,fun _ Q' z=>⟨_,rfl,_,rfl,a,_,_,_,rfl,rfl,.inr (Br.of ha1),rfl,t,_,rfl,.inr (Br.of ha2),_,_,rfl,rfl,?_⟩,?_⟩
  ·rw [List.length_map]
   exact z
  ·rw [show (decide (who >= 0) && decide (who < (ws.length:Int))) = decide (0 <= who /\ who < (ws.length:Int)) by rw [Bool.decide_and]]
   exact q
def Y9 (K:PySem.W.Frag):Sp:=fun vs H Q _=>au fun (a b:Addr) (ws ls:List Int) (calm:Option Int) (q:Int) (who:Nat) (lost:Bool)=>L6 (vs = [.ref a,.ref b,.int who,.bl lost]) (Bq H a ws calm) (Dx H b ls q) (who < ws.length) (R7 calm q lost) (Q .non H)
theorem ig {fd fd_x9 fd_x24:FuncData} (T:Txt K mg ad) (F:Fj K "refuse_wrong_turn" "refuse_wrong_turn" Vv ad.f_x1 fd) (G_x9:Al P w K mg base Bv 1 ad.f_x9 fd_x9 ["hall","who"] (Xb K)) (B_x9:B8 K fd_x9 ["hall","who"] []) (G_x24:Al P w K mg base Bv 1 ad.f_x24 fd_x24 ["hall","standing"] (Iz K)) (B_x24:B8 K fd_x24 ["hall","standing"] []):Al P w K mg base Bv 2 ad.f_x1 fd ["hall","standing","who","lost"] (Y9 K):=by
 refine F.ok jb (fun vs H Q E h=>?_) (fun cdv A outer s H vs Q E hr h=>?_)
 ·rcases h with ⟨a,b,ws,ls,calm,n,who,lost,rfl,ha,hb,hw,hm,q⟩ <;> rfl
 ·obtain ⟨a,b,ws,ls,calm,n,who,lost,rfl,ha,hb,hw,hm,q⟩ := h
  refine ⟨_,(A6 (Bp (E3 (Dl (Aj G_x9 (hr.mono (by decide)) rfl T.m_x9 T.k_x9 B_x9 .nil Bf (A0 (pv 0) (A0 (pv 2) A8))))) (Ab Kh) Ak) (Ab (Bp (PW.pt (P5 (Dl (pv 3)) (Go (E3 (Dl (Aj G_x24 (hr.mono (by decide)) rfl T.m_x24 T.k_x24 B_x24 .nil Bf (A0 (pv 0) (A0 (pv 1) A8)))))))) (Ab Kh) Ak))),?_⟩
  obtain ⟨t,ha1,ha2⟩ := id ha
  refine ⟨_,rfl,_,rfl,a,ws,calm,(who:Int),rfl,ha,_,rfl,Fs ?_ ?_⟩
  ·rw [decide_eq_true (show (0:Int) <= (who:Int) /\ (who:Int) < (ws.length:Int) by omega)]
   rfl
  refine ⟨_,rfl,_,rfl,!(!decide (calm = none) && decide (n = 0)),fun _ Q' z=>⟨_,rfl,_,rfl,a,b,ws,ls,calm,n,rfl,ha,hb,_,rfl,z⟩,Fs ?_ q⟩
  cases lost with
  | false=>rfl
  | true =>
   obtain ⟨h1,h2⟩ := hm rfl
   simp [h1,h2]
def S4 (K:PySem.W.Frag):Sp:=fun vs H Q _=>au fun (a b:Addr) (ws ls:List Int) (calm:Option Int) (q:Int) (who:Nat) (lost:Bool)=>Vt (vs = [.ref a,.ref b,.int who,.bl lost]) (Bq H a ws calm) (Dx H b ls q) (who < ws.length) (ls.length = ws.length) (ws.length <= 8) (R7 calm q lost) (∀ (l:Addr) (H':Hp),H l = none -> A7 H H' -> H' l = some (.lst ((Bj ws ls who lost).map V.int)) -> Q (.ref l) H')
theorem cr {fd fd_x1:FuncData} (T:Txt K mg ad) (F:Fj K "left_behind" "left_behind" Lo ad.f_x10 fd) (G_x1:Al P w K mg base Bv 2 ad.f_x1 fd_x1 ["hall","standing","who","lost"] (Y9 K)) (B_x1:B8 K fd_x1 ["hall","standing","who","lost"] []):Al P w K mg base Bv 3 ad.f_x10 fd ["hall","standing","who","lost"] (S4 K):=by
 refine F.ok Yn (fun vs H Q E h=>?_) (fun cdv A outer s H vs Q E hr h=>?_)
 ·rcases h with ⟨a,b,ws,ls,calm,n,who,lost,rfl,ha,hb,hw,hl,h8,hm,q⟩ <;> rfl
 ·obtain ⟨a,b,ws,ls,calm,n,who,lost,rfl,ha,hb,hw,hl,h8,hm,q⟩ := h
  refine ⟨_,(A6 (Db (Aj G_x1 (hr.mono (by decide)) rfl T.m_x1 T.k_x1 B_x1 .nil Bf (A0 (pv 0) (A0 (pv 1) (A0 (pv 2) (A0 (pv 3) A8)))))) (A6 (Du (i:=4) Yn.nd rfl (D4 (w':=K7 K _) (D5 (Bc (Bb K) (pv 1) A9 (fun _ _=>rfl)))) _ rfl J0 rfl rfl (fun _ _ _ _=>(Af (i:=0) Jm rfl (Or.inl rfl))) (fun _ _ _ _=>Da) (fun _ _ _ _=>(Ag Eu (pv 0) A9)) rfl rfl) (A6 (Ex (E3 (Dl (pv 3))) (Ab (L5 (Bc (Bb K) (Bc (Bb K) (pv 0) A9 (fun _ _=>rfl)) (pv 2) (fun _ _=>rfl)) (Pg (pv 4) (pv 2) Hz))) Ak) (Ab (Ad (pv 4)))))),?_⟩
  obtain ⟨t,ha1,ha2⟩ := id ha
  obtain ⟨u,hb1,hb2⟩ := id hb
  refine ⟨_,rfl,_,rfl,_,rfl,_,rfl,a,b,ws,ls,calm,n,who,lost,rfl,ha,hb,hw,hm,?_⟩
  refine ⟨_,rfl,b,_,_,_,rfl,rfl,.inr (Br.of hb1),rfl,u,rfl,.inr ⟨⟨_,Br.of hb2⟩,fun D hD=>?_⟩⟩
  refine Y4 (K:=K) (a:=u) (xs:=ls.map V.int) (fun i ys H'=>ys = ((ls.take i).map (fun x=>x - 1)).map V.int /\ H' D = some (.lst ys) /\ A7 H H') ⟨rfl,A5,A7.upd hD⟩ (by rintro i ys H' _ ⟨_,_,s⟩; exact Br.of (s _ _ hb2)) ?_ ?_
  ·rintro i x ys H' hx ⟨rfl,hD',s'⟩ Qe hQ
   rw [List.getElem?_map] at hx
   obtain ⟨y,hy,rfl⟩ := Option.map_eq_some_iff.mp hx
   have hi:=(List.getElem?_eq_some_iff.mp hy).1
   refine ⟨_,rfl,_,_,rfl,rfl,hQ _ _ hD' (Bd (by simp; omega)) ⟨?_,A5,s'.new hD⟩⟩
   rw [List.take_add_one,hy]
   simp
  rintro ys H2 ⟨rfl,hD2,s2⟩
  rw [List.length_map,List.take_length] at hD2
  refine ⟨_,rfl,_,rfl,(fun σ' H'=>σ' = [some (.ref a),some (.ref b),some (.int (who:Nat)),some (.bl lost),some (.ref D)] /\ A7 H H' /\ H' D = some (.lst ((Bj ws ls who lost).map V.int))),fun e=>?_,fun e=>?_,?_⟩
  ·have e':lost = false:=by simpa using e
   subst e'
   refine ⟨_,rfl,a,_,_,_,rfl,rfl,.inr (Br.of (s2 _ _ ha1)),rfl,_,rfl,t,_,_,_,rfl,rfl,.inr (Br.of (s2 _ _ ha2)),U1 hw,?_⟩
   refine ⟨_,rfl,_,rfl,D,_,_,_,rfl,rfl,hD2,U0 (by simp; omega),rfl,s2.new hD,?_⟩
   rw [A5]
   unfold Bj
   simp
  ·have e':lost = true:=by simpa using e
   subst e'
   exact ⟨rfl,s2,hD2⟩
  ·rintro σ' H' ⟨rfl,s3,e3⟩
   exact ⟨_,rfl,q D H' hD s3 e3⟩
def Wk (K:PySem.W.Frag):Sp:=fun vs H Q _=>n8 fun (a b:Addr) (ws ls:List Int) (calm:Option Int) (q:Int) (lost:Bool)=>Gy (vs = [.ref a,.ref b,.bl lost]) (Bq H a ws calm) (Dx H b ls q) (R7 calm q lost) (Q (.int (D1 calm q lost)) H)
theorem im {fd  : FuncData} (T:Txt K mg ad) (F:Fj K "quiet_behind" "quiet_behind" Vc ad.f_x4 fd):Al P w K mg base Bv 1 ad.f_x4 fd ["hall","standing","lost"] (Wk K):=by
 refine F.ok kz (fun vs H Q E h=>?_) (fun cdv A outer s H vs Q E hr h=>?_)
 ·rcases h with ⟨a,b,ws,ls,calm,n,lost,rfl,⟨t,ha,_⟩,⟨u,hb,_⟩,hm,q⟩ <;> rfl
 ·obtain ⟨a,b,ws,ls,calm,n,lost,rfl,⟨t,ha,_⟩,⟨u,hb,_⟩,hm,q⟩ := h
  refine ⟨_,(A6 (Bp (Dl (pv 2)) (Ab (Ad (Bc (Bb K) (pv 0) A9 (fun _ _=>rfl)))) Ak) (Ab (Ad (Ay (Fb rfl) (by rfl) T.n_max boot_max (A0 (Ag Eu (Bc (Bb K) (pv 1) A9 (fun _ _=>rfl)) A9) (A0 A9 A8)))))),?_⟩
  refine ⟨_,rfl,_,rfl,?_⟩
  cases lost with
  | true =>
   refine Qd rfl ?_
   refine ⟨_,rfl,a,_,_,_,rfl,rfl,.inr (Br.of ha),rfl,?_⟩
   cases calm with
   | none=>exact absurd rfl (hm rfl).1
   | some c=>exact q
  | false =>
   refine Fs rfl ?_
   refine ⟨_,rfl,b,_,_,_,rfl,rfl,.inr (Br.of hb),rfl,_,_,rfl,rfl,_,_,rfl,?_⟩
   have e:(if (0:Int) > n - 1 then (0:Int) else n - 1) = D1 calm n false:=by
    unfold D1
    rw [if_neg Bool.false_ne_true]
    omega
   show Q (.int (if (0:Int) > n - 1 then (0:Int) else n - 1)) H
   rw [e]
   exact q
def Jl (K:PySem.W.Frag):Sp:=fun vs H Q _=>au fun (a b:Addr) (ws ls:List Int) (calm:Option Int) (q:Int) (who:Nat) (lost:Bool)=>Oq (vs = [.ref a,.ref b,.int who,.bl lost]) (Bq H a ws calm) (Dx H b ls q) (who < ws.length) (ls.length = ws.length) (ws.length <= 8) (R7 calm q lost) (((0:Int) ∈ Bj ws ls who lost -> ∀ H',A7 H H' -> Q .non H')) (((0:Int) ∉ Bj ws ls who lost -> ∀ (p:Addr) (H':Hp),A7 H H' -> Dx H' p (Bj ws ls who lost) (D1 calm q lost) -> Q (.ref p) H'))
theorem d4 {fd fd_x10 fd_x4:FuncData} (T:Txt K mg ad) (F:Z4 K "after" "after" Fr ad.f_x32 fd) (G_x10:Al P w K mg base Bv 3 ad.f_x10 fd_x10 ["hall","standing","who","lost"] (S4 K)) (B_x10:B8 K fd_x10 ["hall","standing","who","lost"] []) (G_x4:Al P w K mg base Bv 1 ad.f_x4 fd_x4 ["hall","standing","lost"] (Wk K)) (B_x4:B8 K fd_x4 ["hall","standing","lost"] []):Al P w K mg base Bv 4 ad.f_x32 fd ["hall","standing","who","lost"] (Jl K):=by
 refine F.ok Ym (fun vs H Q E h=>?_) (fun cdv A outer s H vs Q E hr h=>?_)
 ·rcases h with ⟨a,b,ws,ls,calm,n,who,lost,rfl,ha,hb,hw,hl,h8,hm,q1,q2⟩ <;> rfl
 ·obtain ⟨a,b,ws,ls,calm,n,who,lost,rfl,ha,hb,hw,hl,h8,hm,q1,q2⟩ := h
  refine ⟨_,(A6 (Ao (i:=4) Ym.nd rfl (Or.inl rfl) (Aj G_x10 (hr.mono (by decide)) rfl T.m_x10 T.k_x10 B_x10 .nil Bf (A0 (pv 0) (A0 (pv 1) (A0 (pv 2) (A0 (pv 3) A8)))))) (A6 (Bp (Ar (Yj K) A9 (pv 4) rfl) (Ab (Ad D7)) Ak) (Ab (Ad (Bh (A0 (Bt (C8 K) (by rfl) T.n_tuple boot_tuple (A0 (pv 4) A8)) (A0 (Aj G_x4 (hr.mono (by decide)) rfl T.m_x4 T.k_x4 B_x4 .nil Bf (A0 (pv 0) (A0 (pv 1) (A0 (pv 3) A8)))) A8))))))),?_⟩
  refine ⟨_,rfl,_,rfl,_,rfl,_,rfl,a,b,ws,ls,calm,n,who,lost,rfl,ha,hb,hw,hl,h8,hm,fun l H1 hl0 s1 hl1=>?_⟩
  refine ⟨_,rfl,l,_,rfl,.inl (B9.of hl1),rfl,N4 _,_,rfl,?_⟩
  rw [Qb]
  refine Cu (fun h0=>?_) (fun h0=>?_)
  ·exact q1 (by simpa using h0) H1 s1
  ·refine ⟨_,rfl,l,_,rfl,.inl ⟨B9.of hl1,fun t ht=>?_⟩⟩
   have s2:A7 H (upd H1 t (.tup ((Bj ws ls who lost).map V.int))):=s1.new (s1.free ht)
   refine ⟨_,rfl,_,rfl,_,rfl,a,b,ws,ls,calm,n,lost,rfl,ha.same s2,hb.same s2,hm,B0,fun p hp=>?_⟩
   refine q2 (by simpa using h0) p _ (s2.new (s2.free hp)) ⟨t,A5,?_⟩
   rw [Ac (fun e=>by rw [<- e,A5] at hp; cases hp),A5]
def Sj (K:PySem.W.Frag):Sp:=fun vs H Q _=>au fun (a b:Addr) (ws ls:List Int) (cm:Option Int) (q w:Int) (who:Nat)=>Vt (vs = [.ref a,.ref b,.int w]) (w = (who:Int)) (Bq H a ws cm) (Dx H b ls q) (who < ws.length) (ls.length = ws.length) (ws.length <= 8) (∀ (l:Addr) (us:List V) (H':Hp),H l = none -> A7 H H' -> H' l = some (.lst us) -> Ah (F4 H') (Cj ws ls cm q who) us -> Q (.ref l) H')
theorem dk {fd fd_x24 fd_x32:FuncData} (T:Txt K mg ad) (F:Fj K "all_behind" "all_behind" Mm ad.f_x15 fd) (G_x24:Al P w K mg base Bv 1 ad.f_x24 fd_x24 ["hall","standing"] (Iz K)) (B_x24:B8 K fd_x24 ["hall","standing"] []) (G_x32:Al P w K mg base Bv 4 ad.f_x32 fd_x32 ["hall","standing","who","lost"] (Jl K)) (B_x32:B8 K fd_x32 ["hall","standing","who","lost"] []) (B_after_d:B8 K fd_x32 ["hall","standing","who","lost"] [Value.bool false]):Al P w K mg base Bv 5 ad.f_x15 fd ["hall","standing","who"] (Sj K):=by
 refine F.ok Xm (fun vs H Q E h=>?_) (fun cdv A outer s H vs Q E hr h=>?_)
 ·rcases h with ⟨a,b,ws,ls,cm,n,w0,who,rfl,rfl,ha,hb,hw,hl,h8,q⟩ <;> rfl
 ·obtain ⟨a,b,ws,ls,cm,n,w0,who,rfl,rfl,ha,hb,hw,hl,h8,q⟩ := h
  refine ⟨_,(A6 (Ao (i:=3) Xm.nd rfl (Or.inl rfl) (Cl (A0 (Ql (Aj G_x32 (hr.mono (by decide)) rfl T.m_x32 T.k_x32 B_after_d (Hv) Bf (A0 (pv 0) (A0 (pv 1) (A0 (pv 2) A8))))) A8))) (A6 (Ex (Dl (Aj G_x24 (hr.mono (by decide)) rfl T.m_x24 T.k_x24 B_x24 .nil Bf (A0 (pv 0) (A0 (pv 1) A8)))) (Ab (Db (Fz (u':=Y5 K _ _ _ _) (Ha PySem.F.plainAttrs_list PySem.F.slot_list_append PySem.F.type_list_append Df (pv 3) (A0 (Ql (Aj G_x32 (hr.mono (by decide)) rfl T.m_x32 T.k_x32 B_x32 .nil Bf (A0 (pv 0) (A0 (pv 1) (A0 (pv 2) (A0 Cr A8)))))) A8))))) Ak) (Ab (Ad (pv 3))))),?_⟩
  refine ⟨(fun v H9=>F4 H9 (F5 ws ls cm n who false) v /\ A7 H H9),⟨_,rfl,_,rfl,_,rfl,a,b,ws,ls,cm,n,who,false,rfl,ha,hb,hw,hl,h8,(fun z=>nomatch z),(fun hz H2 s2=>⟨by unfold F5; rw [if_pos hz]; rfl,s2⟩),fun hz p H2 s2 hst=>⟨by unfold F5; rw [if_neg hz]; exact ⟨p,rfl,hst⟩,s2⟩⟩,?_⟩
  rintro v H1 ⟨hv,s1⟩
  refine ⟨B0,fun L hL=>?_⟩
  have s2:A7 H1 (upd H1 L (.lst [v])):=A7.upd hL
  have e2:(upd H1 L (.lst [v])) L = some (.lst [v]):=A5
  generalize upd H1 L (.lst [v]) = H2 at s2 e2 ⊢
  have s12:=s1.trans s2
  refine ⟨_,rfl,_,rfl,a,b,ws,ls,cm,n,rfl,ha.same s12,hb.same s12,_,rfl,(fun σ' H'=>∃ (us:List V),Kt (σ' = [some (.ref a),some (.ref b),some (.int who),some (.ref L)]) (H' L = some (.lst us)) (Ah (F4 H') (Cj ws ls cm n who) us) (A7 H H')),fun hm=>?_,fun hm=>?_,?_⟩
  ·have hm':Fw cm n = true:=hm
   have hmay:R7 cm n true:=fun _=>by
    unfold Fw at hm'
    simp only [Bool.and_eq_true,Bool.not_eq_true',decide_eq_false_iff_not,decide_eq_true_eq] at hm'
    exact hm'
   refine ⟨_,rfl,.inl ⟨rfl,_,B9.of e2⟩,(fun v H9=>F4 H9 (F5 ws ls cm n who true) v /\ A7 H2 H9),⟨_,rfl,_,rfl,_,rfl,a,b,ws,ls,cm,n,who,true,rfl,ha.same s12,hb.same s12,hw,hl,h8,hmay,(fun hz H2 s2=>⟨by unfold F5; rw [if_pos hz]; rfl,s2⟩),fun hz p H2 s2 hst=>⟨by unfold F5; rw [if_neg hz]; exact ⟨p,rfl,hst⟩,s2⟩⟩,?_⟩
   rintro v2 H3 ⟨hv2,s3⟩
   have e3:=s3 _ _ e2
   have tt:Ae H3 (upd H3 L (.lst ([v] ++ [v2]))):=Ae.lst e3
   refine ⟨L,_,_,rfl,rfl,e3,Bd (by simp),[v] ++ [v2],rfl,A5,?_,(s12.trans s3).new (s1.free hL)⟩
   unfold Cj
   rw [if_pos hm']
   exact Ah.cons (hv.up (((Ae.of s2).trans (Ae.of s3)).trans tt)) (Ah.one (hv2.up tt))
  ·have hm' : ¬ Fw cm n = true := by
    rw [show Fw cm n = false from hm]
    exact Bool.false_ne_true
   refine ⟨[v],rfl,e2,?_,s12⟩
   unfold Cj
   rw [if_neg hm']
   exact Ah.one (hv.up (Ae.of s2))
  rintro σ' H' ⟨us,rfl,eL,hall,s'⟩
  exact ⟨_,rfl,q L us H' (s1.free hL) s' eL hall⟩
def Tz (K:PySem.W.Frag):Sp:=fun vs H Q _=>Pj fun (a:Addr) (ws:List Int) (cm:Option Int)=>Ou (vs = [.ref a]) (Bq H a ws cm) (Q (.int (qv cm)) H)
theorem ki {fd  : FuncData} (T:Txt K mg ad) (F:Fj K "quiet_values" "quiet_values" V0 ad.f_x5 fd):Al P w K mg base Bv 1 ad.f_x5 fd ["hall"] (Tz K):=by
 refine F.ok j9 (fun vs H Q E h=>?_) (fun cdv A outer s H vs Q E hr h=>?_)
 ·rcases h with ⟨a,ws,cm,rfl,⟨t,ha1,ha2⟩,q⟩ <;> rfl
 ·obtain ⟨a,ws,cm,rfl,⟨t,ha1,ha2⟩,q⟩ := h
  refine ⟨_,(Ab (Ad (Wu (Ar Oo (Bc (Bb K) (pv 0) A9 (fun _ _=>rfl)) D7 (Aw _)) A9 (Ag C7 (Bc (Bb K) (pv 0) A9 (fun _ _=>rfl)) A9)))),?_⟩
  cases cm with
  | none=>exact ⟨_,rfl,a,_,_,_,rfl,rfl,.inr (Br.of ha1),rfl,rfl,_,rfl,Qd rfl q⟩
  | some c=>exact ⟨_,rfl,a,_,_,_,rfl,rfl,.inr (Br.of ha1),rfl,rfl,_,rfl,Fs rfl ⟨_,rfl,a,_,_,_,rfl,rfl,.inr (Br.of ha1),rfl,_,_,rfl,rfl,q⟩⟩
def Rx (K:PySem.W.Frag):Sp:=fun vs H Q _=>Pj fun (a:Addr) (ws:List Int) (cm:Option Int)=>L6 (vs = [.ref a]) (Bq H a ws cm) ((∀ w ∈ ws,intBits w <= 256)) (intBits (qv cm) <= 256) (ws.length <= 8) (Q (.int (Aq (qv cm) ws)) H)
theorem d6 {fd fd_x5:FuncData} (T:Txt K mg ad) (F:Fj K "how_many" "how_many" N6 ad.f_x25 fd) (G_x5:Al P w K mg base Bv 1 ad.f_x5 fd_x5 ["hall"] (Tz K)) (B_x5:B8 K fd_x5 ["hall"] []):Al P w K mg base Bv 2 ad.f_x25 fd ["hall"] (Rx K):=by
 refine F.ok Op (fun vs H Q E h=>?_) (fun cdv A outer s H vs Q E hr h=>?_)
 ·rcases h with ⟨a,ws,cm,rfl,⟨t,ha1,ha2⟩,hb,hqb,hl,q⟩ <;> rfl
 ·obtain ⟨a,ws,cm,rfl,⟨t,ha1,ha2⟩,hb,hqb,hl,q⟩ := h
  refine ⟨_,(A6 (Ao (i:=1) Op.nd rfl (Or.inl rfl) (Aj G_x5 (hr.mono (by decide)) rfl T.m_x5 T.k_x5 B_x5 .nil Bf (A0 (pv 0) A8))) (A6 (Cc PassesOwn.never rfl (D4 (w':=K7 K _) (D5 (Bc (Bb K) (pv 0) A9 (fun _ _=>rfl)))) (Af (i:=2) Op.nd rfl (Or.inl rfl)) (Ab (Ao (i:=1) Op.nd rfl (Or.inl rfl) (Ag Yu (pv 1) (pv 2))))) (Ab (Ad (pv 1))))),?_⟩
  refine ⟨_,rfl,a,ws,cm,rfl,⟨t,ha1,ha2⟩,?_⟩
  refine ⟨_,rfl,a,_,_,_,rfl,rfl,.inr (Br.of ha1),rfl,t,rfl,.inr ⟨⟨_,Br.of ha2⟩,?_⟩⟩
  refine Of (K:=K) (a:=t) (xs:=ws.map V.int) (fun i σ H'=>∃ (v2:Option V),σ = [some (.ref a),some (.int (Aq (qv cm) (ws.take i))),v2] /\ H' = H) ⟨none,rfl,rfl⟩ (by rintro i σ H' _ ⟨_,_,e⟩; exact (by rw [e]; exact Br.of ha2)) ?_ ?_
  ·rintro i y σ H' hy ⟨v2,rfl,eH⟩
   subst eH
   rw [List.getElem?_map] at hy
   obtain ⟨x,hx,rfl⟩ := Option.map_eq_some_iff.mp hy
   have hi:=(List.getElem?_eq_some_iff.mp hx).1
   have b1:=Mv hqb hb i (by omega)
   refine ⟨_,rfl,_,rfl,_,_,rfl,rfl,j7 b1 (hb x (List.mem_of_getElem? hx)) (by omega),?_⟩
   refine ⟨some (.int x),?_,rfl⟩
   have e:Aq (qv cm) (ws.take (i + 1)) = Aq (qv cm) (ws.take i) * x:=Fh _ _ _ hx
   rw [e]
   rfl
  ·rintro σ H' ⟨v2,rfl,eH⟩
   subst eH
   rw [List.length_map,List.take_length]
   exact ⟨_,rfl,q⟩
def Tn (K:PySem.W.Frag):Sp:=fun vs H Q _=>We fun (t:Addr) (ws:List Int)=>L6 (vs = [.ref t]) (H t = some (.tup (ws.map V.int))) ((∀ w ∈ ws,1 <= w)) (Aq 1 ws <= 3000) (ws.length <= 8) (∀ (l:Addr) (us:List V) (H':Hp),H l = none -> A7 H H' -> H' l = some (.lst us) -> Ah (Ej H') (Cd ws) us -> Q (.ref l) H')
theorem fm {fd  : FuncData} (T:Txt K mg ad) (F:Fj K "all_left" "all_left" Kd ad.f_x26 fd):Al P w K mg base Bv 1 ad.f_x26 fd ["waits"] (Tn K):=by
 refine F.ok Jh (fun vs H Q E h=>?_) (fun cdv A outer s H vs Q E hr h=>?_)
 ·rcases h with ⟨t,ws,rfl,ht,hw1,hp,hl8,q⟩ <;> rfl
 ·obtain ⟨t,ws,rfl,ht,hw1,hp,hl8,q⟩ := h
  refine ⟨_,(A6 (Ao (i:=1) Jh.nd rfl (Or.inl rfl) (Cl (A0 (Bh A8) A8))) (A6 (Cc PassesOwn.never rfl (D4 (w':=K7 K _) (D5 (pv 0))) (Af (i:=2) Jh.nd rfl (Or.inl rfl)) (A6 (Ao (i:=3) Jh.nd rfl (Or.inl rfl) (Cl A8)) (A6 (Cc PassesOwn.never rfl (D4 (w':=K7 K _) (D5 (pv 1))) (Af (i:=4) Jh.nd rfl (Or.inr rfl)) (Ab (Db (Fz (u':=Y5 K _ _ _ _) (Ha PySem.F.plainAttrs_list PySem.F.slot_list_extend PySem.F.type_list_extend J6 (pv 3) (A0 (Em (Vg (by rfl) T.n_range (A0 A9 (A0 (Ag C7 (pv 2) A9) A8))) _ rfl M8 rfl rfl (fun _ _ _ _=>(Af (i:=0) Lq rfl (Or.inl rfl))) (fun _ _ _ _=>Da) (fun _ _ _ _=>(Ag (Oy K) (pv 1) (Bh (A0 (pv 0) A8))))) A8)))))) (Ab (Ao (i:=1) Jh.nd rfl (Or.inl rfl) (pv 3)))))) (Ab (Ad (pv 1))))),?_⟩
  refine ⟨B0,fun E0 hE0=>⟨B0,fun L0 hL0=>?_⟩⟩
  have s0:A7 H (upd H E0 (.tup [])):=A7.upd hE0
  have e0:(upd H E0 (.tup [])) E0 = some (.tup (([]:List Int).map V.int)):=A5
  generalize upd H E0 (.tup []) = H0 at s0 e0 hL0 ⊢
  have s1:A7 H0 (upd H0 L0 (.lst [.ref E0])):=A7.upd hL0
  have e1:(upd H0 L0 (.lst [.ref E0])) L0 = some (.lst [.ref E0]):=A5
  have r1:Ah (Ej (upd H0 L0 (.lst [.ref E0]))) (Cd (ws.take 0)) [.ref E0]:=Ah.one ⟨E0,rfl,s1 _ _ e0⟩
  generalize upd H0 L0 (.lst [.ref E0]) = H1 at s1 e1 r1 ⊢
  have s01:=s0.trans s1
  refine ⟨_,rfl,t,rfl,.inr ⟨⟨_,Br.of (s01 _ _ ht)⟩,?_⟩⟩
  refine Of (K:=K) (a:=t) (xs:=ws.map V.int) (fun i σ H'=>iw fun (L:Addr) (us:List V) (v2 v3 v4:Option V)=>Gy (σ = [some (.ref t),some (.ref L),v2,v3,v4]) (H' L = some (.lst us)) (A7 H H') (Ah (Ej H') (Cd (ws.take i)) us) (H L = none))
   ⟨L0,_,none,none,none,rfl,e1,s01,r1,s0.free hL0⟩ (by rintro i σ H' _ ⟨_,_,_,_,_,_,_,s,_,_⟩; exact Br.of (s _ _ ht)) ?_ ?_
  ·rintro i y σ H2 hy ⟨L,us,v2,v3,v4,rfl,f1,s2,f2,hL⟩
   rw [List.getElem?_map] at hy
   obtain ⟨w,hw,rfl⟩ := Option.map_eq_some_iff.mp hy
   have hwi:=hw1 w (List.mem_of_getElem? hw)
   have hlen1:=My hw1 hp i
   have hlen2:=My hw1 hp (i + 1)
   have erow:Cd (ws.take (i + 1)) = C9 (Cd (ws.take i)) w:=Fh _ _ _ hw
   rw [erow,Kq] at hlen2
   have hiw:=(List.getElem?_eq_some_iff.mp hw).1
   have hrl:∀ r ∈ Cd (ws.take i),r.length <= 8:=fun r hr=>by
    have:=(Ia ws i (by omega) r hr).1
    omega
   generalize Cd (ws.take i) = rows at f2 hlen1 hlen2 erow hrl
   refine ⟨B0,fun D hD=>?_⟩
   have s3:A7 H2 (upd H2 D (.lst [])):=A7.upd hD
   have e3:(upd H2 D (.lst [])) D = some (.lst []):=A5
   have f3:=s3 _ _ f1
   have g3:=f2.imp fun r v z=>Ej.up (Ae.of s3) z
   have nDL:L ≠ D:=An f1 hD
   generalize upd H2 D (.lst []) = H3 at s3 e3 f3 g3 ⊢
   refine ⟨_,rfl,L,rfl,.inl ⟨⟨_,B9.of f3⟩,?_⟩⟩
   refine Cq (K:=K) (a:=L) (xs:=us) (fun j σ H'=>We fun (zs:List V) (v4:Option V)=>Gy (σ = [some (.ref t),some (.ref L),some (.int w),some (.ref D),v4]) (H' D = some (.lst zs)) (H' L = some (.lst us)) (A7 H2 H') (Ah (Ej H') (C9 (rows.take j) w) zs))
    ⟨[],v4,rfl,e3,f3,s3,Ah.nil⟩ (by rintro j σ H' _ ⟨_,_,_,_,e,_⟩; exact B9.of e) ?_ ?_
   ·rintro j y σ H4 hy ⟨zs,v4',rfl,h1,h2,s4,h3⟩
    have g4:=f2.imp fun r v z=>Ej.up (Ae.of s4) z
    obtain ⟨r,hr1,p,rfl,hp4⟩ := g4.get hy
    have hj:=(List.getElem?_eq_some_iff.mp hr1).1
    have hr8:=hrl r (List.mem_of_getElem? hr1)
    have ezl:zs.length = (rows.take j).length * w.toNat:=by rw [h3.1,Kq]
    have hzl:zs.length <= 3000:=by
     rw [ezl]
     refine Nat.le_trans (Nat.mul_le_mul_right _ ?_) hlen2
     rw [List.length_take]
     omega
    have hw3:w.toNat <= 3000:=Nat.le_trans (Nat.le_mul_of_pos_left _ (by omega)) hlen2
    refine ⟨_,rfl,.inl ⟨rfl,_,B9.of h1⟩,_,rfl,_,_,rfl,rfl,1,w + 1,rfl,by omega,fun B hB=>?_⟩
    refine Fp (fun m ys H'=>H' B = some (.lst ys) /\ A7 H4 H' /\ Ah (Ej H') ((List.range m).map fun t=>r ++ [1 + ((t:Nat):Int)]) ys) ⟨A5,A7.upd hB,Ah.nil⟩ ?_ ?_
    ·rintro m ys H5 hm ⟨k1,s5,k2⟩ Qe hQ
     refine ⟨_,rfl,_,rfl,B0,fun P hP=>?_⟩
     have s6:A7 H5 (upd H5 P (.tup [.int (1 + (m:Int))])):=A7.upd hP
     refine ⟨p,P,_,_,rfl,rfl,Br.of (s6 _ _ (s5 _ _ hp4)),A5,by simp,Nat.le_of_lt (Fe (by simp; omega)),fun p' H6 s7 e7=>?_⟩
     generalize upd H5 P (.tup [.int (1 + (m:Int))]) = H5' at s6 s7
     have s57:=s6.trans s7
     have k1':=s57 _ _ k1
     have kl:ys.length = m:=by rw [k2.1]; simp
     refine hQ _ _ k1' (Fe (by omega)) ⟨A5,(s5.trans s57).new hB,?_⟩
     have tu:Ae H5 (upd H6 B (.lst (ys ++ [.ref p']))):=(Ae.of s57).trans (Ae.lst k1')
     rw [List.range_succ,List.map_append]
     refine (k2.imp fun r v z=>Ej.up tu z).append (Ah.one ⟨p',rfl,?_⟩)
     refine Ae.lst k1' _ _ ?_
     rw [e7,List.map_append]
     rfl
    ·rintro ys H5 ⟨k1,s5,k2⟩
     have eB:((List.range (w + 1 - 1).toNat).map fun t=>r ++ [1 + ((t:Nat):Int)]) = Ox r w:=by
      rw [show w + 1 - 1 = w by omega]
      rfl
     rw [eB] at k2
     have h1':=s5 _ _ h1
     have kl:ys.length = w.toNat:=by rw [k2.1,Qa]
     refine ⟨D,B,_,_,rfl,rfl,h1',k1,Nat.le_of_lt (Fe (by omega)),?_⟩
     have tu:Ae H5 (upd H5 D (.lst (zs ++ ys))):=Ae.lst h1'
     refine ⟨zs ++ ys,_,rfl,A5,by rw [Ac nDL]; exact s5 _ _ h2,(s4.trans s5).new hD,?_⟩
     have e:C9 (rows.take (j + 1)) w = C9 (rows.take j) w ++ Ox r w:=Mr _ _ hr1
     rw [e]
     exact (h3.imp fun r v z=>Ej.up ((Ae.of s5).trans tu) z).append (k2.imp fun r v z=>Ej.up tu z)
   ·rintro σ H4 ⟨zs,v4',rfl,h1,h2,s4,h3⟩
    rw [f2.1,List.take_length] at h3
    refine ⟨_,rfl,D,zs,_,_,_,rfl,h1,s2.trans s4,?_,s2.free hD⟩
    rw [erow]
    exact h3
  ·rintro σ H2 ⟨L,us,v2,v3,v4,rfl,f1,s2,f2,hL⟩
   rw [List.length_map,List.take_length] at f2
   exact ⟨_,rfl,q L us H2 hL s2 f1 f2⟩
def To (K:PySem.W.Frag):Sp:=fun vs H Q _=>Pj fun (a:Addr) (ws:List Int) (cm:Option Int)=>Oq (vs = [.ref a]) (Bq H a ws cm) ((∀ w ∈ ws,1 <= w)) (1 <= qv cm) ((∀ w ∈ ws,intBits w <= 256)) (intBits (qv cm) <= 256) (ws.length <= 8) (Aq (qv cm) ws <= 3000) (∀ (l:Addr) (us:List V) (H':Hp),H l = none -> A7 H H' -> H' l = some (.lst us) -> Ah (G8 H') (Bk ws (qv cm)) us -> Q (.ref l) H')
theorem cz {fd fd_x26 fd_x25 fd_x5:FuncData} (T:Txt K mg ad) (F:Fj K "standings" "standings" Lp ad.f_x20 fd) (G_x26:Al P w K mg base Bv 1 ad.f_x26 fd_x26 ["waits"] (Tn K)) (B_x26:B8 K fd_x26 ["waits"] []) (G_x25:Al P w K mg base Bv 2 ad.f_x25 fd_x25 ["hall"] (Rx K)) (B_x25:B8 K fd_x25 ["hall"] []) (G_x5:Al P w K mg base Bv 1 ad.f_x5 fd_x5 ["hall"] (Tz K)) (B_x5:B8 K fd_x5 ["hall"] []):Al P w K mg base Bv 3 ad.f_x20 fd ["hall"] (To K):=by
 refine F.ok Th (fun vs H Q E h=>?_) (fun cdv A outer s H vs Q E hr h=>?_)
 ·rcases h with ⟨a,ws,cm,rfl,⟨t,ha1,ha2⟩,hw1,hq1,hb,hqb,hl8,hp,q⟩ <;> rfl
 ·obtain ⟨a,ws,cm,rfl,⟨t,ha1,ha2⟩,hw1,hq1,hb,hqb,hl8,hp,q⟩ := h
  refine ⟨_,(A6 (Bp (Ar N1 (Aj G_x25 (hr.mono (by decide)) rfl T.m_x25 T.k_x25 B_x25 .nil Bf (A0 (pv 0) A8)) (Zb (v := .int 3000) (by rfl) T.g_MOST_STANDINGS.choose_spec ⟨_,rfl⟩) (Aw _)) (Ab Kh) Ak) (A6 (Ao (i:=1) Th.nd rfl (Or.inl rfl) (Cl A8)) (A6 (Cc PassesOwn.never rfl (D4 (w':=K7 K _) (D5 (Aj G_x26 (hr.mono (by decide)) rfl T.m_x26 T.k_x26 B_x26 .nil Bf (A0 (Bc (Bb K) (pv 0) A9 (fun _ _=>rfl)) A8)))) (Af (i:=2) Th.nd rfl (Or.inr rfl)) (Ab (Db (Fz (u':=Y5 K _ _ _ _) (Ha PySem.F.plainAttrs_list PySem.F.slot_list_extend PySem.F.type_list_extend J6 (pv 1) (A0 (Em (Dq (by rfl) T.n_range (A0 (Aj G_x5 (hr.mono (by decide)) rfl T.m_x5 T.k_x5 B_x5 .nil Bf (A0 (pv 0) A8)) A8)) _ rfl Ku rfl rfl (fun _ _ _ _=>(Af (i:=0) Kx rfl (Or.inl rfl))) (fun _ _ _ _=>Da) (fun _ _ _ _=>(Bh (A0 (pv 1) (A0 (pv 0) A8))))) A8)))))) (Ab (Ad (pv 1)))))),?_⟩
  have hp1:Aq 1 ws <= 3000:=by
   have e:=Iw (qv cm) ws 1
   rw [Int.mul_one] at e
   have h1:1 <= Aq 1 ws:=E6 ws 1 (by decide) hw1
   have h2:=Int.mul_le_mul_of_nonneg_right hq1 (show 0 <= Aq 1 ws by omega)
   rw [Int.one_mul] at h2
   omega
  have hq3:qv cm <= 3000:=Int.le_trans (E6 ws _ (by omega) hw1) hp
  refine ⟨_,rfl,a,ws,cm,rfl,⟨t,ha1,ha2⟩,hb,hqb,hl8,_,_,rfl,rfl,_,rfl,Fs (decide_eq_false (by omega)) ?_⟩
  refine ⟨B0,fun D hD=>?_⟩
  have s1:A7 H (upd H D (.lst [])):=A7.upd hD
  have e1:(upd H D (.lst [])) D = some (.lst []):=A5
  generalize upd H D (.lst []) = H1 at s1 e1 ⊢
  refine ⟨_,rfl,a,_,_,_,rfl,rfl,.inr (Br.of (s1 _ _ ha1)),rfl,t,ws,rfl,s1 _ _ ha2,hw1,hp1,hl8,fun L us H2 hL s2 f1 f2=>⟨L,rfl,.inl ⟨⟨_,B9.of f1⟩,?_⟩⟩⟩
  have s02:=s1.trans s2
  have e2:=s2 _ _ e1
  have nDL:L ≠ D:=(An e1 hL).symm
  refine Cq (K:=K) (a:=L) (xs:=us) (fun j σ H'=>We fun (zs:List V) (v2:Option V)=>L6 (σ = [some (.ref a),some (.ref D),v2]) (H' D = some (.lst zs)) (H' L = some (.lst us)) (A7 H H') (Ae H2 H') (Ah (G8 H') (((Cd ws).take j).flatMap fun r=>Fa r (qv cm)) zs))
   ⟨[],none,rfl,e2,f1,s02,Ae.of (A7.refl _),Ah.nil⟩ (by rintro j σ H' _ ⟨_,_,_,_,e,_⟩; exact B9.of e) ?_ ?_
  ·rintro j y σ H4 hy ⟨zs,v2,rfl,h1,h2,s4,t4,h3⟩
   have g4:=f2.imp fun r v z=>Ej.up t4 z
   obtain ⟨r,hr1,p,rfl,hp4⟩ := g4.get hy
   have hj:=(List.getElem?_eq_some_iff.mp hr1).1
   have hzl:zs.length <= 3000:=by
    have e:=Io (ws:=ws) (q:=qv cm) hw1 (by omega)
    rw [h3.1]
    have e2:Bk ws (qv cm) = (((Cd ws).take j).flatMap fun r=>Fa r (qv cm)) ++ (((Cd ws).drop j).flatMap fun r=>Fa r (qv cm)):=by
     rw [<- List.flatMap_append,List.take_append_drop]
     rfl
    rw [e2,List.length_append] at e
    omega
   refine ⟨_,rfl,.inl ⟨rfl,_,B9.of h1⟩,_,rfl,a,ws,cm,rfl,⟨t,s4 _ _ ha1,s4 _ _ ha2⟩,qv cm,rfl,by omega,by omega,fun B hB=>?_⟩
   refine Fp (fun m ys H'=>H' B = some (.lst ys) /\ A7 H4 H' /\ Ah (G8 H') ((List.range m).map fun k=>(r,0 + ((k:Nat):Int))) ys) ⟨A5,A7.upd hB,Ah.nil⟩ ?_ ?_
   ·rintro m ys H5 hm ⟨k1,s5,k2⟩ Qe hQ
    refine ⟨_,rfl,_,rfl,B0,fun P hP=>?_⟩
    have s6:A7 H5 (upd H5 P (.tup [.ref p,.int (0 + (m:Int))])):=A7.upd hP
    have e6:(upd H5 P (.tup [.ref p,.int (0 + (m:Int))])) P = some (.tup [.ref p,.int (0 + (m:Int))]):=A5
    generalize upd H5 P (.tup [.ref p,.int (0 + (m:Int))]) = H6 at s6 e6
    have k1':=s6 _ _ k1
    have kl:ys.length = m:=by rw [k2.1]; simp
    refine hQ _ _ k1' (Fe (by omega)) ⟨A5,(s5.trans s6).new hB,?_⟩
    have tu:Ae H5 (upd H6 B (.lst (ys ++ [.ref P]))):=(Ae.of s6).trans (Ae.lst k1')
    rw [List.range_succ,List.map_append]
    refine (k2.imp fun r v z=>G8.up tu z).append (Ah.one ⟨P,p,rfl,?_,?_⟩)
    ·exact Ae.lst k1' _ _ e6
    ·exact Ae.lst k1' _ _ (s6 _ _ (s5 _ _ hp4))
   ·rintro ys H5 ⟨k1,s5,k2⟩
    have h1':=s5 _ _ h1
    have k3:Ah (G8 H5) (Fa r (qv cm)) ys:=k2
    have kl:ys.length = (qv cm).toNat:=by rw [k3.1,Nu]
    refine ⟨D,B,_,_,rfl,rfl,h1',k1,Nat.le_of_lt (Fe (by omega)),?_⟩
    have tu:Ae H5 (upd H5 D (.lst (zs ++ ys))):=Ae.lst h1'
    refine ⟨zs ++ ys,_,rfl,A5,by rw [Ac nDL]; exact s5 _ _ h2,(s4.trans s5).new hD,(t4.trans (Ae.of s5)).trans tu,?_⟩
    have e:(((Cd ws).take (j + 1)).flatMap fun r=>Fa r (qv cm)) = (((Cd ws).take j).flatMap fun r=>Fa r (qv cm)) ++ Fa r (qv cm):=Mr _ _ hr1
    rw [e]
    exact (h3.imp fun r v z=>G8.up ((Ae.of s5).trans tu) z).append (k3.imp fun r v z=>G8.up tu z)
  ·rintro σ H4 ⟨zs,v2,rfl,h1,h2,s4,t4,h3⟩
   rw [f2.1,List.take_length] at h3
   exact ⟨_,rfl,q D zs H4 hD s4 h1 h3⟩
def Rn (K:PySem.W.Frag):Sp:=fun vs H Q _=>Z9 fun (a b m:Addr) (ws:List Int) (cm:Option Int) (p:Eb)=>Gy (vs = [.ref a,.ref b,.ref m]) (Bq H a ws cm) (Dx H b p.k.1 p.k.2) (H m = some (.tup (p.a.map V.bl))) (∀ r:Bool,(r = true ↔ I8 ws cm p) -> Q (.bl r) H)
theorem ff {fd fd_x24:FuncData} (T:Txt K mg ad) (F:Fj K "may_answer" "may_answer" N5 ad.f_x16 fd) (G_x24:Al P w K mg base Bv 1 ad.f_x24 fd_x24 ["hall","standing"] (Iz K)) (B_x24:B8 K fd_x24 ["hall","standing"] []):Al P w K mg base Bv 2 ad.f_x16 fd ["hall","standing","answers"] (Rn K):=by
 refine F.ok g8 (fun vs H Q E h=>?_) (fun cdv A outer s H vs Q E hr h=>?_)
 ·rcases h with ⟨a,b,m,ws,cm,p,rfl,ha,hb,hm,q⟩ <;> rfl
 ·obtain ⟨a,b,m,ws,cm,p,rfl,ha,hb,hm,q⟩ := h
  refine ⟨_,(A6 (Bp (Ar az (Ay (Be K) (by rfl) T.n_len PySem.boot_len (A0 (pv 2) A8)) (Ay (Be K) (by rfl) T.n_len PySem.boot_len (A0 (Bc (Bb K) (pv 0) A9 (fun _ _=>rfl)) A8)) (Aw _)) (Ab (Ad Cr)) Ak) (Ab (Ad (cq (Aj G_x24 (hr.mono (by decide)) rfl T.m_x24 T.k_x24 B_x24 .nil Bf (A0 (pv 0) (A0 (pv 1) A8))) (On (E8 (Ux K) Cr (pv 2) rfl)))))),?_⟩
  obtain ⟨wt,ha1,ha2⟩ := id ha
  refine ⟨_,rfl,m,_,rfl,.inr (Br.of hm),_,rfl,a,_,_,_,rfl,rfl,.inr (Br.of ha1),rfl,wt,_,rfl,.inr (Br.of ha2),rfl,_,rfl,Cu (fun h=>?_) (fun h=>?_)⟩
  ·rw [List.length_map,List.length_map] at h
   refine q false ⟨(fun z=>nomatch z),fun z=>?_⟩
   rw [z.1] at h
   simp at h
  rw [List.length_map,List.length_map] at h
  have hl:p.a.length = ws.length:=by
   apply Classical.byContradiction
   intro z
   exact h (by simp; omega)
  refine ⟨_,rfl,_,rfl,a,b,ws,p.k.1,cm,p.k.2,rfl,ha,hb,_,(fun d H'=>(d = true ↔ I8 ws cm p) /\ H' = H),rfl,(fun h=>⟨⟨fun _=>⟨hl,fun _=>?_⟩,fun _=>rfl⟩,rfl⟩),(fun h=>⟨_,rfl,m,_,rfl,.inr (Br.of hm),rfl,Uv _,_,rfl,?_,rfl⟩),fun d H' hd=>?_⟩
  ·rw [Bool.and_eq_true] at h
   exact ⟨by simpa using h.1,by simpa using h.2⟩
  ·rw [if_pos rfl,K5]
   constructor
   ·intro z
    exact ⟨hl,fun y=>by simp [y] at z⟩
   ·intro z
    by_cases y:true ∈ p.a
    ·obtain ⟨y1,y2⟩ := z.2 y
     simp [y1,y2] at h
    ·simp [y]
  obtain ⟨hd,rfl⟩ := hd
  exact q d hd
def Sy (K:PySem.W.Frag):Sp:=fun vs H Q _=>au fun (a d b m:Addr) (ws:List Int) (cm:Option Int) (ps:List Eb) (p:Eb)=>Ko (vs = [.ref a,.ref d,.ref b,.ref m]) (Bq H a ws cm) (ws.length <= 8) (H d = some (.dT (Cy ps))) (E5 H b p.k) (Ai (Cy ps) p.k = some (.int p.r)) (p.k.1.length = ws.length) (I8 ws cm p) (H m = some (.tup (p.a.map V.bl))) (∀ (r:Bool) (H':Hp),A7 H H' -> (r = true ↔ ∀ w,w < ws.length -> G3 ws cm (Cy ps) p w) -> Q (.bl r) H')
theorem fb {fd fd_x32:FuncData} (T:Txt K mg ad) (F:Fj K "goes_down" "goes_down" Mt ad.f_x21 fd) (G_x32:Al P w K mg base Bv 4 ad.f_x32 fd_x32 ["hall","standing","who","lost"] (Jl K)) (B_x32:B8 K fd_x32 ["hall","standing","who","lost"] []) (B_after_d:B8 K fd_x32 ["hall","standing","who","lost"] [Value.bool false]):Al P w K mg base Bv 5 ad.f_x21 fd ["hall","listed","standing","answers"] (Sy K):=by
 refine F.ok P2 (fun vs H Q E h=>?_) (fun cdv A outer s H vs Q E hr h=>?_)
 ·rcases h with ⟨a,d,b,m,ws,cm,ps,p,rfl,ha,h8,hd,hb,hv0,hpl,hans,hm,q⟩ <;> rfl
 ·obtain ⟨a,d,b,m,ws,cm,ps,p,rfl,ha,h8,hd,hb,hv0,hpl,hans,hm,q⟩ := h
  refine ⟨_,(A6 (Cc PassesOwn.never rfl (Pr (by rfl) T.n_enumerate (A0 (pv 3) A8)) (D3 K (n:=2) rfl (Ax (Af (i:=4) P2.nd rfl (Or.inl rfl)) (Ax (Af (i:=5) P2.nd rfl (Or.inl rfl)) D2))) (A6 (Ao (i:=6) P2.nd rfl (Or.inl rfl) (Aj G_x32 (hr.mono (by decide)) rfl T.m_x32 T.k_x32 B_x32 .nil Bf (A0 (pv 0) (A0 (pv 2) (A0 (pv 4) (A0 (pv 5) A8)))))) (Ab (Bp (PW.pt (Ph (Ar Ij (pv 6) D7 (Aw _)) (Go (PW.pt (Jb (Ho (F6 (Ee hr) (pv 6) (pv 1)) rfl) (Hq (Ar Xn (Et (Ee hr) (pv 1) (pv 6) (fun _ _=>rfl)) (Et (Ee hr) (pv 1) (pv 2) (fun _ _=>rfl)) (Aw _)))))))) (Ab (Ad Cr)) Ak)))) (Ab (Ad Cr))),?_⟩
  have hal:=hans.1
  refine ⟨_,rfl,true,m,rfl,⟨_,Br.of hm⟩,?_⟩
  refine Vl (K:=K) (b:=true) (c:=m) (xs:=p.a.map V.bl) (fun i σ H'=>Pj fun (v4 v5 v6:Option V)=>Ou (σ = [some (.ref a),some (.ref d),some (.ref b),some (.ref m),v4,v5,v6]) ((∀ w,w < i -> G3 ws cm (Cy ps) p w)) (A7 H H')) ⟨_,_,_,rfl,(fun who h=>absurd h (Nat.not_lt_zero _)),A7.refl _⟩ (by rintro i σ H' _ ⟨_,_,_,_,_,s⟩; exact Br.of (s _ _ hm)) ?_ ?_
  ·rintro i x T σ H1 hx ⟨v4,v5,v6,rfl,hall,s1⟩ hT
   rw [List.getElem?_map] at hx
   obtain ⟨lost,hlo,rfl⟩ := Option.map_eq_some_iff.mp hx
   have hi:=(List.getElem?_eq_some_iff.mp hlo).1
   have s2:A7 H1 (upd H1 T (.tup [.int i,.bl lost])):=A7.upd hT
   have e2:(upd H1 T (.tup [.int i,.bl lost])) T = some (.tup [.int i,.bl lost]):=A5
   generalize upd H1 T (.tup [.int i,.bl lost]) = H2 at s2 e2 ⊢
   have s12:=s1.trans s2
   have hst2:Dx H2 b p.k.1 p.k.2:=Cs s12 hb
   have hmay:R7 cm p.k.2 lost:=fun z=>by
    subst z
    exact hans.2 (List.mem_of_getElem? hlo)
   refine ⟨T,_,rfl,Br.of e2,rfl,_,_,rfl,_,_,rfl,rfl,?_⟩
   refine ⟨_,rfl,_,rfl,_,rfl,_,rfl,a,b,ws,p.k.1,cm,p.k.2,i,lost,rfl,ha.same s12,hst2,by omega,hpl,h8,hmay,fun hz H3 s3=>?_,fun hz pp H3 s3 hp=>?_⟩
   ·refine ⟨_,rfl,rfl,_,rfl,(fun c H'=>c = false /\ H' = H3),(fun _=>⟨rfl,rfl⟩),(fun h=>by simp at h),fun c H4 hc=>?_⟩
    obtain ⟨rfl,rfl⟩ := hc
    refine Fs rfl ?_
    refine ⟨_,_,_,rfl,fun w hw=>?_,s12.trans s3⟩
    by_cases e':w = i
    ·subst e'
     intro l2 hl2 k hk
     rw [hlo] at hl2
     cases hl2
     rw [Wt.mpr hz] at hk
     cases hk
    ·exact hall w (by omega)
   ·have hd3:=s3 _ _ (s12 _ _ hd)
    have hb3:E5 H3 b p.k:=Cs (s12.trans s3) hb
    have haf:=d7 (cm:=cm) (q:=p.k.2) hz
    refine ⟨_,rfl,rfl,_,rfl,(fun c H'=>(c = true ↔ ¬ G3 ws cm (Cy ps) p i) /\ H' = H3),(fun h=>by simp at h),(fun _=>?_),fun c H4 hc=>?_⟩
    ·refine ⟨_,rfl,_,rfl,d,_,rfl,D8.t hd3 (show E5 H3 pp (Bj ws p.k.1 i lost,D1 cm p.k.2 lost) from hp),_,rfl,(fun c H'=>(c = true ↔ ¬ G3 ws cm (Cy ps) p i) /\ H' = H3),(fun h=>?_),(fun h=>?_),fun c H' hc=>hc⟩
     ·refine ⟨⟨fun _ z=>?_,fun _=>rfl⟩,rfl⟩
      obtain ⟨r,hr,_⟩ := z lost hlo _ haf
      rw [hr] at h
      cases h
     ·cases hv:Ai (Cy ps) (Bj ws p.k.1 i lost,D1 cm p.k.2 lost) with
      | none=>rw [hv] at h; cases h
      | some v =>
       obtain ⟨r,rfl⟩ := Px hv
       refine ⟨_,rfl,_,rfl,d,.int r,rfl,(by rw [<- hv]; exact D8.t hd3 hp),_,rfl,_,rfl,d,.int p.r,rfl,(by rw [<- hv0]; exact D8.t hd3 hb3),_,_,rfl,rfl,_,rfl,?_,rfl⟩
       constructor
       ·intro z y
        obtain ⟨r',hr',hlt⟩ := y lost hlo _ haf
        rw [hv] at hr'
        cases hr'
        simp only [decide_eq_true_eq] at z
        omega
       ·intro z
        simp only [decide_eq_true_eq]
        apply Classical.byContradiction
        intro y
        refine z fun l2 hl2 k hk=>?_
        rw [hlo] at hl2
        cases hl2
        rw [haf] at hk
        cases hk
        exact ⟨r,hv,by omega⟩
    obtain ⟨hc,rfl⟩ := hc
    refine Cu (fun h=>?_) (fun h=>?_)
    ·exact q false _ (s12.trans s3) ⟨(fun z=>nomatch z),fun z=>absurd (z i (by omega)) (hc.mp h)⟩
    ·refine ⟨_,_,_,rfl,fun w hw=>?_,s12.trans s3⟩
     by_cases e':w = i
     ·subst e'
      exact Classical.byContradiction fun z=>h (hc.mpr z)
     ·exact hall w (by omega)
  rintro σ H1 ⟨v4,v5,v6,rfl,hall,s1⟩
  rw [List.length_map,hal] at hall
  exact q true _ s1 ⟨fun _=>hall,fun _=>rfl⟩
def Sg (K:PySem.W.Frag):Sp:=fun vs H Q _=>Z9 fun (a l:Addr) (ws:List Int) (cm:Option Int) (us:List V) (ps:List Eb)=>Oq (vs = [.ref a,.ref l]) (Bq H a ws cm) (0 < ws.length) (ws.length <= 8) ((∀ x ∈ ws,1 <= x)) (H l = some (.lst us)) (Ah (EV H) ps us) (Y7 ws.length ps) (∀ (r:Bool) (H':Hp),A7 H H' -> (r = true ↔ al ws cm ps) -> Q (.bl r) H')
theorem dj {fd fd_x19 fd_x21 fd_x16:FuncData} (T:Txt K mg ad) (F:Fj K "lets_broken" "lets_broken" Kw ad.f_x11 fd) (G_x19:Al P w K mg base Bv 1 ad.f_x19 fd_x19 ["hall"] (Oa K)) (B_x19:B8 K fd_x19 ["hall"] []) (G_x21:Al P w K mg base Bv 5 ad.f_x21 fd_x21 ["hall","listed","standing","answers"] (Sy K)) (B_x21:B8 K fd_x21 ["hall","listed","standing","answers"] []) (G_x16:Al P w K mg base Bv 2 ad.f_x16 fd_x16 ["hall","standing","answers"] (Rn K)) (B_x16:B8 K fd_x16 ["hall","standing","answers"] []):Al P w K mg base Bv 6 ad.f_x11 fd ["hall","paper"] (Sg K):=by
 refine F.ok L3 (fun vs H Q E h=>?_) (fun cdv A outer s H vs Q E hr h=>?_)
 ·rcases h with ⟨a,l,ws,cm,us,ps,rfl,ha,h0,h8,hw1,hl,hps,hg,q⟩ <;> rfl
 ·obtain ⟨a,l,ws,cm,us,ps,rfl,ha,h0,h8,hw1,hl,hps,hg,q⟩ := h
  refine ⟨_,(A6 (Ao (i:=2) L3.nd rfl (Or.inl rfl) (Bt (Rs K (oh hr) rfl) (by rfl) T.n_dict boot_dict (A0 (Em (D4 (w':=K7 K _) (D5 (pv 1))) _ rfl Je rfl rfl (fun _ _ _ _=>(D3 K (n:=3) rfl (Ax (Af (i:=0) Dn rfl (Or.inl rfl)) (Ax (Af (i:=1) Dn rfl (Or.inl rfl)) (Ax (Af (i:=2) Dn rfl (Or.inl rfl)) D2))))) (fun _ _ _ _=>Da) (fun _ _ _ _=>(Bh (A0 (pv 0) (A0 (pv 1) A8))))) A8))) (A6 (Bp (PW.pt (Jb (Ar Hx (Ay Nd (by rfl) T.n_len PySem.boot_len (A0 (pv 2) A8)) (Ay (Be K) (by rfl) T.n_len PySem.boot_len (A0 (pv 1) A8)) (Aw _)) (Hq (Ho (F6 (Ee hr) (Aj G_x19 (hr.mono (by decide)) rfl T.m_x19 T.k_x19 B_x19 .nil Bf (A0 (pv 0) A8)) (pv 2)) rfl)))) (Ab (Ad Cr)) Ak) (A6 (Cc PassesOwn.never rfl (D4 (w':=K7 K _) (D5 (pv 1))) (D3 K (n:=3) rfl (Ax (Af (i:=3) L3.nd rfl (Or.inl rfl)) (Ax (Af (i:=4) L3.nd rfl (Or.inl rfl)) (Ax (Af (i:=5) L3.nd rfl (Or.inl rfl)) D2)))) (A6 (Bp (PW.pt (Jb (Ar Hx (pv 4) A9 (Aw _)) (Hq (E3 (Dl (Aj G_x16 (hr.mono (by decide)) rfl T.m_x16 T.k_x16 B_x16 .nil Bf (A0 (pv 0) (A0 (pv 3) (A0 (pv 5) A8))))))))) (Ab (Ad Cr)) Ak) (Ab (Bp (E3 (Dl (Aj G_x21 (hr.mono (by decide)) rfl T.m_x21 T.k_x21 B_x21 .nil Bf (A0 (pv 0) (A0 (pv 2) (A0 (pv 3) (A0 (pv 5) A8))))))) (Ab (Ad Cr)) Ak)))) (Ab (Ad Cr))))),?_⟩
  have hbl:=hg.2
  have hul:=hps.1
  refine ⟨_,rfl,l,rfl,.inl ⟨⟨_,B9.of hl⟩,fun D hD=>?_⟩⟩
  refine Lg (K:=K) (a:=l) (xs:=us) (fun i zs H'=>H' D = some (.lst zs) /\ A7 H H' /\ Ah (fun (e:Eb) u=>av H' (e.k,.int e.r) u) (ps.take i) zs) ⟨A5,A7.upd hD,Ah.nil⟩ (by rintro i zs H' _ ⟨_,s,_⟩; exact B9.of (s _ _ hl)) ?_ ?_ ?_ ?_
  ·rintro i u zs H' hu ⟨hD',s',hzs⟩
   obtain ⟨p,hp,t,b,m,rfl,ht,hb,hm⟩ := hps.get hu
   have hi:=(List.getElem?_eq_some_iff.mp hu).1
   have hzl:=hzs.1
   rw [List.length_take] at hzl
   refine ⟨t,.ref b,.int p.r,.ref m,rfl,Br.of (s' _ _ ht),?_⟩
   simp only [Kj,↓reduceIte]
   refine ⟨_,rfl,_,rfl,B0,fun T0 hT0=>?_⟩
   have s2:A7 H' (upd H' T0 (.tup [.ref b,.int p.r])):=A7.upd hT0
   have e2:(upd H' T0 (.tup [.ref b,.int p.r])) T0 = some (.tup [.ref b,.int p.r]):=A5
   generalize upd H' T0 (.tup [.ref b,.int p.r]) = H2 at s2 e2 ⊢
   have hD2:=s2 _ _ hD'
   have t3:Ae H2 (upd H2 D (.lst (zs ++ [.ref T0]))):=Ae.lst hD2
   refine ⟨hD2,Ba (by omega),A5,(s'.trans s2).new hD,?_⟩
   rw [List.take_add_one,hp]
   refine (hzs.imp fun e v z=>?_).append (Ah.one ⟨T0,b,rfl,t3 _ _ e2,(Cs (s'.trans s2) hb).up t3⟩)
   obtain ⟨t',b',e',h1,h2⟩ := z
   exact ⟨t',b',e',t3 _ _ (s2 _ _ h1),(Cs s2 h2).up t3⟩
  ·intro σ H1 Q1 Q2 hQ z
   exact hQ _ _ z
  ·rintro σ H1 Q1 Q2 hQ ⟨v,e1,v2,e2,z1,z2⟩
   exact ⟨v,e1,v2,e2,z1,fun p hp=>hQ _ _ (z2 p hp)⟩
  rintro zs H0 ⟨hD0,s0,hzs⟩
  rw [hul,List.take_length] at hzs
  obtain ⟨hal,hag⟩ := Yv hzs
  refine ⟨D,zs,Jq ps,rfl,B9.of hD0,hal,hag,fun d hd=>?_⟩
  have s1:A7 H (upd H0 d (.dT (Cy ps))):=s0.trans (A7.upd hd)
  have e1:(upd H0 d (.dT (Cy ps))) d = some (.dT (Cy ps)):=A5
  generalize upd H0 d (.dT (Cy ps)) = H1 at s1 e1 ⊢
  have ha1:=ha.same s1
  refine ⟨_,rfl,d,_,rfl,e1,_,rfl,l,_,rfl,.inl (B9.of (s1 _ _ hl)),_,_,rfl,rfl,_,rfl,(fun c H'=>A7 H1 H' /\ (c = true ↔ ¬ ((ps.map (·.k)).Nodup /\ (ws,0) ∈ ps.map (·.k)))),fun hlt=>?_,fun hge=>?_,fun c H2 hc=>?_⟩
  ·simp only [decide_eq_true_eq] at hlt
   exact ⟨A7.refl _,fun _ z=>(Id ps).mp (by omega) z.1,fun _=>rfl⟩
  ·simp only [decide_eq_false_iff_not] at hge
   have hnd:(ps.map (·.k)).Nodup:=Classical.byContradiction fun z=>hge (by have:=(Id ps).mpr z; omega)
   refine ⟨_,rfl,a,ws,cm,rfl,ha1,fun p H2 s2 hst=>?_⟩
   refine ⟨_,rfl,d,_,rfl,D8.t (s2 _ _ e1) (show E5 H2 p (ws,0) from hst),_,rfl,s2,?_⟩
   rw [<- Yb]
   cases (Ai (Cy ps) (ws,0)).isSome <;> simp [hnd]
  obtain ⟨s12,hc⟩ := hc
  refine Cu (fun h=>?_) (fun h=>?_)
  ·refine q false _ (s1.trans s12) ⟨(fun z=>nomatch z),fun z=>absurd ⟨z.1,z.2.1⟩ (hc.mp h)⟩
  obtain ⟨hnd,hb0⟩ : (ps.map (·.k)).Nodup /\ (ws,0) ∈ ps.map (·.k):=Classical.byContradiction fun z=>h (hc.mpr z)
  replace e1:=s12 _ _ e1
  replace s1:=s1.trans s12
  clear hc h c ha1 s12
  generalize H2 = H1 at e1 s1 ⊢
  refine ⟨_,rfl,l,rfl,.inl ⟨⟨_,B9.of (s1 _ _ hl)⟩,?_⟩⟩
  refine Cq (K:=K) (a:=l) (xs:=us) (fun i σ H'=>Pj fun (v3 v4 v5:Option V)=>Ou (σ = [some (.ref a),some (.ref l),some (.ref d),v3,v4,v5]) ((∀ e ∈ ps.take i,1 <= e.r /\ I8 ws cm e /\ ∀ w,w < ws.length -> G3 ws cm (Cy ps) e w)) (A7 H1 H')) ⟨_,_,_,rfl,(fun p hp=>by rw [List.take_zero] at hp; cases hp),A7.refl _⟩ (by rintro i σ H' _ ⟨_,_,_,_,_,s⟩; exact B9.of (s _ _ (s1 _ _ hl))) ?_ ?_
  ·rintro i u σ H3 hu ⟨v3,v4,v5,rfl,hall,s3⟩
   obtain ⟨e,he,t,b,m,rfl,ht,hb,hm⟩ := hps.get hu
   have heb:=List.mem_of_getElem? he
   obtain ⟨hel,heq,hea⟩ := hg.1 e heb
   have s03:=s1.trans s3
   refine ⟨t,_,rfl,Br.of (s03 _ _ ht),rfl,_,_,rfl,_,_,rfl,_,_,rfl,rfl,?_⟩
   refine ⟨_,rfl,_,_,rfl,rfl,_,rfl,(fun c H'=>(c = true ↔ ¬ (1 <= e.r /\ I8 ws cm e)) /\ H' = H3),(fun h=>?_),(fun h=>⟨_,rfl,_,rfl,_,rfl,a,b,m,ws,cm,e,rfl,ha.same s03,Cs s03 hb,s03 _ _ hm,fun r hr1=>⟨_,rfl,?_,rfl⟩⟩),fun c H4 hc=>?_⟩
   ·simp only [decide_eq_true_eq] at h
    exact ⟨⟨fun _ z=>by omega,fun _=>rfl⟩,rfl⟩
   ·simp only [decide_eq_false_iff_not] at h
    have h1:1 <= e.r:=by omega
    rw [show (1 <= e.r /\ I8 ws cm e) ↔ I8 ws cm e from ⟨fun z=>z.2,fun z=>⟨h1,z⟩⟩,<- hr1]
    cases r <;> simp
   obtain ⟨hc,rfl⟩ := hc
   refine Cu (fun h=>?_) (fun h=>?_)
   ·exact q false _ s03 ⟨(fun z=>nomatch z),fun z=>absurd ⟨(z.2.2 e heb).1,(z.2.2 e heb).2.1⟩ (hc.mp h)⟩
   obtain ⟨he1,hans⟩ : 1 <= e.r /\ I8 ws cm e:=Classical.byContradiction fun z=>h (hc.mpr z)
   clear hc h
   refine ⟨_,rfl,_,rfl,_,rfl,_,rfl,a,d,b,m,ws,cm,ps,e,rfl,ha.same s03,h8,s3 _ _ e1,Cs s03 hb,Us hnd heb,hel,hans,s03 _ _ hm,fun r H5 s5 hr1=>?_⟩
   refine ⟨_,rfl,?_⟩
   refine Cu (fun h=>?_) (fun h=>?_)
   ·refine q false _ (s03.trans s5) ⟨(fun z=>nomatch z),fun z=>?_⟩
    have:=hr1.mpr (z.2.2 e heb).2.2
    rw [this] at h
    cases h
   ·have hrt : r = true := by
     cases r with
     | true=>rfl
     | false=>exact absurd rfl h
    refine ⟨_,_,_,rfl,fun e' he'=>?_,s3.trans s5⟩
    rw [List.take_add_one,he] at he'
    rcases List.mem_append.mp he' with z | z
    ·exact hall e' z
    ·have ee:e' = e:=by simpa using z
     rw [ee]
     exact ⟨he1,hans,hr1.mp hrt⟩
  rintro σ H3 ⟨v3,v4,v5,rfl,hall,s3⟩
  rw [hul,List.take_length] at hall
  exact q true _ (s1.trans s3) ⟨fun _=>⟨hnd,hb0,hall⟩,fun _=>rfl⟩
def X3 (K:PySem.W.Frag):Sp:=fun vs H Q _=>Pj fun (a:Addr) (ws:List Int) (cm:Option Int)=>Oq (vs = [.ref a]) (Bq H a ws cm) ((∀ w ∈ ws,1 <= w)) (1 <= qv cm) ((∀ w ∈ ws,intBits w <= 256)) (intBits (qv cm) <= 256) (ws.length <= 8) (Aq (qv cm) ws <= 3000) (∀ (D:Addr) (kvs:List ((List Int × Int) × V)) (H':Hp),H D = none -> A7 H H' -> H' D = some (.dT kvs) -> Ct ws cm H' kvs -> kvs.map (·.1) = Bk ws (qv cm) -> Ka ws cm H' kvs -> (∀ kv ∈ kvs,∀ c,kv.2 = .ref c -> H c = none) -> kvs.length <= 3000 -> Q (.ref D) H')
theorem jf {fd fd_x20 fd_x15:FuncData} (T:Txt K mg ad) (F:Fj K "calls_by_standing" "calls_by_standing" Uy ad.f_x2 fd) (G_x20:Al P w K mg base Bv 3 ad.f_x20 fd_x20 ["hall"] (To K)) (B_x20:B8 K fd_x20 ["hall"] []) (G_x15:Al P w K mg base Bv 5 ad.f_x15 fd_x15 ["hall","standing","who"] (Sj K)) (B_x15:B8 K fd_x15 ["hall","standing","who"] []):Al P w K mg base Bv 6 ad.f_x2 fd ["hall"] (X3 K):=by
 refine F.ok O0 (fun vs H Q E h=>?_) (fun cdv A outer s H vs Q E hr h=>?_)
 ·rcases h with ⟨a,ws,cm,rfl,ha,hw1,hq1,hb1,hb2,hw8,hp,q⟩ <;> rfl
 ·obtain ⟨a,ws,cm,rfl,ha,hw1,hq1,hb1,hb2,hw8,hp,q⟩ := h
  refine ⟨_,(A6 (Ao (i:=1) O0.nd rfl (Or.inl rfl) Ga) (A6 (Cc PassesOwn.never rfl (D4 (w':=K7 K _) (D5 (Aj G_x20 (hr.mono (by decide)) rfl T.m_x20 T.k_x20 B_x20 .nil Bf (A0 (pv 0) A8)))) (Af (i:=2) O0.nd rfl (Or.inl rfl)) (A6 (Ao (i:=3) O0.nd rfl (Or.inl rfl) Wj) (A6 (Cc PassesOwn.never rfl (Dq (by rfl) T.n_range (A0 (Ay (Be K) (by rfl) T.n_len PySem.boot_len (A0 (Bc (Bb K) (pv 0) A9 (fun _ _=>rfl)) A8)) A8)) (Af (i:=4) O0.nd rfl (Or.inl rfl)) (A6 (Ao (i:=5) O0.nd rfl (Or.inl rfl) (Aj G_x15 (hr.mono (by decide)) rfl T.m_x15 T.k_x15 B_x15 .nil Bf (A0 (pv 0) (A0 (pv 2) (A0 (pv 4) A8))))) (Ab (Ex (Ar (W0 K hr) D7 (pv 5) rfl) (Ab (I9 (Ee hr) (pv 3) (pv 4) (pv 5) rfl)) Ak)))) (Ab (I9 (Ee hr) (pv 1) (pv 2) (pv 3) rfl))))) (Ab (Ad (pv 1))))),?_⟩
  refine fun D hD=>?_
  have s1:A7 H (upd H D (.dT [])):=A7.upd hD
  have e1:(upd H D (.dT [])) D = some (.dT []):=A5
  generalize upd H D (.dT []) = H1 at s1 e1 ⊢
  refine ⟨_,rfl,a,ws,cm,rfl,ha.same s1,hw1,hq1,hb1,hb2,hw8,hp,fun l us H2 hl s2 el hus=>⟨l,rfl,.inl ⟨⟨_,B9.of el⟩,?_⟩⟩⟩
  have hlen:us.length <= 3000:=by
   have h1:=hus.1
   have h2:=Io hw1 (show 0 <= qv cm by omega)
   omega
  have s12:=s1.trans s2
  have eD2:=s2 _ _ e1
  refine Cq (K:=K) (a:=l) (xs:=us) (fun i σ H'=>iw fun (kvs:List ((List Int × Int) × V)) (v2 v3 v4 v5:Option V)=>Oq (σ = [some (.ref a),some (.ref D),v2,v3,v4,v5]) (A7 H H') (LT H2 H') (H' D = some (.dT kvs)) (Ct ws cm H' kvs) ((∀ kv ∈ kvs,∀ c,kv.2 = .ref c -> H c = none)) (kvs.length <= i) (kvs.map (·.1) = (Bk ws (qv cm)).take i) (Ka ws cm H' kvs))
   ⟨[],_,_,_,_,rfl,s12,⟨fun _ _ z=>z,fun _ _ z=>z⟩,eD2,⟨(fun kv z=>by cases z),List.Pairwise.nil,List.Pairwise.nil⟩,(fun kv z=>by cases z),Nat.le_refl _,rfl,(fun kv z=>by cases z)⟩ (by rintro i σ H' _ ⟨_,_,_,_,_,_,_,t,_⟩; exact B9.of (t.1 _ _ el)) ?_ ?_
  ·rintro i u σ H' hu ⟨kvs,v2,v3,v4,v5,rfl,s',t',hD',hpo,hfr,hkl,hkeys,hful⟩
   have hi:=(List.getElem?_eq_some_iff.mp hu).1
   obtain ⟨z,hz,p,w,rfl,hz1,hz2⟩ := hus.get hu
   obtain ⟨m1,m2,m3,m4⟩ := Np (List.mem_of_getElem? hz)
   have hst':Dx H' p z.1 z.2:=⟨w,t'.2 _ _ hz1,t'.2 _ _ hz2⟩
   refine fun c hc=>?_
   have s3:A7 H' (upd H' c (.dK [])):=A7.upd hc
   have e3:(upd H' c (.dK [])) c = some (.dK []):=A5
   generalize upd H' c (.dK []) = H3 at s3 e3 ⊢
   have s03:=s'.trans s3
   obtain ⟨wt,ha1,ha2⟩ := id (ha.same s03)
   refine ⟨_,rfl,a,_,_,_,rfl,rfl,.inr (Br.of ha1),rfl,wt,_,rfl,.inr (Br.of ha2),_,rfl,by omega,by rw [List.length_map]; omega,?_⟩
   refine Gv (n:=(ws.map V.int).length) (fun j σ H4=>Pj fun (cs:List (Dv × V)) (v4 v5:Option V)=>L6 (σ = [some (.ref a),some (.ref D),some (.ref p),some (.ref c),v4,v5]) (A7 H' H4) (H4 c = some (.dK cs)) (Gc ws cm z H4 cs) (cs.length <= j) (∀ who:Nat,who < j -> none ∉ Cj ws z.1 cm z.2 who -> (Ai cs (.inl (who:Int))).isSome = true))
    ⟨[],_,_,rfl,s3,e3,(fun e z=>by cases z),Nat.le_refl _,(fun who z=>absurd z (Nat.not_lt_zero _))⟩ ?_ ?_
   ·rintro j σ H4 hj ⟨cs,v4,v5,rfl,s4,hc4,hco,hcl,hcf⟩
    rw [List.length_map] at hj
    have s04:=s'.trans s4
    refine ⟨_,rfl,_,rfl,_,rfl,a,p,ws,z.1,cm,z.2,_,j,rfl,by omega,ha.same s04,hst'.same s4,hj,m1,hw8,fun L us2 H5 hL s5 eL hbe=>?_⟩
    refine ⟨_,rfl,L,us2,.none,(Cj ws z.1 cm z.2 j).map cn,rfl,B9.of eL,X0,N8 hbe,by decide,_,rfl,_,fun hb=>?_,fun hb=>?_,fun _ _ z=>z⟩
    ·rw [if_pos rfl,P1] at hb
     have hno:none ∉ Cj ws z.1 cm z.2 j:=by simpa using hb
     have hc5:=s5 _ _ hc4
     refine ⟨_,rfl,_,rfl,_,rfl,c,_,rfl,.inl ⟨cs,.inl (j:Int),hc5,congrArg V.int (Int.zero_add _),Bd (by omega),rfl⟩,?_⟩
     have t6:LT H5 (upd H5 c (.dK (Bm cs (.inl (j:Int)) (.ref L)))):=LT.dK hc5
     refine ⟨Bm cs (.inl (j:Int)) (.ref L),_,_,rfl,(s4.trans s5).new hc,A5,?_,Nat.le_trans (De _ _ _) (by omega),fun who hwho hn=>S0 ?_⟩
     ·have hold:Gc ws cm z (upd H5 c (.dK (Bm cs (.inl (j:Int)) (.ref L)))) cs:=hco.up ((LT.of s5).trans t6)
      intro e he
      rcases Yi he with y | y
      ·exact hold e y
      ·subst y
       exact ⟨j,L,us2,rfl,hj,hno,rfl,t6.1 _ _ eL,hbe.imp fun _ _ y=>F4.up t6.2 y⟩
     ·rcases Nat.lt_or_ge who j with y | y
      ·exact .inl (hcf who y hn)
      ·have e:who = j:=by omega
       rw [e]
       exact .inr rfl
    ·rw [if_pos rfl,P1] at hb
     have hyes:none ∈ Cj ws z.1 cm z.2 j:=by simpa using hb
     refine ⟨cs,_,_,rfl,s4.trans s5,s5 _ _ hc4,hco.up (LT.of s5),by omega,fun who hwho hn=>?_⟩
     rcases Nat.lt_or_ge who j with y | y
     ·exact hcf who y hn
     ·have e:who = j:=by omega
      rw [e] at hn
      exact absurd hyes hn
   rintro σ H4 ⟨cs,v4,v5,rfl,s4,hc4,hco,hcl,hcf⟩
   rw [List.length_map] at hcl
   have hD4:=s4 _ _ hD'
   refine ⟨_,rfl,_,rfl,_,rfl,D,_,rfl,Ky.t hD4 (show E5 H4 p z from hst'.same s4) (Ba (by omega)),?_⟩
   have t5:LT H4 (upd H4 D (.dT (Bm kvs z (.ref c)))):=LT.dT hD4
   have k5:∀ c' cs',H4 c' = some (.dK cs') -> (upd H4 D (.dT (Bm kvs z (.ref c)))) c' = some (.dK cs'):=fun c' cs' e=>by
    rw [Ac (Bz e hD4 (by intro z; cases z))]
    exact e
   have s05:=s'.trans s4
   have hnz:Ai kvs z = none:=by
    cases hv:Ai kvs z with
    | none=>rfl
    | some v =>
     have:=List.mem_map_of_mem (f:=(·.1)) (Bo hv)
     rw [hkeys] at this
     exact absurd this (O7 (Jr _ _) hz)
   have ep:Bm kvs z (.ref c) = kvs ++ [(z,.ref c)]:=D9 _ hnz
   have hpo5:Ct ws cm (upd H4 D (.dT (Bm kvs z (.ref c)))) kvs:=(hpo.keep (LT.of s4) (fun c cs e=>s4 _ _ e)).keep t5 k5
   have hfu5:Ka ws cm (upd H4 D (.dT (Bm kvs z (.ref c)))) kvs:=(hful.keep hpo (fun c cs e=>s4 _ _ e)).keep (hpo.keep (LT.of s4) (fun c cs e=>s4 _ _ e)) k5
   have hc5:=k5 _ _ hc4
   have hco5:=hco.up t5
   have sN:A7 H (upd H4 D (.dT (Bm kvs z (.ref c)))):=s05.new hD
   have tN:LT H2 (upd H4 D (.dT (Bm kvs z (.ref c)))):=(t'.trans (LT.of s4)).trans t5
   have eN:(upd H4 D (.dT (Bm kvs z (.ref c)))) D = some (.dT (Bm kvs z (.ref c))):=A5
   rw [ep] at hpo5 hfu5 hc5 hco5 sN tN eN ⊢
   generalize upd H4 D (.dT (kvs ++ [(z,.ref c)])) = H6 at hpo5 hfu5 hc5 hco5 sN tN eN ⊢
   have hnew:∀ kv ∈ kvs,kv.2 ≠ .ref c:=fun kv hkv e=>by
    obtain ⟨d,ds,e1,e2,_⟩ := hpo.1 kv hkv
    rw [e] at e1
    cases e1
    rw [hc] at e2
    cases e2
   refine ⟨kvs ++ [(z,.ref c)],_,_,_,_,rfl,sN,tN,eN,⟨Ld hpo5.1 ⟨c,cs,rfl,hc5,by omega,hco5⟩,?_,?_⟩,Ld hfr (fun c' e=>by cases e; exact s'.free hc),by rw [List.length_append,List.length_singleton]; omega,?_,?_⟩
   ·rw [List.map_append]
    refine Ep hpo5.2.1 (fun y=>?_)
    rw [hkeys] at y
    exact O7 (Jr _ _) hz y
   ·rw [List.map_append]
    refine Ep hpo5.2.2 (fun y=>?_)
    obtain ⟨kv,hkv,e⟩ := List.mem_map.mp y
    exact hnew kv hkv e
   ·rw [List.map_append,hkeys,List.take_add_one,hz]
    rfl
   ·intro kv hkv c' cs' e1 e2
    rcases List.mem_append.mp hkv with y | y
    ·exact hfu5 kv y c' cs' e1 e2
    ·cases List.mem_singleton.mp y
     cases e1
     rw [hc5] at e2
     cases e2
     exact fun who hw hn=>hcf who (by rw [List.length_map]; exact hw) hn
  rintro σ H' ⟨kvs,v2,v3,v4,v5,rfl,s',t',hD',hpo,hfr,hkl,hkeys,hful⟩
  rw [hus.1,List.take_length] at hkeys
  exact ⟨_,rfl,q D kvs H' hD s' hD' hpo hkeys hful hfr (by omega)⟩
def Tc (K:PySem.W.Frag):Sp:=fun vs H Q _=>Wh fun (D:Addr) (kvs:List ((List Int × Int) × V)) (ws:List Int) (cm:Option Int)=>Gy (vs = [.ref D]) (H D = some (.dT kvs)) (Ct ws cm H kvs) (kvs.length <= 3000) (∀ (W:Addr) (wv:List ((List Int × Int) × V)) (H':Hp),H W = none -> A7 H H' -> H' W = some (.dT wv) -> F8 ws cm H kvs 48000 H' wv -> (∀ k who later,Au H kvs k who -> some later ∈ Cj ws k.1 cm k.2 who -> Cv H' wv later k who) -> wv.length <= 48000 -> Q (.ref W) H')
theorem dm {fd  : FuncData} (T:Txt K mg ad) (F:Fj K "ways_to" "ways_to" Nr ad.f_x31 fd):Al P w K mg base Bv 1 ad.f_x31 fd ["pending"] (Tc K):=by
 refine F.ok Hg (fun vs H Q E h=>?_) (fun cdv A outer s H vs Q E hr h=>?_)
 ·rcases h with ⟨D,kvs,ws,cm,rfl,hD,hps,hkl,q⟩ <;> rfl
 ·obtain ⟨D,kvs,ws,cm,rfl,hD,hps,hkl,q⟩ := h
  refine ⟨_,(A6 (Ao (i:=1) Hg.nd rfl (Or.inl rfl) Ga) (A6 (P8 (Cc PassesOwn.never rfl (Il (pv 0)) (D3 K (n:=2) rfl (Ax (Af (i:=2) Hg.nd rfl (Or.inl rfl)) (Ax (Af (i:=3) Hg.nd rfl (Or.inl rfl)) D2))) (Ab (P8 (Cc PassesOwn.never rfl (Il (pv 3)) (D3 K (n:=2) rfl (Ax (Af (i:=4) Hg.nd rfl (Or.inl rfl)) (Ax (Af (i:=5) Hg.nd rfl (Or.inl rfl)) D2))) (Ab (Cc PassesOwn.never rfl (D4 (w':=K7 K _) (D5 (pv 5))) (Af (i:=6) Hg.nd rfl (Or.inl rfl)) (Ab (Db (Fz (u':=Y5 K _ _ _ _) (Ha PySem.F.plainAttrs_list PySem.F.slot_list_append PySem.F.type_list_append Df (Ql (Z5 (Ee hr) (pv 1) (pv 6) (Cl A8) ⟨rfl,rfl,rfl,rfl⟩)) (A0 (Bh (A0 (pv 2) (A0 (pv 4) A8))) A8)))))))))))) (Ab (Ad (pv 1))))),?_⟩
  have hpo:=hps.ok
  refine fun W hW=>?_
  have s1:A7 H (upd H W (.dT [])):=A7.upd hW
  have e1:(upd H W (.dT [])) W = some (.dT []):=A5
  generalize upd H W (.dT []) = H1 at s1 e1 ⊢
  have hD1:=s1 _ _ hD
  have hWD:W ≠ D:=(An hD hW).symm
  refine ⟨D,.dT kvs,trivial,hD1,_,rfl,D,.dT kvs,rfl,trivial,hD1,fun o=>?_⟩
  refine Nt (d:=D) (o:=o) (u := .dT kvs) (fun i σ H'=>Z9 fun (wv:List ((List Int × Int) × V)) (v2 v3 v4 v5 v6:Option V)=>Xp (σ = [some (.ref D),some (.ref W),v2,v3,v4,v5,v6]) (H' D = some (.frz o (.dT kvs))) ((r8 D H H')) (H' W = some (.dT wv)) (F8 ws cm H kvs (16 * i) H' wv) (wv.length <= 16 * i) (cu ws cm H kvs i H' wv))
   ⟨[],_,_,_,_,_,rfl,A5,(fun b ob n e=>(Ac n).trans (s1 _ _ e)),(Ac hWD).trans e1,⟨(fun kv z=>by cases z),List.Pairwise.nil⟩,Nat.zero_le _,(fun k who later z=>by obtain ⟨v,z⟩ := z; rw [List.take_zero] at z; cases z)⟩ (by rintro i σ H' _ ⟨_,_,_,_,_,_,_,e,_⟩; exact e) ?_ ?_
  ·rintro i x y T σ H' hi hit ⟨wv,v2,v3,v4,v5,v6,rfl,hD',k',hW',hwo,hwl,hs1⟩ hT
   have hi3:i < 3000:=Nat.lt_of_lt_of_le hi hkl
   obtain ⟨kk,bb,hkv,rfl,hkk⟩ := hit
   have hmem:(kk,y) ∈ kvs:=List.mem_of_getElem? hkv
   obtain ⟨kw,hkw⟩ := Jp hmem
   obtain ⟨c,cs,ey,hc,hcl,hco⟩ := hps.1 _ hmem
   have ey':y = .ref c:=ey
   subst ey'
   have s2:A7 H' (upd H' T (.tup [.ref bb,.ref c])):=A7.upd hT
   have e2:(upd H' T (.tup [.ref bb,.ref c])) T = some (.tup [.ref bb,.ref c]):=A5
   generalize upd H' T (.tup [.ref bb,.ref c]) = H2 at s2 e2 ⊢
   refine ⟨T,_,rfl,Br.of e2,rfl,_,_,rfl,_,_,rfl,rfl,?_⟩
   have hcD:c ≠ D:=Bz hc hD (by intro z; cases z)
   have hcW:c ≠ W:=An hc hW
   have hc2:=s2 _ _ (k' c _ hcD hc)
   refine ⟨c,.dK cs,trivial,hc2,_,rfl,c,.dK cs,rfl,trivial,hc2,fun o2=>?_⟩
   have t2c:LT H2 (upd H2 c (.frz o2 (.dK cs))):=LT.dK hc2
   refine Nt (d:=c) (o:=o2) (u := .dK cs) (fun j σ H3=>Wh fun (wv:List ((List Int × Int) × V)) (v4 v5 v6:Option V)=>Ko (σ = [some (.ref D),some (.ref W),some (.ref bb),some (.ref c),v4,v5,v6]) (H3 c = some (.frz o2 (.dK cs))) (H3 D = some (.frz o (.dT kvs))) ((km D c H H3)) (Ae H2 H3) (H3 W = some (.dT wv)) (F8 ws cm H kvs (16 * i + 2 * j) H3 wv) (wv.length <= 16 * i + 2 * j) ((cu ws cm H kvs i H3 wv)) (jo ws cm cs j kk H3 wv))
    ⟨wv,_,_,_,rfl,A5,(Ac hcD.symm).trans (s2 _ _ hD'),(fun b ob n1 n2 e=>(Ac n2).trans (s2 _ _ (k' b ob n1 e))),t2c.2,(Ac hcW.symm).trans (s2 _ _ hW'),hwo.up ((LT.of s2).trans t2c) (by omega),by omega,(fun k who later z1 z2 z3=>(hs1 k who later z1 z2 z3).up ((LT.of s2).trans t2c)),(fun who later z=>by obtain ⟨e,z,_⟩ := z; rw [List.take_zero] at z; cases z)⟩ (by rintro j σ H3 _ ⟨_,_,_,_,_,e,_⟩; exact e) ?_ ?_
   ·rintro j x2 y2 T2 σ H3 hj hit2 ⟨wv3,v4,v5,v6,rfl,hc3,hD3,k3,t3,hW3,hwo3,hwl3,hs3,hs32⟩ hT2
    have hj8:j < 8:=Nat.lt_of_lt_of_le hj hcl
    obtain ⟨kk2,hkv2,rfl⟩ := hit2
    obtain ⟨w2,l,us2,ei,hw2,hno2,el,hl,hbe2⟩ := hco _ (List.mem_of_getElem? hkv2)
    have hl2:us2.length <= 2:=by
     rw [hbe2.1]
     unfold Cj
     split <;> simp
    have ei':kk2 = .inl (w2:Int):=ei
    subst ei'
    have el':y2 = .ref l:=el
    subst el'
    have s4:A7 H3 (upd H3 T2 (.tup [kV (.inl (w2:Int)),.ref l])):=A7.upd hT2
    have e4:(upd H3 T2 (.tup [kV (.inl (w2:Int)),.ref l])) T2 = some (.tup [kV (.inl (w2:Int)),.ref l]):=A5
    generalize upd H3 T2 (.tup [kV (.inl (w2:Int)),.ref l]) = H4 at s4 e4 ⊢
    refine ⟨T2,_,rfl,Br.of e4,rfl,_,_,rfl,_,_,rfl,rfl,?_⟩
    have hlD:l ≠ D:=Bz hl hD (by intro z; cases z)
    have hlc:l ≠ c:=Bz hl hc (by intro z; cases z)
    refine ⟨_,rfl,l,rfl,.inl ⟨⟨_,B9.of (s4 _ _ (k3 l _ hlD hlc hl))⟩,?_⟩⟩
    refine Cq (K:=K) (a:=l) (xs:=us2) (fun m σ H5=>We fun (wv:List ((List Int × Int) × V)) (v6:Option V)=>Uj (σ = [some (.ref D),some (.ref W),some (.ref bb),some (.ref c),some (kV (.inl (w2:Int))),some (.ref l),v6]) (H5 c = some (.frz o2 (.dK cs))) (H5 D = some (.frz o (.dT kvs))) ((km D c H H5)) (Ae H2 H5) (H5 W = some (.dT wv)) (F8 ws cm H kvs (16 * i + 2 * j + m) H5 wv) (wv.length <= 16 * i + 2 * j + m) ((cu ws cm H kvs i H5 wv)) ((jo ws cm cs j kk H5 wv)) (∀ later,some later ∈ (Cj ws kk.1 cm kk.2 w2).take m -> Cv H5 wv later kk w2))
     ⟨wv3,_,rfl,s4 _ _ hc3,s4 _ _ hD3,(fun b ob n1 n2 e=>s4 _ _ (k3 b ob n1 n2 e)),t3.trans (Ae.of s4),s4 _ _ hW3,hwo3.up (LT.of s4) (Nat.le_refl _),hwl3,(fun k who later z1 z2 z3=>(hs3 k who later z1 z2 z3).up (LT.of s4)),(fun who later z1 z2=>(hs32 who later z1 z2).up (LT.of s4)),(fun later z=>by rw [List.take_zero] at z; cases z)⟩ (by rintro m σ H5 _ ⟨_,_,_,_,_,k5,_⟩; exact B9.of (k5 l _ hlD hlc hl)) ?_ ?_
    ·rintro m u σ H5 hu ⟨wv5,v6,rfl,hc5,hD5,k5,t5,hW5,hwo5,hwl5,hs5,hs52,hs53⟩
     have hm2:m < 2:=Nat.lt_of_lt_of_le (List.getElem?_eq_some_iff.mp hu).1 hl2
     obtain ⟨r0,hr0,hr1⟩ := hbe2.get hu
     obtain ⟨lk,er⟩ : ∃ lk,r0 = some lk:=by
      cases r0 with
      | none=>exact absurd (List.mem_of_getElem? hr0) hno2
      | some r=>exact ⟨r,rfl⟩
     subst er
     obtain ⟨lb,rfl,hlk0⟩ := hr1
     have hlk:E5 H lb lk:=hlk0
     have tH5:Ae H H5:=fun b xs e=>k5 b _ (Bz e hD (by intro z; cases z)) (Bz e hc (by intro z; cases z)) e
     have hlk5:=hlk.up tH5
     have free5:∀ E,H5 E = none -> H E = none:=fun E hE=>by
      cases hHE:H E with
      | none=>rfl
      | some ob =>
       by_cases z1:E = D
       ·rw [z1,hD5] at hE
        cases hE
       by_cases z2:E = c
       ·rw [z2,hc5] at hE
        cases hE
       rw [k5 E ob z1 z2 hHE] at hE
       cases hE
     refine ⟨(fun v H7=>Pj fun (wv7:List ((List Int × Int) × V)) (l7:Addr) (us7:List V)=>ap (v = .ref l7) (Ai wv7 lk = some (.ref l7)) (H l7 = none) (H7 l7 = some (.lst us7)) (us7.length <= 16 * i + 2 * j + m) ((∀ u ∈ us7,Pa ws cm kvs H7 lk u)) (H7 c = some (.frz o2 (.dK cs))) (H7 D = some (.frz o (.dT kvs))) ((∀ b ob,b ≠ D -> b ≠ c -> H b = some ob -> H7 b = some ob)) (Ae H5 H7) (H7 W = some (.dT wv7)) (F8 ws cm H kvs (16 * i + 2 * j + m) H7 wv7) (wv7.length <= 16 * i + 2 * j + m + 1) ((∀ k who later,(∃ v,(k,v) ∈ kvs.take i) -> Au H kvs k who -> some later ∈ Cj ws k.1 cm k.2 who -> Cv H7 wv7 later k who)) ((∀ who later,(∃ e ∈ cs.take j,e.1 = .inl ((who:Nat):Int)) -> some later ∈ Cj ws kk.1 cm kk.2 who -> Cv H7 wv7 later kk who)) ((∀ later,some later ∈ (Cj ws kk.1 cm kk.2 w2).take m -> Cv H7 wv7 later kk w2))),⟨_,rfl,W,rfl,.inr ⟨wv5,.inl hW5⟩,_,rfl,B0,fun E hE=>?_⟩,?_⟩
     ·have s6:A7 H5 (upd H5 E (.lst [])):=A7.upd hE
      have e6:(upd H5 E (.lst [])) E = some (.lst []):=A5
      generalize upd H5 E (.lst []) = H6 at s6 e6 ⊢
      have hW6:=s6 _ _ hW5
      refine ⟨wv5,lk,lb,rfl,hlk5.up (Ae.of s6),hW6,Ba (by omega),fun v hv=>?_,fun hv=>?_⟩
      ·obtain ⟨l7,us7,e7,h0,h1,h2,h3⟩ := hwo5.1 _ (Bo hv)
       have e7':v = .ref l7:=e7
       exact ⟨wv5,l7,us7,e7,by rw [hv,e7'],h0,s6 _ _ h1,h2,(fun u hu=>(h3 u hu).up (Ae.of s6)),s6 _ _ hc5,s6 _ _ hD5,(fun b ob n1 n2 e=>s6 _ _ (k5 b ob n1 n2 e)),Ae.of s6,hW6,hwo5.up (LT.of s6) (Nat.le_refl _),by omega,(fun k who later z1 z2 z3=>(hs5 k who later z1 z2 z3).up (LT.of s6)),(fun who later z1 z2=>(hs52 who later z1 z2).up (LT.of s6)),(fun later z=>(hs53 later z).up (LT.of s6))⟩
      ·have t7:LT H6 (upd H6 W (.dT (Bm wv5 lk (.ref E)))):=LT.dT hW6
       have nE:=free5 E hE
       have t57:=(LT.of s6).trans t7
       refine ⟨Bm wv5 lk (.ref E),E,[],rfl,by rw [Gg,if_pos rfl],nE,t7.1 _ _ e6,Nat.zero_le _,(fun u hu=>by cases hu),(Ac hcW).trans (s6 _ _ hc5),(Ac hWD.symm).trans (s6 _ _ hD5),(fun b ob n1 n2 e=>(Ac (An e hW)).trans (s6 _ _ (k5 b ob n1 n2 e))),(Ae.of s6).trans t7.2,A5,?_,Nat.le_trans (De _ _ _) (by omega),(fun k who later z1 z2 z3=>((hs5 k who later z1 z2 z3).up t57).put hv),(fun who later z1 z2=>((hs52 who later z1 z2).up t57).put hv),(fun later z=>((hs53 later z).up t57).put hv)⟩
       refine ⟨fun kv hkv=>?_,?_⟩
       ·rcases Yi hkv with y | y
        ·exact (hwo5.up t57 (Nat.le_refl _)).1 kv y
        ·subst y
         exact ⟨E,[],rfl,nE,t7.1 _ _ e6,Nat.zero_le _,fun u hu=>by cases hu⟩
       ·rw [D9 _ hv,List.map_append]
        refine Ep hwo5.2 (fun y=>?_)
        obtain ⟨kv,hkv,e⟩ := List.mem_map.mp y
        obtain ⟨l9,us9,e9,_,h9,_⟩ := hwo5.1 kv hkv
        have e':kv.2 = .ref E:=e
        rw [e'] at e9
        cases e9
        rw [hE] at h9
        cases h9
     rintro v H7 ⟨wv7,l7,us7,rfl,hv7,n7,hl7,hul7,hall7,hc7,hD7,k7,t7,hW7,hwo7,hwl7,hs7,hs72,hs73⟩
     refine ⟨.inl ⟨rfl,_,B9.of hl7⟩,_,rfl,_,rfl,B0,fun T3 hT3=>?_⟩
     have s8:A7 H7 (upd H7 T3 (.tup [.ref bb,kV (.inl (w2:Int))])):=A7.upd hT3
     have e8:(upd H7 T3 (.tup [.ref bb,kV (.inl (w2:Int))])) T3 = some (.tup [.ref bb,kV (.inl (w2:Int))]):=A5
     generalize upd H7 T3 (.tup [.ref bb,kV (.inl (w2:Int))]) = H8 at s8 e8 ⊢
     have hl8:=s8 _ _ hl7
     refine ⟨l7,_,_,rfl,rfl,hl8,Ba (by omega),?_⟩
     have hl7D:l7 ≠ D:=(An hD n7).symm
     have hl7c:l7 ≠ c:=(An hc n7).symm
     have hl7W:l7 ≠ W:=Bz hl7 hW7 (by intro z; cases z)
     have hkk8:E5 H8 bb kk:=(((hkk.up (Ae.of s2)).up t5).up t7).up (Ae.of s8)
     have hway:Pa ws cm kvs H8 lk (.ref T3):=⟨T3,bb,w2,kk,rfl,e8,hkk8,⟨kw,hkw⟩,List.mem_of_getElem? hr0⟩
     refine ⟨wv7,_,rfl,(Ac hl7c.symm).trans (s8 _ _ hc7),(Ac hl7D.symm).trans (s8 _ _ hD7),(fun b ob n1 n2 e=>(Ac (An e n7)).trans (s8 _ _ (k7 b ob n1 n2 e))),((t5.trans t7).trans (Ae.of s8)).trans (Ae.lst hl8),(Ac hl7W.symm).trans (s8 _ _ hW7),?_,by omega,(fun k who later z1 z2 z3=>((hs7 k who later z1 z2 z3).up (LT.of s8)).app hl8),(fun who later z1 z2=>((hs72 who later z1 z2).up (LT.of s8)).app hl8),(fun later z=>?_)⟩
     ·exact F8.app (hwo7.up (LT.of s8) (Nat.le_refl _)) (Bo hv7) hl8 hul7 (fun u hu=>(hall7 u hu).up (Ae.of s8)) hway
     ·rw [List.take_add_one,hr0] at z
      rcases List.mem_append.mp z with y | y
      ·exact ((hs73 later y).up (LT.of s8)).app hl8
      ·have ey:later = lk:=by simpa using y
       subst ey
       have tt:Ae H8 (upd H8 l7 (.lst (us7 ++ [.ref T3]))):=Ae.lst hl8
       exact ⟨l7,_,T3,bb,hv7,A5,by simp,tt _ _ e8,hkk8.up tt⟩
    rintro σ H5 ⟨wv5,v6,rfl,hc5,hD5,k5,t5,hW5,hwo5,hwl5,hs5,hs52,hs53⟩
    refine ⟨wv5,_,_,_,rfl,hc5,hD5,k5,t5,hW5,hwo5.up ⟨fun _ _ z=>z,fun _ _ z=>z⟩ (by omega),by omega,hs5,fun who later z1 z2=>?_⟩
    obtain ⟨e,he,ew⟩ := z1
    rw [List.take_add_one,hkv2] at he
    rcases List.mem_append.mp he with y | y
    ·exact hs52 who later ⟨e,y,ew⟩ z2
    ·have ey:e = (.inl (w2:Int),.ref l):=by simpa using y
     subst ey
     have ew2:(w2:Int) = (who:Int):=Sum.inl.inj ew
     have ew3:w2 = who:=by omega
     subst ew3
     refine hs53 later ?_
     rw [hbe2.1,List.take_length]
     exact z2
   rintro σ H3 ⟨wv3,v4,v5,v6,rfl,hc3,hD3,k3,t3,hW3,hwo3,hwl3,hs3,hs32⟩
   have hll:Dh (.dK cs) <= 8:=hcl
   have tz:LT H3 (upd H3 c (.dK cs)):=⟨fun b xs e=>by rw [Ac (Bz e hc3 (by intro z; cases z))]; exact e,fun b xs e=>by rw [Ac (Bz e hc3 (by intro z; cases z))]; exact e⟩
   refine ⟨o2,hc3,wv3,_,_,_,_,_,rfl,(Ac hcD.symm).trans hD3,(fun b ob n1 e=>?_),(Ac hcW.symm).trans hW3,hwo3.up tz (show 16 * i + 2 * Dh (.dK cs) <= 16 * (i + 1) by omega),by omega,fun k who later z1 z2 z3=>?_⟩
   ·by_cases z:b = c
    ·subst z
     rw [hc] at e
     cases e
     exact A5
    ·exact (Ac z).trans (k3 b ob n1 z e)
   ·obtain ⟨v,hv⟩ := z1
    rw [List.take_add_one,hkv] at hv
    rcases List.mem_append.mp hv with y | y
    ·exact (hs3 k who later ⟨v,y⟩ z2 z3).up tz
    ·have ey:(k,v) = (kk,.ref c):=by simpa using y
     cases ey
     obtain ⟨c',cs',g1,g2,g3⟩ := z2
     rw [Dc hps.2.1 hmem] at g1
     cases g1
     rw [hc] at g2
     cases g2
     obtain ⟨w',hw'⟩ := Option.isSome_iff_exists.mp g3
     refine (hs32 who later ⟨(.inl (who:Int),w'),?_,rfl⟩ z3).up tz
     show _ ∈ cs.take cs.length
     rw [List.take_length]
     exact Bo hw'
  rintro σ H' ⟨wv,v2,v3,v4,v5,v6,rfl,hD',k',hW',hwo,hwl,hs1⟩
  have hkl':Dh (.dT kvs) <= 3000:=hkl
  have tD:LT H' (upd H' D (.dT kvs)):=⟨fun b xs e=>by rw [Ac (Bz e hD' (by intro z; cases z))]; exact e,fun b xs e=>by rw [Ac (Bz e hD' (by intro z; cases z))]; exact e⟩
  refine ⟨o,hD',_,rfl,q W wv _ hW (fun b ob e=>?_) ((Ac hWD).trans hW') (hwo.up tD (show 16 * Dh (.dT kvs) <= 48000 by omega)) (fun k who later z2 z3=>?_) (by omega)⟩
  ·by_cases z:b = D
   ·subst z
    rw [hD] at e
    cases e
    exact A5
   ·exact (Ac z).trans (k' b ob z e)
  ·obtain ⟨c',cs',g1,g2,g3⟩ := id z2
   refine (hs1 k who later ⟨.ref c',?_⟩ z2 z3).up tD
   show _ ∈ kvs.take kvs.length
   rw [List.take_length]
   exact Bo g1
def Xq (K : PySem.W.Frag) : Sp := fun vs H Q _ => fo fun (D W R : Addr) (kvs wv : List ((List Int × Int) × V)) (rs : List V) (rho : List (List Int × Int)) (H0 : Hp) (ws : List Int) (cm : Option Int) => Ko (vs = [.ref D, .ref W, .ref R]) (H D = some (.dT kvs)) (Ct ws cm H kvs) (H W = some (.dT wv)) (F8 ws cm H0 kvs 48000 H wv) ((∀ k who later, Au H kvs k who -> some later ∈ Cj ws k.1 cm k.2 who -> Cv H wv later k who)) (H R = some (.lst rs)) (Ah (G8 H) rho rs) (Cn H kvs <= 24000) (∀ (B : Addr) (bs : List V) (beta : List (List Int × Int)) (H' : Hp), H B = none -> Ei kvs H H' -> Ct ws cm H' kvs -> H' B = some (.lst bs) -> Ah (G8 H') beta bs -> Cn H' kvs + bs.length <= Cn H kvs ->
  (∀ k who,Au H' kvs k who ↔ (Au H kvs k who /\ ∀ later ∈ rho,some later ∉ Cj ws k.1 cm k.2 who)) -> (∀ k,k ∈ beta ↔ ((∃ who,Au H kvs k who) /\ ∀ who,¬ Au H' kvs k who)) -> Q (.ref B) H')
theorem il {fd  : FuncData} (T:Txt K mg ad) (F:Fj K "without_calls_left" "without_calls_left" Vd ad.f_x0 fd):Al P w K mg base Bv 1 ad.f_x0 fd ["pending","ways","ranked"] (Xq K):=by
 refine F.ok No (fun vs H Q E h=>?_) (fun cdv A outer s H vs Q E hr h=>?_)
 ·rcases h with ⟨D,W,R,kvs,wv,rs,rho,H0,ws,cm,rfl,hD,hps,hW,hwo,hcm,hR,hrs,hle,q⟩ <;> rfl
 ·obtain ⟨D,W,R,kvs,wv,rs,rho,H0,ws,cm,rfl,hD,hps,hW,hwo,hcm,hR,hrs,hle,q⟩ := h
  refine ⟨_,(A6 (Ao (i:=3) No.nd rfl (Or.inl rfl) (Cl A8)) (A6 (Cc PassesOwn.never rfl (D4 (w':=K7 K _) (D5 (pv 2))) (Af (i:=4) No.nd rfl (Or.inl rfl)) (Ab (Cc PassesOwn.never rfl (D4 (w':=K7 K _) (D5 (Ql (Qo (Ee hr) (pv 1) (pv 4) (Cl A8) ⟨rfl,rfl,rfl,rfl⟩)))) (D3 K (n:=2) rfl (Ax (Af (i:=5) No.nd rfl (Or.inl rfl)) (Ax (Af (i:=6) No.nd rfl (Or.inl rfl)) D2))) (A6 (Ao (i:=7) No.nd rfl (Or.inl rfl) (Et (Ee hr) (pv 0) (pv 5) (fun _ _=>rfl))) (Ab (Ex (Ho (Yg (Ee hr) (pv 6) (pv 7)) rfl) (A6 (Db (Yp (pv 7) (pv 6) ⟨rfl,rfl,rfl,rfl⟩)) (Ab (Ex (E3 (Uo (pv 7))) (Ab (Db (Fz (u':=Y5 K _ _ _ _) (Ha PySem.F.plainAttrs_list PySem.F.slot_list_append PySem.F.type_list_append Df (pv 3) (A0 (pv 5) A8))))) Ak))) Ak)))))) (Ab (Ad (pv 3))))),?_⟩
  have hpo:=hps.ok
  refine ⟨B0,fun B hB=>?_⟩
  have s1:A7 H (upd H B (.lst [])):=A7.upd hB
  have e1:(upd H B (.lst [])) B = some (.lst []):=A5
  generalize upd H B (.lst []) = H1 at s1 e1 ⊢
  have c1:∀ c cs,H c = some (.dK cs) -> H1 c = some (.dK cs):=fun c cs e=>s1 _ _ e
  refine ⟨_,rfl,R,rfl,.inl ⟨⟨_,B9.of (s1 _ _ hR)⟩,?_⟩⟩
  refine Cq (K:=K) (a:=R) (xs:=rs) (fun i σ H'=>Z9 fun (bs:List V) (beta:List (List Int × Int)) (v4 v5 v6 v7:Option V)=>Uj (σ = [some (.ref D),some (.ref W),some (.ref R),some (.ref B),v4,v5,v6,v7]) (Ei kvs H H') (Ct ws cm H' kvs) (H' B = some (.lst bs)) (Ah (G8 H') beta bs) (Cn H' kvs + bs.length <= Cn H kvs) (Vs B H' kvs) ((ab kvs H' H)) ((cc ws cm kvs rho i H H')) ((g9 ws cm kvs rho i H')) ((k9 kvs H H' beta)))
   ⟨[],[],_,_,_,_,rfl,Ei.of s1,hps.keep (LT.of s1) c1,e1,Ah.nil,by rw [Ea hpo c1]; exact Nat.le_refl _,(Vs.start hpo hB).keep hpo c1,(fun k who z=>(Au.keep hps c1).mp z),(fun k who z _=>(Au.keep hps c1).mpr z),(fun later z=>by rw [List.take_zero] at z; cases z),fun k=>⟨(fun z=>by cases z),fun z=>?_⟩⟩ (by rintro i σ H' _ ⟨_,_,_,_,_,_,_,ch,_⟩; exact B9.of (ch.keep hpo hR (fun cs z=>nomatch z))) ?_ ?_
  ·obtain ⟨⟨who,z1⟩,z2⟩ := z
   exact absurd ((Au.keep hps c1).mpr z1) (z2 who)
  ·rintro i u σ H' hu ⟨bs,beta,v4,v5,v6,v7,rfl,ch,hps',hB',hbs,hlf,nb,l1,l2,l3,l4⟩
   obtain ⟨lk,hlk0,lb,lu,rfl,hlk1,hlk2⟩ := hrs.get hu
   have hlk:E5 H lb lk:=⟨lu,hlk1,hlk2⟩
   have hpo':=hps'.ok
   have lt':=ch.lt hpo
   have hW':=ch.keep hpo hW (fun cs z=>nomatch z)
   have hwo':=hwo.up lt' (Nat.le_refl _)
   refine ⟨(fun v H7=>We fun (la:Addr) (us2:List V)=>L6 (v = .ref la) (H7 la = some (.lst us2)) (la ≠ B) ((∀ u ∈ us2,Pa ws cm kvs H7 lk u)) ((∀ lx,Ai wv lk = some (.ref lx) -> lx = la)) (A7 H' H7)),⟨_,rfl,W,rfl,.inr ⟨wv,.inl hW'⟩,_,rfl,B0,fun E hE=>?_⟩,?_⟩
   ·have s6:A7 H' (upd H' E (.lst [])):=A7.upd hE
    refine ⟨_,D8.t (s6 _ _ hW') ((hlk.up lt'.2).up (Ae.of s6)),?_⟩
    cases hv:Ai wv lk with
    | none=>exact ⟨E,[],rfl,A5,(An hB' hE).symm,(fun u hu=>by cases hu),(fun lx z=>by cases z),s6⟩
    | some v =>
     obtain ⟨la,us2,e2,h0,h1,h2,h3⟩ := hwo.1 _ (Bo hv)
     obtain ⟨lc,us3,e3,_,g1,_,g3⟩ := hwo'.1 _ (Bo hv)
     have e23:V.ref la = V.ref lc:=e2.symm.trans e3
     cases e23
     have e3':v = .ref la:=e3
     exact ⟨la,us3,e3,s6 _ _ g1,An h1 hB,(fun u hu=>(g3 u hu).up (Ae.of s6)),(fun lx z=>by rw [e3'] at z; cases z; rfl),s6⟩
   rintro v H7 ⟨la,us2,rfl,hla,hlaB,hus2,hlx,s7⟩
   refine ⟨la,rfl,.inl ⟨⟨_,B9.of hla⟩,?_⟩⟩
   have c7:∀ c cs,H' c = some (.dK cs) -> H7 c = some (.dK cs):=fun c cs e=>s7 _ _ e
   have hps7:=hps'.keep (LT.of s7) c7
   have lt7:LT H H7:=lt'.trans (LT.of s7)
   refine Cq (K:=K) (a:=la) (xs:=us2) (fun j σ H8=>iw fun (bs:List V) (beta:List (List Int × Int)) (v5 v6 v7:Option V)=>ak (σ = [some (.ref D),some (.ref W),some (.ref R),some (.ref B),some (.ref lb),v5,v6,v7]) (Ei kvs H H8) (Ct ws cm H8 kvs) (H8 B = some (.lst bs)) (Ah (G8 H8) beta bs) (Cn H8 kvs + bs.length <= Cn H kvs) (Vs B H8 kvs) ((ab kvs H8 H)) ((cc ws cm kvs rho (i + 1) H H8)) ((g9 ws cm kvs rho i H8)) ((k9 kvs H H8 beta)) (Ae H7 H8) (H8 la = some (.lst us2)) ((ab kvs H8 H7)) (rh H7 us2 j H8 kvs))
    ⟨bs,beta,_,_,_,rfl,ch.trans (Ei.of s7),hps7,s7 _ _ hB',hbs.imp (fun _ _ z=>G8.up (Ae.of s7) z),by rw [Ea hpo' c7]; exact hlf,nb.keep hpo' c7,(fun k who z=>l1 k who ((Au.keep hps' c7).mp z)),(fun k who z1 z2=>(Au.keep hps' c7).mpr (l2 k who z1 fun later hl=>z2 later (List.take_subset_take_left _ (Nat.le_succ i) hl))),(fun later hl k who z1 z2=>l3 later hl k who z1 ((Au.keep hps' c7).mp z2)),(fun k=>(l4 k).trans ⟨fun z=>⟨z.1,fun who y=>z.2 who ((Au.keep hps' c7).mp y)⟩,fun z=>⟨z.1,fun who y=>z.2 who ((Au.keep hps' c7).mpr y)⟩⟩),(fun _ _ z=>z),hla,(fun k who z=>z),(fun t b who k z=>by rw [List.take_zero] at z; cases z)⟩ (by rintro j σ H8 _ ⟨_,_,_,_,_,_,_,_,_,_,_,_,_,_,_,_,_,e,_⟩; exact B9.of e) ?_ ?_
   ·rintro j u σ H8 hu2 ⟨bs8,beta8,v5,v6,v7,rfl,ch8,hps8,hB8,hbs8,hlf8,nb8,m1,m2,m3,m4,lt8,hla8,m5,m6⟩
    have hpo8:=hps8.ok
    obtain ⟨t,b,who,k,rfl,ht7,hb7,⟨v,hkv⟩,hbeh⟩ := hus2 u (List.mem_of_getElem? hu2)
    have ht:=lt8 _ _ ht7
    have hb:=hb7.up lt8
    refine ⟨t,_,rfl,Br.of ht,rfl,_,_,rfl,_,_,rfl,rfl,?_⟩
    have hD8:=ch8.keep hpo hD (fun cs z=>nomatch z)
    have hmem:=Bo hkv
    obtain ⟨c,cs,ev,hc,hcl,hco⟩ := hps8.1 _ hmem
    have ev':v = .ref c:=ev
    subst ev'
    have taken:∀ (HX:Hp),(∀ k' who',Au HX kvs k' who' -> Au H8 kvs k' who') -> ¬ Au HX kvs k who -> ∀ t' b' who' k',V.ref t' ∈ us2.take (j + 1) -> H7 t' = some (.tup [.ref b',.int ((who':Nat):Int)]) -> E5 H7 b' k' -> ¬ Au HX kvs k' who':=fun HX hx1 hx2 t' b' who' k' z1 z2 z3 z4=>by
     rw [List.take_add_one,hu2] at z1
     rcases List.mem_append.mp z1 with y | y
     ·exact m6 t' b' who' k' y z2 z3 (hx1 _ _ z4)
     ·have e1:t' = t:=by simpa using y
      subst e1
      rw [ht7] at z2
      cases z2
      obtain ⟨u1,f1,f2⟩ := hb7
      obtain ⟨u2,g1,g2⟩ := z3
      rw [f1] at g1
      injection g1 with g1
      injection g1 with g1
      injection g1 with g1a g1b
      injection g1b with g1b
      injection g1a with g1a
      injection g1b with g1b
      subst g1a
      rw [f2] at g2
      have ek:k = k':=by
       have h1:k.1 = k'.1:=by
        have:=Option.some.inj g2
        injection this with this
        exact Jn this
       exact Prod.ext h1 g1b
      subst ek
      exact hx2 z4
    refine ⟨_,rfl,_,rfl,D,.ref c,rfl,(by rw [<- hkv]; exact D8.t hD8 hb),?_⟩
    refine ⟨_,rfl,_,rfl,c,_,rfl,D8.k (k := .inl (who:Int)) hc,_,rfl,_,fun hin=>?_,fun hin=>?_,fun _ _ z=>z⟩
    ·obtain ⟨w',hw⟩ := Option.isSome_iff_exists.mp hin
     have hleft:Au H8 kvs k who:=⟨c,cs,hkv,hc,by rw [hw]; rfl⟩
     refine ⟨_,rfl,c,rfl,.inl ⟨cs,.inl hc⟩,_,rfl,cs,.inl (who:Int),w',hc,rfl,hw,?_⟩
     have ch9:Ei kvs H8 (upd H8 c (.dK (C4 cs (.inl (who:Int))))):=Ei.pop hmem rfl
     have hps9:Ct ws cm (upd H8 c (.dK (C4 cs (.inl (who:Int))))) kvs:=hps8.pop hc
     have lt9:LT H8 (upd H8 c (.dK (C4 cs (.inl (who:Int))))):=LT.dK hc
     have hc9:(upd H8 c (.dK (C4 cs (.inl (who:Int))))) c = some (.dK (C4 cs (.inl (who:Int)))):=A5
     have nb9:Vs B (upd H8 c (.dK (C4 cs (.inl (who:Int))))) kvs:=nb8.pop hc
     have hl9:=(O2 hc (Zq hw) (kvs:=kvs)).2 ⟨_,hmem,rfl⟩
     have lp9:∀ k' who',Au (upd H8 c (.dK (C4 cs (.inl (who:Int))))) kvs k' who' ↔ Au H8 kvs k' who' /\ ¬ (k' = k /\ who' = who):=fun k' who'=>Au.pop hps8 hkv hc
     generalize upd H8 c (.dK (C4 cs (.inl (who:Int)))) = H9 at ch9 hps9 lt9 hc9 nb9 hl9 lp9 ⊢
     have hpo9:=hps9.ok
     have hB9:=lt9.1 _ _ hB8
     have hb9:=hb.up lt9.2
     have n1:∀ k' who',Au H9 kvs k' who' -> Au H kvs k' who':=fun k' who' z=>m1 _ _ ((lp9 k' who').mp z).1
     have n2:∀ k' who',Au H kvs k' who' -> (∀ later ∈ rho.take (i + 1),some later ∉ Cj ws k'.1 cm k'.2 who') -> Au H9 kvs k' who':=fun k' who' z1 z2=>(lp9 k' who').mpr ⟨m2 _ _ z1 z2,fun e=>by
      refine z2 lk ?_ (by rw [e.1,e.2]; exact hbeh)
      rw [List.take_add_one,hlk0]
      simp⟩
     have n3:∀ later ∈ rho.take i,∀ k' who',some later ∈ Cj ws k'.1 cm k'.2 who' -> ¬ Au H9 kvs k' who':=fun later hl k' who' z1 z2=>m3 later hl k' who' z1 ((lp9 k' who').mp z2).1
     have n5:∀ k' who',Au H9 kvs k' who' -> Au H8 kvs k' who':=fun k' who' z=>((lp9 k' who').mp z).1
     have n6:=taken H9 n5 (fun z=>((lp9 k who).mp z).2 ⟨rfl,rfl⟩)
     have other:∀ k',k' ≠ k -> ((∀ who',¬ Au H9 kvs k' who') ↔ ∀ who',¬ Au H8 kvs k' who'):=fun k' hk'=>⟨fun z who' y=>z who' ((lp9 k' who').mpr ⟨y,fun e=>hk' e.1⟩),fun z who' y=>z who' (n5 _ _ y)⟩
     have hkb:k ∉ beta8:=fun z=>((m4 k).mp z).2 who hleft
     refine ⟨_,rfl,c,_,rfl,.inl hc9,_,fun he=>?_,fun he=>?_,fun _ _ z=>z⟩
     ·have hemp : C4 cs (.inl (who : Int)) = [] := by
       have:(C4 cs (.inl (who:Int))).isEmpty = true:=by simpa using he
       exact List.isEmpty_iff.mp this
      have hnone:∀ who',¬ Au H9 kvs k who':=fun who' z=>by
       obtain ⟨c',cs',g1,g2,g3⟩ := z
       rw [hkv] at g1
       cases g1
       rw [hc9] at g2
       cases g2
       rw [hemp] at g3
       cases g3
      refine ⟨_,rfl,.inl ⟨rfl,_,B9.of hB9⟩,_,rfl,B,_,_,rfl,rfl,hB9,Ba (by omega),?_⟩
      have t10:Ae H9 (upd H9 B (.lst (bs8 ++ [.ref b]))):=Ae.lst hB9
      have k10:∀ c' cs',H9 c' = some (.dK cs') -> (upd H9 B (.lst (bs8 ++ [.ref b]))) c' = some (.dK cs'):=fun c' cs' e=>by
       rw [Ac (Bz e hB9 (by intro z; cases z))]
       exact e
      have kl:∀ x xs,x ≠ B -> H9 x = some (.lst xs) -> (upd H9 B (.lst (bs8 ++ [.ref b]))) x = some (.lst xs):=fun x xs n e=>(Ac n).trans e
      have lp10:∀ k' who',Au (upd H9 B (.lst (bs8 ++ [.ref b]))) kvs k' who' ↔ Au H9 kvs k' who':=fun k' who'=>Au.keep hps9 k10
      obtain ⟨ub,hb91,hb92⟩ := hb9
      refine ⟨bs8 ++ [.ref b],beta8 ++ [k],_,_,_,rfl,(ch8.trans ch9).new hB,hps9.keepB nb9 t10 kl k10,A5,(hbs8.imp fun _ _ z=>G8.up t10 (G8.up lt9.2 z)).append (Ah.one ⟨b,ub,rfl,t10 _ _ hb91,t10 _ _ hb92⟩),?_,nb9.keep hpo9 k10,(fun k' who' z=>n1 _ _ ((lp10 k' who').mp z)),(fun k' who' z1 z2=>(lp10 k' who').mpr (n2 _ _ z1 z2)),(fun later hl k' who' z1 z2=>n3 later hl k' who' z1 ((lp10 k' who').mp z2)),(fun k'=>?_),(lt8.trans lt9.2).trans t10,kl _ _ hlaB (lt9.1 _ _ hla8),(fun k' who' z=>m5 _ _ (n5 _ _ ((lp10 k' who').mp z))),(fun t' b' who' k' z1 z2 z3 z4=>n6 t' b' who' k' z1 z2 z3 ((lp10 k' who').mp z4))⟩
      ·rw [Ea hpo9 k10,List.length_append,List.length_singleton]
       omega
      ·have e10:(∀ who',¬ Au (upd H9 B (.lst (bs8 ++ [.ref b]))) kvs k' who') ↔ ∀ who',¬ Au H9 kvs k' who':=⟨fun z who' y=>z who' ((lp10 k' who').mpr y),fun z who' y=>z who' ((lp10 k' who').mp y)⟩
       rw [e10]
       by_cases hk':k' = k
       ·subst hk'
        exact ⟨fun _=>⟨⟨who,m1 _ _ hleft⟩,hnone⟩,fun _=>by simp⟩
       ·rw [other k' hk',<- m4 k']
        simp [hk']
     ·have hne : C4 cs (.inl (who : Int)) ≠ [] := fun z => by
       rw [z] at he
       exact absurd he (by decide)
      refine ⟨bs8,beta8,_,_,_,rfl,ch8.trans ch9,hps9,hB9,hbs8.imp (fun _ _ z=>G8.up lt9.2 z),by omega,nb9,n1,n2,n3,(fun k'=>?_),lt8.trans lt9.2,lt9.1 _ _ hla8,(fun k' who' z=>m5 _ _ (n5 _ _ z)),n6⟩
      by_cases hk':k' = k
      ·subst hk'
       refine ⟨fun z=>absurd z hkb,fun z=>?_⟩
       obtain ⟨x,hx⟩ := List.exists_mem_of_ne_nil _ hne
       obtain ⟨who2,l9,us9,g1,_⟩ := hco x (Kv hx)
       have hs:(Ai (C4 cs (.inl (who:Int))) (.inl (who2:Int))).isSome = true:=by
        obtain ⟨y,hy⟩ := Jp (k:=x.1) (v:=x.2) hx
        rw [<- g1,hy]
        rfl
       exact absurd ⟨c,_,hkv,hc9,hs⟩ (z.2 who2)
      ·rw [other k' hk']
       exact m4 k'
    ·have hno : ¬ Au H8 kvs k who := fun z => by
      obtain ⟨c',cs',g1,g2,g3⟩ := z
      rw [hkv] at g1
      cases g1
      rw [hc] at g2
      cases g2
      rw [hin] at g3
      cases g3
     exact ⟨bs8,beta8,_,_,_,rfl,ch8,hps8,hB8,hbs8,hlf8,nb8,m1,m2,m3,m4,lt8,hla8,m5,taken H8 (fun _ _ z=>z) hno⟩
   rintro σ H8 ⟨bs8,beta8,v5,v6,v7,rfl,ch8,hps8,hB8,hbs8,hlf8,nb8,m1,m2,m3,m4,lt8,hla8,m5,m6⟩
   refine ⟨bs8,beta8,_,_,_,_,rfl,ch8,hps8,hB8,hbs8,hlf8,nb8,m1,m2,(fun later hl k who z1 z2=>?_),m4⟩
   rw [List.take_add_one,hlk0] at hl
   rcases List.mem_append.mp hl with y | y
   ·exact m3 later y k who z1 z2
   ·have e1:later = lk:=by simpa using y
    subst e1
    obtain ⟨lx,ux,tx,bx,f1,f2,f3,f4,f5⟩ := (hcm k who later (m1 _ _ z2) z1).up lt7
    have ex:=hlx lx f1
    subst ex
    rw [hla] at f2
    cases f2
    refine m6 tx bx who k ?_ f4 f5 z2
    rw [List.take_length]
    exact f3
  rintro σ H' ⟨bs,beta,v4,v5,v6,v7,rfl,ch,hps',hB',hbs,hlf,nb,l1,l2,l3,l4⟩
  unfold cc at l2
  unfold g9 at l3
  rw [hrs.1,List.take_length] at l2 l3
  exact ⟨_,rfl,q B bs beta H' hB ch hps' hB' hbs hlf (fun k who=>⟨fun z=>⟨l1 k who z,fun later hl y=>l3 later hl k who y z⟩,fun z=>l2 k who z.1 z.2⟩) l4⟩
def Sz (K:PySem.W.Frag):Sp:=fun vs H Q _=>Pj fun (a:Addr) (ws:List Int) (cm:Option Int)=>Oq (vs = [.ref a]) (Bq H a ws cm) ((∀ w ∈ ws,1 <= w)) (1 <= qv cm) ((∀ w ∈ ws,intBits w <= 256)) (intBits (qv cm) <= 256) (ws.length <= 8) (Aq (qv cm) ws <= 3000) (∀ (T:Addr) (tv:List ((List Int × Int) × V)) (H':Hp),H T = none -> A7 H H' -> H' T = some (.dT tv) -> He ws cm tv -> (tv.map (·.1)).Nodup -> tv.length <= 60000 -> Q (.ref T) H')
theorem gk {fd fd_x2 fd_x31 fd_x0:FuncData} (T:Txt K mg ad) (F:Fj K "ranks" "ranks" Kl ad.f_x33 fd) (G_x2:Al P w K mg base Bv 6 ad.f_x2 fd_x2 ["hall"] (X3 K)) (B_x2:B8 K fd_x2 ["hall"] []) (G_x31:Al P w K mg base Bv 1 ad.f_x31 fd_x31 ["pending"] (Tc K)) (B_x31:B8 K fd_x31 ["pending"] []) (G_x0:Al P w K mg base Bv 1 ad.f_x0 fd_x0 ["pending","ways","ranked"] (Xq K)) (B_x0:B8 K fd_x0 ["pending","ways","ranked"] []):Al P w K mg base Bv 7 ad.f_x33 fd ["hall"] (Sz K):=by
 refine F.ok Fk (fun vs H Q E h=>?_) (fun cdv A outer s H vs Q E hr h=>?_)
 ·rcases h with ⟨a,ws,cm,rfl,ha,hw1,hq1,hb1,hb2,hw8,hp,q⟩ <;> rfl
 ·obtain ⟨a,ws,cm,rfl,ha,hw1,hq1,hb1,hb2,hw8,hp,q⟩ := h
  refine ⟨_,(A6 (Ao (i:=1) Fk.nd rfl (Or.inl rfl) (Aj G_x2 (hr.mono (by decide)) rfl T.m_x2 T.k_x2 B_x2 .nil Bf (A0 (pv 0) A8))) (A6 (Ao (i:=2) Fk.nd rfl (Or.inl rfl) (Aj G_x31 (hr.mono (by decide)) rfl T.m_x31 T.k_x31 B_x31 .nil Bf (A0 (pv 1) A8))) (A6 (Ao (i:=3) Fk.nd rfl (Or.inl rfl) Ga) (A6 (Ao (i:=4) Fk.nd rfl (Or.inl rfl) A9) (A6 (P8 (Du (i:=5) Fk.nd rfl (Il (pv 1)) _ rfl Ry rfl rfl (fun _ _ _ _=>(D3 K (n:=2) rfl (Ax (Af (i:=0) Lc rfl (Or.inl rfl)) (Ax (Af (i:=1) Lc rfl (Or.inl rfl)) D2)))) (fun _ _ _ _=>(Ue (E3 (Uo (pv 1))))) (fun _ _ _ _=>(pv 0)) rfl rfl)) (A6 (Re PassesOwn.never (Qs (pv 5) (by intro _; rfl)) (A6 (Cc PassesOwn.never rfl (D4 (w':=K7 K _) (D5 (pv 5))) (Af (i:=6) Fk.nd rfl (Or.inl rfl)) (Ab (I9 (Ee hr) (pv 3) (pv 6) (pv 4) rfl))) (A6 (Ao (i:=5) Fk.nd rfl (Or.inl rfl) (Aj G_x0 (hr.mono (by decide)) rfl T.m_x0 T.k_x0 B_x0 .nil Bf (A0 (pv 1) (A0 (pv 2) (A0 (pv 5) A8))))) (Ab (Ao (i:=4) Fk.nd rfl (Or.inl rfl) (Ag C7 (pv 4) A9)))))) (Ab (Ad (pv 3))))))))),?_⟩
  refine ⟨_,rfl,a,ws,cm,rfl,ha,hw1,hq1,hb1,hb2,hw8,hp,fun D kvs H1 hD s1 eD hps hkeys hful hfr hkl=>?_⟩
  have hpo:=hps.ok
  refine ⟨_,rfl,D,kvs,ws,cm,rfl,eD,hps,hkl,fun W wv H2 hW s2 eW hwo hcmp hwl=>?_⟩
  refine fun T hT=>?_
  have s3:A7 H2 (upd H2 T (.dT [])):=A7.upd hT
  have e3:(upd H2 T (.dT [])) T = some (.dT []):=A5
  generalize upd H2 T (.dT []) = H3 at s3 e3 ⊢
  have s13:=s2.trans s3
  have eD3:=s13 _ _ eD
  have hTD:T ≠ D:=(An (s2 _ _ eD) hT).symm
  refine ⟨D,.dT kvs,trivial,eD3,_,rfl,D,.dT kvs,rfl,trivial,eD3,fun o=>?_⟩
  have hps3:=hps.keep (LT.of s13) (fun c cs e=>s13 _ _ e)
  have hpo3:=hps3.ok
  have hful3:=hful.keep hps (fun c cs e=>s13 _ _ e)
  have tF:LT H3 (upd H3 D (.frz o (.dT kvs))):=LT.dT eD3
  have kF:∀ c cs,H3 c = some (.dK cs) -> (upd H3 D (.frz o (.dT kvs))) c = some (.dK cs):=fun c cs e=>by
   rw [Ac (Bz e eD3 (by intro z; cases z))]
   exact e
  have bF:∀ b ob,b ≠ D -> H3 b = some ob -> (upd H3 D (.frz o (.dT kvs))) b = some ob:=fun b ob n e=>(Ac n).trans e
  have dF:(upd H3 D (.frz o (.dT kvs))) D = some (.frz o (.dT kvs)):=A5
  have hpsF:=hps3.keep tF kF
  have hfulF:=hful3.keep hps3 kF
  generalize upd H3 D (.frz o (.dT kvs)) = HF at tF kF bF dF hpsF hfulF ⊢
  refine fun R hR=>?_
  refine Ki (K:=K) (d:=D) (o:=o) (u := .dT kvs) (fun i zs H'=>∃ (rho:List (List Int × Int)),Gy (H' R = some (.lst zs)) (zs.length <= i) (Ah (G8 H') rho zs) (A7 HF H') (∀ k,k ∈ rho ↔ ∃ v,(k,v) ∈ kvs.take i /\ Xs HF v)) ⟨[],A5,Nat.le_refl _,Ah.nil,A7.upd hR,fun k=>⟨(fun z=>by cases z),fun ⟨v,z,_⟩=>by rw [List.take_zero] at z; cases z⟩⟩ (by rintro i zs H' _ ⟨_,_,_,_,s,_⟩; exact s _ _ dF) ?_ ?_ ?_ ?_
  ·rintro i x y T2 zs H' hi hit ⟨rho,hR',hzl,hzs,s',hrho⟩ hT2
   have hi3:i < 3000:=Nat.lt_of_lt_of_le hi hkl
   obtain ⟨kk,bb,hkv,rfl,hkk⟩ := hit
   obtain ⟨c,cs,ey,hc,hcl,hco⟩ := hpsF.1 _ (List.mem_of_getElem? hkv)
   have ey':y = .ref c:=ey
   subst ey'
   have s4:A7 H' (upd H' T2 (.tup [.ref bb,.ref c])):=A7.upd hT2
   have e4:(upd H' T2 (.tup [.ref bb,.ref c])) T2 = some (.tup [.ref bb,.ref c]):=A5
   generalize upd H' T2 (.tup [.ref bb,.ref c]) = H4 at s4 e4 ⊢
   have hR4:=s4 _ _ hR'
   refine ⟨_,rfl,c,cs,rfl,.inl (s4 _ _ (s' _ _ hc)),?_⟩
   obtain ⟨ku,hk1,hk2⟩ := hkk.up (Ae.of s4)
   refine Cu (fun hc0=>?_) (fun hc0=>?_)
   ·have hemp : cs = [] := by
     have:cs.isEmpty = true:=by simpa using hc0
     exact List.isEmpty_iff.mp this
    subst hemp
    have tt:Ae H4 (upd H4 R (.lst (zs ++ [.ref bb]))):=Ae.lst hR4
    refine ⟨_,rfl,hR4,Ba (by omega),rho ++ [kk],A5,by rw [List.length_append,List.length_singleton]; omega,(hzs.imp fun _ _ z=>G8.up tt (G8.up (Ae.of s4) z)).append (Ah.one ⟨bb,ku,rfl,tt _ _ hk1,tt _ _ hk2⟩),(s'.trans s4).new hR,fun k=>?_⟩
    rw [List.mem_append,hrho,List.mem_singleton,List.take_add_one,hkv]
    constructor
    ·rintro (⟨v,z1,z2⟩ | z)
     ·exact ⟨v,List.mem_append_left _ z1,z2⟩
     ·subst z
      exact ⟨.ref c,by simp,c,rfl,hc⟩
    ·rintro ⟨v,z1,z2⟩
     rcases List.mem_append.mp z1 with y | y
     ·exact .inl ⟨v,y,z2⟩
     ·have e1:(k,v) = (kk,.ref c):=by simpa using y
      cases e1
      exact .inr rfl
   ·have hne : cs ≠ [] := fun z => by
     rw [z] at hc0
     exact absurd hc0 (by decide)
    refine ⟨rho,hR4,by omega,hzs.imp fun _ _ z=>G8.up (Ae.of s4) z,s'.trans s4,fun k=>?_⟩
    rw [hrho,List.take_add_one,hkv]
    constructor
    ·rintro ⟨v,z1,z2⟩
     exact ⟨v,List.mem_append_left _ z1,z2⟩
    ·rintro ⟨v,z1,z2⟩
     rcases List.mem_append.mp z1 with y | y
     ·exact ⟨v,y,z2⟩
     ·have e1:(k,v) = (kk,.ref c):=by simpa using y
      cases e1
      obtain ⟨c',e2,e3⟩ := z2
      cases e2
      rw [hc] at e3
      cases e3
      exact absurd rfl hne
  ·rintro σ H1 Q1 Q2 hQ ⟨v,e1,c,cs,e2,r,z⟩
   exact ⟨v,e1,c,cs,e2,r,hQ _ _ z⟩
  ·rintro σ H1 Q1 Q2 hQ ⟨v,e1,z⟩
   exact ⟨v,e1,hQ _ _ z⟩
  rintro zs HG ⟨rho0,hRG,hzl,hzs,sG,hrho0⟩
  rw [show kvs.take (Dh (.dT kvs)) = kvs from List.take_length] at hrho0
  have hst0:=Fq.start hpsF hkeys hfulF hrho0
  have hDG:=sG _ _ dF
  have hkl':Dh (.dT kvs) <= 3000:=hkl
  have tG:LT HG (upd HG D (.dT kvs)):=⟨fun b xs e=>by rw [Ac (Bz e hDG (by intro z; cases z))]; exact e,fun b xs e=>by rw [Ac (Bz e hDG (by intro z; cases z))]; exact e⟩
  have s34:A7 H3 (upd HG D (.dT kvs)):=fun b ob e=>by
   by_cases z:b = D
   ·subst z
    rw [eD3] at e
    cases e
    exact A5
   ·exact (Ac z).trans (sG _ _ (bF b ob z e))
  refine ⟨o,hDG,?_⟩
  have hR4:=tG.1 _ _ hRG
  have hzs4:Ah (G8 (upd HG D (.dT kvs))) rho0 zs:=hzs.imp fun _ _ z=>G8.up tG.2 z
  have cG:∀ c cs,HF c = some (.dK cs) -> (upd HG D (.dT kvs)) c = some (.dK cs):=fun c cs e=>by
   rw [Ac (Bz (sG _ _ e) hDG (by intro z; cases z))]
   exact sG _ _ e
  have hR3:H3 R = none:=by
   cases hx:H3 R with
   | none=>rfl
   | some ob =>
    by_cases z:R = D
    ·rw [z,dF] at hR
     cases hR
    ·rw [bF R ob z hx] at hR
     cases hR
  generalize upd HG D (.dT kvs) = H4 at tG s34 hR4 hzs4 cG ⊢
  clear tG hRG hzs sG hDG
  have hps4:=hps3.keep (LT.of s34) (fun c cs e=>s34 _ _ e)
  have hpo4:=hps4.ok
  have hst4:Fq ws cm [] rho0 1 (Au H4 kvs):=by
   have e:Au H4 kvs = Au HF kvs:=by
    funext k who
    exact propext (Au.keep hpsF cG)
   rw [e]
   exact hst0
  have hcm4:∀ k who later,Au H4 kvs k who -> some later ∈ Cj ws k.1 cm k.2 who -> Cv H4 wv later k who:=fun k who later z1 z2=>((hcmp k who later ((Au.keep hps (fun c cs e=>s34 _ _ (s13 _ _ e))).mp z1) z2).up (LT.of s3)).up (LT.of s34)
  have eD4:=s34 _ _ eD3
  have eW4:=s34 _ _ (s3 _ _ eW)
  have eT4:=s34 _ _ e3
  have hwo4:=hwo.up ((LT.of s3).trans (LT.of s34)) (Nat.le_refl _)
  have hl4:Cn H4 kvs <= 24000:=by
   have:=Kf hpo4
   omega
  have hTv:∀ kv ∈ kvs,kv.2 ≠ .ref T:=fun kv hkv z=>by
   obtain ⟨c,cs,e1,e2,_⟩ := hpo3 kv hkv
   rw [z] at e1
   cases e1
   rw [e3] at e2
   cases e2
  dsimp only
  refine R9 (fun σ' H'=>Z9 fun (R:Addr) (rs:List V) (rho:List (List Int × Int)) (tv:List ((List Int × Int) × V)) (rank:Int) (v6:Option V)=>Ko (σ' = [some (.ref a),some (.ref D),some (.ref W),some (.ref T),some (.int rank),some (.ref R),v6]) ((si T kvs H4 H')) (Ct ws cm H' kvs) (H' T = some (.dT tv)) ((tv.map (·.1)).Nodup) (H' R = some (.lst rs)) (Ah (G8 H') rho rs) (Fq ws cm tv rho rank (Au H' kvs)) ((ab kvs H' H4)) (tv.length + rs.length + Cn H' kvs <= 27000))
   (fun σ' H'=>2 * Cn H' kvs + match σ' with
    | [_,_,_,_,_,some (.ref R),_]=>(match H' R with
     | some (.lst [])=>0
     | _=>1)
    | _=>0) ⟨R,zs,rho0,[],1,_,rfl,(fun b ob _ e _=>e),hps4,eT4,List.Pairwise.nil,hR4,hzs4,hst4,(fun _ _ z=>z),by show 0 + zs.length + _ <= _; omega⟩ ?_ ?_
  ·rintro σ' H' ⟨R,rs,rho,tv,rank,v6,rfl,kp,hps',hT',htv,hR',hrs,hri,hsub,hsum⟩
   have hpo':=hps'.ok
   refine ⟨_,rfl,_,.inl ⟨_,B9.of hR',rfl⟩,?_⟩
   have hD':=kp D _ hTD.symm eD4 (fun kv hkv z=>by
    obtain ⟨c,cs,e1,e2,_⟩ := hpo4 kv hkv
    rw [z] at e1
    cases e1
    rw [eD4] at e2
    cases e2)
   refine Cu (fun hne=>?_) (fun hemp=>?_)
   ·have hrs0 : 0 < rs.length := by
     cases rs with
     | nil=>exact absurd hne (by decide)
     | cons x xs=>simp
    have hRT:R ≠ T:=Bz hR' hT' (by intro z; cases z)
    have mu0:(match H' R with
     | some (.lst [])=>0
     | _=>1) = 1:=by
     rw [hR']
     cases rs with
     | nil=>exact absurd hrs0 (by decide)
     | cons x xs=>rfl
    refine ⟨_,rfl,R,rfl,.inl ⟨⟨_,B9.of hR'⟩,?_⟩⟩
    refine Cq (K:=K) (a:=R) (xs:=rs) (fun i σ H5=>We fun (tv5:List ((List Int × Int) × V)) (v6:Option V)=>Xp (σ = [some (.ref a),some (.ref D),some (.ref W),some (.ref T),some (.int rank),some (.ref R),v6]) ((∀ b,b ≠ T -> H5 b = H' b)) (H5 T = some (.dT tv5)) ((tv5.map (·.1)).Nodup) ((∀ kv ∈ tv5,∃ n:Int,kv.2 = .int n /\ 1 <= n /\ n < rank + 1)) ((∀ k,Ai tv5 k = if k ∈ rho.take i then some (.int rank) else Ai tv k)) (tv5.length <= tv.length + i))
     ⟨tv,_,rfl,(fun _ _=>rfl),hT',htv,(fun kv hkv=>by obtain ⟨n,e1,e2,e3⟩ := hri.2.1 kv hkv; exact ⟨n,e1,e2,by omega⟩),(fun k=>by rw [List.take_zero,if_neg (by simp)]),Nat.le_refl _⟩ (by rintro i σ H5 _ ⟨_,_,_,e,_⟩; exact B9.of ((e R hRT).trans hR')) ?_ ?_
    ·rintro i u σ H5 hu ⟨tv5,v6,rfl,k5,hT5,hnd5,htv5,hva5,hl5⟩
     have hi:=(List.getElem?_eq_some_iff.mp hu).1
     obtain ⟨k,hk0,b,u1,rfl,hb1,hb2⟩ := hrs.get hu
     have hbk:E5 H5 b k:=⟨u1,(k5 b (Bz hb1 hT' (by intro z; cases z))).trans hb1,(k5 u1 (Bz hb2 hT' (by intro z; cases z))).trans hb2⟩
     refine ⟨_,rfl,_,rfl,_,rfl,T,_,rfl,Ky.t hT5 hbk (Ba (by omega)),?_⟩
     refine ⟨Bm tv5 k (.int rank),_,rfl,(fun x n=>(Ac n).trans (k5 x n)),A5,gf hnd5,Qg (P:=fun v=>∃ n:Int,v = .int n /\ 1 <= n /\ n < rank + 1) htv5 ⟨rank,rfl,hri.1,by omega⟩,(fun k'=>?_),Nat.le_trans (De _ _ _) (by omega)⟩
     rw [Gg,hva5,List.take_add_one,hk0]
     by_cases z:k' = k
     ·rw [if_pos z,if_pos (by rw [z]; simp)]
     ·rw [if_neg z]
      have e:(k' ∈ rho.take i ++ (some k).toList) ↔ k' ∈ rho.take i:=by simp [z]
      by_cases y:k' ∈ rho.take i
      ·rw [if_pos y,if_pos (e.mpr y)]
      ·rw [if_neg y,if_neg (fun x=>y (e.mp x))]
    rintro σ H5 ⟨tv5,v65,rfl,k5,hT5,hnd5,htv5,hva5,hl5⟩
    rw [hrs.1,List.take_length] at hva5
    have c5:∀ c cs,H' c = some (.dK cs) -> H5 c = some (.dK cs):=fun c cs e=>(k5 c (Bz e hT' (by intro z; cases z))).trans e
    have t5:LT H' H5:=⟨fun b xs e=>(k5 b (Bz e hT' (by intro z; cases z))).trans e,fun b xs e=>(k5 b (Bz e hT' (by intro z; cases z))).trans e⟩
    have hps5:=hps'.keep t5 c5
    have hpo5:=hps5.ok
    have lp5:∀ k who,Au H5 kvs k who ↔ Au H' kvs k who:=fun k who=>Au.keep hps' c5
    have elp5:Au H5 kvs = Au H' kvs:=by
     funext k who
     exact propext (lp5 k who)
    have hl5e:=Ea hpo' c5
    have kp5:∀ b ob,b ≠ T -> H4 b = some ob -> (∀ kv ∈ kvs,kv.2 ≠ .ref b) -> H5 b = some ob:=fun b ob n e m=>(k5 b n).trans (kp b ob n e m)
    have keep4:∀ b ob,b ≠ T -> H4 b = some ob -> (∀ cs,ob ≠ .dK cs) -> H5 b = some ob:=fun b ob n e m=>kp5 b ob n e fun kv hkv z=>by
     obtain ⟨c,cs,e1,e2,_⟩ := hpo4 kv hkv
     rw [z] at e1
     cases e1
     rw [e] at e2
     exact m cs (Option.some.inj e2)
    have hWT:W ≠ T:=An eW hT
    have t45:LT H4 H5:=⟨fun b xs e=>keep4 b _ (Bz e eT4 (by intro z; cases z)) e (fun cs z=>nomatch z),fun b xs e=>keep4 b _ (Bz e eT4 (by intro z; cases z)) e (fun cs z=>nomatch z)⟩
    refine ⟨_,rfl,_,rfl,_,rfl,D,W,R,kvs,wv,rs,rho,H1,ws,cm,rfl,(k5 D hTD.symm).trans hD',hps5,keep4 W _ hWT eW4 (fun cs z=>nomatch z),hwo4.up t45 (Nat.le_refl _),(fun k who later z1 z2=>(hcm4 k who later (hsub k who ((lp5 k who).mp z1)) z2).up t45),(k5 R hRT).trans hR',hrs.imp (fun _ _ z=>G8.up t5.2 z),Nat.le_trans (Kf hpo5) (by omega),fun B bs beta H6 hB ch6 hps6 hB6 hbs6 hlf6 hlp6 hbt6=>?_⟩
    have hri6:Fq ws cm tv5 beta (rank + 1) (Au H6 kvs):=Fq.step hri hva5 htv5 (fun k who=>by rw [hlp6,lp5]) (fun k=>by rw [hbt6,elp5])
    have hT6:H6 T = some (.dT tv5):=ch6 T _ hT5 hTv
    refine ⟨_,rfl,_,_,rfl,rfl,⟨B,bs,beta,tv5,rank + 1,_,rfl,(fun b ob n e m=>ch6 b ob (kp5 b ob n e m) m),hps6,hT6,hnd5,hB6,hbs6,hri6,(fun k who z=>hsub k who ((lp5 k who).mp ((hlp6 k who).mp z).1)),by omega⟩,?_⟩
    show 2 * Cn H6 kvs + (match H6 B with
     | some (.lst [])=>0
     | _=>1) < 2 * Cn H' kvs + (match H' R with
     | some (.lst [])=>0
     | _=>1)
    rw [mu0,hB6]
    cases bs with
    | nil =>
     show 2 * Cn H6 kvs + 0 < _
     have:Cn H6 kvs + 0 <= Cn H5 kvs:=hlf6
     omega
    | cons x xs =>
     show 2 * Cn H6 kvs + 1 < _
     rw [List.length_cons] at hlf6
     omega
   ·have hrs1 : rs = [] := by
     cases rs with
     | nil=>rfl
     | cons x xs=>exact absurd rfl hemp
    have hrho1:rho = []:=by
     have:=hrs.1
     rw [hrs1] at this
     exact List.length_eq_zero_iff.mp this.symm
    rw [hrho1] at hri
    refine ⟨_,rfl,q T tv H' (s1.free (s2.free hT)) (fun b ob e=>?_) hT' hri.done htv (by omega)⟩
    have e4:=s34 _ _ (s13 _ _ (s1 _ _ e))
    refine kp b ob (fun z=>?_) e4 (fun kv hkv z=>?_)
    ·have:=s1.free (s2.free hT)
     rw [z,this] at e
     cases e
    ·rw [hfr kv hkv b z] at e
     cases e
  ·intro σ H0 Q1 Q2 z h1
   obtain ⟨_,e,k,t,h2⟩ := h1
   exact ⟨_,e,k,t,z _ _ h2⟩
def Ro (K:PySem.W.Frag):Sp:=fun vs H Q _=>Wh fun (TB:Addr) (v:V) (o:Option (List Int × Int)) (tv:List ((List Int × Int) × V))=>Gy (vs = [.ref TB,v]) (H TB = some (.dT tv)) (F4 H o v) (Zy tv) (∀ (p:Addr) (H':Hp),A7 H H' -> H' p = some (.tup [.int (told tv o).1,.int (told tv o).2]) -> Q (.ref p) H')
theorem cp {fd  : FuncData} (T:Txt K mg ad) (F:Fj K "worth" "worth" Ml ad.f_x34 fd):Al P w K mg base Bv 1 ad.f_x34 fd ["table","behind"] (Ro K):=by
 refine F.ok dq (fun vs H Q E h=>?_) (fun cdv A outer s H vs Q E hr h=>?_)
 ·rcases h with ⟨TB,v,o,tv,rfl,hT,hv,hti,q⟩ <;> rfl
 ·obtain ⟨TB,v,o,tv,rfl,hT,hv,hti,q⟩ := h
  refine ⟨_,(A6 (Bp (Ar Oo (pv 1) D7 (Aw _)) (Ab (Ad (Bh (A0 A9 (A0 A9 A8))))) Ak) (A6 (Bp (Ho (Yg (Ee hr) (pv 1) (pv 0)) rfl) (Ab (Ad (Bh (A0 A9 (A0 (Et (Ee hr) (pv 0) (pv 1) (fun _ _=>rfl)) A8))))) Ak) (Ab (Ad (Bh (A0 A9 (A0 A9 A8))))))),?_⟩
  cases o with
  | none =>
   have ev:v = .non:=hv
   subst ev
   exact ⟨_,rfl,rfl,_,rfl,Qd rfl ⟨B0,fun p hp=>q p _ (A7.upd hp) A5⟩⟩
  | some k =>
   obtain ⟨p,ev,hst⟩ := hv
   subst ev
   refine ⟨_,rfl,rfl,_,rfl,Fs rfl ?_⟩
   refine ⟨_,rfl,_,rfl,TB,_,rfl,D8.t hT (show E5 H p k from hst),_,rfl,Cu (fun hn=>?_) (fun hn=>?_)⟩
   ·obtain ⟨v,hv⟩ := Option.isSome_iff_exists.mp hn
    obtain ⟨m,e⟩ := hti k v hv
    subst e
    have dg:D8 H TB (.ref p) (some (.int m)):=by
     rw [<- hv]
     exact D8.t hT hst
    refine ⟨_,rfl,_,rfl,TB,_,rfl,dg,B0,fun p2 hp2=>q p2 _ (A7.upd hp2) ?_⟩
    have e:told tv (some k) = (0,m):=by
     show Qh (Ai tv k) = _
     rw [hv]
     rfl
    rw [e]
    exact A5
   ·refine ⟨B0,fun p2 hp2=>q p2 _ (A7.upd hp2) ?_⟩
    have e:told tv (some k) = (1,0):=by
     show Qh (Ai tv k) = _
     cases hv:Ai tv k with
     | none=>rfl
     | some v=>rw [hv] at hn; exact absurd rfl hn
    rw [e]
    exact A5
def Xf (K:PySem.W.Frag):Sp:=fun vs H Q _=>fo fun (a TB b:Addr) (ws ls:List Int) (cm:Option Int) (q w:Int) (who:Nat) (tv:List ((List Int × Int) × V))=>Ko (vs = [.ref a,.ref TB,.ref b,.int w]) (w = (who:Int)) (Bq H a ws cm) (Dx H b ls q) (H TB = some (.dT tv)) (Zy tv) (who < ws.length) (ls.length = ws.length) (ws.length <= 8) (∀ (H':Hp),A7 H H' -> Q (.bl (Dg tv ws ls cm q who)) H')
theorem le {fd fd_x34 fd_x32 fd_x24:FuncData} (T:Txt K mg ad) (F:Fj K "worst_answer" "worst_answer" Uw ad.f_x6 fd) (G_x34:Al P w K mg base Bv 1 ad.f_x34 fd_x34 ["table","behind"] (Ro K)) (B_x34:B8 K fd_x34 ["table","behind"] []) (G_x32:Al P w K mg base Bv 4 ad.f_x32 fd_x32 ["hall","standing","who","lost"] (Jl K)) (B_x32:B8 K fd_x32 ["hall","standing","who","lost"] []) (B_after_d:B8 K fd_x32 ["hall","standing","who","lost"] [Value.bool false]) (G_x24:Al P w K mg base Bv 1 ad.f_x24 fd_x24 ["hall","standing"] (Iz K)) (B_x24:B8 K fd_x24 ["hall","standing"] []):Al P w K mg base Bv 5 ad.f_x6 fd ["hall","table","standing","who"] (Xf K):=by
 refine F.ok b6 (fun vs H Q E h=>?_) (fun cdv A outer s H vs Q E hr h=>?_)
 ·rcases h with ⟨a,TB,b,ws,ls,cm,n,w0,who,tv,rfl,rfl,ha,hb,hT,hti,hw,hl,h8,q⟩ <;> rfl
 ·obtain ⟨a,TB,b,ws,ls,cm,n,w0,who,tv,rfl,rfl,ha,hb,hT,hti,hw,hl,h8,q⟩ := h
  refine ⟨_,(A6 (Ao (i:=4) b6.nd rfl (Or.inl rfl) (Aj G_x34 (hr.mono (by decide)) rfl T.m_x34 T.k_x34 B_x34 .nil Bf (A0 (pv 1) (A0 (Ql (Aj G_x32 (hr.mono (by decide)) rfl T.m_x32 T.k_x32 B_after_d (Hv) Bf (A0 (pv 0) (A0 (pv 2) (A0 (pv 3) A8))))) A8)))) (A6 (Bp (E3 (Dl (Aj G_x24 (hr.mono (by decide)) rfl T.m_x24 T.k_x24 B_x24 .nil Bf (A0 (pv 0) (A0 (pv 2) A8))))) (Ab (Ad Cr)) Ak) (Ab (Ad (E8 (gv hr) (Aj G_x34 (hr.mono (by decide)) rfl T.m_x34 T.k_x34 B_x34 .nil Bf (A0 (pv 1) (A0 (Ql (Aj G_x32 (hr.mono (by decide)) rfl T.m_x32 T.k_x32 B_x32 .nil Bf (A0 (pv 0) (A0 (pv 2) (A0 (pv 3) (A0 Cr A8)))))) A8))) (pv 4) (Aw _)))))),?_⟩
  refine ⟨_,rfl,(fun v H9=>F4 H9 (F5 ws ls cm n who false) v /\ A7 H H9),⟨_,rfl,_,rfl,_,rfl,a,b,ws,ls,cm,n,who,false,rfl,ha,hb,hw,hl,h8,(fun z=>nomatch z),(fun hz H2 s2=>⟨by unfold F5; rw [if_pos hz]; rfl,s2⟩),fun hz p H2 s2 hst=>⟨by unfold F5; rw [if_neg hz]; exact ⟨p,rfl,hst⟩,s2⟩⟩,?_⟩
  rintro v H1 ⟨hv,s1⟩
  refine ⟨TB,v,_,tv,rfl,s1 _ _ hT,hv,hti,fun p1 H2 s2 e2=>?_⟩
  have s12:=s1.trans s2
  refine ⟨_,rfl,_,rfl,a,b,ws,ls,cm,n,rfl,ha.same s12,hb.same s12,_,rfl,?_⟩
  have em:(!decide (cm = none) && decide (n = 0)) = Fw cm n:=rfl
  rw [em]
  refine Cu (fun hm=>?_) (fun hm=>?_)
  ·have hm':Fw cm n = false:=by simpa using hm
   have e:Dg tv ws ls cm n who = false:=by
    unfold Dg
    rw [hm']
    rfl
   rw [<- e]
   exact q H2 s12
  ·have hm':Fw cm n = true:=by simpa using hm
   have hmay:R7 cm n true:=fun _=>by
    unfold Fw at hm'
    simp only [Bool.and_eq_true,Bool.not_eq_true',decide_eq_false_iff_not,decide_eq_true_eq] at hm'
    exact hm'
   refine ⟨_,rfl,(fun v H9=>F4 H9 (F5 ws ls cm n who true) v /\ A7 H2 H9),⟨_,rfl,_,rfl,_,rfl,a,b,ws,ls,cm,n,who,true,rfl,ha.same s12,hb.same s12,hw,hl,h8,hmay,(fun hz H2 s2=>⟨by unfold F5; rw [if_pos hz]; rfl,s2⟩),fun hz p H2 s2 hst=>⟨by unfold F5; rw [if_neg hz]; exact ⟨p,rfl,hst⟩,s2⟩⟩,?_⟩
   rintro v3 H3 ⟨hv3,s3⟩
   refine ⟨TB,v3,_,tv,rfl,s3 _ _ (s12 _ _ hT),hv3,hti,fun p4 H4 s4 e4=>?_⟩
   have s34:=s3.trans s4
   refine ⟨_,rfl,wd (told tv (F5 ws ls cm n who true)),wd (told tv (F5 ws ls cm n who false)),af e4,af (s34 _ _ e2),eg _ _,Nat.le_trans (Yl _) (by decide),?_⟩
   rw [gu]
   have e:Dg tv ws ls cm n who = Wg (told tv (F5 ws ls cm n who false)) (told tv (F5 ws ls cm n who true)):=by
    unfold Dg
    rw [hm']
    rfl
   rw [<- e]
   exact q H4 (s12.trans s34)
def Ss (K:PySem.W.Frag):Sp:=fun vs H Q _=>au fun (a TB b:Addr) (ws ls:List Int) (cm:Option Int) (q:Int) (tv:List ((List Int × Int) × V))=>Vt (vs = [.ref a,.ref TB,.ref b]) (Bq H a ws cm) (Dx H b ls q) (H TB = some (.dT tv)) (Zy tv) (ls.length = ws.length) (ws.length <= 8) (∀ (p:Addr) (H':Hp),A7 H H' -> H' p = some (.tup ((Gm tv ws ls cm q).map V.bl)) -> Q (.ref p) H')
theorem bz {fd fd_x6:FuncData} (T:Txt K mg ad) (F:Fj K "all_answers" "all_answers" Km ad.f_x12 fd) (G_x6:Al P w K mg base Bv 5 ad.f_x6 fd_x6 ["hall","table","standing","who"] (Xf K)) (B_x6:B8 K fd_x6 ["hall","table","standing","who"] []):Al P w K mg base Bv 6 ad.f_x12 fd ["hall","table","standing"] (Ss K):=by
 refine F.ok gl (fun vs H Q E h=>?_) (fun cdv A outer s H vs Q E hr h=>?_)
 ·rcases h with ⟨a,TB,b,ws,ls,cm,n,tv,rfl,ha,hb,hT,hti,hl,h8,q⟩ <;> rfl
 ·obtain ⟨a,TB,b,ws,ls,cm,n,tv,rfl,ha,hb,hT,hti,hl,h8,q⟩ := h
  refine ⟨_,(Ab (Ad (Bt (C8 K) (by rfl) T.n_tuple boot_tuple (A0 (Em (Dq (by rfl) T.n_range (A0 (Ay (Be K) (by rfl) T.n_len PySem.boot_len (A0 (Bc (Bb K) (pv 0) A9 (fun _ _=>rfl)) A8)) A8)) _ rfl J5 rfl rfl (fun _ _ _ _=>(Af (i:=0) Ja rfl (Or.inl rfl))) (fun _ _ _ _=>Da) (fun _ _ _ _=>(Aj G_x6 (hr.mono (by decide)) rfl T.m_x6 T.k_x6 B_x6 .nil Bf (A0 (pv 1) (A0 (pv 2) (A0 (pv 3) (A0 (pv 0) A8))))))) A8)))),?_⟩
  obtain ⟨wt,ha1,ha2⟩ := id ha
  refine ⟨_,rfl,a,_,_,_,rfl,rfl,.inr (Br.of ha1),rfl,wt,_,rfl,.inr (Br.of ha2),_,rfl,by omega,by rw [List.length_map]; omega,fun D hD=>?_⟩
  refine Fp (cnt:=((ws.map V.int).length:Int).toNat) (fun j ys H'=>ys = ((Gm tv ws ls cm n).take j).map V.bl /\ H' D = some (.lst ys) /\ A7 H H') ⟨rfl,A5,A7.upd hD⟩ ?_ ?_
  ·rintro j ys H5 hj ⟨rfl,hD5,s5⟩ Qe hQ
   rw [List.length_map] at hj
   have hj':j < ws.length:=by omega
   have hal:=Er tv ws ls cm n
   refine ⟨_,rfl,_,rfl,_,rfl,_,rfl,a,TB,b,ws,ls,cm,n,_,j,tv,rfl,Int.zero_add _,ha.same s5,hb.same s5,s5 _ _ hT,hti,hj',hl,h8,fun H6 s6=>?_⟩
   have hD6:=s6 _ _ hD5
   refine hQ _ _ hD6 (Bd (by rw [List.length_map,List.length_take]; omega)) ⟨?_,A5,(s5.trans s6).new hD⟩
   rw [List.take_add_one,Ut hj',List.map_append]
   rfl
  rintro ys H5 ⟨rfl,hD5,s5⟩
  have e:(Gm tv ws ls cm n).take ((ws.map V.int).length:Int).toNat = Gm tv ws ls cm n:=List.take_of_length_le (by rw [Er,List.length_map]; omega)
  rw [e] at hD5
  refine ⟨D,_,rfl,.inl ⟨B9.of hD5,fun p hp=>?_⟩⟩
  exact q p _ (s5.trans (A7.upd hp)) A5
def Y2 (K:PySem.W.Frag):Sp:=fun vs H Q _=>n8 fun (a b A:Addr) (ws:List Int) (cm:Option Int) (k:List Int × Int) (tv:List ((List Int × Int) × V))=>Xp (vs = [.ref a,.ref b,.ref A]) (Bq H a ws cm) (Dx H b k.1 k.2) (H A = some (.tup ((Gm tv ws k.1 cm k.2).map V.bl))) (k.1.length = ws.length) (ws.length <= 8) (∀ (l:Addr) (us:List V) (H':Hp),H l = none -> A7 H H' -> H' l = some (.lst us) -> Ah (G8 H') ((List.range ws.length).filterMap (N2 tv ws cm k)) us -> Q (.ref l) H')
theorem kx {fd fd_x32:FuncData} (T:Txt K mg ad) (F:Fj K "unbroken_behind" "unbroken_behind" R0 ad.f_x3 fd) (G_x32:Al P w K mg base Bv 4 ad.f_x32 fd_x32 ["hall","standing","who","lost"] (Jl K)) (B_x32:B8 K fd_x32 ["hall","standing","who","lost"] []) (B_after_d:B8 K fd_x32 ["hall","standing","who","lost"] [Value.bool false]):Al P w K mg base Bv 5 ad.f_x3 fd ["hall","standing","answers"] (Y2 K):=by
 refine F.ok b8 (fun vs H Q E h=>?_) (fun cdv A outer s H vs Q E hr h=>?_)
 ·rcases h with ⟨a,b,A,ws,cm,k,tv,rfl,ha,hb,hA,hl,h8,q⟩ <;> rfl
 ·obtain ⟨a,b,A,ws,cm,k,tv,rfl,ha,hb,hA,hl,h8,q⟩ := h
  refine ⟨_,(A6 (Du (i:=3) b8.nd rfl (Pr (by rfl) T.n_enumerate (A0 (pv 2) A8)) _ rfl Ge rfl rfl (fun _ _ _ _=>(D3 K (n:=2) rfl (Ax (Af (i:=0) Dy rfl (Or.inl rfl)) (Ax (Af (i:=1) Dy rfl (Or.inl rfl)) D2)))) (fun _ _ _ _=>Da) (fun _ _ _ _=>(Aj G_x32 (hr.mono (by decide)) rfl T.m_x32 T.k_x32 B_x32 .nil Bf (A0 (pv 2) (A0 (pv 3) (A0 (pv 0) (A0 (pv 1) A8)))))) rfl rfl) (Ab (Ad (Em (D4 (w':=K7 K _) (D5 (pv 3))) _ rfl G6 rfl rfl (fun _ _ _ _=>(Af (i:=0) Gk rfl (Or.inl rfl))) (fun _ _ _ _=>(Ue (Ar Ij (pv 0) D7 (Aw _)))) (fun _ _ _ _=>(pv 0)))))),?_⟩
  have hal:=Er tv ws k.1 cm k.2
  refine ⟨_,rfl,true,A,rfl,⟨_,Br.of hA⟩,fun D hD=>?_⟩
  refine Rq (K:=K) (b1:=true) (c:=A) (xs:=(Gm tv ws k.1 cm k.2).map V.bl) (fun i ys H'=>Ah (F4 H') ((List.range i).map (N2 tv ws cm k)) ys /\ H' D = some (.lst ys) /\ A7 H H') ⟨Ah.nil,A5,A7.upd hD⟩ (by rintro i ys H' _ ⟨_,_,s⟩; exact Br.of (s _ _ hA)) ?_ ?_ ?_ ?_
  ·rintro i x T ys H2 hx ⟨hys,hD2,s2⟩ hT
   have hi:=(List.getElem?_eq_some_iff.mp hx).1
   rw [List.length_map,hal] at hi
   rw [List.getElem?_map,Ut hi] at hx
   cases hx
   have hyl:=hys.1
   rw [List.length_map,List.length_range] at hyl
   have s3:A7 H2 (upd H2 T (.tup [V.int (i:Nat),V.bl (Dg tv ws k.1 cm k.2 i)])):=A7.upd hT
   have e3:(upd H2 T (.tup [V.int (i:Nat),V.bl (Dg tv ws k.1 cm k.2 i)])) T = some (.tup [V.int (i:Nat),V.bl (Dg tv ws k.1 cm k.2 i)]):=A5
   generalize upd H2 T (.tup [V.int (i:Nat),V.bl (Dg tv ws k.1 cm k.2 i)]) = H3 at s3 e3 ⊢
   have s23:=s2.trans s3
   simp only [Kj,↓reduceIte]
   have fin:∀ (v:V) (H4:Hp),A7 H3 H4 -> F4 H4 (N2 tv ws cm k i) v -> H4 D = some (.lst ys) /\ ys.length < sizeLine /\ Ah (F4 (upd H4 D (.lst (ys ++ [v])))) ((List.range (i + 1)).map (N2 tv ws cm k)) (ys ++ [v]) /\ (upd H4 D (.lst (ys ++ [v]))) D = some (.lst (ys ++ [v])) /\ A7 H (upd H4 D (.lst (ys ++ [v]))):=fun v H4 s4 hv=>by
    have hD4:=s4 _ _ (s3 _ _ hD2)
    have tt:Ae H4 (upd H4 D (.lst (ys ++ [v]))):=Ae.lst hD4
    refine ⟨hD4,Bd (by omega),?_,A5,(s23.trans s4).new hD⟩
    rw [List.range_succ,List.map_append]
    exact (hys.imp fun _ _ y=>F4.up (((Ae.of s3).trans (Ae.of s4)).trans tt) y).append (Ah.one (F4.up tt hv))
   refine ⟨_,rfl,_,rfl,_,rfl,_,rfl,a,b,ws,k.1,cm,k.2,i,Dg tv ws k.1 cm k.2 i,rfl,ha.same s23,hb.same s23,hi,hl,h8,Mn,fun h H4 s4=>?_,fun h p H4 s4 hp=>?_⟩
   ·refine fin _ H4 s4 ?_
    have e:N2 tv ws cm k i = none:=by unfold N2 F5; rw [if_pos h]
    rw [e]
    rfl
   ·refine fin _ H4 s4 ?_
    have e:N2 tv ws cm k i = some (Bj ws k.1 i (Dg tv ws k.1 cm k.2 i),D1 cm k.2 (Dg tv ws k.1 cm k.2 i)):=by unfold N2 F5; rw [if_neg h]
    rw [e]
    exact ⟨p,rfl,hp⟩
  ·rintro σ H' Q1 Q2 hQ z
   exact hQ _ _ z
  ·rintro σ H' Q1 Q2 hQ ⟨v1,e1,v2,e2,v3,e3,v4,e4,a',b',ws',ls',cm',q',who',lost',hv,h1,h2,h3,h4,h5,h6,q1,q2⟩
   exact ⟨v1,e1,v2,e2,v3,e3,v4,e4,a',b',ws',ls',cm',q',who',lost',hv,h1,h2,h3,h4,h5,h6,fun h H2 s2=>hQ _ _ (q1 h H2 s2),fun h p H2 s2 hp=>hQ _ _ (q2 h p H2 s2 hp)⟩
  rintro ys H2 ⟨hys,hD2,s2⟩
  rw [List.length_map,hal] at hys
  refine ⟨_,rfl,D,rfl,.inl ⟨⟨_,B9.of hD2⟩,fun C hC=>?_⟩⟩
  have hyl:=hys.1
  rw [List.length_map,List.length_range] at hyl
  refine Sa (K:=K) (a:=D) (xs:=ys) (fun i zs H'=>Ah (G8 H') ((List.range i).filterMap (N2 tv ws cm k)) zs /\ H' C = some (.lst zs) /\ A7 H2 H') ⟨Ah.nil,A5,A7.upd hC⟩ (by rintro i zs H' _ ⟨_,_,s⟩; exact B9.of (s _ _ hD2)) ?_ ?_ ?_ ?_
  ·rintro i x zs H3 hx ⟨hzs,hC3,s3⟩
   obtain ⟨r,hr1,hv⟩ := hys.get hx
   have hi:=(List.getElem?_eq_some_iff.mp hr1).1
   rw [List.length_map,List.length_range] at hi
   rw [List.getElem?_map,List.getElem?_range hi] at hr1
   have er:N2 tv ws cm k i = r:=by simpa using hr1
   have hzl:zs.length <= i:=by
    rw [hzs.1]
    exact Nat.le_trans (List.length_filterMap_le _ _) (by rw [List.length_range]; exact Nat.le_refl _)
   cases r with
   | none =>
    obtain rfl:x = .non:=hv
    refine ⟨_,rfl,rfl,_,rfl,Fs (by simp) ⟨?_,hC3,s3⟩⟩
    rw [List.range_succ,List.filterMap_append]
    have e0:[i].filterMap (N2 tv ws cm k) = []:=by simp [er]
    rw [e0,List.append_nil]
    exact hzs
   | some k' =>
    obtain ⟨p,rfl,u,hp1,hp2⟩ := hv
    have tt:Ae H3 (upd H3 C (.lst (zs ++ [.ref p]))):=Ae.lst hC3
    refine ⟨_,rfl,rfl,_,rfl,Qd (by simp) ⟨_,rfl,hC3,Bd (by omega),?_,A5,s3.new hC⟩⟩
    rw [List.range_succ,List.filterMap_append]
    have e0:[i].filterMap (N2 tv ws cm k) = [k']:=by simp [er]
    rw [e0]
    exact (hzs.imp fun _ _ y=>G8.up tt y).append (Ah.one ⟨p,u,rfl,tt _ _ (s3 _ _ hp1),tt _ _ (s3 _ _ hp2)⟩)
  ·rintro σ H' Q1 Q2 hQ ⟨v,e1,e2,c,e3,z⟩
   exact ⟨v,e1,e2,c,e3,hQ _ _ z⟩
  ·rintro σ H' Q1 Q2 hQ ⟨v,e1,z⟩
   exact ⟨v,e1,hQ _ _ z⟩
  rintro zs H3 ⟨hzs,hC3,s3⟩
  rw [hyl] at hzs
  refine q C zs H3 ?_ (s2.trans s3) hC3 hzs
  cases e:H C with
  | none=>rfl
  | some o=>rw [s2 _ _ e] at hC; cases hC
def Yk (K:PySem.W.Frag):Sp:=fun vs H Q _=>Pj fun (a:Addr) (ws:List Int) (cm:Option Int)=>Gy (vs = [.ref a]) (Bq H a ws cm) (E4 ws cm) ((∀ (tv:List ((List Int × Int) × V)) (H':Hp),A7 H H' -> He ws cm tv -> (tv.map (·.1)).Nodup -> Ai tv (ws,0) = none -> Q .non H')) (∀ (p:Addr) (us:List V) (ps tv:List ((List Int × Int) × V)) (H':Hp),A7 H H' -> H p = none -> H' p = some (.lst us) -> He ws cm tv -> (tv.map (·.1)).Nodup -> (Ai tv (ws,0)).isSome = true -> Te ws cm tv ps -> Ah (Iu tv ws cm H') ps us -> Q (.ref p) H')
theorem kc {fd fd_x33 fd_x19 fd_x12 fd_x3:FuncData} (T:Txt K mg ad) (F:Fj K "broken_paper" "broken_paper" Rl ad.f_x7 fd) (G_x33:Al P w K mg base Bv 7 ad.f_x33 fd_x33 ["hall"] (Sz K)) (B_x33:B8 K fd_x33 ["hall"] []) (G_x19:Al P w K mg base Bv 1 ad.f_x19 fd_x19 ["hall"] (Oa K)) (B_x19:B8 K fd_x19 ["hall"] []) (G_x12:Al P w K mg base Bv 6 ad.f_x12 fd_x12 ["hall","table","standing"] (Ss K)) (B_x12:B8 K fd_x12 ["hall","table","standing"] []) (G_x3:Al P w K mg base Bv 5 ad.f_x3 fd_x3 ["hall","standing","answers"] (Y2 K)) (B_x3:B8 K fd_x3 ["hall","standing","answers"] []):Al P w K mg base Bv 8 ad.f_x7 fd ["hall"] (Yk K):=by
 refine F.ok Rb (fun vs H Q E h=>?_) (fun cdv A outer s H vs Q E hr h=>?_)
 ·rcases h with ⟨a,ws,cm,rfl,ha,hok,q0,q⟩ <;> rfl
 ·obtain ⟨a,ws,cm,rfl,ha,hok,q0,q⟩ := h
  refine ⟨_,(A6 (Ao (i:=1) Rb.nd rfl (Or.inr rfl) (Aj G_x33 (hr.mono (by decide)) rfl T.m_x33 T.k_x33 B_x33 .nil Bf (A0 (pv 0) A8))) (A6 (Bp (Ho (F6 (Ee hr) (Aj G_x19 (hr.mono (by decide)) rfl T.m_x19 T.k_x19 B_x19 .nil Bf (A0 (pv 0) A8)) (pv 1)) rfl) (Ab (Ad D7)) Ak) (A6 (Ao (i:=2) Rb.nd rfl (Or.inl rfl) Ga) (A6 (Ao (i:=3) Rb.nd rfl (Or.inl rfl) (Cl (A0 (Aj G_x19 (hr.mono (by decide)) rfl T.m_x19 T.k_x19 B_x19 .nil Bf (A0 (pv 0) A8)) A8))) (A6 (Re PassesOwn.never (Qs (pv 3) (by intro _; rfl)) (A6 (Ao (i:=4) Rb.nd rfl (Or.inl rfl) (Fz (u':=kj K _ _ _) (gd PySem.F.plainAttrs_list PySem.F.slot_list_pop PySem.F.type_list_pop bo (pv 3)))) (Ab (Ex (Ho (F6 (Ee hr) (pv 4) (pv 2)) rfl) (A6 (I9 (Ee hr) (pv 2) (pv 4) (Aj G_x12 (hr.mono (by decide)) rfl T.m_x12 T.k_x12 B_x12 .nil Bf (A0 (pv 0) (A0 (pv 1) (A0 (pv 4) A8)))) rfl) (Ab (Db (Fz (u':=Y5 K _ _ _ _) (Ha PySem.F.plainAttrs_list PySem.F.slot_list_extend PySem.F.type_list_extend J6 (pv 3) (A0 (Aj G_x3 (hr.mono (by decide)) rfl T.m_x3 T.k_x3 B_x3 .nil Bf (A0 (pv 0) (A0 (pv 4) (A0 (Et (Ee hr) (pv 2) (pv 4) (fun _ _=>rfl)) A8)))) A8)))))) Ak)))) (Ab (Ad (Ay (O9 hr) (by rfl) T.n_sorted boot_sorted (A0 (Zi (Em (Il (pv 2)) _ rfl Hw rfl rfl (fun _ _ _ _=>(D3 K (n:=2) rfl (Ax (Af (i:=0) El rfl (Or.inl rfl)) (Ax (Af (i:=1) El rfl (Or.inl rfl)) D2)))) (fun _ _ _ _=>Da) (fun _ _ _ _=>(Bh (A0 (pv 0) (A0 (Et (Ee hr) (pv 2) (pv 0) (fun _ _=>rfl)) (A0 (pv 1) A8))))))) A8))))))))),?_⟩
  obtain ⟨wt,ha1,ha2⟩ := id ha
  have hq:=hok.qv
  have hw1:∀ x ∈ ws,1 <= x:=fun x hx=>(hok.1 x hx).1
  have h8:=hok.2.2.2.1
  have hn0:=hok.2.2.1
  refine ⟨_,rfl,a,ws,cm,rfl,ha,(fun w hw=>(hok.1 w hw).1),hq.1,(fun w hw=>Q9 (by have:=hok.1 w hw; omega) (hok.1 w hw).2),Q9 (by omega) hq.2,hok.2.2.2.1,(by have:=hok.2.2.2.2; omega),fun TB tv H1 hTB s1 eTB hrk hnd htl=>?_⟩
  have hti:Zy tv:=fun k v hv=>by
   obtain ⟨m,e,_⟩ := hrk.1 k v hv
   exact ⟨m,e⟩
  refine ⟨_,rfl,a,ws,cm,rfl,ha.same s1,fun b0 H2 s2 hb0=>?_⟩
  have s12:=s1.trans s2
  refine ⟨_,rfl,TB,_,rfl,D8.t (s2 _ _ eTB) (show E5 H2 b0 (ws,0) from hb0),_,rfl,?_⟩
  refine Cu (fun h=>q0 tv H2 s12 hrk hnd ?_) (fun hnv=>?_)
  ·cases e:Ai tv (ws,0) with
   | none=>rfl
   | some v=>rw [e] at h; cases h
  have hv0:(Ai tv (ws,0)).isSome = true:=by
   cases e:Ai tv (ws,0) with
   | none=>rw [e] at hnv; exact absurd rfl hnv
   | some v=>rfl
  have hsf0:Uf ws cm tv (ws,0):=by
   refine ⟨Ic rfl (fun i hi=>⟨hw1 _ (by rw [List.getD_eq_getElem?_getD,List.getElem?_eq_getElem hi]; exact List.getElem_mem hi),Int.le_refl _⟩) (Int.le_refl _) (by have:=hq.1; show (0:Int) < qv cm; omega),?_,.base⟩
   obtain ⟨v,hv⟩ := Option.isSome_iff_exists.mp hv0
   obtain ⟨m,e⟩ := hti _ v hv
   exact ⟨m,by rw [hv,e]⟩
  refine fun C hC=>?_
  have s3:A7 H2 (upd H2 C (.dT [])):=A7.upd hC
  have e3:(upd H2 C (.dT [])) C = some (.dT []):=A5
  generalize upd H2 C (.dT []) = H3 at s3 e3 ⊢
  refine ⟨_,rfl,a,ws,cm,rfl,(ha.same s12).same s3,fun b1 H4 s4 hb1=>?_⟩
  refine ⟨B0,fun L hL=>?_⟩
  have s5:A7 H4 (upd H4 L (.lst [.ref b1])):=A7.upd hL
  have e5:(upd H4 L (.lst [.ref b1])) L = some (.lst [.ref b1]):=A5
  generalize upd H4 L (.lst [.ref b1]) = H5 at s5 e5 ⊢
  have hC2:H2 C = none:=hC
  have hL2:H2 L = none:=by
   cases e:H2 L with
   | none=>rfl
   | some o=>rw [s4 _ _ (s3 _ _ e)] at hL; cases hL
  have s25:A7 H2 H5:=(s3.trans s4).trans s5
  obtain ⟨bu,hb11,hb12⟩ := hb1.same s5
  dsimp only
  refine mo ?_
  refine o8 ?_
  refine R9 (fun σ' H'=>Wh fun (es:List V) (E:List (List Int × Int)) (cv:List ((List Int × Int) × V)) (v4:Option V)=>Vt (σ' = [some (.ref a),some (.ref TB),some (.ref C),some (.ref L),v4]) (A7 H2 H') (H' L = some (.lst es)) (Ah (G8 H') E es) (H' C = some (.dT cv)) (Pk ws cm tv cv E) (E.length <= 8 * cv.length + 1) ((∀ kv ∈ cv,∃ t,kv.2 = .ref t /\ H' t = some (.tup ((Gm tv ws kv.1.1 cm kv.1.2).map V.bl)))))
   (fun _ H'=>9 * (301 - Nj (H' C)) + Vy (H' L)) ⟨[.ref b1],[(ws,0)],[],none,rfl,s25,e5,Ah.one ⟨b1,bu,rfl,hb11,hb12⟩,s5 _ _ (s4 _ _ e3),Pk.start hsf0,by simp,fun kv hkv=>by cases hkv⟩ ?_ ?_
  ·rintro σ' H' ⟨es,E,cv,v4,rfl,s',hL',hes,hC',hkp,hEl,hans⟩
   have hcl:=hkp.len hok
   refine ⟨_,rfl,_,.inl ⟨_,B9.of hL',rfl⟩,?_⟩
   refine Cu (fun hne=>?_) (fun hemp=>?_)
   ·have hes0 : 0 < es.length := by
     cases es with
     | nil=>exact absurd hne (by decide)
     | cons x xs=>simp
    have hel:=hes.1
    obtain ⟨y,hy⟩ := Zt hes0
    refine ⟨_,rfl,.inl ⟨rfl,_,B9.of hL'⟩,L,es,y,rfl,rfl,hL',hy,?_⟩
    obtain ⟨k,hk0,b,b2,rfl,hb21,hb22⟩ := hes.get hy
    have eE:E = E.take (es.length - 1) ++ [k]:=by
     have h1:=List.take_append_drop (es.length - 1) E
     have h2:E.drop (es.length - 1) = [k]:=by
      rw [List.drop_eq_getElem_cons (by omega),(List.getElem?_eq_some_iff.mp hk0).2,List.drop_of_length_le (by omega)]
     rw [h2] at h1
     exact h1.symm
    have hCL:C ≠ L:=Bz hC' hL' (by intro z; cases z)
    have t4:Ae H' (upd H' L (.lst es.dropLast)):=Ae.lst hL'
    have hL4:(upd H' L (.lst es.dropLast)) L = some (.lst es.dropLast):=A5
    have hC4:(upd H' L (.lst es.dropLast)) C = some (.dT cv):=(Ac hCL).trans hC'
    have s4':A7 H2 (upd H' L (.lst es.dropLast)):=s'.new hL2
    generalize upd H' L (.lst es.dropLast) = H6 at t4 hL4 hC4 s4' ⊢
    have hans6:(∀ kv ∈ cv,∃ t,kv.2 = .ref t /\ H6 t = some (.tup ((Gm tv ws kv.1.1 cm kv.1.2).map V.bl))):=fun kv hkv=>by
     obtain ⟨t,e1,e2⟩ := hans kv hkv
     exact ⟨t,e1,t4 _ _ e2⟩
    have hst6:Dx H6 b k.1 k.2:=⟨b2,t4 _ _ hb21,t4 _ _ hb22⟩
    have hes6:Ah (G8 H6) (E.take (es.length - 1)) es.dropLast:=by
     rw [List.dropLast_eq_take]
     exact (hes.imp (fun _ _ y=>G8.up t4 y)).take _
    have hl6:(E.take (es.length - 1)).length = E.length - 1:=by rw [List.length_take]; omega
    rw [eE] at hkp
    generalize E.take (es.length - 1) = E0 at hkp hes6 hl6 eE
    have hm0:Vy (H' L) = es.length:=by rw [hL']; rfl
    have hm1:Nj (H' C) = cv.length:=by rw [hC']; rfl
    refine ⟨_,rfl,_,rfl,C,_,rfl,D8.t hC4 (show E5 H6 b k from hst6),_,rfl,(fun σ'' H7=>Wh fun (es:List V) (E:List (List Int × Int)) (cv':List ((List Int × Int) × V)) (v4:Option V)=>Oq (σ'' = [some (.ref a),some (.ref TB),some (.ref C),some (.ref L),v4]) (A7 H2 H7) (H7 L = some (.lst es)) (Ah (G8 H7) E es) (H7 C = some (.dT cv')) (Pk ws cm tv cv' E) (E.length <= 8 * cv'.length + 1) ((∀ kv ∈ cv',∃ t,kv.2 = .ref t /\ H7 t = some (.tup ((Gm tv ws kv.1.1 cm kv.1.2).map V.bl)))) (9 * (301 - Nj (H7 C)) + Vy (H7 L) < 9 * (301 - Nj (H' C)) + Vy (H' L))),fun h=>?_,fun h=>?_,?_⟩
    ·have hvn : Ai cv k = none := by
      cases e:Ai cv k with
      | none=>rfl
      | some v=>rw [e] at h; cases h
     have hsfk:Uf ws cm tv k:=hkp.sf k (by simp)
     have hkl:k.1.length = ws.length:=(Fi hsfk.1).1
     refine ⟨_,rfl,_,rfl,_,rfl,a,TB,b,ws,k.1,cm,k.2,tv,rfl,(ha.same s12).same s4',hst6,s4' _ _ (s2 _ _ eTB),hti,hkl,h8,fun A H7 s7 eA=>?_⟩
     have hC7:=s7 _ _ hC4
     have hL7:=s7 _ _ hL4
     refine ⟨_,rfl,_,rfl,C,_,rfl,Ky.t hC7 (show E5 H7 b k from hst6.same s7) (Ba (by omega)),?_⟩
     have hLC:L ≠ C:=fun z=>hCL z.symm
     have k8:∀ b o,b ≠ C -> H7 b = some o -> (upd H7 C (.dT (Bm cv k (.ref A)))) b = some o:=fun b o n e=>(Ac n).trans e
     have hC8:(upd H7 C (.dT (Bm cv k (.ref A)))) C = some (.dT (Bm cv k (.ref A))):=A5
     generalize upd H7 C (.dT (Bm cv k (.ref A))) = H8 at k8 hC8 ⊢
     have t8:Ae H7 H8:=fun b xs e=>k8 b _ (Bz e hC7 (by intro z; cases z)) e
     have s8:A7 H2 H8:=fun b o e=>k8 b o (An e hC2) (s7 _ _ (s4' _ _ e))
     have hL8:=k8 _ _ hLC hL7
     have hst8:Dx H8 b k.1 k.2:=(hst6.same s7).up t8
     have ev:Ai (Bm cv k (.ref A)) k = some (.ref A):=by rw [Gg,if_pos rfl]
     refine ⟨_,rfl,.inl ⟨rfl,_,B9.of hL8⟩,_,rfl,_,rfl,_,rfl,_,rfl,C,.ref A,rfl,(by rw [<- ev]; exact D8.t hC8 (show E5 H8 b k from hst8)),a,b,A,ws,cm,k,tv,rfl,(ha.same s12).same s8,hst8,t8 _ _ eA,hkl,h8,fun l us H9 hl9 s9 el9 hus=>?_⟩
     have huf:=g7 hrk hok hsfk
     have hL9:=s9 _ _ hL8
     have hel6:=hes6.1
     have hul:=hus.1
     have hfl:((List.range ws.length).filterMap (N2 tv ws cm k)).length <= ws.length:=Nat.le_trans (List.length_filterMap_le _ _) (by rw [List.length_range]; exact Nat.le_refl _)
     refine ⟨L,l,es.dropLast,us,rfl,rfl,hL9,el9,Nat.le_of_lt (Ba (by omega)),?_⟩
     have t10:Ae H9 (upd H9 L (.lst (es.dropLast ++ us))):=Ae.lst hL9
     have hC10:(upd H9 L (.lst (es.dropLast ++ us))) C = some (.dT (Bm cv k (.ref A))):=(Ac hCL).trans (s9 _ _ hC8)
     have hpl:(Bm cv k (.ref A)).length = cv.length + 1:=by rw [D9 _ hvn,List.length_append,List.length_singleton]
     have t610:Ae H7 (upd H9 L (.lst (es.dropLast ++ us))):=t8.trans ((Ae.of s9).trans t10)
     refine ⟨es.dropLast ++ us,E0 ++ (List.range ws.length).filterMap (N2 tv ws cm k),Bm cv k (.ref A),_,rfl,(s8.trans s9).new hL2,A5,((hes6.imp fun _ _ y=>G8.up ((Ae.of s7).trans t610) y).append (hus.imp fun _ _ y=>G8.up t10 y)),hC10,hkp.put hvn huf,?_,(fun kv hkv=>?_),?_⟩
     ·rw [List.length_append,hpl,hl6]
      omega
     ·rw [D9 _ hvn] at hkv
      rcases List.mem_append.mp hkv with z | z
      ·obtain ⟨t,e1,e2⟩ := hans6 kv z
       exact ⟨t,e1,t610 _ _ (s7 _ _ e2)⟩
      ·rw [List.mem_singleton.mp z]
       exact ⟨A,rfl,t610 _ _ eA⟩
     ·have m1:Vy ((upd H9 L (.lst (es.dropLast ++ us))) L) = (es.dropLast ++ us).length:=by rw [A5]; rfl
      have m2:Nj ((upd H9 L (.lst (es.dropLast ++ us))) C) = cv.length + 1:=by rw [hC10]; exact hpl
      rw [m1,m2,hm0,hm1,List.length_append,List.length_dropLast]
      omega
    ·have hks : k ∈ cv.map (·.1) := by
      cases e:Ai cv k with
      | none=>rw [e] at h; cases h
      | some v=>exact Z2 e
     refine ⟨es.dropLast,E0,cv,_,rfl,s4',hL4,hes6,hC4,hkp.skip hks,by omega,hans6,?_⟩
     have m1:Vy (H6 L) = es.dropLast.length:=by rw [hL4]; rfl
     have m2:Nj (H6 C) = cv.length:=by rw [hC4]; rfl
     rw [m1,m2,hm0,hm1,List.length_dropLast]
     omega
    ·rintro σ'' H7 ⟨es7,E7,cv7,v47,rfl,a1,a2,a3,a4,a5,a6,a7,a8⟩
     exact ⟨⟨es7,E7,cv7,v47,rfl,a1,a2,a3,a4,a5,a6,a7⟩,a8⟩
   ·have hes1 : es = [] := by
     cases es with
     | nil=>rfl
     | cons x xs=>exact absurd rfl hemp
    have hE1:E = []:=by
     have h1:=hes.1
     rw [hes1] at h1
     exact List.length_eq_zero_iff.mp h1.symm
    subst hE1
    refine ⟨C,.dT cv,trivial,hC',_,rfl,C,.dT cv,rfl,trivial,hC',fun o=>?_⟩
    have bF:∀ b ob,b ≠ C -> H' b = some ob -> (upd H' C (.frz o (.dT cv))) b = some ob:=fun b ob n e=>(Ac n).trans e
    have dF:(upd H' C (.frz o (.dT cv))) C = some (.frz o (.dT cv)):=A5
    have fF:∀ b,(upd H' C (.frz o (.dT cv))) b = none -> H' b = none:=fun b hb=>by
     by_cases z:b = C
     ·rw [z,dF] at hb; cases hb
     ·rw [Ac z] at hb; exact hb
    generalize upd H' C (.frz o (.dT cv)) = HF at bF dF fF ⊢
    have tF:Ae H' HF:=fun b xs e=>bF b _ (Bz e hC' (by intro z; cases z)) e
    have hTBC:TB ≠ C:=An (s2 _ _ eTB) hC2
    have hTBF:HF TB = some (.dT tv):=bF _ _ hTBC (s' _ _ (s2 _ _ eTB))
    refine fun R hR=>?_
    refine Ki (K:=K) (d:=C) (o:=o) (u := .dT cv) (fun i zs H5=>Ah (Iu tv ws cm H5) (cv.take i) zs /\ zs.Nodup /\ H5 R = some (.lst zs) /\ A7 HF H5) ⟨Ah.nil,List.nodup_nil,A5,A7.upd hR⟩ (by rintro i zs H5 _ ⟨_,_,_,s⟩; exact s _ _ dF) ?_ ?_ ?_ ?_
    ·rintro i x y T2 zs H5 hi hit ⟨hzs,hzn,hR5,s5'⟩ hT2
     have hi3:i < cv.length:=hi
     obtain ⟨kk,bb,hkv,rfl,hkk⟩ := hit
     obtain ⟨t,et,ht⟩ := hans _ (List.mem_of_getElem? hkv)
     have ey:y = .ref t:=et
     subst ey
     obtain ⟨⟨hks,⟨m,hm⟩,_⟩,_⟩ := hkp.ent _ (List.mem_of_getElem? hkv)
     have hzl:=hzs.1
     rw [List.length_take] at hzl
     have s6:A7 H5 (upd H5 T2 (.tup [.ref bb,.ref t])):=A7.upd hT2
     have e6:(upd H5 T2 (.tup [.ref bb,.ref t])) T2 = some (.tup [.ref bb,.ref t]):=A5
     generalize upd H5 T2 (.tup [.ref bb,.ref t]) = H6 at s6 e6 ⊢
     have s56:=s5'.trans s6
     have hR6:=s6 _ _ hR5
     simp only [Kj,↓reduceIte]
     refine ⟨_,rfl,_,rfl,_,rfl,TB,.int m,rfl,(by rw [<- hm]; exact D8.t (s56 _ _ hTBF) (show E5 H6 bb kk from hkk.up (Ae.of s6))),_,rfl,B0,fun p hp=>?_⟩
     have s7:A7 H6 (upd H6 p (.tup [.ref bb,.int m,.ref t])):=A7.upd hp
     have e7:(upd H6 p (.tup [.ref bb,.int m,.ref t])) p = some (.tup [.ref bb,.int m,.ref t]):=A5
     generalize upd H6 p (.tup [.ref bb,.int m,.ref t]) = H7 at s7 e7 ⊢
     have hR7:=s7 _ _ hR6
     have tt:Ae H7 (upd H7 R (.lst (zs ++ [.ref p]))):=Ae.lst hR7
     refine ⟨hR7,Ba (by omega),?_,?_,A5,(s56.trans s7).new hR⟩
     ·rw [List.take_add_one,hkv]
      exact (hzs.imp fun _ _ y=>Iu.up (((Ae.of s6).trans (Ae.of s7)).trans tt) y).append (Ah.one ⟨p,bb,t,m,rfl,tt _ _ e7,((hkk.up (Ae.of s6)).up (Ae.of s7)).up tt,hm,rfl,tt _ _ (s7 _ _ (s56 _ _ (tF _ _ ht)))⟩)
     ·refine List.nodup_append.mpr ⟨hzn,by simp,fun u hu v hv z=>?_⟩
      cases List.mem_singleton.mp hv
      subst z
      obtain ⟨i',hi'⟩ := List.mem_iff_getElem?.mp hu
      obtain ⟨_,_,p',_,_,_,e1,e2,_⟩ := hzs.get hi'
      cases e1
      rw [s6 _ _ e2] at hp
      cases hp
    ·rintro σ H1 Q1 Q2 hQ z
     exact hQ _ _ z
    ·rintro σ H1 Q1 Q2 hQ ⟨v,e1,v2,e2,v3,e3,a',w',e4,g,v5,e5,l,f⟩
     exact ⟨v,e1,v2,e2,v3,e3,a',w',e4,g,v5,e5,l,fun p hp=>hQ _ _ (f p hp)⟩
    rintro zs HG ⟨hzs,hzn,hRG,sG⟩
    rw [show cv.take (Dh (.dT cv)) = cv from List.take_length] at hzs
    have hDG:=sG _ _ dF
    refine ⟨o,hDG,?_⟩
    have hRC:R ≠ C:=Bz hRG hDG (by intro z; cases z)
    have s34:A7 H' (upd HG C (.dT cv)):=fun b ob e=>by
     by_cases z:b = C
     ·subst z
      rw [hC'] at e
      cases e
      exact A5
     ·exact (Ac z).trans (sG _ _ (bF b ob z e))
    have tG:Ae HG (upd HG C (.dT cv)):=fun b xs e=>by rw [Ac (Bz e hDG (by intro z; cases z))]; exact e
    have hzs4:Ah (Iu tv ws cm (upd HG C (.dT cv))) cv zs:=hzs.imp fun _ _ y=>Iu.up tG y
    have hR4:(upd HG C (.dT cv)) R = some (.lst zs):=(Ac hRC).trans hRG
    generalize upd HG C (.dT cv) = HI at s34 hzs4 hR4 ⊢
    have hzl:=hzs4.1
    let kO:V -> (List Int × Int) × V:=fun u=>cv.getD (zs.idxOf u) (([],0),.non)
    have kAt:∀ (i:Nat) (u:V),zs[i]? = some u -> cv[i]? = some (kO u):=fun i u hu=>by
     obtain ⟨h1,e1⟩ := List.getElem?_eq_some_iff.mp hu
     have e2:zs.idxOf u = i:=by rw [<- e1]; exact List.Nodup.idxOf_getElem hzn i h1
     show _ = some (cv.getD (zs.idxOf u) _)
     rw [e2,List.getD_eq_getElem?_getD,List.getElem?_eq_getElem (by omega)]
     rfl
    have kMem:∀ u ∈ zs,kO u ∈ cv /\ Iu tv ws cm HI (kO u) u:=fun u hu=>by
     obtain ⟨i,hi⟩ := List.mem_iff_getElem?.mp hu
     have h1:=kAt i u hi
     exact ⟨List.mem_of_getElem? h1,hzs4.2 i _ _ h1 hi⟩
    have kMap:zs.map kO = cv:=by
     apply List.ext_getElem?
     intro i
     rw [List.getElem?_map]
     cases hi:zs[i]? with
     | none =>
      have:=List.getElem?_eq_none_iff.mp hi
      rw [List.getElem?_eq_none (by omega)]
      rfl
     | some u=>rw [kAt i u hi]; rfl
    refine ⟨R,zs,false,(fun u=>Jg tv ws cm (kO u)),(fun u=>(Bk ws (qv cm)).idxOf (kO u).1),rfl,B9.of hR4,by omega,⟨fun u hu=>⟨(kMem u hu).2.rp,⟨dS (kO u).1,_,rfl,by rw [if_neg (by decide)]; exact ⟨_,rfl⟩⟩,Ti _ _ _ _⟩,fun u hu v hv=>Vh (kMem u hu).2.rp (hkp.ent _ (kMem u hu).1).1.1 (hkp.ent _ (kMem v hv).1).1.1⟩,fun p us' hp hperm hsort=>?_⟩
    have sP:A7 HI (upd HI p (.lst us')):=A7.upd hp
    have hpH:H p = none:=by
     cases e:H p with
     | none=>rfl
     | some o=>rw [s34 _ _ (s' _ _ (s12 _ _ e))] at hp; cases hp
    have hcp:(us'.map kO).Perm cv:=by
     have:=hperm.map kO
     rw [kMap] at this
     exact this
    refine q p us' (us'.map kO) tv _ (((s12.trans s').trans s34).trans sP) hpH A5 hrk hnd hv0 (Vf hkp hcp (by rw [List.pairwise_map]; exact hsort)) ⟨by rw [List.length_map],fun i r v e1 e2=>?_⟩
    rw [List.getElem?_map,e2] at e1
    cases e1
    exact Iu.up (Ae.of sP) (kMem v (hperm.mem_iff.mp (List.mem_of_getElem? e2))).2
  ·intro σ H0 Q1 Q2 z h1
   obtain ⟨_,e,k,t,h2⟩ := h1
   exact ⟨_,e,k,t,z _ _ h2⟩
def Sr (K:PySem.W.Frag):Sp:=fun vs H Q _=>Pj fun (a:Addr) (ns:List Int) (k:Int)=>Kt (vs = [.ref a,.int k]) (B9 K H a (ns.map V.int)) (0 <= k) (Q (.int (E2 ns k)) H)
theorem bp {fd  : FuncData} (T:Txt K mg ad) (F:Fj K "_law_cell" "_law_cell" Mz ad.f_x27 fd):Al P w K mg base Bv 1 ad.f_x27 fd ["script","k"] (Sr K):=by
 refine F.ok gq (fun vs H Q E h=>?_) (fun cdv A outer s H vs Q E hr h=>?_)
 ·rcases h with ⟨a,ns,k,rfl,hS,hk,q⟩ <;> rfl
 ·obtain ⟨a,ns,k,rfl,hS,hk,q⟩ := h
  refine ⟨_,(A6 (Bp (Ar Hx (pv 1) (Ay (Be K) (by rfl) T.n_len PySem.boot_len (A0 (pv 0) A8)) (Aw _)) (Ab (Ad (Bc (Bb K) (pv 0) (pv 1) (fun _ _=>rfl)))) Ak) (Ab (Ad A9))),?_⟩
  refine ⟨_,rfl,_,rfl,a,_,rfl,.inl hS,_,_,rfl,rfl,_,rfl,?_⟩
  refine Cu (fun hlt=>?_) (fun hlt=>?_)
  ·have hlt':k < ns.length:=by simpa using hlt
   exact ⟨_,rfl,_,rfl,a,_,_,_,rfl,rfl,.inl hS,Zp hk hlt',q⟩
  ·have hlt':¬ k < ns.length:=by simpa using hlt
   rw [Vq hk hlt'] at q
   exact q
def Sh (K:PySem.W.Frag):Sp:=fun vs H Q _=>We fun (c:Addr) (xs:List Int)=>Kt (vs = [.ref c]) (H c = some (.lst (xs.map V.int))) (xs.length = 7) (∀ (p:Addr) (ws:List Int) (cm:Option Int) (H':Hp),A7 H H' -> Bq H' p ws cm -> E4 ws cm -> Q (.ref p) H')
theorem dz {fd  : FuncData} (T:Txt K mg ad) (F:Fj K "_law_wide" "_law_wide" Nh ad.f_x28 fd):Al P w K mg base Bv 1 ad.f_x28 fd ["cells"] (Sh K):=by
 refine F.ok Lj (fun vs H Q E h=>?_) (fun cdv A outer s H vs Q E hr h=>?_)
 ·rcases h with ⟨c,xs,rfl,hc,hx7,q⟩ <;> rfl
 ·obtain ⟨c,xs,rfl,hc,hx7,q⟩ := h
  refine ⟨_,(A6 (Ao (i:=1) Lj.nd rfl (Or.inl rfl) A9) (A6 (Ao (i:=2) Lj.nd rfl (Or.inl rfl) (Cl A8)) (A6 (Cc PassesOwn.never rfl (D4 (w':=K7 K _) (D5 (C5 (Cm K) (pv 0) Cp (Cg (Ag C7 A9 (Ag Bu (Bc (Bb K) (pv 0) A9 (fun _ _=>rfl)) A9)))))) (Af (i:=3) Lj.nd rfl (Or.inl rfl)) (A6 (Db (Fz (u':=Y5 K _ _ _ _) (Ha PySem.F.plainAttrs_list PySem.F.slot_list_append PySem.F.type_list_append Df (pv 2) (A0 (Ag C7 A9 (Ag Bu (pv 3) (Ay (Ve rfl) (by rfl) T.n_min boot_min (A0 (pv 1) (A0 A9 A8))))) A8)))) (Ab (Ao (i:=1) Lj.nd rfl (Or.inl rfl) (Ag Di (pv 1) (Bc (Bb K) (pv 2) (iu gy A9) (fun _ _=>rfl))))))) (A6 (Bp (PW.pt (bn (Ar Hx (pv 1) A9 (Aw _)) (Hq (Ar Dm (Ag Bu (Ag Di (Bc (Bb K) (pv 0) A9 (fun _ _=>rfl)) A9) A9) A9 (Aw _))))) (Ab (Ad (Bh (A0 (Bt (C8 K) (by rfl) T.n_tuple boot_tuple (A0 (pv 2) A8)) (A0 D7 A8))))) Ak) (Ab (Ad (Bh (A0 (Bt (C8 K) (by rfl) T.n_tuple boot_tuple (A0 (pv 2) A8)) (A0 (Ag C7 A9 (Ag Bu (Ag Di (Bc (Bb K) (pv 0) A9 (fun _ _=>rfl)) A9) (Ag Eu (pv 1) A9))) A8))))))))),?_⟩
  refine ⟨B0,fun W hW=>?_⟩
  have s1:A7 H (upd H W (.lst [])):=A7.upd hW
  have e1:(upd H W (.lst [])) W = some (.lst []):=A5
  generalize upd H W (.lst []) = H1 at s1 e1 ⊢
  have hc1:=s1 _ _ hc
  have at6:=Hk (xs:=xs) (k:=6) (i:=6) (by omega) rfl
  have hm3:=Bl (xs.getD 6 0) (show (0:Int) < 3 by decide)
  refine ⟨_,rfl,_,rfl,c,_,_,_,rfl,rfl,.inl (B9.of hc1),at6,_,_,rfl,rfl,(by first | (show (0:Int) < _; decide) | simp),_,_,rfl,rfl,_,rfl,c,_,rfl,B9.of hc1,fun sl hsl=>?_⟩
  rw [Gr (by omega) (by rw [List.length_map]; omega),<- List.map_take]
  have htl:(xs.take (2 + xs.getD 6 0 % 3).toNat).length = (2 + xs.getD 6 0 % 3).toNat:=by
   rw [List.length_take]
   omega
  generalize xs.take (2 + xs.getD 6 0 % 3).toNat = ys at htl ⊢
  have s2:A7 H1 (upd H1 sl (.lst (ys.map V.int))):=A7.upd hsl
  have e2:(upd H1 sl (.lst (ys.map V.int))) sl = some (.lst (ys.map V.int)):=A5
  generalize upd H1 sl (.lst (ys.map V.int)) = H2 at s2 e2 ⊢
  have hWs:W ≠ sl:=An e1 hsl
  have s12:=s1.trans s2
  refine ⟨sl,rfl,.inl ⟨⟨_,B9.of e2⟩,?_⟩⟩
  refine Cq (K:=K) (a:=sl) (xs:=ys.map V.int) (fun i σ H'=>Pj fun (ws:List Int) (room:Int) (v3:Option V)=>Vt (σ = [some (.ref c),some (.int room),some (.ref W),v3]) (ws.length = i) ((∀ w ∈ ws,1 <= w /\ w <= 40)) (1 <= room) (Aq 1 ws * room <= 150) (H' W = some (.lst (ws.map V.int))) (H' sl = some (.lst (ys.map V.int))) (A7 H H'))
   ⟨[],150,none,rfl,rfl,(fun w hw=>by cases hw),by decide,by decide,s2 _ _ e1,e2,s12⟩ (by rintro i σ H' _ ⟨_,_,_,_,_,_,_,_,_,e,_⟩; exact B9.of e) ?_ ?_
  ·rintro i y σ H3 hy ⟨ws,room,v3,rfl,hwl,hw1,hro,hpr,hW3,hsl3,s3⟩
   have hi:=(List.getElem?_eq_some_iff.mp hy).1
   rw [List.length_map] at hi
   rw [List.getElem?_map] at hy
   obtain ⟨x,hx,rfl⟩ := Option.map_eq_some_iff.mp hy
   have hmn:(0:Int) < (if 40 < room then 40 else room) /\ (if (40:Int) < room then (40:Int) else room) <= 40 /\ (if (40:Int) < room then (40:Int) else room) <= room:=by split <;> omega
   have hxm:=Bl x hmn.1
   refine ⟨_,rfl,.inl ⟨rfl,_,B9.of hW3⟩,_,rfl,_,rfl,_,_,rfl,_,_,rfl,rfl,hmn.1,_,_,rfl,rfl,W,_,_,rfl,rfl,hW3,Bd (by rw [List.length_map]; omega),?_⟩
   have hw:1 <= 1 + x % (if (40:Int) < room then (40:Int) else room) /\ 1 + x % (if (40:Int) < room then (40:Int) else room) <= 40 /\ 1 + x % (if (40:Int) < room then (40:Int) else room) <= room:=by omega
   generalize hwd:1 + x % (if (40:Int) < room then (40:Int) else room) = w at hw
   have h4:(upd H3 W (.lst (ws.map V.int ++ [V.int (1 + x % (if (40:Int) < room then (40:Int) else room))]))) W = some (.lst (ws.map V.int ++ [V.int w])):=by rw [A5,hwd]
   have hq:1 <= room / w:=by
    rw [Int.le_ediv_iff_mul_le (by omega)]
    omega
   refine ⟨_,rfl,_,rfl,_,rfl,W,_,_,_,rfl,rfl,.inl (B9.of h4),Ws _ _,_,_,rfl,rfl,⟨by omega,by omega⟩,?_⟩
   refine ⟨ws ++ [w],room / w,_,rfl,Fg hwl,?_,hq,?_,by rw [h4,Ff],(Ac hWs.symm).trans hsl3,s3.new hW⟩
   ·intro z hz
    rcases List.mem_append.mp hz with y | y
    ·exact hw1 z y
    ·cases List.mem_singleton.mp y
     exact ⟨hw.1,hw.2.1⟩
   ·rw [Vw]
    have hp0:0 <= Aq 1 ws:=Int.le_trans (by decide) (E6 ws 1 (by decide) fun w hw=>(hw1 w hw).1)
    have h5:w * (room / w) <= room:=Int.mul_ediv_self_le (by omega)
    have h6:Aq 1 ws * (w * (room / w)) <= Aq 1 ws * room:=Int.mul_le_mul_of_nonneg_left h5 hp0
    rw [Int.mul_assoc]
    omega
  rintro σ H3 ⟨ws,room,v3,rfl,hwl,hw1,hro,hpr,hW3,hsl3,s3⟩
  rw [List.length_map] at hwl
  have hc3:=s3 _ _ hc
  have hp1:1 <= Aq 1 ws:=E6 ws 1 (by decide) fun w hw=>(hw1 w hw).1
  have hpb:Aq 1 ws <= 150:=by
   have:Aq 1 ws * 1 <= Aq 1 ws * room:=Int.mul_le_mul_of_nonneg_left hro (by omega)
   omega
  have hwb:∀ w ∈ ws,1 <= w /\ w <= 3000:=fun w hw=>by have:=hw1 w hw; omega
  refine ⟨_,rfl,_,_,rfl,rfl,_,rfl,_,fun _ Q' z=>⟨_,rfl,c,_,_,_,rfl,rfl,.inl (B9.of hc3),at6,_,_,rfl,rfl,⟨by decide,by decide⟩,_,_,rfl,rfl,(by first | (show (0:Int) < _; decide) | simp),rfl,_,rfl,z⟩,?_⟩
  refine Cu (fun h0=>?_) (fun h0=>?_)
  ·refine ⟨_,rfl,W,_,rfl,.inl ⟨B9.of hW3,fun t ht=>?_⟩⟩
   have s4:A7 H3 (upd H3 t (.tup (ws.map V.int))):=A7.upd ht
   have e4:(upd H3 t (.tup (ws.map V.int))) t = some (.tup (ws.map V.int)):=A5
   generalize upd H3 t (.tup (ws.map V.int)) = H4 at s4 e4 ⊢
   refine ⟨B0,fun p hp=>?_⟩
   exact q p ws none _ ((s3.trans s4).trans (A7.upd hp)) ⟨t,A5,(A7.upd hp) _ _ e4⟩ ⟨hwb,(fun c z=>nomatch z),by omega,by omega,by show Aq 1 ws <= 300; omega⟩
  have hr2:2 <= room:=by
   have:¬ (room < 2):=fun z=>by
    apply h0
    rw [decide_eq_true z]
    rfl
   omega
  refine ⟨_,rfl,W,_,rfl,.inl ⟨B9.of hW3,fun t ht=>?_⟩⟩
  have s4:A7 H3 (upd H3 t (.tup (ws.map V.int))):=A7.upd ht
  have e4:(upd H3 t (.tup (ws.map V.int))) t = some (.tup (ws.map V.int)):=A5
  generalize upd H3 t (.tup (ws.map V.int)) = H4 at s4 e4 ⊢
  have hrm:(0:Int) < room - 1:=by omega
  have hcm:=Bl (xs.getD 6 0 / 6) hrm
  refine ⟨_,rfl,c,_,_,_,rfl,rfl,.inl (B9.of (s4 _ _ hc3)),at6,_,_,rfl,rfl,⟨by decide,by decide⟩,_,rfl,_,_,rfl,rfl,_,_,rfl,rfl,hrm,_,_,rfl,rfl,B0,fun p hp=>?_⟩
  have hr150:room <= 150:=by
   have:1 * room <= Aq 1 ws * room:=Int.mul_le_mul_of_nonneg_right hp1 (by omega)
   omega
  refine q p ws (some (1 + xs.getD 6 0 / 6 % (room - 1))) _ ((s3.trans s4).trans (A7.upd hp)) ⟨t,A5,(A7.upd hp) _ _ e4⟩ ⟨hwb,(fun c z=>by cases z; omega),by omega,by omega,?_⟩
  show Aq (1 + xs.getD 6 0 / 6 % (room - 1) + 1) ws <= 300
  have e:Aq (1 + xs.getD 6 0 / 6 % (room - 1) + 1) ws = (1 + xs.getD 6 0 / 6 % (room - 1) + 1) * Aq 1 ws:=by
   rw [<- Iw,Int.mul_one]
  rw [e,Int.mul_comm]
  have h7:Aq 1 ws * (1 + xs.getD 6 0 / 6 % (room - 1) + 1) <= Aq 1 ws * room:=Int.mul_le_mul_of_nonneg_left (by omega) (by omega)
  omega
def Td (K:PySem.W.Frag):Sp:=fun vs H Q _=>We fun (a:Addr) (ns:List Int)=>Ou (vs = [.ref a]) (B9 K H a (ns.map V.int)) (∀ (p:Addr) (ws:List Int) (cm:Option Int) (H':Hp),A7 H H' -> Bq H' p ws cm -> E4 ws cm -> Q (.ref p) H')
theorem fz {fd fd_x27 fd_x28:FuncData} (T:Txt K mg ad) (F:Fj K "_law_hall" "_law_hall" Hb ad.f_x29 fd) (G_x27:Al P w K mg base Bv 1 ad.f_x27 fd_x27 ["script","k"] (Sr K)) (B_x27:B8 K fd_x27 ["script","k"] []) (G_x28:Al P w K mg base Bv 1 ad.f_x28 fd_x28 ["cells"] (Sh K)) (B_x28:B8 K fd_x28 ["cells"] []):Al P w K mg base Bv 2 ad.f_x29 fd ["script"] (Td K):=by
 refine F.ok Dp (fun vs H Q E h=>?_) (fun cdv A outer s H vs Q E hr h=>?_)
 ·rcases h with ⟨a,ns,rfl,hS,q⟩ <;> rfl
 ·obtain ⟨a,ns,rfl,hS,q⟩ := h
  refine ⟨_,(A6 (Ao (i:=1) Dp.nd rfl (Or.inl rfl) (Ag Bu (Aj G_x27 (hr.mono (by decide)) rfl T.m_x27 T.k_x27 B_x27 .nil Bf (A0 (pv 0) (A0 A9 A8))) A9)) (A6 (Ao (i:=2) Dp.nd rfl (Or.inl rfl) (Aj G_x27 (hr.mono (by decide)) rfl T.m_x27 T.k_x27 B_x27 .nil Bf (A0 (pv 0) (A0 A9 A8)))) (A6 (Du (i:=3) Dp.nd rfl (Dq (by rfl) T.n_range (A0 A9 A8)) _ rfl Lu rfl rfl (fun _ _ _ _=>(Af (i:=0) Mh rfl (Or.inl rfl))) (fun _ _ _ _=>Da) (fun _ _ _ _=>(Aj G_x27 (hr.mono (by decide)) rfl T.m_x27 T.k_x27 B_x27 .nil Bf (A0 (pv 1) (A0 (Ag C7 A9 (pv 0)) A8)))) rfl rfl) (A6 (Bp (PW.pt (P5 (Ar N1 (pv 1) A9 (Aw _)) (Go (Ar Hx (pv 1) A9 (Aw _))))) (Ab (Ad (Aj G_x28 (hr.mono (by decide)) rfl T.m_x28 T.k_x28 B_x28 .nil Bf (A0 (pv 3) A8)))) Ak) (A6 (Du (i:=4) Dp.nd rfl (D4 (w':=K7 K _) (D5 (C5 (Cm K) (pv 3) Cp (Cg A9)))) _ rfl Lr rfl rfl (fun _ _ _ _=>(Af (i:=0) Lw rfl (Or.inl rfl))) (fun _ _ _ _=>Da) (fun _ _ _ _=>(Ag C7 A9 (Ay (Fb rfl) (by rfl) T.n_max boot_max (A0 (Ag Bu (pv 0) A9) (A0 (Ag Bu (Ag Di (pv 0) A9) A9) A8))))) rfl rfl) (A6 (Ao (i:=5) Dp.nd rfl (Or.inl rfl) A9) (A6 (Ex (Ar N1 (pv 1) A9 (Aw _)) (A6 (Du (i:=4) Dp.nd rfl (D4 (w':=K7 K _) (D5 (C5 (Cm K) (pv 3) Cp (Cg A9)))) _ rfl Ls rfl rfl (fun _ _ _ _=>(Af (i:=0) Md rfl (Or.inl rfl))) (fun _ _ _ _=>Da) (fun _ _ _ _=>(Ag C7 A9 (Ay (Fb rfl) (by rfl) T.n_max boot_max (A0 (Ag Bu (pv 0) A9) (A0 (Ag Bu (Ag Di (pv 0) A9) A9) A8))))) rfl rfl) (Ab (Ao (i:=5) Dp.nd rfl (Or.inl rfl) A9))) Ak) (A6 (Ex (Ar N1 (pv 1) A9 (Aw _)) (A6 (Ao (i:=4) Dp.nd rfl (Or.inl rfl) (Cl (A0 (Ag C7 A9 (Ag Bu (Bc (Bb K) (pv 3) A9 (fun _ _=>rfl)) A9)) A8))) (Ab (Ao (i:=5) Dp.nd rfl (Or.inl rfl) A9))) Ak) (A6 (Bp (Ar Dm (pv 1) A9 (Aw _)) (Ab (Ad (Bh (A0 (Bh (A0 A9 A8)) (A0 (Ag C7 A9 (Ag Bu (pv 2) A9)) A8))))) Ak) (A6 (Bp (Ar Dm (pv 1) A9 (Aw _)) (Ab (Ad (Bh (A0 (Bt (C8 K) (by rfl) T.n_tuple boot_tuple (A0 (Em (D4 (w':=K7 K _) (D5 (C5 (Cm K) (pv 3) Cp (Cg A9)))) _ rfl Mf rfl rfl (fun _ _ _ _=>(Af (i:=0) Lz rfl (Or.inl rfl))) (fun _ _ _ _=>Da) (fun _ _ _ _=>(Ag Eu A9 (Ay (Fb rfl) (by rfl) T.n_max boot_max (A0 A9 (A0 (Ag Eu (Ag Bu (pv 0) A9) A9) A8)))))) A8)) (A0 D7 A8))))) Ak) (A6 (Ex (Ar N1 (pv 1) A9 (Aw _)) (A6 (Ao (i:=4) Dp.nd rfl (Or.inl rfl) (Ag S3 (Cl (A0 A9 A8)) (Ag C7 A9 (Ag Bu (Bc (Bb K) (pv 3) A9 (fun _ _=>rfl)) A9)))) (A6 (Cc PassesOwn.never rfl (Dq (by rfl) T.n_range (A0 A9 A8)) (Af (i:=6) Dp.nd rfl (Or.inl rfl)) (Ab (L5 (Ag C7 A9 (Ag Bu (Bc (Bb K) (pv 3) (Ag C7 A9 (pv 6)) (fun _ _=>rfl)) A9)) (Pg (pv 4) (Ag Bu (Bc (Bb K) (pv 3) (pv 6) (fun _ _=>rfl)) (Ay (Be K) (by rfl) T.n_len PySem.boot_len (A0 (pv 4) A8))) Hz)))) (Ab (Ao (i:=5) Dp.nd rfl (Or.inl rfl) A9)))) Ak) (A6 (Bp (Ar Dm (Ag Bu (pv 2) A9) A9 (Aw _)) (Ab (Ad (Bh (A0 (Bt (C8 K) (by rfl) T.n_tuple boot_tuple (A0 (pv 4) A8)) (A0 D7 A8))))) Ak) (Ab (Ad (Bh (A0 (Bt (C8 K) (by rfl) T.n_tuple boot_tuple (A0 (pv 4) A8)) (A0 (Ag C7 A9 (Ag Bu (Ag Di (pv 2) A9) (pv 5))) A8))))))))))))))))),?_⟩
  refine ⟨_,rfl,a,ns,0,rfl,hS,by decide,_,_,rfl,rfl,(by first | (show (0:Int) < _; decide) | simp),?_⟩
  refine ⟨_,rfl,a,ns,1,rfl,hS,by decide,?_⟩
  refine ⟨7,rfl,by decide,by decide,fun C hC=>?_⟩
  refine Fp (fun i ys H'=>∃ (xs:List Int),Kt (ys = xs.map V.int) (xs.length = i) (H' C = some (.lst ys)) (A7 H H')) ⟨[],rfl,rfl,A5,A7.upd hC⟩ ?_ ?_
  ·rintro i ys H' hi ⟨xs,rfl,hxl,hC',s'⟩ Qe hQ
   have hi7:i < 7:=hi
   refine ⟨_,rfl,_,rfl,_,_,rfl,rfl,a,ns,_,rfl,s'.seq hS,by omega,?_⟩
   exact hQ _ _ hC' (Bd (by rw [List.length_map]; omega)) ⟨xs ++ [_],Ff _ _,Fg hxl,A5,s'.new hC⟩
  rintro ys H1 ⟨xs,rfl,hx7',eC,s1⟩
  have hx7:xs.length = 7:=hx7'
  refine ⟨_,rfl,_,_,rfl,rfl,_,rfl,_,fun _ Q' z=>⟨_,rfl,_,_,rfl,rfl,_,rfl,z⟩,?_⟩
  refine Cu (fun _=>?_) (fun _=>?_)
  ·exact ⟨_,rfl,C,xs,rfl,eC,hx7,fun p ws cm H2 s2 h1 h2=>q p ws cm H2 (s1.trans s2) h1 h2⟩
  refine ⟨_,rfl,_,rfl,C,_,rfl,B9.of eC,fun sa hsa=>?_⟩
  rw [Gr (by decide) (by rw [List.length_map]; omega),<- List.map_take]
  have htlWa:(xs.take (2:Int).toNat).length = 2:=by
   rw [List.length_take]
   omega
  generalize xs.take (2:Int).toNat = ysWa at htlWa ⊢
  have sA:A7 H1 (upd H1 sa (.lst (ysWa.map V.int))):=A7.upd hsa
  have esa:(upd H1 sa (.lst (ysWa.map V.int))) sa = some (.lst (ysWa.map V.int)):=A5
  generalize upd H1 sa (.lst (ysWa.map V.int)) = H2 at sA esa ⊢
  refine ⟨sa,rfl,.inl ⟨⟨_,B9.of esa⟩,fun Wa hWa=>?_⟩⟩
  refine Jj (K:=K) (a:=sa) (xs:=ysWa.map V.int) (fun i zs H'=>∃ (ws:List Int),Gy (zs = ws.map V.int) (ws.length = i) ((∀ w ∈ ws,1 <= w /\ w <= 6)) (H' Wa = some (.lst zs)) (A7 H2 H')) ⟨[],rfl,rfl,(fun w hw=>by cases hw),A5,A7.upd hWa⟩ (by rintro i zs H' _ ⟨_,_,_,_,_,s⟩; exact B9.of (s _ _ esa)) ?_ ?_
  ·rintro i y zs H' hy ⟨ws,rfl,hwl,hw1,hW',s'⟩ Qe hQ
   have hi:=(List.getElem?_eq_some_iff.mp hy).1
   rw [List.length_map] at hi
   rw [List.getElem?_map] at hy
   obtain ⟨x,hx,rfl⟩ := Option.map_eq_some_iff.mp hy
   refine ⟨_,rfl,_,_,rfl,rfl,(by first | (show (0:Int) < _; decide) | simp),_,rfl,_,_,rfl,rfl,⟨by decide,by decide⟩,_,_,rfl,rfl,(by first | (show (0:Int) < _; decide) | simp),_,_,rfl,_,_,rfl,rfl,?_⟩
   have hx1:=Bl x (show (0:Int) < 6 by decide)
   have hx2:=Bl (x / 6) (show (0:Int) < 6 by decide)
   refine hQ _ _ hW' (Bd (by rw [List.length_map]; omega)) ⟨ws ++ [_],Ff _ _,Fg hwl,?_,A5,s'.new hWa⟩
   intro w hw
   rcases List.mem_append.mp hw with z | z
   ·exact hw1 w z
   ·rw [List.mem_singleton.mp z]
    show 1 <= 1 + (if x / 6 % 6 > x % 6 then x / 6 % 6 else x % 6) /\ 1 + (if x / 6 % 6 > x % 6 then x / 6 % 6 else x % 6) <= 6
    split <;> omega
  rintro zs H3 ⟨wsWa,rfl,hwlWa,hw1Wa,eWa,s13'⟩
  rw [List.length_map,htlWa] at hwlWa
  have s13:=sA.trans s13'
  have eC3:=s13 _ _ eC
  refine ⟨_,rfl,_,_,rfl,rfl,_,rfl,(fun σ' H'=>Wh fun (W:Addr) (ws:List Int) (most:Int) (v6:Option V)=>Kt (σ' = [some (.ref a),some (.int (E2 ns 0 % 24)),some (.int (E2 ns 1)),some (.ref C),some (.ref W),some (.int most),v6]) (H' W = some (.lst (ws.map V.int))) (Ys ws most) (A7 H3 H')),fun _=>?_,fun _=>⟨Wa,wsWa,2,_,rfl,eWa,Ys.of hw1Wa hwlWa (by decide) (by decide) (by decide) ⟨by decide,by decide⟩ (by decide),A7.refl _⟩,?_⟩
  ·refine ⟨_,rfl,_,rfl,C,_,rfl,B9.of eC3,fun sb hsb=>?_⟩
   rw [Gr (by decide) (by rw [List.length_map]; omega),<- List.map_take]
   have htlWb:(xs.take (3:Int).toNat).length = 3:=by
    rw [List.length_take]
    omega
   generalize xs.take (3:Int).toNat = ysWb at htlWb ⊢
   have sB:A7 H3 (upd H3 sb (.lst (ysWb.map V.int))):=A7.upd hsb
   have esb:(upd H3 sb (.lst (ysWb.map V.int))) sb = some (.lst (ysWb.map V.int)):=A5
   generalize upd H3 sb (.lst (ysWb.map V.int)) = H4 at sB esb ⊢
   refine ⟨sb,rfl,.inl ⟨⟨_,B9.of esb⟩,fun Wb hWb=>?_⟩⟩
   refine Jj (K:=K) (a:=sb) (xs:=ysWb.map V.int) (fun i zs H'=>∃ (ws:List Int),Gy (zs = ws.map V.int) (ws.length = i) ((∀ w ∈ ws,1 <= w /\ w <= 4)) (H' Wb = some (.lst zs)) (A7 H4 H')) ⟨[],rfl,rfl,(fun w hw=>by cases hw),A5,A7.upd hWb⟩ (by rintro i zs H' _ ⟨_,_,_,_,_,s⟩; exact B9.of (s _ _ esb)) ?_ ?_
   ·rintro i y zs H' hy ⟨ws,rfl,hwl,hw1,hW',s'⟩ Qe hQ
    have hi:=(List.getElem?_eq_some_iff.mp hy).1
    rw [List.length_map] at hi
    rw [List.getElem?_map] at hy
    obtain ⟨x,hx,rfl⟩ := Option.map_eq_some_iff.mp hy
    refine ⟨_,rfl,_,_,rfl,rfl,(by first | (show (0:Int) < _; decide) | simp),_,rfl,_,_,rfl,rfl,⟨by decide,by decide⟩,_,_,rfl,rfl,(by first | (show (0:Int) < _; decide) | simp),_,_,rfl,_,_,rfl,rfl,?_⟩
    have hx1:=Bl x (show (0:Int) < 4 by decide)
    have hx2:=Bl (x / 4) (show (0:Int) < 4 by decide)
    refine hQ _ _ hW' (Bd (by rw [List.length_map]; omega)) ⟨ws ++ [_],Ff _ _,Fg hwl,?_,A5,s'.new hWb⟩
    intro w hw
    rcases List.mem_append.mp hw with z | z
    ·exact hw1 w z
    ·rw [List.mem_singleton.mp z]
     show 1 <= 1 + (if x / 4 % 4 > x % 4 then x / 4 % 4 else x % 4) /\ 1 + (if x / 4 % 4 > x % 4 then x / 4 % 4 else x % 4) <= 4
     split <;> omega
   rintro zs H5 ⟨wsWb,rfl,hwlWb,hw1Wb,eWb,s35'⟩
   rw [List.length_map,htlWb] at hwlWb
   have s35:=sB.trans s35'
   exact ⟨Wb,wsWb,1,_,rfl,eWb,Ys.of hw1Wb hwlWb (by decide) (by decide) (by decide) ⟨by decide,by decide⟩ (by decide),s35⟩
  rintro σ H5 ⟨W5,ws5,most5,v65,rfl,eW5,st5,s35⟩
  have eC5:=s35 _ _ eC3
  have at0:=Hk (xs:=xs) (k:=0) (i:=0) (by omega) rfl
  have at6:=Hk (xs:=xs) (k:=6) (i:=6) (by omega) rfl
  refine ⟨_,rfl,_,_,rfl,rfl,_,rfl,(fun σ' H'=>Wh fun (W:Addr) (ws:List Int) (most:Int) (v6:Option V)=>Kt (σ' = [some (.ref a),some (.int (E2 ns 0 % 24)),some (.int (E2 ns 1)),some (.ref C),some (.ref W),some (.int most),v6]) (H' W = some (.lst (ws.map V.int))) (Ys ws most) (A7 H5 H')),fun _=>?_,fun _=>⟨W5,ws5,most5,_,rfl,eW5,st5,A7.refl _⟩,?_⟩
  ·refine ⟨_,rfl,C,_,_,_,rfl,rfl,.inl (B9.of eC5),at0,_,_,rfl,rfl,(by first | (show (0:Int) < _; decide) | simp),_,_,rfl,rfl,B0,fun W6 hW6=>?_⟩
   have hm:=Bl (xs.getD 0 0) (show (0:Int) < 12 by decide)
   refine ⟨W6,[1 + xs.getD 0 0 % 12],4,_,rfl,A5,Ys.of (b:=12) (n:=1) (fun w hw=>?_) rfl (by decide) (by decide) (by decide) ⟨by decide,by decide⟩ (by decide),A7.upd hW6⟩
   rw [List.mem_singleton.mp hw]
   omega
  rintro σ H6 ⟨W6,ws6,most6,v66,rfl,eW6,st6,s56⟩
  have s06:=((s1.trans s13).trans s35).trans s56
  have eC6:=s56 _ _ eC5
  refine ⟨_,rfl,rfl,_,rfl,?_⟩
  refine Cu (fun _=>?_) (fun _=>?_)
  ·refine ⟨B0,fun t ht=>?_⟩
   have hm:=Bl (E2 ns 1) (show (0:Int) < 60 by decide)
   have s7:A7 H6 (upd H6 t (.tup [.int 1])):=A7.upd ht
   have e7:(upd H6 t (.tup [.int 1])) t = some (.tup [.int 1]):=A5
   generalize upd H6 t (.tup [.int 1]) = H7 at s7 e7 ⊢
   refine ⟨_,rfl,_,_,rfl,rfl,(by first | (show (0:Int) < _; decide) | simp),_,_,rfl,rfl,B0,fun p hp=>?_⟩
   refine q p [1] (some (1 + E2 ns 1 % 60)) _ ((s06.trans s7).trans (A7.upd hp)) ⟨t,A5,(A7.upd hp) _ _ e7⟩ ⟨fun w hw=>?_,(fun c z=>by cases z; omega),by decide,by show 1 <= 8; decide,?_⟩
   ·rw [List.mem_singleton.mp hw]
    decide
   ·show (1 + E2 ns 1 % 60 + 1) * 1 <= 300
    omega
  refine ⟨_,rfl,rfl,_,rfl,?_⟩
  refine Cu (fun _=>?_) (fun _=>?_)
  ·refine ⟨_,rfl,_,rfl,C,_,rfl,B9.of eC6,fun sl hsl=>?_⟩
   rw [Gr (by decide) (by rw [List.length_map]; omega),<- List.map_take]
   have htl:(xs.take (4:Int).toNat).length = 4:=by
    rw [List.length_take]
    omega
   generalize xs.take (4:Int).toNat = ys at htl ⊢
   have s7:A7 H6 (upd H6 sl (.lst (ys.map V.int))):=A7.upd hsl
   have e7:(upd H6 sl (.lst (ys.map V.int))) sl = some (.lst (ys.map V.int)):=A5
   generalize upd H6 sl (.lst (ys.map V.int)) = H7 at s7 e7 ⊢
   refine ⟨sl,rfl,.inl ⟨⟨_,B9.of e7⟩,fun W hW=>?_⟩⟩
   refine Jj (K:=K) (a:=sl) (xs:=ys.map V.int) (fun i zs H'=>∃ (ws:List Int),Gy (zs = ws.map V.int) (ws.length = i) ((∀ w ∈ ws,1 <= w /\ w <= 4)) (H' W = some (.lst zs)) (A7 H7 H')) ⟨[],rfl,rfl,(fun w hw=>by cases hw),A5,A7.upd hW⟩ (by rintro i zs H' _ ⟨_,_,_,_,_,s⟩; exact B9.of (s _ _ e7)) ?_ ?_
   ·rintro i y zs H' hy ⟨ws,rfl,hwl,hw1,hW',s'⟩ Qe hQ
    have hi:=(List.getElem?_eq_some_iff.mp hy).1
    rw [List.length_map] at hi
    rw [List.getElem?_map] at hy
    obtain ⟨x,hx,rfl⟩ := Option.map_eq_some_iff.mp hy
    refine ⟨_,rfl,_,_,rfl,rfl,(by first | (show (0:Int) < _; decide) | simp),_,_,rfl,rfl,_,_,rfl,_,_,rfl,rfl,?_⟩
    have hx1:=Bl x (show (0:Int) < 5 by decide)
    refine hQ _ _ hW' (Bd (by rw [List.length_map]; omega)) ⟨ws ++ [_],Ff _ _,Fg hwl,?_,A5,s'.new hW⟩
    intro w hw
    rcases List.mem_append.mp hw with z | z
    ·exact hw1 w z
    ·rw [List.mem_singleton.mp z]
     show 1 <= 4 - (if x % 5 - 2 > 0 then x % 5 - 2 else 0) /\ 4 - (if x % 5 - 2 > 0 then x % 5 - 2 else 0) <= 4
     split <;> omega
   rintro zs H8 ⟨ws,rfl,hwl,hw1,eW,s8⟩
   rw [List.length_map,htl] at hwl
   refine ⟨W,_,rfl,.inl ⟨B9.of eW,fun t ht=>?_⟩⟩
   have s9:A7 H8 (upd H8 t (.tup (ws.map V.int))):=A7.upd ht
   have e9:(upd H8 t (.tup (ws.map V.int))) t = some (.tup (ws.map V.int)):=A5
   generalize upd H8 t (.tup (ws.map V.int)) = H9 at s9 e9 ⊢
   refine ⟨B0,fun p hp=>?_⟩
   have hpw:=Kg ws 1 (by decide) hw1
   rw [hwl] at hpw
   refine q p ws none _ (((s06.trans (s7.trans s8)).trans s9).trans (A7.upd hp)) ⟨t,A5,(A7.upd hp) _ _ e9⟩ ⟨fun w hw=>?_,(fun c z=>nomatch z),by omega,by omega,?_⟩
   ·have:=hw1 w hw
    omega
   ·show Aq 1 ws <= 300
    exact Int.le_trans hpw (by decide)
  refine ⟨_,rfl,_,_,rfl,rfl,_,rfl,(fun σ' H'=>Wh fun (W:Addr) (ws:List Int) (most:Int) (v6:Option V)=>Kt (σ' = [some (.ref a),some (.int (E2 ns 0 % 24)),some (.int (E2 ns 1)),some (.ref C),some (.ref W),some (.int most),v6]) (H' W = some (.lst (ws.map V.int))) (Ys ws most) (A7 H6 H')),fun _=>?_,fun _=>⟨W6,ws6,most6,_,rfl,eW6,st6,A7.refl _⟩,?_⟩
  ·refine ⟨B0,fun L1 hL1=>?_⟩
   have s7:A7 H6 (upd H6 L1 (.lst [.int 1])):=A7.upd hL1
   have e7:(upd H6 L1 (.lst [.int 1])) L1 = some (.lst [.int 1]):=A5
   generalize upd H6 L1 (.lst [.int 1]) = H7 at s7 e7 ⊢
   have hm5:=Bl (xs.getD 6 0) (show (0:Int) < 5 by decide)
   refine ⟨_,rfl,C,_,_,_,rfl,rfl,.inl (B9.of (s7 _ _ eC6)),at6,_,_,rfl,rfl,(by first | (show (0:Int) < _; decide) | simp),_,_,rfl,rfl,L1,_,_,rfl,rfl,e7,by omega,by omega,Ot (by simp; omega),fun W7 hW7=>?_⟩
   rw [Pz]
   have s8:A7 H7 (upd H7 W7 (.lst ((List.replicate (4 + xs.getD 6 0 % 5).toNat (1:Int)).map V.int))):=A7.upd hW7
   have e8:(upd H7 W7 (.lst ((List.replicate (4 + xs.getD 6 0 % 5).toNat (1:Int)).map V.int))) W7 = some (.lst ((List.replicate (4 + xs.getD 6 0 % 5).toNat (1:Int)).map V.int)):=A5
   generalize upd H7 W7 (.lst ((List.replicate (4 + xs.getD 6 0 % 5).toNat (1:Int)).map V.int)) = H8 at s8 e8 ⊢
   have s68:=s7.trans s8
   have eC8:=s68 _ _ eC6
   have nW7:H6 W7 = none:=s7.free hW7
   refine ⟨3,rfl,by decide,by decide,?_⟩
   refine Gv (n:=(3:Int).toNat) (fun i σ H'=>We fun (ws:List Int) (v6:Option V)=>L6 (σ = [some (.ref a),some (.int (E2 ns 0 % 24)),some (.int (E2 ns 1)),some (.ref C),some (.ref W7),some (.int most6),v6]) (H' W7 = some (.lst (ws.map V.int))) (ws.length = (4 + xs.getD 6 0 % 5).toNat) ((∀ w ∈ ws,1 <= w /\ w <= 3)) (Aq 1 ws <= 3 ^ i) (A7 H6 H'))
    ⟨_,_,rfl,e8,List.length_replicate,(fun w hw=>by rw [(List.mem_replicate.mp hw).2]; decide),by rw [N3]; decide,s68⟩ ?_ ?_
   ·rintro i σ H9 hi ⟨ws,v6,rfl,hW9,hwl,hw1,hpr,s9⟩
    have hi3:i < 3:=hi
    have eC9:=s9 _ _ eC6
    have a1:=Hk (xs:=xs) (k:=3 + i) (i:=3 + (0 + (i:Int))) (by omega) (by omega)
    have a2:=Hk (xs:=xs) (k:=i) (i:=0 + (i:Int)) (by omega) (by omega)
    have hlp:(0:Int) < ((ws.map V.int).length:Nat):=by rw [List.length_map]; omega
    have hix:=Bl (xs.getD i 0) hlp
    have hm3:=Bl (xs.getD (3 + i) 0) (show (0:Int) < 3 by decide)
    obtain ⟨j,hj⟩ : ∃ j:Nat,xs.getD i 0 % ((ws.map V.int).length:Nat) = j:=⟨(xs.getD i 0 % ((ws.map V.int).length:Nat)).toNat,by omega⟩
    have ej:Rr (ws.map V.int).length (xs.getD i 0 % ((ws.map V.int).length:Nat)) = some j:=by
     rw [hj]
     exact U0 (by omega)
    refine ⟨_,rfl,_,rfl,_,_,rfl,rfl,C,_,_,_,rfl,rfl,.inl (B9.of eC9),a1,_,_,rfl,rfl,(by first | (show (0:Int) < _; decide) | simp),_,_,rfl,rfl,?_⟩
    refine ⟨_,rfl,_,rfl,_,rfl,C,_,_,_,rfl,rfl,.inl (B9.of eC9),a2,_,rfl,W7,_,rfl,.inl (B9.of hW9),_,_,rfl,rfl,hlp,W7,_,_,_,rfl,rfl,hW9,ej,?_⟩
    have hx1:1 <= 1 + xs.getD (3 + i) 0 % 3:=by omega
    refine ⟨ws.set j (1 + xs.getD (3 + i) 0 % 3),_,rfl,by rw [A5,List.map_set],by rw [List.length_set]; exact hwl,Zd (P:=fun w=>1 <= w /\ w <= 3) hw1 (by omega),?_,s9.new nW7⟩
    have h1:=Qk hx1 ws 1 j (by decide) fun w hw=>(hw1 w hw).1
    have hp0:0 <= Aq 1 ws:=Int.le_trans (by decide) (E6 ws 1 (by decide) fun w hw=>(hw1 w hw).1)
    have h2:Aq 1 ws * (1 + xs.getD (3 + i) 0 % 3) <= Aq 1 ws * 3:=Int.mul_le_mul_of_nonneg_left (by omega) hp0
    have h3:(3:Int) ^ (i + 1) = 3 ^ i * 3:=Int.pow_succ 3 i
    rw [h3]
    omega
   rintro σ H9 ⟨ws,v6,rfl,hW9,hwl,hw1,hpr,s9⟩
   refine ⟨W7,ws,1,_,rfl,hW9,⟨fun w hw=>by have:=hw1 w hw; omega,by omega,by omega,by decide,by decide,?_⟩,s9⟩
   have:Aq 1 ws <= 27:=hpr
   omega
  rintro σ H7 ⟨W7,ws7,most7,v67,rfl,eW7,st7,s67⟩
  have s07:=s06.trans s67
  obtain ⟨ok1,ok2⟩ := st7.hall
  refine ⟨_,rfl,_,_,rfl,rfl,(by first | (show (0:Int) < _; decide) | simp),rfl,_,rfl,?_⟩
  refine Cu (fun _=>?_) (fun _=>?_)
  ·refine ⟨_,rfl,W7,_,rfl,.inl ⟨B9.of eW7,fun t ht=>?_⟩⟩
   have s8:A7 H7 (upd H7 t (.tup (ws7.map V.int))):=A7.upd ht
   have e8:(upd H7 t (.tup (ws7.map V.int))) t = some (.tup (ws7.map V.int)):=A5
   generalize upd H7 t (.tup (ws7.map V.int)) = H8 at s8 e8 ⊢
   refine ⟨B0,fun p hp=>?_⟩
   exact q p ws7 none _ ((s07.trans s8).trans (A7.upd hp)) ⟨t,A5,(A7.upd hp) _ _ e8⟩ ok1
  refine ⟨_,rfl,W7,_,rfl,.inl ⟨B9.of eW7,fun t ht=>?_⟩⟩
  have s8:A7 H7 (upd H7 t (.tup (ws7.map V.int))):=A7.upd ht
  have e8:(upd H7 t (.tup (ws7.map V.int))) t = some (.tup (ws7.map V.int)):=A5
  generalize upd H7 t (.tup (ws7.map V.int)) = H8 at s8 e8 ⊢
  refine ⟨_,rfl,_,_,rfl,rfl,⟨by decide,by decide⟩,_,rfl,_,_,rfl,rfl,(by show 0 < most7; have:=st7.2.2.2.1; omega),_,_,rfl,rfl,B0,fun p hp=>?_⟩
  exact q p ws7 (some (1 + E2 ns 1 / 3 % most7)) _ ((s07.trans s8).trans (A7.upd hp)) ⟨t,A5,(A7.upd hp) _ _ e8⟩ (ok2 _)
def Wp (K:PySem.W.Frag):Sp:=fun vs H Q _=>Wh fun (a:Addr) (ws:List Int) (cm:Option Int) (c:Int)=>L6 (vs = [.ref a,.int c]) (Bq H a ws cm) (ws.length <= 8) ((∀ x ∈ ws,1 <= x /\ x <= 3000)) ((∀ d,cm = some d -> 1 <= d)) (∀ (p:Addr) (ls:List Int) (q:Int) (H':Hp),A7 H H' -> Dx H' p ls q -> (ls,q) ∈ Bk ws (qv cm) -> Q (.ref p) H')
theorem j8 {fd  : FuncData} (T:Txt K mg ad) (F:Fj K "_law_standing" "_law_standing" V2 ad.f_x8 fd):Al P w K mg base Bv 1 ad.f_x8 fd ["hall","cell"] (Wp K):=by
 refine F.ok Uh (fun vs H Q E h=>?_) (fun cdv A outer s H vs Q E hr h=>?_)
 ·rcases h with ⟨a,ws,cm,c,rfl,⟨wt,ha1,ha2⟩,hw8,hw1,hcm,q⟩ <;> rfl
 ·obtain ⟨a,ws,cm,c,rfl,⟨wt,ha1,ha2⟩,hw8,hw1,hcm,q⟩ := h
  refine ⟨_,(A6 (Ao (i:=2) Uh.nd rfl (Or.inl rfl) (Cl A8)) (A6 (Cc PassesOwn.never rfl (D4 (w':=K7 K _) (D5 (Bc (Bb K) (pv 0) A9 (fun _ _=>rfl)))) (Af (i:=3) Uh.nd rfl (Or.inl rfl)) (A6 (Db (Fz (u':=Y5 K _ _ _ _) (Ha PySem.F.plainAttrs_list PySem.F.slot_list_append PySem.F.type_list_append Df (pv 2) (A0 (Ag C7 A9 (Ag Bu (pv 1) (pv 3))) A8)))) (Ab (Ao (i:=1) Uh.nd rfl (Or.inl rfl) (Ag Di (pv 1) (pv 3)))))) (A6 (Bp (Ar Oo (Bc (Bb K) (pv 0) A9 (fun _ _=>rfl)) D7 (Aw _)) (Ab (Ad (Bh (A0 (Bt (C8 K) (by rfl) T.n_tuple boot_tuple (A0 (pv 2) A8)) (A0 A9 A8))))) Ak) (Ab (Ad (Bh (A0 (Bt (C8 K) (by rfl) T.n_tuple boot_tuple (A0 (pv 2) A8)) (A0 (Ag Bu (pv 1) (Ag C7 (Bc (Bb K) (pv 0) A9 (fun _ _=>rfl)) A9)) A8)))))))),?_⟩
  refine ⟨B0,fun L hL=>?_⟩
  have s1:A7 H (upd H L (.lst [])):=A7.upd hL
  have e1:(upd H L (.lst [])) L = some (.lst []):=A5
  generalize upd H L (.lst []) = H1 at s1 e1 ⊢
  have g1:=s1 _ _ ha1
  have g2:=s1 _ _ ha2
  refine ⟨_,rfl,a,_,_,_,rfl,rfl,.inr (Br.of g1),rfl,wt,rfl,.inr ⟨⟨_,Br.of g2⟩,?_⟩⟩
  refine Of (K:=K) (a:=wt) (xs:=ws.map V.int) (fun i σ H'=>Pj fun (ls:List Int) (num:Int) (v3:Option V)=>Gy (σ = [some (.ref a),some (.int num),some (.ref L),v3]) (ls.length = i) ((∀ m,m < ls.length -> 1 <= ls.getD m 0 /\ ls.getD m 0 <= ws.getD m 0)) (H' L = some (.lst (ls.map V.int))) (A7 H H')) ⟨[],_,none,rfl,rfl,(fun m hm=>absurd hm (Nat.not_lt_zero _)),e1,s1⟩ (by rintro i σ H' _ ⟨_,_,_,_,_,_,_,s⟩; exact Br.of (s _ _ ha2)) ?_ ?_
  ·rintro i y σ H' hy ⟨ls,num,v3,rfl,hll,hbd,hL',s'⟩
   have hi:=(List.getElem?_eq_some_iff.mp hy).1
   rw [List.length_map] at hi
   rw [List.getElem?_map] at hy
   obtain ⟨x,hx,rfl⟩ := Option.map_eq_some_iff.mp hy
   have hx1:=hw1 x (List.mem_of_getElem? hx)
   refine ⟨_,rfl,.inl ⟨rfl,_,B9.of hL'⟩,_,rfl,_,rfl,_,_,rfl,rfl,(by show 0 < x; omega),_,_,rfl,rfl,L,_,_,rfl,rfl,hL',Bd (by rw [List.length_map]; omega),?_⟩
   refine ⟨_,rfl,_,rfl,_,_,rfl,rfl,⟨by omega,by omega⟩,?_⟩
   have hmx:=Bl num (show (0:Int) < x by omega)
   refine ⟨ls ++ [1 + num % x],num / x,_,rfl,Fg hll,fun m hm=>?_,Yf,s'.new hL⟩
   rw [fg hm]
   by_cases z:m < ls.length
   ·rw [if_pos z]
    exact hbd m z
   ·rw [if_neg z]
    rw [List.length_append,List.length_singleton] at hm
    have em:m = i:=by omega
    have ex:ws.getD m 0 = x:=by rw [em,List.getD_eq_getElem?_getD,hx]; rfl
    rw [ex]
    omega
  rintro σ H2 ⟨ls,num,v3,rfl,hll,hbd,hL2,s2⟩
  rw [List.length_map] at hll
  have k1:=s2 _ _ ha1
  refine ⟨_,rfl,a,_,_,_,rfl,rfl,.inr (Br.of k1),rfl,rfl,_,rfl,?_⟩
  refine Cu (fun h0=>?_) (fun h0=>?_)
  ·refine ⟨_,rfl,L,_,rfl,.inl ⟨B9.of hL2,fun t ht=>?_⟩⟩
   have s3:A7 H2 (upd H2 t (.tup (ls.map V.int))):=A7.upd ht
   have e3:(upd H2 t (.tup (ls.map V.int))) t = some (.tup (ls.map V.int)):=A5
   generalize upd H2 t (.tup (ls.map V.int)) = H3 at s3 e3 ⊢
   refine ⟨B0,fun p hp=>?_⟩
   refine q p ls 0 _ ((s2.trans s3).trans (A7.upd hp)) ⟨t,A5,(A7.upd hp) _ _ e3⟩ (Ic hll (fun i hi=>hbd i (by omega)) (Int.le_refl _) ?_)
   cases cm with
   | none=>exact (show (0:Int) < 1 by decide)
   | some d =>
    have:=hcm d rfl
    show 0 < d + 1
    omega
  cases cm with
  | none=>exact absurd rfl h0
  | some d =>
   have hd1:=hcm d rfl
   refine ⟨_,rfl,L,_,rfl,.inl ⟨B9.of hL2,fun t ht=>?_⟩⟩
   have s3:A7 H2 (upd H2 t (.tup (ls.map V.int))):=A7.upd ht
   have e3:(upd H2 t (.tup (ls.map V.int))) t = some (.tup (ls.map V.int)):=A5
   generalize upd H2 t (.tup (ls.map V.int)) = H3 at s3 e3 ⊢
   refine ⟨_,rfl,_,rfl,a,_,_,_,rfl,rfl,.inr (Br.of (s3 _ _ k1)),rfl,_,_,rfl,rfl,_,_,rfl,rfl,(by show 0 < d + 1; omega),B0,fun p hp=>?_⟩
   have hmd:=Bl num (show (0:Int) < d + 1 by omega)
   exact q p ls _ _ ((s2.trans s3).trans (A7.upd hp)) ⟨t,A5,(A7.upd hp) _ _ e3⟩ (Ic hll (fun i hi=>hbd i (by omega)) hmd.1 hmd.2)
def Sf (K:PySem.W.Frag):Sp:=fun vs H Q _=>pz fun (a b:Addr) (ws ls:List Int) (cm:Option Int) (q w:Int) (who:Nat) (lost:Bool)=>Ko (vs = [.ref a,.ref b,.int w,.bl lost]) (w = (who:Int)) (Bq H a ws cm) (Dx H b ls q) (who < ws.length) (ls.length = ws.length) (ws.length <= 8) ((∀ x ∈ ws,1 <= x)) ((lost = true -> cm ≠ none)) (∀ (v:V) (H':Hp),A7 H H' -> F4 H' (F5 ws ls cm q who lost) v -> Q v H')
theorem fq {fd  : FuncData} (T:Txt K mg ad) (F:Fj K "_law_behind" "_law_behind" Nf ad.f_x17 fd):Al P w K mg base Bv 1 ad.f_x17 fd ["hall","standing","who","lost"] (Sf K):=by
 refine F.ok Ru (fun vs H Q E h=>?_) (fun cdv A outer s H vs Q E hr h=>?_)
 ·rcases h with ⟨a,b,ws,ls,cm,n,w0,who,lost,rfl,rfl,ha,hb,hw,hl,h8,hw1,hlc,q⟩ <;> rfl
 ·obtain ⟨a,b,ws,ls,cm,n,w0,who,lost,rfl,rfl,ha,hb,hw,hl,h8,hw1,hlc,q⟩ := h
  refine ⟨_,(A6 (Ao (i:=4) Ru.nd rfl (Or.inl rfl) (Cl A8)) (A6 (Cc PassesOwn.never rfl (Dq (by rfl) T.n_range (A0 (Ay (Be K) (by rfl) T.n_len PySem.boot_len (A0 (Bc (Bb K) (pv 0) A9 (fun _ _=>rfl)) A8)) A8)) (Af (i:=5) Ru.nd rfl (Or.inl rfl)) (Ab (Bp (PW.pt (P5 (Ar Dm (pv 5) (pv 2) (Aw _)) (Go (E3 (Dl (pv 3)))))) (Ab (Db (Fz (u':=Y5 K _ _ _ _) (Ha PySem.F.plainAttrs_list PySem.F.slot_list_append PySem.F.type_list_append Df (pv 4) (A0 (Bc (Bb K) (Bc (Bb K) (pv 0) A9 (fun _ _=>rfl)) (pv 5) (fun _ _=>rfl)) A8))))) (Ab (Bp (Ar Dm (Bc (Bb K) (Bc (Bb K) (pv 1) A9 (fun _ _=>rfl)) (pv 5) (fun _ _=>rfl)) A9 (Aw _)) (Ab (Ad D7)) (Ab (Db (Fz (u':=Y5 K _ _ _ _) (Ha PySem.F.plainAttrs_list PySem.F.slot_list_append PySem.F.type_list_append Df (pv 4) (A0 (Ag Eu (Bc (Bb K) (Bc (Bb K) (pv 1) A9 (fun _ _=>rfl)) (pv 5) (fun _ _=>rfl)) A9) A8)))))))))) (A6 (Bp (Dl (pv 3)) (Ab (Ad (Bh (A0 (Bt (C8 K) (by rfl) T.n_tuple boot_tuple (A0 (pv 4) A8)) (A0 (Bc (Bb K) (pv 0) A9 (fun _ _=>rfl)) A8))))) Ak) (Ab (Ad (Bh (A0 (Bt (C8 K) (by rfl) T.n_tuple boot_tuple (A0 (pv 4) A8)) (A0 (Ay (Fb rfl) (by rfl) T.n_max boot_max (A0 A9 (A0 (Ag Eu (Bc (Bb K) (pv 1) A9 (fun _ _=>rfl)) A9) A8))) A8)))))))),?_⟩
  obtain ⟨wt,ha1,ha2⟩ := id ha
  obtain ⟨ut,hb1,hb2⟩ := id hb
  refine ⟨B0,fun L hL=>?_⟩
  have s1:A7 H (upd H L (.lst [])):=A7.upd hL
  have e1:(upd H L (.lst [])) L = some (.lst []):=A5
  generalize upd H L (.lst []) = H1 at s1 e1 ⊢
  refine ⟨_,rfl,a,_,_,_,rfl,rfl,.inr (Br.of (s1 _ _ ha1)),rfl,wt,_,rfl,.inr (Br.of (s1 _ _ ha2)),_,rfl,by omega,by rw [List.length_map]; omega,?_⟩
  refine Gv (n:=(ws.map V.int).length) (fun i σ H'=>∃ (v5:Option V),Kt (σ = [some (.ref a),some (.ref b),some (.int (who:Nat)),some (.bl lost),some (.ref L),v5]) (H' L = some (.lst (((Bj ws ls who lost).take i).map V.int))) ((0:Int) ∉ (Bj ws ls who lost).take i) (A7 H H'))
   ⟨_,rfl,e1,(fun z=>by rw [List.take_zero] at z; cases z),s1⟩ ?_ ?_
  ·rintro i σ H2 hi ⟨v5,rfl,hL2,hz,s2⟩
   rw [List.length_map] at hi
   have hget:=Nb (ws:=ws) (ls:=ls) (who:=who) (i:=i) (lost:=lost) (by omega)
   have hlen2:(((Bj ws ls who lost).take i).map V.int).length <= 100:=by
    rw [List.length_map,List.length_take]
    omega
   have atw:Oz (ws.map V.int) (0 + (i:Int)) = some (.int (ws.getD i 0)):=Hk hi (Int.zero_add _)
   have atl:Oz (ls.map V.int) (0 + (i:Int)) = some (.int (ls.getD i 0)):=Hk (by omega) (Int.zero_add _)
   have eqi:decide (V.int (0 + (i:Int)) = V.int (who:Int)) = decide (i = who):=by
    rw [Bool.eq_iff_iff]
    simp
    omega
   refine ⟨_,rfl,_,rfl,rfl,_,rfl,_,fun _ Q' z=>⟨_,rfl,_,rfl,z⟩,?_⟩
   rw [eqi]
   have next:∀ (x:Int) (H3:Hp),(Bj ws ls who lost)[i]? = some x -> x ≠ 0 -> A7 H H3 -> (upd H3 L (.lst (((Bj ws ls who lost).take i).map V.int ++ [V.int x]))) L = some (.lst (((Bj ws ls who lost).take (i + 1)).map V.int)) /\ (0:Int) ∉ (Bj ws ls who lost).take (i + 1) /\ A7 H (upd H3 L (.lst (((Bj ws ls who lost).take i).map V.int ++ [V.int x]))):=fun x H3 e hx s=>by
    refine ⟨?_,?_,s.new hL⟩
    ·rw [A5,List.take_add_one,e,List.map_append]
     rfl
    ·rw [List.take_add_one,e]
     intro y
     rcases List.mem_append.mp y with z | z
     ·exact hz z
     ·have:(0:Int) = x:=by simpa using z
      omega
   refine Cu (fun h0=>?_) (fun h0=>?_)
   ·have h0' : i = who /\ lost = false := by
     simp only [Bool.and_eq_true,decide_eq_true_eq,Bool.not_eq_true'] at h0
     exact h0
    rw [if_pos h0'] at hget
    have hge:ws.getD who 0 ≠ 0:=by
     have:=hw1 _ (N7 hw)
     omega
    obtain ⟨n1,n2,n3⟩ := next _ H2 hget hge s2
    have ew:ws.getD i 0 = ws.getD who 0:=by rw [h0'.1]
    rw [ew] at atw
    exact ⟨_,rfl,.inl ⟨rfl,_,B9.of hL2⟩,_,rfl,a,_,_,_,rfl,rfl,.inr (Br.of (s2 _ _ ha1)),rfl,_,rfl,wt,_,_,_,rfl,rfl,.inr (Br.of (s2 _ _ ha2)),atw,L,_,_,rfl,rfl,hL2,Bd (by omega),_,rfl,n1,n2,n3⟩
   ·have h0':¬ (i = who /\ lost = false):=fun z=>h0 (by simp [z.1,z.2])
    rw [if_neg h0'] at hget
    refine ⟨_,rfl,b,_,_,_,rfl,rfl,.inr (Br.of (s2 _ _ hb1)),rfl,_,rfl,ut,_,_,_,rfl,rfl,.inr (Br.of (s2 _ _ hb2)),atl,rfl,_,rfl,?_⟩
    refine Cu (fun h1=>?_) (fun h1=>?_)
    ·have h1':ls.getD i 0 = 1:=by simpa using h1
     refine q .non H2 s2 ?_
     unfold F5
     rw [if_pos ?_]
     ·rfl
     ·rw [h1'] at hget
      exact List.mem_of_getElem? hget
    ·have h1':ls.getD i 0 ≠ 1:=by simpa using h1
     obtain ⟨n1,n2,n3⟩ := next _ H2 hget (by omega) s2
     exact ⟨_,rfl,.inl ⟨rfl,_,B9.of hL2⟩,_,rfl,b,_,_,_,rfl,rfl,.inr (Br.of (s2 _ _ hb1)),rfl,_,rfl,ut,_,_,_,rfl,rfl,.inr (Br.of (s2 _ _ hb2)),atl,_,_,rfl,rfl,L,_,_,rfl,rfl,hL2,Bd (by omega),_,rfl,n1,n2,n3⟩
  rintro σ H2 ⟨v5,rfl,hL2,hz,s2⟩
  have hll:(Bj ws ls who lost).length = (ws.map V.int).length:=by
   rw [Ib,List.length_map]
   exact hl
  rw [<- hll,List.take_length] at hL2 hz
  have eaft:F5 ws ls cm n who lost = some (Bj ws ls who lost,D1 cm n lost):=by
   unfold F5
   rw [if_neg hz]
  refine ⟨_,rfl,_,rfl,?_⟩
  cases lost with
  | true =>
   refine Qd rfl ?_
   refine ⟨_,rfl,L,_,rfl,.inl ⟨B9.of hL2,fun t ht=>?_⟩⟩
   have s3:A7 H2 (upd H2 t (.tup ((Bj ws ls who true).map V.int))):=A7.upd ht
   have e3:(upd H2 t (.tup ((Bj ws ls who true).map V.int))) t = some (.tup ((Bj ws ls who true).map V.int)):=A5
   generalize upd H2 t (.tup ((Bj ws ls who true).map V.int)) = H3 at s3 e3 ⊢
   cases cm with
   | none=>exact absurd rfl (hlc rfl)
   | some c =>
    refine ⟨_,rfl,a,_,_,_,rfl,rfl,.inr (Br.of (s3 _ _ (s2 _ _ ha1))),rfl,B0,fun p hp=>?_⟩
    refine q (.ref p) _ ((s2.trans s3).trans (A7.upd hp)) ?_
    rw [eaft]
    exact ⟨p,rfl,t,A5,(A7.upd hp) _ _ e3⟩
  | false =>
   refine Fs rfl ?_
   refine ⟨_,rfl,L,_,rfl,.inl ⟨B9.of hL2,fun t ht=>?_⟩⟩
   have s3:A7 H2 (upd H2 t (.tup ((Bj ws ls who false).map V.int))):=A7.upd ht
   have e3:(upd H2 t (.tup ((Bj ws ls who false).map V.int))) t = some (.tup ((Bj ws ls who false).map V.int)):=A5
   generalize upd H2 t (.tup ((Bj ws ls who false).map V.int)) = H3 at s3 e3 ⊢
   refine ⟨_,rfl,b,_,_,_,rfl,rfl,.inr (Br.of (s3 _ _ (s2 _ _ hb1))),rfl,_,_,rfl,rfl,_,_,rfl,B0,fun p hp=>?_⟩
   refine q (.ref p) _ ((s2.trans s3).trans (A7.upd hp)) ?_
   rw [eaft]
   have e:(if n - 1 > 0 then n - 1 else (0:Int)) = D1 cm n false:=by
    unfold D1
    rw [if_neg Bool.false_ne_true]
    omega
   refine ⟨p,rfl,t,?_,(A7.upd hp) _ _ e3⟩
   rw [<- e]
   exact A5
def Tr (K:PySem.W.Frag):Sp:=fun vs H Q _=>Pj fun (t:Addr) (bs:List Bool) (j:Int)=>L6 (vs = [.ref t,.int j]) (H t = some (.tup (bs.map V.bl))) (0 <= j) (j < (bs.length:Int)) (bs.length <= 8) (∀ (p:Addr) (bs':List Bool) (H':Hp),A7 H H' -> H' p = some (.tup (bs'.map V.bl)) -> bs'.length <= 9 -> Q (.ref p) H')
theorem d0 {fd  : FuncData} (T:Txt K mg ad) (F:Fj K "_law_turned" "_law_turned" Ng ad.f_x18 fd):Al P w K mg base Bv 1 ad.f_x18 fd ["answers","at"] (Tr K):=by
 refine F.ok df (fun vs H Q E h=>?_) (fun cdv A outer s H vs Q E hr h=>?_)
 ·rcases h with ⟨t,bs,j,rfl,ht,hj0,hj1,hb8,q⟩ <;> rfl
 ·obtain ⟨t,bs,j,rfl,ht,hj0,hj1,hb8,q⟩ := h
  refine ⟨_,(Ab (Ad (Ag (Zx K) (Ag (Oy K) (C5 (P7 K) (pv 0) Cp (Cg (pv 1))) (Bh (A0 (bw (Bc (Bb K) (pv 0) (pv 1) (fun _ _=>rfl))) A8))) (C5 (P7 K) (pv 0) (Cg (Ag C7 (pv 1) A9)) Cp)))),?_⟩
  obtain ⟨i,rfl⟩ : ∃ i:Nat,j = (i:Int):=⟨j.toNat,by omega⟩
  have hi:i < bs.length:=by omega
  obtain ⟨b,hb⟩ : ∃ b,bs[i]? = some b:=⟨bs[i],List.getElem?_eq_getElem hi⟩
  refine ⟨_,rfl,_,rfl,_,rfl,t,_,rfl,Br.of ht,Wy (by rw [List.length_map]; exact hi),fun p1 hp1=>?_⟩
  rw [Gr (by omega) (by rw [List.length_map]; omega),Int.toNat_natCast]
  have s1:A7 H (upd H p1 (.tup ((bs.map V.bl).take i))):=A7.upd hp1
  have e1:(upd H p1 (.tup ((bs.map V.bl).take i))) p1 = some (.tup ((bs.map V.bl).take i)):=A5
  generalize upd H p1 (.tup ((bs.map V.bl).take i)) = H1 at s1 e1 ⊢
  refine ⟨_,rfl,_,rfl,t,_,_,_,rfl,rfl,.inr (Br.of (s1 _ _ ht)),Mq hb,_,rfl,B0,fun p2 hp2=>?_⟩
  have s2:A7 H1 (upd H1 p2 (.tup [.bl (!b)])):=A7.upd hp2
  have e2:(upd H1 p2 (.tup [.bl (!b)])) p2 = some (.tup [.bl (!b)]):=A5
  generalize upd H1 p2 (.tup [.bl (!b)]) = H2 at s2 e2 ⊢
  refine ⟨p1,p2,_,_,rfl,rfl,Br.of (s2 _ _ e1),e2,(by simp),Nat.le_of_lt (Bd (by simp; omega)),fun p3 H3 s3 e3=>?_⟩
  have s13:=(s1.trans s2).trans s3
  refine ⟨_,rfl,_,rfl,_,_,rfl,rfl,_,rfl,t,_,rfl,Br.of (s13 _ _ ht),gm (by rw [List.length_map]; exact hi),fun p4 hp4=>?_⟩
  rw [W4 (by omega) (by rw [List.length_map]; omega),show ((i:Int) + 1).toNat = i + 1 by omega]
  have s4:A7 H3 (upd H3 p4 (.tup ((bs.map V.bl).drop (i + 1)))):=A7.upd hp4
  have e4:(upd H3 p4 (.tup ((bs.map V.bl).drop (i + 1)))) p4 = some (.tup ((bs.map V.bl).drop (i + 1))):=A5
  generalize upd H3 p4 (.tup ((bs.map V.bl).drop (i + 1))) = H4 at s4 e4 ⊢
  refine ⟨p3,p4,_,_,rfl,rfl,s4 _ _ e3,e4,Nat.le_of_lt (Bd (by simp; omega)),fun p5 H5 s5 e5=>?_⟩
  refine q p5 (bs.take i ++ [!b] ++ bs.drop (i + 1)) H5 ((s13.trans s4).trans s5) ?_ (by simp; omega)
  rw [e5,List.map_append,List.map_append,List.map_take,List.map_drop]
  rfl
def Su (K:PySem.W.Frag):Sp:=fun vs H Q _=>Wh fun (e:Addr) (p:Eb) (way c:Int)=>Gy (vs = [.ref e,.int way,.int c]) (EV H p (.ref e)) (1 <= p.a.length) (p.a.length <= 8) (∀ (u:V) (p':Eb) (H':Hp),A7 H H' -> EV H' p' u -> p'.k = p.k -> p'.a.length <= 20 -> Q u H')
theorem f9 {fd fd_x18:FuncData} (T:Txt K mg ad) (F:Fj K "_law_changed" "_law_changed" Mx ad.f_x13 fd) (G_x18:Al P w K mg base Bv 1 ad.f_x18 fd_x18 ["answers","at"] (Tr K)) (B_x18:B8 K fd_x18 ["answers","at"] []):Al P w K mg base Bv 2 ad.f_x13 fd ["entry","way","cell"] (Su K):=by
 refine F.ok Pe (fun vs H Q E h=>?_) (fun cdv A outer s H vs Q E hr h=>?_)
 ·rcases h with ⟨e,p,way,c,rfl,hev,ha1,ha8,q⟩ <;> rfl
 ·obtain ⟨e,p,way,c,rfl,hev,ha1,ha8,q⟩ := h
  refine ⟨_,(A6 (L5 (pv 0) (D3 K (n:=3) rfl (Ax (Af (i:=3) Pe.nd rfl (Or.inl rfl)) (Ax (Af (i:=4) Pe.nd rfl (Or.inl rfl)) (Ax (Af (i:=5) Pe.nd rfl (Or.inl rfl)) D2))))) (A6 (Bp (Ar Dm (pv 1) A9 (Aw _)) (Ab (Ad (Bh (A0 (pv 3) (A0 (Ag Eu (pv 4) A9) (A0 (pv 5) A8)))))) Ak) (A6 (Bp (Ar Dm (pv 1) A9 (Aw _)) (Ab (Ad (Bh (A0 (pv 3) (A0 (Ag C7 (pv 4) A9) (A0 (pv 5) A8)))))) Ak) (A6 (Bp (Ar Dm (pv 1) A9 (Aw _)) (Ab (Ad (Bh (A0 (pv 3) (A0 (Bc (Bb K) (Cl (A0 (Ag Eu (Ag Bu (pv 2) A9) A9) (A0 (Ag Bu (Ag Di (pv 2) A9) (Ag Xd A9 A9)) A8))) (Ag Bu (pv 2) A9) (fun _ _=>rfl)) (A0 (pv 5) A8)))))) Ak) (A6 (Bp (Ar Dm (pv 1) A9 (Aw _)) (Ab (Ad (Bh (A0 (pv 3) (A0 (pv 4) (A0 (Aj G_x18 (hr.mono (by decide)) rfl T.m_x18 T.k_x18 B_x18 .nil Bf (A0 (pv 5) (A0 (Ag Bu (pv 2) (Ay (Be K) (by rfl) T.n_len PySem.boot_len (A0 (pv 5) A8))) A8))) A8)))))) Ak) (A6 (Bp (Ar Dm (pv 1) A9 (Aw _)) (Ab (Ad (Bh (A0 (pv 3) (A0 (pv 4) (A0 (C5 (P7 K) (pv 5) Cp (Cg (Ag Eu (Ay (Be K) (by rfl) T.n_len PySem.boot_len (A0 (pv 5) A8)) A9))) A8)))))) Ak) (Ab (Ad (Bh (A0 (pv 3) (A0 (pv 4) (A0 (Ag (Oy K) (pv 5) (Bh (A0 (E8 Dm (Ag Bu (pv 2) A9) A9 (Aw _)) A8))) A8)))))))))))),?_⟩
  obtain ⟨_,b,m,hh,ht,hb,hm⟩ := hev
  cases hh
  have fin:∀ (H1 H2:Hp) (r:Int) (m2 t2:Addr) (bs:List Bool),A7 H H1 -> H1 t2 = none -> H1 m2 = some (.tup (bs.map V.bl)) -> bs.length <= 20 -> H2 = upd H1 t2 (.tup [.ref b,.int r,.ref m2]) -> Q (.ref t2) H2:=fun H1 H2 r m2 t2 bs s1 hn hm2 hl e2=>by
   subst e2
   have s2:A7 H1 (upd H1 t2 (.tup [.ref b,.int r,.ref m2])):=A7.upd hn
   exact q _ ⟨p.k,r,bs⟩ _ (s1.trans s2) ⟨t2,b,m2,rfl,A5,Cs (s1.trans s2) hb,s2 _ _ hm2⟩ rfl hl
  refine ⟨_,rfl,e,_,rfl,Br.of ht,rfl,_,_,rfl,_,_,rfl,_,_,rfl,rfl,?_⟩
  refine ⟨_,rfl,rfl,_,rfl,Cu (fun _=>?_) (fun _=>?_)⟩
  ·exact ⟨_,rfl,_,rfl,_,_,rfl,rfl,_,rfl,B0,fun t2 ht2=>fin _ _ _ _ _ _ (A7.refl _) ht2 hm (by omega) rfl⟩
  refine ⟨_,rfl,rfl,_,rfl,Cu (fun _=>?_) (fun _=>?_)⟩
  ·exact ⟨_,rfl,_,rfl,_,_,rfl,rfl,_,rfl,B0,fun t2 ht2=>fin _ _ _ _ _ _ (A7.refl _) ht2 hm (by omega) rfl⟩
  refine ⟨_,rfl,rfl,_,rfl,Cu (fun _=>?_) (fun _=>?_)⟩
  ·refine ⟨_,rfl,_,rfl,_,_,rfl,rfl,by show (0:Int) < 16; decide,_,_,rfl,rfl,_,rfl,_,_,rfl,rfl,⟨by decide,by decide⟩,_,_,rfl,rfl,⟨by decide,by decide,by decide⟩,_,_,rfl,rfl,by show (0:Int) < 10 ^ 30; decide,B0,fun L hL=>?_⟩
   have hm2:0 <= c % 2 /\ c % 2 < 2:=⟨Int.emod_nonneg _ (by decide),Int.emod_lt_of_pos _ (by decide)⟩
   dsimp only
   generalize c % 16 - 3 = x1
   generalize c / 2 % 10 ^ Int.toNat 30 = x2
   have s1:A7 H (upd H L (.lst [.int x1,.int x2])):=A7.upd hL
   have e1:(upd H L (.lst [.int x1,.int x2])) L = some (.lst [.int x1,.int x2]):=A5
   generalize upd H L (.lst [.int x1,.int x2]) = H1 at s1 e1 ⊢
   obtain ⟨r,hat⟩ : ∃ r,Oz [V.int x1,V.int x2] (c % 2) = some (.int r):=by
    obtain ⟨u,e,hu⟩ := Xg (us:=[V.int x1,V.int x2]) hm2.1 hm2.2
    simp only [List.mem_cons,List.not_mem_nil,or_false] at hu
    rcases hu with z | z <;> rw [z] at e <;> exact ⟨_,e⟩
   exact ⟨_,rfl,_,_,rfl,rfl,by show (0:Int) < 2; decide,L,_,_,_,rfl,rfl,.inl (B9.of e1),hat,_,rfl,B0,fun t2 ht2=>fin _ _ _ _ _ _ s1 ht2 (s1 _ _ hm) (by omega) rfl⟩
  refine ⟨_,rfl,rfl,_,rfl,Cu (fun _=>?_) (fun _=>?_)⟩
  ·refine ⟨_,rfl,_,rfl,_,rfl,_,rfl,_,rfl,m,_,rfl,.inr (Br.of hm),_,_,rfl,rfl,by show (0:Int) < _; rw [List.length_map]; omega,m,p.a,_,rfl,hm,Int.emod_nonneg _ (by rw [List.length_map]; omega),by rw [List.length_map]; exact Int.emod_lt_of_pos _ (by omega),ha8,fun m2 bs H1 s1 hm2 hl=>?_⟩
   exact ⟨B0,fun t2 ht2=>fin _ _ _ _ _ _ s1 ht2 hm2 (by omega) rfl⟩
  refine ⟨_,rfl,rfl,_,rfl,Cu (fun _=>?_) (fun _=>?_)⟩
  ·refine ⟨_,rfl,_,rfl,_,rfl,_,rfl,m,_,rfl,.inr (Br.of hm),_,_,rfl,rfl,_,rfl,m,_,rfl,Br.of hm,?_,fun m2 hm2=>?_⟩
   ·rw [show (((p.a.map V.bl).length:Int) - 1) = ((p.a.length - 1:Nat):Int) by rw [List.length_map]; omega]
    exact Wy (by rw [List.length_map]; omega)
   ·rw [show (((p.a.map V.bl).length:Int) - 1) = ((p.a.length - 1:Nat):Int) by rw [List.length_map]; omega,Gr (by omega) (by rw [List.length_map]; omega),Int.toNat_natCast,<- List.map_take]
    have s1:A7 H (upd H m2 (.tup ((p.a.take (p.a.length - 1)).map V.bl))):=A7.upd hm2
    have e1:(upd H m2 (.tup ((p.a.take (p.a.length - 1)).map V.bl))) m2 = some (.tup ((p.a.take (p.a.length - 1)).map V.bl)):=A5
    generalize upd H m2 (.tup ((p.a.take (p.a.length - 1)).map V.bl)) = H1 at s1 e1 ⊢
    exact ⟨B0,fun t2 ht2=>fin _ _ _ _ _ _ s1 ht2 e1 (by rw [List.length_take]; omega) rfl⟩
  refine ⟨_,rfl,_,rfl,_,rfl,_,rfl,_,_,rfl,rfl,by show (0:Int) < 2; decide,rfl,B0,fun m1 hm1=>?_⟩
  dsimp only
  generalize decide (V.int (c % 2) = V.int 1) = bb
  have s1:A7 H (upd H m1 (.tup [.bl bb])):=A7.upd hm1
  have e1:(upd H m1 (.tup [.bl bb])) m1 = some (.tup [.bl bb]):=A5
  generalize upd H m1 (.tup [.bl bb]) = H1 at s1 e1 ⊢
  refine ⟨m,m1,_,_,rfl,rfl,Br.of (s1 _ _ hm),e1,(by simp),Nat.le_of_lt (Bd (by simp; omega)),fun m2 H2 s2 e2=>?_⟩
  exact ⟨B0,fun t2 ht2=>fin _ _ _ _ _ (p.a ++ [bb]) (s1.trans s2) ht2 (by rw [e2,List.map_append]; rfl) (by simp; omega) rfl⟩
def Sm (K:PySem.W.Frag):Sp:=fun vs H Q _=>Z9 fun (a l:Addr) (ws:List Int) (cm:Option Int) (us:List V) (c:Int)=>Xp (vs = [.ref a,.ref l,.int c]) (Bq H a ws cm) (E4 ws cm) (H l = some (.lst us)) (Ck ws.length 301 (· = ws.length) H us) (0 < us.length) (∀ (l':Addr) (us':List V) (H':Hp),A7 H H' -> H' l' = some (.lst us') -> Ck ws.length 700 (· <= 20) H' us' -> Q (.ref l') H')
theorem fh {fd fd_x8 fd_x13:FuncData} (T:Txt K mg ad) (F:Fj K "_law_spoiled" "_law_spoiled" L7 ad.f_x14 fd) (G_x8:Al P w K mg base Bv 1 ad.f_x8 fd_x8 ["hall","cell"] (Wp K)) (B_x8:B8 K fd_x8 ["hall","cell"] []) (G_x13:Al P w K mg base Bv 2 ad.f_x13 fd_x13 ["entry","way","cell"] (Su K)) (B_x13:B8 K fd_x13 ["entry","way","cell"] []):Al P w K mg base Bv 3 ad.f_x14 fd ["hall","paper","cell"] (Sm K):=by
 refine F.ok F0 (fun vs H Q E h=>?_) (fun cdv A outer s H vs Q E hr h=>?_)
 ·rcases h with ⟨a,l,ws,cm,us,c,rfl,ha,hok,hl,hpap0,hu0,q⟩ <;> rfl
 ·obtain ⟨a,l,ws,cm,us,c,rfl,ha,hok,hl,hpap0,hu0,q⟩ := h
  refine ⟨_,(A6 (Ao (i:=3) F0.nd rfl (Or.inl rfl) (Ag Bu (pv 2) A9)) (A6 (Ao (i:=2) F0.nd rfl (Or.inl rfl) (Ag Di (pv 2) A9)) (A6 (Ao (i:=4) F0.nd rfl (Or.inl rfl) (Ag Bu (pv 2) (Ay (Be K) (by rfl) T.n_len PySem.boot_len (A0 (pv 1) A8)))) (A6 (Ao (i:=2) F0.nd rfl (Or.inl rfl) (Ag Di (pv 2) (Ay (Be K) (by rfl) T.n_len PySem.boot_len (A0 (pv 1) A8)))) (A6 (Bp (Ar Dm (pv 3) A9 (Aw _)) (Ab (Ad (Ag Hm (C5 (Cm K) (pv 1) Cp (Cg (pv 4))) (C5 (Cm K) (pv 1) (Cg (Ag C7 (pv 4) A9)) Cp)))) Ak) (A6 (Bp (Ar Dm (pv 3) A9 (Aw _)) (A6 (Ao (i:=5) F0.nd rfl (Or.inl rfl) (Ag Bu (pv 2) (Ay (Be K) (by rfl) T.n_len PySem.boot_len (A0 (pv 1) A8)))) (Ab (Ad (Ag Hm (Ag Hm (C5 (Cm K) (pv 1) Cp (Cg (pv 5))) (Cl (A0 (Bc (Bb K) (pv 1) (pv 4) (fun _ _=>rfl)) A8))) (C5 (Cm K) (pv 1) (Cg (pv 5)) Cp))))) Ak) (A6 (Bp (Ar Hx (pv 3) A9 (Aw _)) (Ab (Ad (Ag Hm (Ag Hm (C5 (Cm K) (pv 1) Cp (Cg (pv 4))) (Cl (A0 (Aj G_x13 (hr.mono (by decide)) rfl T.m_x13 T.k_x13 B_x13 .nil Bf (A0 (Bc (Bb K) (pv 1) (pv 4) (fun _ _=>rfl)) (A0 (pv 3) (A0 (pv 2) A8)))) A8))) (C5 (Cm K) (pv 1) (Cg (Ag C7 (pv 4) A9)) Cp)))) Ak) (A6 (Bp (Ar Dm (pv 3) A9 (Aw _)) (A6 (Ao (i:=6) F0.nd rfl (Or.inr rfl) (Ag C7 A9 (Ag Bu (pv 2) (Ag Xd A9 A9)))) (Ab (Ad (Em (D4 (w':=K7 K _) (D5 (pv 1))) _ rfl Ji rfl rfl (fun _ _ _ _=>(D3 K (n:=3) rfl (Ax (Af (i:=0) Dr rfl (Or.inl rfl)) (Ax (Af (i:=1) Dr rfl (Or.inl rfl)) (Ax (Af (i:=2) Dr rfl (Or.inl rfl)) D2))))) (fun _ _ _ _=>Da) (fun _ _ _ _=>(Bh (A0 (pv 0) (A0 (Ag C7 (pv 1) (pv 3)) (A0 (pv 2) A8))))))))) Ak) (A6 (Bp (Ar Dm (pv 3) A9 (Aw _)) (A6 (Ao (i:=5) F0.nd rfl (Or.inl rfl) (Ag Bu (pv 2) (Ay (Be K) (by rfl) T.n_len PySem.boot_len (A0 (pv 1) A8)))) (A6 (Ao (i:=7) F0.nd rfl (Or.inl rfl) (Bt Fo (by rfl) T.n_list boot_list (A0 (pv 1) A8))) (A6 (L5 (Bc (Bb K) (pv 1) (pv 5) (fun _ _=>rfl)) (Pg (pv 7) (pv 4) Hz)) (A6 (L5 (Bc (Bb K) (pv 1) (pv 4) (fun _ _=>rfl)) (Pg (pv 7) (pv 5) Hz)) (Ab (Ad (pv 7))))))) Ak) (A6 (Ao (i:=8) F0.nd rfl (Or.inl rfl) (Bh (A0 (Aj G_x8 (hr.mono (by decide)) rfl T.m_x8 T.k_x8 B_x8 .nil Bf (A0 (pv 0) (A0 (Ag Di (pv 2) A9) A8))) (A0 (Ag C7 A9 (Ag Bu (pv 2) A9)) (A0 (Bt (C8 K) (by rfl) T.n_tuple boot_tuple (A0 (Ag S3 (Cl (A0 Cr A8)) (Ay (Be K) (by rfl) T.n_len PySem.boot_len (A0 (Bc (Bb K) (pv 0) A9 (fun _ _=>rfl)) A8))) A8)) A8))))) (Ab (Ad (Ag Hm (Ag Hm (C5 (Cm K) (pv 1) Cp (Cg (pv 4))) (Cl (A0 (pv 8) A8))) (C5 (Cm K) (pv 1) (Cg (pv 4)) Cp)))))))))))))),?_⟩
  have h8:=hok.2.2.2.1
  have hn0:=hok.2.2.1
  have hpap3:Ck ws.length 301 (· <= 20) H us:=hpap0.mono (Nat.le_refl _) (fun i h=>by omega)
  obtain ⟨wt,ha1,ha2⟩ := id ha
  have hul:=hpap0.1
  have hM:(0:Int) < (us.length:Int):=by omega
  refine ⟨_,rfl,_,_,rfl,rfl,by show (0:Int) < 11; decide,_,rfl,_,_,rfl,rfl,⟨by decide,by decide⟩,_,rfl,_,rfl,l,_,rfl,.inl (B9.of hl),_,_,rfl,rfl,hM,_,rfl,_,rfl,l,_,rfl,.inl (B9.of hl),_,_,rfl,rfl,⟨by omega,by omega⟩,?_⟩
  have hat0:0 <= c / 11 % (us.length:Int):=Int.emod_nonneg _ (by omega)
  have hat1:c / 11 % (us.length:Int) < (us.length:Int):=Int.emod_lt_of_pos _ (by omega)
  have hto0:0 <= c / 11 / (us.length:Int) % (us.length:Int):=Int.emod_nonneg _ (by omega)
  have hto1:c / 11 / (us.length:Int) % (us.length:Int) < (us.length:Int):=Int.emod_lt_of_pos _ (by omega)
  obtain ⟨ua,eua,hua⟩ := Xg hat0 hat1
  obtain ⟨ut,eut,hut⟩ := Xg hto0 hto1
  obtain ⟨pa,hpa,hpal,hpaq,hpaa⟩ := hpap0.2 ua hua
  refine ⟨_,rfl,rfl,_,rfl,Cu (fun _=>?_) (fun _=>?_)⟩
  ·refine ⟨_,rfl,_,rfl,_,rfl,l,_,rfl,B9.of hl,fun p1 hp1=>?_⟩
   generalize hX:Eh us none _ = X
   have s5:A7 H (upd H p1 (.lst X)):=A7.upd hp1
   have e5:(upd H p1 (.lst X)) p1 = some (.lst X):=A5
   generalize upd H p1 (.lst X) = H5 at s5 e5 ⊢
   have pX:Ck ws.length 301 (· <= 20) H5 X:=by rw [<- hX]; exact (hpap3.cut none _).up (Ae.of s5)
   refine ⟨_,rfl,_,rfl,_,_,rfl,rfl,_,rfl,l,_,rfl,B9.of (s5 _ _ hl),fun p4 hp4=>?_⟩
   generalize hY:Eh us _ none = Y
   have pY:Ck ws.length 301 (· <= 20) H5 Y:=by rw [<- hY]; exact (hpap3.cut _ none).up (Ae.of s5)
   have s6:A7 H5 (upd H5 p4 (.lst Y)):=A7.upd hp4
   have e6:(upd H5 p4 (.lst Y)) p4 = some (.lst Y):=A5
   generalize upd H5 p4 (.lst Y) = H6 at s6 e6 ⊢
   refine ⟨p1,p4,_,_,rfl,rfl,s6 _ _ e5,e6,Nat.le_of_lt (Ba (by have:=pX.1; have:=pY.1; omega)),fun p5 hp5=>?_⟩
   refine q p5 _ _ ((s5.trans s6).trans (A7.upd hp5)) A5 ?_
   have:=((pX.up (Ae.of s6)).app (pY.up (Ae.of s6))).up (Ae.of (A7.upd (o:=HO.lst (X ++ Y)) hp5))
   exact ⟨Nat.le_trans this.1 (by decide),this.2⟩
  refine ⟨_,rfl,rfl,_,rfl,Cu (fun _=>?_) (fun _=>?_)⟩
  ·refine ⟨_,rfl,_,rfl,l,_,rfl,.inl (B9.of hl),_,_,rfl,rfl,hM,?_⟩
   refine ⟨_,rfl,_,rfl,_,rfl,l,_,rfl,B9.of hl,fun p1 hp1=>?_⟩
   generalize hX:Eh us none _ = X
   have s5:A7 H (upd H p1 (.lst X)):=A7.upd hp1
   have e5:(upd H p1 (.lst X)) p1 = some (.lst X):=A5
   generalize upd H p1 (.lst X) = H5 at s5 e5 ⊢
   have pX:Ck ws.length 301 (· <= 20) H5 X:=by rw [<- hX]; exact (hpap3.cut none _).up (Ae.of s5)
   refine ⟨_,rfl,_,rfl,l,_,_,_,rfl,rfl,.inl (B9.of (s5 _ _ hl)),eua,?_⟩
   have hone:Ck ws.length 1 (· <= 20) H5 [ua]:=(hpap3.up (Ae.of s5)).sub (fun v hv=>by rw [List.mem_singleton.mp hv]; exact hua) (Nat.le_refl _)
   refine ⟨B0,fun p2 hp2=>?_⟩
   have sA:A7 H5 (upd H5 p2 (.lst [ua])):=A7.upd hp2
   have eA:(upd H5 p2 (.lst [ua])) p2 = some (.lst [ua]):=A5
   generalize upd H5 p2 (.lst [ua]) = HA at sA eA ⊢
   have hX1:=sA _ _ e5
   refine ⟨p1,p2,_,_,rfl,rfl,hX1,eA,Nat.le_of_lt (Ba (by have:=pX.1; simp; omega)),fun p3 hp3=>?_⟩
   have sB:A7 HA (upd HA p3 (.lst (X ++ [ua]))):=A7.upd hp3
   have eB:(upd HA p3 (.lst (X ++ [ua]))) p3 = some (.lst (X ++ [ua])):=A5
   generalize upd HA p3 (.lst (X ++ [ua])) = HB at sB eB ⊢
   have sHB:=(s5.trans sA).trans sB
   refine ⟨_,rfl,_,rfl,_,rfl,l,_,rfl,B9.of (sHB _ _ hl),fun p4 hp4=>?_⟩
   generalize hY:Eh us _ none = Y
   have pY:Ck ws.length 301 (· <= 20) HB Y:=by rw [<- hY]; exact (hpap3.cut _ none).up (Ae.of sHB)
   have sC:A7 HB (upd HB p4 (.lst Y)):=A7.upd hp4
   have eC:(upd HB p4 (.lst Y)) p4 = some (.lst Y):=A5
   generalize upd HB p4 (.lst Y) = HC at sC eC ⊢
   refine ⟨p3,p4,_,_,rfl,rfl,sC _ _ eB,eC,Nat.le_of_lt (Ba (by have:=pX.1; have:=pY.1; simp; omega)),fun p5 hp5=>?_⟩
   have tz:=Ae.of (A7.upd (o:=HO.lst (X ++ [ua] ++ Y)) hp5)
   refine q p5 _ _ ((sHB.trans sC).trans (A7.upd hp5)) A5 ?_
   have:=(((pX.up (Ae.of (sA.trans (sB.trans sC)))).app (hone.up (Ae.of (sA.trans (sB.trans sC))))).app (pY.up (Ae.of sC))).up tz
   exact ⟨Nat.le_trans this.1 (by decide),this.2⟩
  refine ⟨_,rfl,_,_,rfl,rfl,_,rfl,Cu (fun _=>?_) (fun _=>?_)⟩
  ·refine ⟨_,rfl,_,rfl,_,rfl,l,_,rfl,B9.of hl,fun p1 hp1=>?_⟩
   generalize hX:Eh us none _ = X
   have s5:A7 H (upd H p1 (.lst X)):=A7.upd hp1
   have e5:(upd H p1 (.lst X)) p1 = some (.lst X):=A5
   generalize upd H p1 (.lst X) = H5 at s5 e5 ⊢
   have pX:Ck ws.length 301 (· <= 20) H5 X:=by rw [<- hX]; exact (hpap3.cut none _).up (Ae.of s5)
   obtain ⟨ta,ba,ma,rfl,hta,hba,hma⟩ := id hpa
   refine ⟨_,rfl,_,rfl,l,_,_,_,rfl,rfl,.inl (B9.of (s5 _ _ hl)),eua,_,rfl,_,rfl,ta,pa,_,_,rfl,hpa.up (Ae.of s5),by omega,by omega,fun u p' H6 s6 hev hk hal=>?_⟩
   have hone:Ck ws.length 1 (· <= 20) H6 [u]:=Ck.one hev (by rw [hk]; exact hpal) (by rw [hk]; exact hpaq) hal
   have pX6:=pX.up (Ae.of s6)
   refine ⟨B0,fun p2 hp2=>?_⟩
   have sA:A7 H6 (upd H6 p2 (.lst [u])):=A7.upd hp2
   have eA:(upd H6 p2 (.lst [u])) p2 = some (.lst [u]):=A5
   generalize upd H6 p2 (.lst [u]) = HA at sA eA ⊢
   have hX1:=sA _ _ (s6 _ _ e5)
   refine ⟨p1,p2,_,_,rfl,rfl,hX1,eA,Nat.le_of_lt (Ba (by have:=pX6.1; simp; omega)),fun p3 hp3=>?_⟩
   have sB:A7 HA (upd HA p3 (.lst (X ++ [u]))):=A7.upd hp3
   have eB:(upd HA p3 (.lst (X ++ [u]))) p3 = some (.lst (X ++ [u])):=A5
   generalize upd HA p3 (.lst (X ++ [u])) = HB at sB eB ⊢
   have sHB:=((s5.trans s6).trans sA).trans sB
   refine ⟨_,rfl,_,rfl,_,_,rfl,rfl,_,rfl,l,_,rfl,B9.of (sHB _ _ hl),fun p4 hp4=>?_⟩
   generalize hY:Eh us _ none = Y
   have pY:Ck ws.length 301 (· <= 20) HB Y:=by rw [<- hY]; exact (hpap3.cut _ none).up (Ae.of sHB)
   have sC:A7 HB (upd HB p4 (.lst Y)):=A7.upd hp4
   have eC:(upd HB p4 (.lst Y)) p4 = some (.lst Y):=A5
   generalize upd HB p4 (.lst Y) = HC at sC eC ⊢
   refine ⟨p3,p4,_,_,rfl,rfl,sC _ _ eB,eC,Nat.le_of_lt (Ba (by have:=pX6.1; have:=pY.1; simp; omega)),fun p5 hp5=>?_⟩
   have tz:=Ae.of (A7.upd (o:=HO.lst (X ++ [u] ++ Y)) hp5)
   refine q p5 _ _ ((sHB.trans sC).trans (A7.upd hp5)) A5 ?_
   have:=(((pX6.up (Ae.of (sA.trans (sB.trans sC)))).app (hone.up (Ae.of (sA.trans (sB.trans sC))))).app (pY.up (Ae.of sC))).up tz
   exact ⟨Nat.le_trans this.1 (by decide),this.2⟩
  refine ⟨_,rfl,rfl,_,rfl,Cu (fun _=>?_) (fun _=>?_)⟩
  ·refine ⟨_,rfl,_,_,rfl,rfl,⟨by decide,by decide,by decide⟩,_,_,rfl,rfl,by show (0:Int) < 10 ^ 30; decide,_,_,rfl,rfl,?_⟩
   dsimp only
   generalize 1 + c / 11 / (us.length:Int) % 10 ^ Int.toNat 30 = more
   refine ⟨_,rfl,l,rfl,.inl ⟨⟨_,B9.of hl⟩,fun D hD=>?_⟩⟩
   refine Lg (K:=K) (a:=l) (xs:=us) (fun i zs H'=>H' D = some (.lst zs) /\ A7 H H' /\ Ck ws.length i (· <= 20) H' zs) ⟨A5,A7.upd hD,⟨Nat.le_refl _,fun u hu=>by cases hu⟩⟩ (by rintro i zs H' _ ⟨_,s,_⟩; exact B9.of (s _ _ hl)) ?_ ?_ ?_ ?_
   ·rintro i u zs H' hu ⟨hD',s',hzs⟩
    have hi:=(List.getElem?_eq_some_iff.mp hu).1
    obtain ⟨p,⟨t,b,m,rfl,ht,hb,hm⟩,hpl,hpq,hpn⟩ := hpap3.2 u (List.mem_of_getElem? hu)
    refine ⟨t,.ref b,.int p.r,.ref m,rfl,Br.of (s' _ _ ht),?_⟩
    simp only [Kj,↓reduceIte]
    refine ⟨_,rfl,_,rfl,_,rfl,_,_,rfl,rfl,_,rfl,B0,fun T0 hT0=>?_⟩
    dsimp only
    have s2:A7 H' (upd H' T0 (.tup [.ref b,.int (p.r + more),.ref m])):=A7.upd hT0
    have e2:(upd H' T0 (.tup [.ref b,.int (p.r + more),.ref m])) T0 = some (.tup [.ref b,.int (p.r + more),.ref m]):=A5
    generalize upd H' T0 (.tup [.ref b,.int (p.r + more),.ref m]) = H2 at s2 e2 ⊢
    have hD2:=s2 _ _ hD'
    have t3:Ae H2 (upd H2 D (.lst (zs ++ [.ref T0]))):=Ae.lst hD2
    have hz1:=hzs.1
    refine ⟨hD2,Ba (by omega),A5,(s'.trans s2).new hD,?_⟩
    exact ((hzs.up (Ae.of s2)).app (Ck.one (p:=⟨p.k,p.r + more,p.a⟩) ⟨T0,b,m,rfl,e2,Cs (s'.trans s2) hb,s2 _ _ (s' _ _ hm)⟩ hpl hpq hpn)).up t3
   ·intro σ H1 Q1 Q2 hQ z
    exact hQ _ _ z
   ·rintro σ H1 Q1 Q2 hQ ⟨v,e1,v2,e2,v3,e3,i1,i2,r1,r2,v4,e4,z1,z2⟩
    exact ⟨v,e1,v2,e2,v3,e3,i1,i2,r1,r2,v4,e4,z1,fun p hp=>hQ _ _ (z2 p hp)⟩
   rintro zs H0 ⟨hD0,s0,hzs⟩
   exact q D zs H0 s0 hD0 ⟨by have:=hzs.1; omega,hzs.2⟩
  refine ⟨_,rfl,rfl,_,rfl,Cu (fun _=>?_) (fun _=>?_)⟩
  ·refine ⟨_,rfl,_,rfl,l,_,rfl,.inl (B9.of hl),_,_,rfl,rfl,hM,?_⟩
   refine ⟨_,rfl,l,_,rfl,.inl (B9.of hl),fun p1 hp1=>?_⟩
   have s5:A7 H (upd H p1 (.lst us)):=A7.upd hp1
   have e5:(upd H p1 (.lst us)) p1 = some (.lst us):=A5
   generalize upd H p1 (.lst us) = H5 at s5 e5 ⊢
   have nl:l ≠ p1:=An hl hp1
   refine ⟨_,rfl,_,rfl,l,_,_,_,rfl,rfl,.inl (B9.of (s5 _ _ hl)),eut,_,rfl,_,rfl,p1,us,_,_,rfl,rfl,e5,b9 hat0 hat1,?_⟩
   refine ⟨_,rfl,_,rfl,l,_,_,_,rfl,rfl,.inl (B9.of ((Ac nl).trans (s5 _ _ hl))),eua,_,rfl,_,rfl,p1,_,_,_,rfl,rfl,A5,(by rw [List.length_set]; exact b9 hto0 hto1),?_⟩
   refine ⟨_,rfl,q p1 _ _ ((s5.new hp1).new hp1) A5 ?_⟩
   refine (hpap3.up ((Ae.of s5).trans ((Ae.lst e5).trans (Ae.lst A5)))).sub (fun v hv=>?_) (by rw [List.length_set,List.length_set]; omega)
   rcases List.mem_or_eq_of_mem_set hv with z | z
   ·rcases List.mem_or_eq_of_mem_set z with y | y
    ·exact y
    ·rw [y]
     exact hut
   ·rw [z]
    exact hua
  refine ⟨_,rfl,_,rfl,_,_,rfl,rfl,⟨by decide,by decide⟩,a,ws,cm,_,rfl,ha,h8,hok.1,(fun d hd=>(hok.2.1 d hd).1),fun b ls qq H4 s4 hst hks=>?_⟩
  have hst4:=Fi hks
  obtain ⟨wt4,ha41,ha42⟩ := id (ha.same s4)
  refine ⟨_,rfl,_,_,rfl,rfl,by show (0:Int) < 8; decide,_,_,rfl,rfl,B0,fun L hL=>?_⟩
  dsimp only
  generalize 1 + c / 11 / (us.length:Int) % 8 = rk
  have s5:A7 H4 (upd H4 L (.lst [.bl false])):=A7.upd hL
  have e5:(upd H4 L (.lst [.bl false])) L = some (.lst [.bl false]):=A5
  generalize upd H4 L (.lst [.bl false]) = H5 at s5 e5 ⊢
  refine ⟨_,rfl,a,_,_,_,rfl,rfl,.inr (Br.of (s5 _ _ ha41)),rfl,wt4,_,rfl,.inr (Br.of (s5 _ _ ha42)),L,_,_,rfl,rfl,e5,by rw [List.length_map]; omega,by rw [List.length_map]; omega,Nat.le_of_lt (Bd (by rw [List.length_map]; simp; omega)),fun p2 hp2=>?_⟩
  rw [show (List.replicate ((ws.map V.int).length:Int).toNat [V.bl false]).flatten = (List.replicate ws.length false).map V.bl by rw [List.length_map,Int.toNat_natCast,Ln,List.map_replicate]]
  have s6:A7 H5 (upd H5 p2 (.lst ((List.replicate ws.length false).map V.bl))):=A7.upd hp2
  have e6:(upd H5 p2 (.lst ((List.replicate ws.length false).map V.bl))) p2 = some (.lst ((List.replicate ws.length false).map V.bl)):=A5
  generalize upd H5 p2 (.lst ((List.replicate ws.length false).map V.bl)) = H6 at s6 e6 ⊢
  refine ⟨p2,_,rfl,.inl ⟨B9.of e6,fun m hm=>?_⟩⟩
  have s7:A7 H6 (upd H6 m (.tup ((List.replicate ws.length false).map V.bl))):=A7.upd hm
  have e7:(upd H6 m (.tup ((List.replicate ws.length false).map V.bl))) m = some (.tup ((List.replicate ws.length false).map V.bl)):=A5
  generalize upd H6 m (.tup ((List.replicate ws.length false).map V.bl)) = H7 at s7 e7 ⊢
  refine ⟨B0,fun t ht=>?_⟩
  have s8:A7 H7 (upd H7 t (.tup [.ref b,.int rk,.ref m])):=A7.upd ht
  have e8:(upd H7 t (.tup [.ref b,.int rk,.ref m])) t = some (.tup [.ref b,.int rk,.ref m]):=A5
  generalize upd H7 t (.tup [.ref b,.int rk,.ref m]) = H8 at s8 e8 ⊢
  have s48:=((s5.trans s6).trans s7).trans s8
  have s08:=s4.trans s48
  have hev:EV H8 ⟨(ls,qq),rk,List.replicate ws.length false⟩ (.ref t):=⟨t,b,m,rfl,e8,(show Dx H8 b ls qq from hst.same s48),s8 _ _ e7⟩
  refine ⟨_,rfl,_,rfl,_,rfl,l,_,rfl,B9.of (s08 _ _ hl),fun p1 hp1=>?_⟩
  generalize hX:Eh us none _ = X
  have s9:A7 H8 (upd H8 p1 (.lst X)):=A7.upd hp1
  have e9:(upd H8 p1 (.lst X)) p1 = some (.lst X):=A5
  generalize upd H8 p1 (.lst X) = H9 at s9 e9 ⊢
  have pX:Ck ws.length 301 (· <= 20) H9 X:=by rw [<- hX]; exact (hpap3.cut none _).up (Ae.of (s08.trans s9))
  have hone:Ck ws.length 1 (· <= 20) H9 [.ref t]:=Ck.one (hev.up (Ae.of s9)) hst4.1 hst4.2.2.1 (by rw [List.length_replicate]; omega)
  refine ⟨_,rfl,?_⟩
  refine ⟨B0,fun p2 hp2=>?_⟩
  have sA:A7 H9 (upd H9 p2 (.lst [.ref t])):=A7.upd hp2
  have eA:(upd H9 p2 (.lst [.ref t])) p2 = some (.lst [.ref t]):=A5
  generalize upd H9 p2 (.lst [.ref t]) = HA at sA eA ⊢
  have hX1:=sA _ _ e9
  refine ⟨p1,p2,_,_,rfl,rfl,hX1,eA,Nat.le_of_lt (Ba (by have:=pX.1; simp; omega)),fun p3 hp3=>?_⟩
  have sB:A7 HA (upd HA p3 (.lst (X ++ [.ref t]))):=A7.upd hp3
  have eB:(upd HA p3 (.lst (X ++ [.ref t]))) p3 = some (.lst (X ++ [.ref t])):=A5
  generalize upd HA p3 (.lst (X ++ [.ref t])) = HB at sB eB ⊢
  have sHB:=((s08.trans s9).trans sA).trans sB
  refine ⟨_,rfl,_,rfl,_,rfl,l,_,rfl,B9.of (sHB _ _ hl),fun p4 hp4=>?_⟩
  generalize hY:Eh us _ none = Y
  have pY:Ck ws.length 301 (· <= 20) HB Y:=by rw [<- hY]; exact (hpap3.cut _ none).up (Ae.of sHB)
  have sC:A7 HB (upd HB p4 (.lst Y)):=A7.upd hp4
  have eC:(upd HB p4 (.lst Y)) p4 = some (.lst Y):=A5
  generalize upd HB p4 (.lst Y) = HC at sC eC ⊢
  refine ⟨p3,p4,_,_,rfl,rfl,sC _ _ eB,eC,Nat.le_of_lt (Ba (by have:=pX.1; have:=pY.1; simp; omega)),fun p5 hp5=>?_⟩
  have tz:=Ae.of (A7.upd (o:=HO.lst (X ++ [.ref t] ++ Y)) hp5)
  refine q p5 _ _ ((sHB.trans sC).trans (A7.upd hp5)) A5 ?_
  have:=(((pX.up (Ae.of (sA.trans (sB.trans sC)))).app (hone.up (Ae.of (sA.trans (sB.trans sC))))).app (pY.up (Ae.of sC))).up tz
  exact ⟨Nat.le_trans this.1 (by decide),this.2⟩
def Tm (K:PySem.W.Frag):Sp:=fun vs H Q _=>au fun (a d b m:Addr) (ws:List Int) (cm:Option Int) (ps:List Eb) (p:Eb)=>Uj (vs = [.ref a,.ref d,.ref b,.ref m]) (Bq H a ws cm) (ws.length <= 8) ((∀ x ∈ ws,1 <= x)) (H d = some (.dT (Cy ps))) (E5 H b p.k) (Ai (Cy ps) p.k = some (.int p.r)) (p.k.1.length = ws.length) (0 <= p.k.2) (H m = some (.tup (p.a.map V.bl))) (∀ (r:Bool) (H':Hp),A7 H H' -> (r = true ↔ I8 ws cm p /\ ∀ w,w < ws.length -> G3 ws cm (Cy ps) p w) -> Q (.bl r) H')
theorem dc {fd fd_x17:FuncData} (T:Txt K mg ad) (F:Fj K "_law_falls" "_law_falls" O5 ad.f_x22 fd) (G_x17:Al P w K mg base Bv 1 ad.f_x17 fd_x17 ["hall","standing","who","lost"] (Sf K)) (B_x17:B8 K fd_x17 ["hall","standing","who","lost"] []):Al P w K mg base Bv 2 ad.f_x22 fd ["hall","there","standing","answers"] (Tm K):=by
 refine F.ok S2 (fun vs H Q E h=>?_) (fun cdv A outer s H vs Q E hr h=>?_)
 ·rcases h with ⟨a,d,b,m,ws,cm,ps,p,rfl,ha,h8,hw1,hd,hb,hv0,hpl,hpq,hm,q⟩ <;> rfl
 ·obtain ⟨a,d,b,m,ws,cm,ps,p,rfl,ha,h8,hw1,hd,hb,hv0,hpl,hpq,hm,q⟩ := h
  refine ⟨_,(A6 (Bp (Ar az (Ay (Be K) (by rfl) T.n_len PySem.boot_len (A0 (pv 3) A8)) (Ay (Be K) (by rfl) T.n_len PySem.boot_len (A0 (Bc (Bb K) (pv 0) A9 (fun _ _=>rfl)) A8)) (Aw _)) (Ab (Ad Cr)) Ak) (A6 (Bp (PW.pt (Ph (Ar (Yj K) Cr (pv 3) rfl) (Go (PW.pt (Jb (Ar Oo (Bc (Bb K) (pv 0) A9 (fun _ _=>rfl)) D7 (Aw _)) (Hq (Ar N1 (Bc (Bb K) (pv 2) A9 (fun _ _=>rfl)) A9 (Aw _)))))))) (Ab (Ad Cr)) Ak) (A6 (Cc PassesOwn.never rfl (Dq (by rfl) T.n_range (A0 (Ay (Be K) (by rfl) T.n_len PySem.boot_len (A0 (Bc (Bb K) (pv 0) A9 (fun _ _=>rfl)) A8)) A8)) (Af (i:=4) S2.nd rfl (Or.inl rfl)) (A6 (Ao (i:=5) S2.nd rfl (Or.inl rfl) (Aj G_x17 (hr.mono (by decide)) rfl T.m_x17 T.k_x17 B_x17 .nil Bf (A0 (pv 0) (A0 (pv 2) (A0 (pv 4) (A0 (Bc (Bb K) (pv 3) (pv 4) (fun _ _=>rfl)) A8)))))) (Ab (Bp (PW.pt (Ph (Ar Ij (pv 5) D7 (Aw _)) (Go (Ar Xn (Ql (Qo (Ee hr) (pv 1) (pv 5) (Et (Ee hr) (pv 1) (pv 2) (fun _ _=>rfl)) ⟨rfl,rfl,rfl,rfl⟩)) (Et (Ee hr) (pv 1) (pv 2) (fun _ _=>rfl)) (Aw _))))) (Ab (Ad Cr)) Ak)))) (Ab (Ad Cr))))),?_⟩
  obtain ⟨wt,ha1,ha2⟩ := id ha
  obtain ⟨bu,hb1,hb2⟩ := id hb
  refine ⟨_,rfl,m,_,rfl,.inr (Br.of hm),_,rfl,a,_,_,_,rfl,rfl,.inr (Br.of ha1),rfl,wt,_,rfl,.inr (Br.of ha2),rfl,_,rfl,Cu (fun h=>?_) (fun h=>?_)⟩
  ·rw [List.length_map,List.length_map] at h
   refine q false _ (A7.refl _) ⟨(fun z=>nomatch z),fun z=>?_⟩
   rw [z.1.1] at h
   simp at h
  rw [List.length_map,List.length_map] at h
  have hal:p.a.length = ws.length:=by
   apply Classical.byContradiction
   intro z
   exact h (by simp; omega)
  clear h
  refine ⟨_,rfl,m,_,rfl,.inr (Br.of hm),rfl,Uv _,_,rfl,(fun c H'=>(c = true ↔ ¬ I8 ws cm p) /\ H' = H),(fun h=>?_),(fun h=>⟨_,rfl,a,_,_,_,rfl,rfl,.inr (Br.of ha1),rfl,rfl,_,rfl,(fun c H'=>(c = true ↔ ¬ I8 ws cm p) /\ H' = H),(fun h2=>?_),(fun h2=>⟨_,rfl,b,_,_,_,rfl,rfl,.inr (Br.of hb1),rfl,_,_,rfl,rfl,_,rfl,?_,rfl⟩),fun c H' hc=>hc⟩),fun c H1 hc=>?_⟩
  ·rw [if_neg (by decide),K5,decide_eq_false_iff_not] at h
   exact ⟨⟨(fun z=>nomatch z),fun z=>absurd ⟨hal,fun y=>absurd y h⟩ z⟩,rfl⟩
  ·rw [if_neg (by decide),K5,decide_eq_true_eq] at h
   refine ⟨⟨fun _ z=>?_,fun _=>rfl⟩,rfl⟩
   have:=(z.2 h).1
   cases cm with
   | none=>exact this rfl
   | some c=>simp [vO] at h2
  ·rw [if_neg (by decide),K5,decide_eq_true_eq] at h
   have hcm:cm ≠ none:=fun z=>by subst z; simp [vO] at h2
   constructor
   ·intro z y
    simp only [decide_eq_true_eq] at z
    have:=(y.2 h).2
    omega
   ·intro z
    simp only [decide_eq_true_eq]
    apply Classical.byContradiction
    intro y
    exact z ⟨hal,fun _=>⟨hcm,by omega⟩⟩
  obtain ⟨hc,rfl⟩ := hc
  refine Cu (fun h=>?_) (fun h=>?_)
  ·exact q false _ (A7.refl _) ⟨(fun z=>nomatch z),fun z=>absurd z.1 (hc.mp h)⟩
  have hans:I8 ws cm p:=Classical.byContradiction fun z=>h (hc.mpr z)
  clear hc h
  refine ⟨_,rfl,a,_,_,_,rfl,rfl,.inr (Br.of ha1),rfl,wt,_,rfl,.inr (Br.of ha2),_,rfl,by omega,by rw [List.length_map]; omega,?_⟩
  refine Gv (n:=((ws.map V.int).length:Int).toNat) (fun i σ H'=>We fun (v4 v5:Option V)=>Ou (σ = [some (.ref a),some (.ref d),some (.ref b),some (.ref m),v4,v5]) ((∀ w,w < i -> G3 ws cm (Cy ps) p w)) (A7 H1 H')) ⟨_,_,rfl,(fun who h=>absurd h (Nat.not_lt_zero _)),A7.refl _⟩ ?_ ?_
  ·rintro i σ H2 hi ⟨v4,v5,rfl,hall,s2⟩
   rw [List.length_map] at hi
   have hil:i < p.a.length:=by omega
   obtain ⟨lost,hlo⟩ : ∃ lost,p.a[i]? = some lost:=⟨p.a[i],List.getElem?_eq_getElem hil⟩
   have atf:Oz (p.a.map V.bl) (0 + (i:Int)) = some (.bl lost):=by
    rw [Int.zero_add]
    exact Mq hlo
   have hd2:=s2 _ _ hd
   have hcm:lost = true -> cm ≠ none:=fun z=>(hans.2 (by rw [<- z]; exact List.mem_of_getElem? hlo)).1
   refine ⟨_,rfl,_,rfl,_,rfl,_,rfl,_,rfl,m,_,_,_,rfl,rfl,.inr (Br.of (s2 _ _ hm)),atf,a,b,ws,p.k.1,cm,p.k.2,_,i,lost,rfl,Int.zero_add _,ha.same s2,Cs s2 hb,by omega,hpl,h8,hw1,hcm,fun v H3 s3 hv=>?_⟩
   have hd3:=s3 _ _ hd2
   have hb3:E5 H3 b p.k:=Cs (s2.trans s3) hb
   cases haf:F5 ws p.k.1 cm p.k.2 i lost with
   | none =>
    rw [haf] at hv
    obtain rfl:v = V.non:=hv
    refine ⟨_,rfl,rfl,_,rfl,(fun c H'=>c = false /\ H' = H3),(fun _=>⟨rfl,rfl⟩),(fun h=>by simp at h),fun c H4 hc=>?_⟩
    obtain ⟨rfl,rfl⟩ := hc
    refine Fs rfl ?_
    refine ⟨_,_,rfl,fun w hw=>?_,s2.trans s3⟩
    by_cases e':w = i
    ·subst e'
     intro l2 hl2 k hk
     rw [hlo] at hl2
     cases hl2
     rw [haf] at hk
     cases hk
    ·exact hall w (by omega)
   | some k =>
    rw [haf] at hv
    obtain ⟨pp,rfl,hp⟩ := hv
    refine ⟨_,rfl,rfl,_,rfl,(fun c H'=>(c = true ↔ ¬ G3 ws cm (Cy ps) p i) /\ H' = H3),(fun h=>by simp at h),(fun _=>?_),fun c H4 hc=>?_⟩
    ·obtain ⟨g, hgv, hgf⟩ : ∃ g, (Ai (Cy ps) k).getD (.int p.r) = .int g /\ (g >= p.r ↔ ¬ G3 ws cm (Cy ps) p i) := by
      cases hv:Ai (Cy ps) k with
      | none =>
       refine ⟨p.r,rfl,fun _ z=>?_,fun _=>Int.le_refl _⟩
       obtain ⟨r,hr',_⟩ := z lost hlo _ haf
       rw [hv] at hr'
       cases hr'
      | some v =>
       obtain ⟨r,rfl⟩ := Px hv
       refine ⟨r,rfl,fun z y=>?_,fun z=>?_⟩
       ·obtain ⟨r',hr',hlt⟩ := y lost hlo _ haf
        rw [hv] at hr'
        cases hr'
        omega
       ·apply Classical.byContradiction
        intro y
        refine z fun l2 hl2 k2 hk2=>?_
        rw [hlo] at hl2
        cases hl2
        rw [haf] at hk2
        cases hk2
        exact ⟨r,hv,by omega⟩
     refine ⟨fun v H8=>v = .int g /\ H8 = H3,⟨_,rfl,d,rfl,.inr ⟨_,.inl hd3⟩,_,rfl,_,rfl,_,rfl,d,.int p.r,rfl,(by rw [<- hv0]; exact D8.t hd3 hb3),Ai (Cy ps) k,D8.t hd3 (show E5 H3 pp k from hp),hgv,rfl⟩,fun v H8 hv8=>?_⟩
     obtain ⟨rfl,rfl⟩ := hv8
     refine ⟨_,rfl,_,rfl,d,.int p.r,rfl,(by rw [<- hv0]; exact D8.t hd3 hb3),_,_,rfl,rfl,_,rfl,?_,rfl⟩
     rw [decide_eq_true_eq]
     exact hgf
    obtain ⟨hc,rfl⟩ := hc
    refine Cu (fun h=>?_) (fun h=>?_)
    ·exact q false _ (s2.trans s3) ⟨(fun z=>nomatch z),fun z=>absurd (z.2 i (by omega)) (hc.mp h)⟩
    ·refine ⟨_,_,rfl,fun w hw=>?_,s2.trans s3⟩
     by_cases e':w = i
     ·subst e'
      exact Classical.byContradiction fun z=>h (hc.mpr z)
     ·exact hall w (by omega)
  rintro σ H2 ⟨v4,v5,rfl,hall,s2⟩
  rw [List.length_map,Int.toNat_natCast] at hall
  exact q true _ s2 ⟨fun _=>⟨hans,hall⟩,fun _=>rfl⟩
def Tt (K:PySem.W.Frag):Sp:=fun vs H Q _=>Z9 fun (a l:Addr) (ws:List Int) (cm:Option Int) (us:List V) (ps:List Eb)=>Oq (vs = [.ref a,.ref l]) (Bq H a ws cm) (0 < ws.length) (ws.length <= 8) ((∀ x ∈ ws,1 <= x)) (H l = some (.lst us)) (Ah (EV H) ps us) (Y7 ws.length ps) (∀ (r:Bool) (H':Hp),A7 H H' -> (r = true ↔ al ws cm ps) -> Q (.bl r) H')
theorem gn {fd fd_x22:FuncData} (T:Txt K mg ad) (F:Fj K "_law_lets" "_law_lets" Nm ad.f_x30 fd) (G_x22:Al P w K mg base Bv 2 ad.f_x22 fd_x22 ["hall","there","standing","answers"] (Tm K)) (B_x22:B8 K fd_x22 ["hall","there","standing","answers"] []):Al P w K mg base Bv 3 ad.f_x30 fd ["hall","paper"] (Tt K):=by
 refine F.ok G7 (fun vs H Q E h=>?_) (fun cdv A outer s H vs Q E hr h=>?_)
 ·rcases h with ⟨a,l,ws,cm,us,ps,rfl,ha,h0,h8,hw1,hl,hps,hg,q⟩ <;> rfl
 ·obtain ⟨a,l,ws,cm,us,ps,rfl,ha,h0,h8,hw1,hl,hps,hg,q⟩ := h
  refine ⟨_,(A6 (Ao (i:=2) G7.nd rfl (Or.inl rfl) Ga) (A6 (Cc PassesOwn.never rfl (D4 (w':=K7 K _) (D5 (pv 1))) (D3 K (n:=3) rfl (Ax (Af (i:=3) G7.nd rfl (Or.inl rfl)) (Ax (Af (i:=4) G7.nd rfl (Or.inl rfl)) (Ax (Af (i:=5) G7.nd rfl (Or.inl rfl)) D2)))) (A6 (Bp (Ar Hx (pv 4) A9 (Aw _)) (Ab (Ad Cr)) Ak) (Ab (I9 (Ee hr) (pv 2) (pv 3) (pv 4) rfl)))) (A6 (Bp (PW.pt (Jb (Ar Hx (Ay Nd (by rfl) T.n_len PySem.boot_len (A0 (pv 2) A8)) (Ay (Be K) (by rfl) T.n_len PySem.boot_len (A0 (pv 1) A8)) (Aw _)) (Hq (Ho (F6 (Ee hr) (Bh (A0 (Bc (Bb K) (pv 0) A9 (fun _ _=>rfl)) (A0 A9 A8))) (pv 2)) rfl)))) (Ab (Ad Cr)) Ak) (A6 (Cc PassesOwn.never rfl (D4 (w':=K7 K _) (D5 (pv 1))) (D3 K (n:=3) rfl (Ax (Af (i:=3) G7.nd rfl (Or.inl rfl)) (Ax (Af (i:=4) G7.nd rfl (Or.inl rfl)) (Ax (Af (i:=5) G7.nd rfl (Or.inl rfl)) D2)))) (Ab (Bp (E3 (Dl (Aj G_x22 (hr.mono (by decide)) rfl T.m_x22 T.k_x22 B_x22 .nil Bf (A0 (pv 0) (A0 (pv 2) (A0 (pv 3) (A0 (pv 5) A8))))))) (Ab (Ad Cr)) Ak))) (Ab (Ad Cr)))))),?_⟩
  have hbl:=hg.2
  have hul:=hps.1
  refine fun d hd=>?_
  have s0:A7 H (upd H d (.dT [])):=A7.upd hd
  have e0:(upd H d (.dT [])) d = some (.dT []):=A5
  generalize upd H d (.dT []) = H0 at s0 e0 ⊢
  refine ⟨_,rfl,l,rfl,.inl ⟨⟨_,B9.of (s0 _ _ hl)⟩,?_⟩⟩
  refine Cq (K:=K) (a:=l) (xs:=us) (fun i σ H'=>Pj fun (v3 v4 v5:Option V)=>Kt (σ = [some (.ref a),some (.ref l),some (.ref d),v3,v4,v5]) (H' d = some (.dT (Cy (ps.take i)))) ((∀ e ∈ ps.take i,1 <= e.r)) (A7 H H')) ⟨_,_,_,rfl,e0,(fun e he=>by rw [List.take_zero] at he; cases he),s0⟩ (by rintro i σ H' _ ⟨_,_,_,_,_,_,s⟩; exact B9.of (s _ _ hl)) ?_ ?_
  ·rintro i u σ H2 hu ⟨v3,v4,v5,rfl,hd2,hrs,s2⟩
   obtain ⟨p,hp,t,b,m,rfl,ht,hb,hm⟩ := hps.get hu
   refine ⟨t,_,rfl,Br.of (s2 _ _ ht),rfl,_,_,rfl,_,_,rfl,_,_,rfl,rfl,?_⟩
   refine ⟨_,rfl,_,_,rfl,rfl,_,rfl,Cu (fun h=>?_) (fun h=>?_)⟩
   ·simp only [decide_eq_true_eq] at h
    exact q false _ s2 ⟨(fun z=>nomatch z),fun z=>absurd (z.2.2 p (List.mem_of_getElem? hp)).1 (by omega)⟩
   simp only [decide_eq_true_eq] at h
   refine ⟨_,rfl,_,rfl,_,rfl,d,_,rfl,Ky.t hd2 (Cs s2 hb) (Ba (by have h1:=Ed (Jq (ps.take i)) []; rw [Oi,List.length_take] at h1; simp only [List.length_nil] at h1; have h2:(Cy (ps.take i)).length <= _:=h1; omega)),?_⟩
   refine ⟨_,_,_,rfl,?_,fun e he=>?_,s2.new hd⟩
   ·rw [A5,List.take_add_one,hp]
    show some (HO.dT (Bm (putAll [] (Jq (ps.take i))) p.k (.int p.r))) = some (HO.dT (putAll [] (Jq (ps.take i ++ [p]))))
    rw [X8,Qu]
   ·rw [List.take_add_one,hp] at he
    rcases List.mem_append.mp he with z | z
    ·exact hrs e z
    ·rw [show e = p by simpa using z]
     omega
  rintro σ H1 ⟨v3,v4,v5,rfl,e1,hrs,s1⟩
  rw [hul,List.take_length] at e1 hrs
  have ha1:=ha.same s1
  obtain ⟨wt,ha11,ha12⟩ := id ha1
  refine ⟨_,rfl,d,_,rfl,e1,_,rfl,l,_,rfl,.inl (B9.of (s1 _ _ hl)),_,_,rfl,rfl,_,rfl,(fun c H'=>A7 H1 H' /\ (c = true ↔ ¬ ((ps.map (·.k)).Nodup /\ (ws,0) ∈ ps.map (·.k)))),fun hlt=>?_,fun hge=>?_,fun c H2 hc=>?_⟩
  ·simp only [decide_eq_true_eq] at hlt
   exact ⟨A7.refl _,fun _ z=>(Id ps).mp (by omega) z.1,fun _=>rfl⟩
  ·simp only [decide_eq_false_iff_not] at hge
   have hnd:(ps.map (·.k)).Nodup:=Classical.byContradiction fun z=>hge (by have:=(Id ps).mpr z; omega)
   refine ⟨_,rfl,a,_,_,_,rfl,rfl,.inr (Br.of ha11),rfl,B0,fun p hp=>?_⟩
   have s2:A7 H1 (upd H1 p (.tup [.ref wt,.int 0])):=A7.upd hp
   have e2:(upd H1 p (.tup [.ref wt,.int 0])) p = some (.tup [.ref wt,.int 0]):=A5
   generalize upd H1 p (.tup [.ref wt,.int 0]) = H2 at s2 e2 ⊢
   refine ⟨_,rfl,d,_,rfl,D8.t (s2 _ _ e1) (show E5 H2 p (ws,0) from ⟨wt,e2,s2 _ _ ha12⟩),_,rfl,s2,?_⟩
   rw [<- Yb]
   cases (Ai (Cy ps) (ws,0)).isSome <;> simp [hnd]
  obtain ⟨s12,hc⟩ := hc
  refine Cu (fun h=>?_) (fun h=>?_)
  ·refine q false _ (s1.trans s12) ⟨(fun z=>nomatch z),fun z=>absurd ⟨z.1,z.2.1⟩ (hc.mp h)⟩
  obtain ⟨hnd,hb0⟩ : (ps.map (·.k)).Nodup /\ (ws,0) ∈ ps.map (·.k):=Classical.byContradiction fun z=>h (hc.mpr z)
  replace e1:=s12 _ _ e1
  replace s1:=s1.trans s12
  clear hc h c ha1 s12
  generalize H2 = H1 at e1 s1 ⊢
  refine ⟨_,rfl,l,rfl,.inl ⟨⟨_,B9.of (s1 _ _ hl)⟩,?_⟩⟩
  refine Cq (K:=K) (a:=l) (xs:=us) (fun i σ H'=>Pj fun (v3 v4 v5:Option V)=>Ou (σ = [some (.ref a),some (.ref l),some (.ref d),v3,v4,v5]) ((∀ e ∈ ps.take i,I8 ws cm e /\ ∀ w,w < ws.length -> G3 ws cm (Cy ps) e w)) (A7 H1 H')) ⟨_,_,_,rfl,(fun p hp=>by rw [List.take_zero] at hp; cases hp),A7.refl _⟩ (by rintro i σ H' _ ⟨_,_,_,_,_,s⟩; exact B9.of (s _ _ (s1 _ _ hl))) ?_ ?_
  ·rintro i u σ H3 hu ⟨v3,v4,v5,rfl,hall,s3⟩
   obtain ⟨e,he,t,b,m,rfl,ht,hb,hm⟩ := hps.get hu
   have heb:=List.mem_of_getElem? he
   obtain ⟨hel,heq,hea⟩ := hg.1 e heb
   have s03:=s1.trans s3
   refine ⟨t,_,rfl,Br.of (s03 _ _ ht),rfl,_,_,rfl,_,_,rfl,_,_,rfl,rfl,?_⟩
   refine ⟨_,rfl,_,rfl,_,rfl,_,rfl,a,d,b,m,ws,cm,ps,e,rfl,ha.same s03,h8,hw1,s3 _ _ e1,Cs s03 hb,Us hnd heb,hel,heq,s03 _ _ hm,fun r H5 s5 hr1=>?_⟩
   refine ⟨_,rfl,?_⟩
   refine Cu (fun h=>?_) (fun h=>?_)
   ·refine q false _ (s03.trans s5) ⟨(fun z=>nomatch z),fun z=>?_⟩
    have:=hr1.mpr (z.2.2 e heb).2
    rw [this] at h
    cases h
   ·have hrt : r = true := by
     cases r with
     | true=>rfl
     | false=>exact absurd rfl h
    refine ⟨_,_,_,rfl,fun e' he'=>?_,s3.trans s5⟩
    rw [List.take_add_one,he] at he'
    rcases List.mem_append.mp he' with z | z
    ·exact hall e' z
    ·have ee:e' = e:=by simpa using z
     rw [ee]
     exact hr1.mp hrt
  rintro σ H3 ⟨v3,v4,v5,rfl,hall,s3⟩
  rw [hul,List.take_length] at hall
  exact q true _ (s1.trans s3) ⟨fun _=>⟨hnd,hb0,fun p hp=>⟨hrs p hp,hall p hp⟩⟩,fun _=>rfl⟩
def Tb (K:PySem.W.Frag):Sp:=fun vs H Q _=>iw fun (a l:Addr) (ws:List Int) (cm:Option Int) (us:List V)=>L6 (vs = [.ref a,.ref l]) (Bq H a ws cm) (E4 ws cm) (H l = some (.lst us)) (Ck ws.length 700 (· <= 20) H us) (∀ H':Hp,A7 H H' -> Q (.bl true) H')
theorem fc {fd fd_x11 fd_x30:FuncData} (T:Txt K mg ad) (F:Fj K "_law_asked" "_law_asked" Mp ad.f_x23 fd) (G_x11:Al P w K mg base Bv 6 ad.f_x11 fd_x11 ["hall","paper"] (Sg K)) (B_x11:B8 K fd_x11 ["hall","paper"] []) (G_x30:Al P w K mg base Bv 3 ad.f_x30 fd_x30 ["hall","paper"] (Tt K)) (B_x30:B8 K fd_x30 ["hall","paper"] []):Al P w K mg base Bv 7 ad.f_x23 fd ["hall","paper"] (Tb K):=by
 refine F.ok Sc (fun vs H Q E h=>?_) (fun cdv A outer s H vs Q E hr h=>?_)
 ·rcases h with ⟨a,l,ws,cm,us,rfl,ha,hok,hl,hpap,q⟩ <;> rfl
 ·obtain ⟨a,l,ws,cm,us,rfl,ha,hok,hl,hpap,q⟩ := h
  refine ⟨_,(A6 (Ao (i:=2) Sc.nd rfl (Or.inl rfl) (Bt Fo (by rfl) T.n_list boot_list (A0 (pv 1) A8))) (A6 (Ao (i:=3) Sc.nd rfl (Or.inl rfl) (Aj G_x11 (hr.mono (by decide)) rfl T.m_x11 T.k_x11 B_x11 .nil Bf (A0 (pv 0) (A0 (pv 2) A8)))) (Ab (Ad (U2 (Ay (Vi K) (by rfl) T.n_isinstance boot_isinstance (A0 (pv 3) (A0 (kf (by rfl) T.n_bool boot_bool) A8))) (U2 (E8 Dm (pv 3) (Aj G_x30 (hr.mono (by decide)) rfl T.m_x30 T.k_x30 B_x30 .nil Bf (A0 (pv 0) (A0 (pv 1) A8))) (Aw _)) (On (E8 (Y1 hr) (pv 2) (pv 1) (Aw _))))))))),?_⟩
  have h8:=hok.2.2.2.1
  have hn0:=hok.2.2.1
  have hw1:∀ x ∈ ws,1 <= x:=fun x hx=>(hok.1 x hx).1
  obtain ⟨ps,hps,hg⟩ := hpap.all (by decide)
  refine ⟨_,rfl,l,_,rfl,.inl (B9.of hl),fun p1 hp1=>?_⟩
  have s1:A7 H (upd H p1 (.lst us)):=A7.upd hp1
  have e1:(upd H p1 (.lst us)) p1 = some (.lst us):=A5
  generalize upd H p1 (.lst us) = H1 at s1 e1 ⊢
  have hps1:=hps.imp fun _ _ y=>EV.up (Ae.of s1) y
  refine ⟨_,rfl,_,rfl,a,p1,ws,cm,us,ps,rfl,ha.same s1,hn0,h8,hw1,e1,hps1,hg,fun r H2 s2 hr1=>?_⟩
  have s12:=s1.trans s2
  refine ⟨_,rfl,_,"bool","bool",true,rfl,.bl _,Os,_,(fun d H'=>d = true /\ A7 H H'),rfl,(fun h=>by simp at h),(fun _=>?_),fun d H' hd=>?_⟩
  ·refine ⟨_,rfl,_,rfl,_,rfl,a,l,ws,cm,us,ps,rfl,ha.same s12,hn0,h8,hw1,s12 _ _ hl,hps1.imp (fun _ _ y=>EV.up (Ae.of s2) y),hg,fun r2 H3 s3 hr2=>?_⟩
   have er:r = r2:=by
    cases r <;> cases r2
    ·rfl
    ·exact absurd (hr1.mpr (hr2.mp rfl)) (by decide)
    ·exact absurd (hr2.mpr (hr1.mp rfl)) (by decide)
    ·rfl
   subst er
   have s13:=s12.trans s3
   refine ⟨rfl,_,(fun d H'=>d = true /\ A7 H H'),rfl,(fun h=>by simp at h),(fun _=>?_),fun d H' hd=>⟨_,rfl,hd⟩⟩
   have rpA:=O8 (s3 _ _ (s2 _ _ e1)) (Ts (hps1.imp fun _ _ y=>EV.up (Ae.of (s2.trans s3)) y))
   have rpB:=O8 (s13 _ _ hl) (Ts (hps.imp fun _ _ y=>EV.up (Ae.of s13) y))
   refine ⟨_,rfl,_,rfl,_,_,rpA,rpB,Rh ps,_,rfl,?_,s13⟩
   rw [if_neg (by decide),PySem.SeqAt.eqv_refl _ (Ds _ _ rpA)]
  obtain ⟨rfl,s'⟩ := hd
  exact q _ s'
def Pc (K:PySem.W.Frag):Sp:=fun vs H Q _=>We fun (a:Addr) (ns:List Int)=>Gy (vs = [.ref a]) (B9 K H a (ns.map V.int)) (ns.length <= 63) ((∀ z ∈ ns,intBits z <= 2 ^ 20)) (∀ H',Q (.bl true) H')
theorem gr {fd fd_x29 fd_x7 fd_x23 fd_x14:FuncData} (T:Txt K mg ad) (F:Fj K "law" "law" Ii ad.f_law fd) (G_x29:Al P w K mg base Bv 2 ad.f_x29 fd_x29 ["script"] (Td K)) (B_x29:B8 K fd_x29 ["script"] []) (G_x7:Al P w K mg base Bv 8 ad.f_x7 fd_x7 ["hall"] (Yk K)) (B_x7:B8 K fd_x7 ["hall"] []) (G_x23:Al P w K mg base Bv 7 ad.f_x23 fd_x23 ["hall","paper"] (Tb K)) (B_x23:B8 K fd_x23 ["hall","paper"] []) (G_x14:Al P w K mg base Bv 3 ad.f_x14 fd_x14 ["hall","paper","cell"] (Sm K)) (B_x14:B8 K fd_x14 ["hall","paper","cell"] []):Al P w K mg base Bv 9 ad.f_law fd ["script"] (Pc K):=by
 refine F.ok J1 (fun vs H Q E h=>?_) (fun cdv A outer s H vs Q E hr h=>?_)
 ·rcases h with ⟨a,ns,rfl,hS,hlen,hbig,q⟩ <;> rfl
 ·obtain ⟨a,ns,rfl,hS,hlen,hbig,q⟩ := h
  refine ⟨_,(A6 (Ao (i:=1) J1.nd rfl (Or.inl rfl) (Aj G_x29 (hr.mono (by decide)) rfl T.m_x29 T.k_x29 B_x29 .nil Bf (A0 (pv 0) A8))) (A6 (Ao (i:=2) J1.nd rfl (Or.inl rfl) (Ql (Aj G_x7 (hr.mono (by decide)) rfl T.m_x7 T.k_x7 B_x7 .nil Bf (A0 (pv 1) A8)))) (A6 (Ao (i:=3) J1.nd rfl (Or.inl rfl) (Cl (A0 (Bh (A0 (Bh (A0 (Bc (Bb K) (pv 1) A9 (fun _ _=>rfl)) (A0 A9 A8))) (A0 A9 (A0 (Bt (C8 K) (by rfl) T.n_tuple boot_tuple (A0 (Ag S3 (Cl (A0 Cr A8)) (Ay (Be K) (by rfl) T.n_len PySem.boot_len (A0 (Bc (Bb K) (pv 1) A9 (fun _ _=>rfl)) A8))) A8)) A8)))) A8))) (A6 (Ex (Ar Ij (pv 2) D7 (Aw _)) (Ab (Ao (i:=3) J1.nd rfl (Or.inl rfl) (Bt Fo (by rfl) T.n_list boot_list (A0 (pv 2) A8)))) Ak) (A6 (Bp (PW.pt (Jb (Ar (Y1 hr) (pv 3) (Cl A8) (Aw _)) (Hq (E3 (Dl (Aj G_x23 (hr.mono (by decide)) rfl T.m_x23 T.k_x23 B_x23 .nil Bf (A0 (pv 1) (A0 (pv 3) A8)))))))) (Ab (Ad Cr)) Ak) (A6 (Cc PassesOwn.never rfl (D4 (w':=K7 K _) (D5 (C5 (Cm K) (pv 0) (Cg A9) (Cg A9)))) (Af (i:=4) J1.nd rfl (Or.inl rfl)) (Ab (Bp (E3 (Dl (Aj G_x23 (hr.mono (by decide)) rfl T.m_x23 T.k_x23 B_x23 .nil Bf (A0 (pv 1) (A0 (Aj G_x14 (hr.mono (by decide)) rfl T.m_x14 T.k_x14 B_x14 .nil Bf (A0 (pv 1) (A0 (pv 3) (A0 (pv 4) A8)))) A8))))) (Ab (Ad Cr)) Ak))) (Ab (Ad Cr)))))))),?_⟩
  refine ⟨_,rfl,a,ns,rfl,hS,fun hp ws cm H1 s1 ha hok=>?_⟩
  have hn0:=hok.2.2.1
  have h8:=hok.2.2.2.1
  refine ⟨(fun v H3=>A7 H1 H3 /\ (v = .non \/ ∃ (p:Addr) (us:List V),v = .ref p /\ H3 p = some (.lst us) /\ Ck ws.length 301 (· = ws.length) H3 us /\ 0 < us.length)),⟨_,rfl,hp,ws,cm,rfl,ha,hok,(fun tv H3 s3 hr _ hv=>⟨s3,.inl rfl⟩),fun p us ps tv H3 s3 hpn ep hr _ hv hb hall=>⟨s3,.inr ⟨p,us,rfl,ep,Py hok hb hall,?_⟩⟩⟩,fun vt H2 hvt=>?_⟩
  ·rw [hall.1]
   cases ps with
   | nil=>have:=hb.1.beg; simp at this
   | cons x xs=>simp
  obtain ⟨s2,hvt⟩ := hvt
  have ha2:=ha.same s2
  obtain ⟨wt,ha21,ha22⟩ := id ha2
  refine ⟨_,rfl,hp,_,_,_,rfl,rfl,.inr (Br.of ha21),rfl,B0,fun b hb=>?_⟩
  have s3:A7 H2 (upd H2 b (.tup [.ref wt,.int 0])):=A7.upd hb
  have e3:(upd H2 b (.tup [.ref wt,.int 0])) b = some (.tup [.ref wt,.int 0]):=A5
  generalize upd H2 b (.tup [.ref wt,.int 0]) = H3 at s3 e3 ⊢
  refine ⟨B0,fun L hL=>?_⟩
  have s4:A7 H3 (upd H3 L (.lst [.bl false])):=A7.upd hL
  have e4:(upd H3 L (.lst [.bl false])) L = some (.lst [.bl false]):=A5
  generalize upd H3 L (.lst [.bl false]) = H4 at s4 e4 ⊢
  have s24:=s3.trans s4
  refine ⟨_,rfl,hp,_,_,_,rfl,rfl,.inr (Br.of (s24 _ _ ha21)),rfl,wt,_,rfl,.inr (Br.of (s24 _ _ ha22)),L,_,_,rfl,rfl,e4,by rw [List.length_map]; omega,by rw [List.length_map]; omega,Nat.le_of_lt (Bd (by rw [List.length_map]; simp; omega)),fun p2 hp2=>?_⟩
  rw [show (List.replicate ((ws.map V.int).length:Int).toNat [V.bl false]).flatten = (List.replicate ws.length false).map V.bl by rw [List.length_map,Int.toNat_natCast,Ln,List.map_replicate]]
  have s5:A7 H4 (upd H4 p2 (.lst ((List.replicate ws.length false).map V.bl))):=A7.upd hp2
  have e5:(upd H4 p2 (.lst ((List.replicate ws.length false).map V.bl))) p2 = some (.lst ((List.replicate ws.length false).map V.bl)):=A5
  generalize upd H4 p2 (.lst ((List.replicate ws.length false).map V.bl)) = H5 at s5 e5 ⊢
  refine ⟨p2,_,rfl,.inl ⟨B9.of e5,fun m hm=>?_⟩⟩
  have s6:A7 H5 (upd H5 m (.tup ((List.replicate ws.length false).map V.bl))):=A7.upd hm
  have e6:(upd H5 m (.tup ((List.replicate ws.length false).map V.bl))) m = some (.tup ((List.replicate ws.length false).map V.bl)):=A5
  generalize upd H5 m (.tup ((List.replicate ws.length false).map V.bl)) = H6 at s6 e6 ⊢
  refine ⟨B0,fun t ht=>?_⟩
  have s7:A7 H6 (upd H6 t (.tup [.ref b,.int 1,.ref m])):=A7.upd ht
  have e7:(upd H6 t (.tup [.ref b,.int 1,.ref m])) t = some (.tup [.ref b,.int 1,.ref m]):=A5
  generalize upd H6 t (.tup [.ref b,.int 1,.ref m]) = H7 at s7 e7 ⊢
  refine ⟨B0,fun P0 hP0=>?_⟩
  have s8:A7 H7 (upd H7 P0 (.lst [.ref t])):=A7.upd hP0
  have e8:(upd H7 P0 (.lst [.ref t])) P0 = some (.lst [.ref t]):=A5
  generalize upd H7 P0 (.lst [.ref t]) = H8 at s8 e8 ⊢
  have s28:=(((s24.trans s5).trans s6).trans s7).trans s8
  have hev:EV H8 ⟨(ws,0),1,List.replicate ws.length false⟩ (.ref t):=⟨t,b,m,rfl,s8 _ _ e7,⟨wt,((((s4.trans s5).trans s6).trans s7).trans s8) _ _ e3,s28 _ _ ha22⟩,s8 _ _ (s7 _ _ e6)⟩
  refine ⟨_,rfl,rfl,_,rfl,(fun σ' H'=>We fun (p:Addr) (us:List V)=>Gy (σ' = [some (.ref a),some (.ref hp),some vt,some (.ref p),none]) (A7 H1 H') (H' p = some (.lst us)) (Ck ws.length 301 (· = ws.length) H' us) (0 < us.length)),(fun h=>?_),(fun h=>?_),?_⟩
  ·rcases hvt with rfl | ⟨p,us,rfl,ep,hpap,hu0⟩
   ·simp at h
   refine ⟨_,rfl,p,_,rfl,.inl (B9.of (s28 _ _ ep)),fun p9 hp9=>?_⟩
   have s9:A7 H8 (upd H8 p9 (.lst us)):=A7.upd hp9
   exact ⟨p9,us,rfl,(s2.trans s28).trans s9,A5,(hpap.up (Ae.of s28)).up (Ae.of s9),hu0⟩
  ·exact ⟨P0,[.ref t],rfl,s2.trans s28,e8,(Ck.one hev rfl (Int.le_refl _) (by rw [List.length_replicate])).mono (by decide) (fun _ z=>z),by simp⟩
  rintro σ' H3 ⟨p,us,rfl,s3,ep,hpap,hu0⟩
  clear s4 s5 s6 s7 s8 s28 s24 hev e3 e4 e5 e6 e7 e8
  have ha3:=ha.same s3
  have hpap3:Ck ws.length 301 (· <= 20) H3 us:=hpap.mono (Nat.le_refl _) (fun i h=>by omega)
  obtain ⟨ps,hps,hg⟩ := hpap3.all (by decide)
  refine ⟨_,rfl,B0,fun e0 he0=>?_⟩
  have s4:A7 H3 (upd H3 e0 (.lst [])):=A7.upd he0
  have e4:(upd H3 e0 (.lst [])) e0 = some (.lst []):=A5
  generalize upd H3 e0 (.lst []) = H4 at s4 e4 ⊢
  refine ⟨_,_,O8 (s4 _ _ ep) (Ts (hps.imp fun _ _ y=>EV.up (Ae.of s4) y)),O8 e4 (by unfold RpAll; rfl:RpAll _ [] []),Rh ps,_,rfl,(fun d H'=>d = false /\ A7 H3 H'),(fun h=>?_),(fun h=>?_),fun d H5 hd=>?_⟩
  ·exfalso
   have hl:=hps.1
   cases ps with
   | nil =>
    have hl2:us.length = 0:=hl
    omega
   | cons x xs =>
    rw [if_neg (by decide)] at h
    rw [show (x :: xs).map dE = dE x :: xs.map dE from rfl,Sd] at h
    cases h
  ·refine ⟨_,rfl,_,rfl,hp,p,ws,cm,us,rfl,ha3.same s4,hok,s4 _ _ ep,(hpap3.mono (by decide) fun _ z=>z).up (Ae.of s4),fun H5 s5=>⟨_,rfl,rfl,s4.trans s5⟩⟩
  obtain ⟨rfl,s5⟩ := hd
  refine Fs rfl ?_
  refine ⟨_,rfl,_,rfl,_,rfl,a,_,rfl,((s1.trans s3).trans s5).seq hS,fun sl hsl=>?_⟩
  rw [Vb]
  generalize cy ns (some 9) (some 29) = cs
  have s6:A7 H5 (upd H5 sl (.lst (cs.map V.int))):=A7.upd hsl
  have e6:(upd H5 sl (.lst (cs.map V.int))) sl = some (.lst (cs.map V.int)):=A5
  generalize upd H5 sl (.lst (cs.map V.int)) = H6 at s6 e6 ⊢
  have s36:=s5.trans s6
  refine ⟨sl,rfl,.inl ⟨⟨_,B9.of e6⟩,?_⟩⟩
  refine Cq (K:=K) (a:=sl) (xs:=cs.map V.int) (fun i σ H'=>∃ (v4:Option V),σ = [some (.ref a),some (.ref hp),some vt,some (.ref p),v4] /\ A7 H6 H') ⟨_,rfl,A7.refl _⟩ (by rintro i σ H' _ ⟨_,_,s⟩; exact B9.of (s _ _ e6)) ?_ ?_
  ·rintro i u σ H7 hu ⟨v4,rfl,s7⟩
   rw [List.getElem?_map] at hu
   obtain ⟨c,hc,rfl⟩ := Option.map_eq_some_iff.mp hu
   have s37:=s36.trans s7
   refine ⟨_,rfl,_,rfl,_,rfl,_,rfl,hp,p,ws,cm,us,c,rfl,ha3.same s37,hok,s37 _ _ ep,hpap.up (Ae.of s37),hu0,fun l' us' H8 s8 el hpap8=>?_⟩
   refine ⟨hp,l',ws,cm,us',rfl,(ha3.same s37).same s8,hok,el,hpap8,fun H9 s9=>⟨_,rfl,Fs rfl ?_⟩⟩
   exact ⟨_,rfl,(s7.trans s8).trans s9⟩
  rintro σ H7 ⟨v4,rfl,s7⟩
  exact q _
end
theorem all_mk {l : PySem.W.OpenLaw} {w : World} {K : PySem.W.Frag} {h : Heap} {mg : Str -> Option Value} {fa : Addr} (X : K.In h) (G : h.Ns mainGlobals mg) (hfa : mg "law" = some (.ref fa)) {f_x19 f_x24 f_x9 f_x1 f_x10 f_x4 f_x32 f_x15 f_x5 f_x25 f_x26 f_x20 f_x16 f_x21 f_x11 f_x2 f_x31 f_x0 f_x33 f_x34 f_x6 f_x12 f_x3 f_x7 f_x27 f_x28 f_x29 f_x8 f_x17 f_x18 f_x13 f_x14 f_x22 f_x30 f_x23 f_law : Addr} {od_x19 an_x19 od_x24 an_x24 od_x9 an_x9 od_x1 an_x1 od_x10 an_x10 od_x4 an_x4 od_x32 an_x32 od_x15 an_x15 od_x5 an_x5 od_x25 an_x25 od_x26 an_x26 od_x20 an_x20 od_x16 an_x16 od_x21 an_x21 od_x11 an_x11 od_x2 an_x2 od_x31 an_x31 od_x0 an_x0 od_x33 an_x33 od_x34 an_x34 od_x6 an_x6 od_x12 an_x12 od_x3 an_x3 od_x7 an_x7 od_x27 an_x27 od_x28 an_x28 od_x29 an_x29 od_x8 an_x8 od_x17 an_x17 od_x18 an_x18 od_x13 an_x13 od_x14 an_x14 od_x22 an_x22 od_x30 an_x30 od_x23 an_x23 od_law an_law : Option Addr} {sl_x19 sl_x24 sl_x9 sl_x1 sl_x10 sl_x4 sl_x32 sl_x15 sl_x5 sl_x25 sl_x26 sl_x20 sl_x16 sl_x21 sl_x11 sl_x2 sl_x31 sl_x0 sl_x33 sl_x34 sl_x6 sl_x12 sl_x3 sl_x7 sl_x27 sl_x28 sl_x29 sl_x8 sl_x17 sl_x18 sl_x13 sl_x14 sl_x22 sl_x30 sl_x23 sl_law : Array (Option Value)} {oc_x19 kV_x19 dc_x19 pm_x19 cd_x19 ct_x19 oc_x24 kV_x24 dc_x24 pm_x24 cd_x24 ct_x24 oc_x9 kV_x9 dc_x9 pm_x9 cd_x9 ct_x9 oc_x1 kV_x1 dc_x1 pm_x1 cd_x1 ct_x1 oc_x10 kV_x10 dc_x10 pm_x10 cd_x10 ct_x10 oc_x4 kV_x4 dc_x4 pm_x4 cd_x4 ct_x4 oc_x32 kV_x32 dc_x32 pm_x32 cd_x32 ct_x32 oc_x15 kV_x15 dc_x15 pm_x15 cd_x15 ct_x15 oc_x5 kV_x5 dc_x5 pm_x5 cd_x5 ct_x5 oc_x25 kV_x25 dc_x25 pm_x25 cd_x25 ct_x25 oc_x26 kV_x26 dc_x26 pm_x26 cd_x26 ct_x26 oc_x20 kV_x20 dc_x20 pm_x20 cd_x20 ct_x20 oc_x16 kV_x16 dc_x16 pm_x16 cd_x16 ct_x16 oc_x21 kV_x21 dc_x21 pm_x21 cd_x21 ct_x21 oc_x11 kV_x11 dc_x11 pm_x11 cd_x11 ct_x11 oc_x2 kV_x2 dc_x2 pm_x2 cd_x2 ct_x2 oc_x31 kV_x31 dc_x31 pm_x31 cd_x31 ct_x31 oc_x0 kV_x0 dc_x0 pm_x0 cd_x0 ct_x0 oc_x33 kV_x33 dc_x33 pm_x33 cd_x33 ct_x33 oc_x34 kV_x34 dc_x34 pm_x34 cd_x34 ct_x34 oc_x6 kV_x6 dc_x6 pm_x6 cd_x6 ct_x6 oc_x12 kV_x12 dc_x12 pm_x12 cd_x12 ct_x12 oc_x3 kV_x3 dc_x3 pm_x3 cd_x3 ct_x3 oc_x7 kV_x7 dc_x7 pm_x7 cd_x7 ct_x7 oc_x27 kV_x27 dc_x27 pm_x27 cd_x27 ct_x27 oc_x28 kV_x28 dc_x28 pm_x28 cd_x28 ct_x28 oc_x29 kV_x29 dc_x29 pm_x29 cd_x29 ct_x29 oc_x8 kV_x8 dc_x8 pm_x8 cd_x8 ct_x8 oc_x17 kV_x17 dc_x17 pm_x17 cd_x17 ct_x17 oc_x18 kV_x18 dc_x18 pm_x18 cd_x18 ct_x18 oc_x13 kV_x13 dc_x13 pm_x13 cd_x13 ct_x13 oc_x14 kV_x14 dc_x14 pm_x14 cd_x14 ct_x14 oc_x22 kV_x22 dc_x22 pm_x22 cd_x22 ct_x22 oc_x30 kV_x30 dc_x30 pm_x30 cd_x30 ct_x30 oc_x23 kV_x23 dc_x23 pm_x23 cd_x23 ct_x23 oc_law kV_law dc_law pm_law cd_law ct_law : Value} {dt_x32 : Addr} {tc_x32 : Value} {td_x32 : Option Addr} {tn_x32 : Nat} {ts_x32 : Array (Option Value)}
  (a_x19:PySem.W.nsIn K mainGlobals "beginning" = some (some (.ref f_x19))) (l_x19:K.lookup f_x19 = some ⟨oc_x19,od_x19,.func (PySem.W.fnOf "beginning" "beginning" (As Nq) (Ap Nq) (Aa Nq) .none kV_x19 dc_x19 pm_x19 an_x19 cd_x19 ct_x19),sl_x19⟩) (c_x19:PySem.W.codeIn K cd_x19 "beginning" = true) (k_x19:PySem.W.keepIn K (.ref f_x19) = true)
  (a_x24:PySem.W.nsIn K mainGlobals "may_lose" = some (some (.ref f_x24))) (l_x24:K.lookup f_x24 = some ⟨oc_x24,od_x24,.func (PySem.W.fnOf "may_lose" "may_lose" (As Mj) (Ap Mj) (Aa Mj) .none kV_x24 dc_x24 pm_x24 an_x24 cd_x24 ct_x24),sl_x24⟩) (c_x24:PySem.W.codeIn K cd_x24 "may_lose" = true) (k_x24:PySem.W.keepIn K (.ref f_x24) = true)
  (a_x9:PySem.W.nsIn K mainGlobals "is_listener" = some (some (.ref f_x9))) (l_x9:K.lookup f_x9 = some ⟨oc_x9,od_x9,.func (PySem.W.fnOf "is_listener" "is_listener" (As W1) (Ap W1) (Aa W1) .none kV_x9 dc_x9 pm_x9 an_x9 cd_x9 ct_x9),sl_x9⟩) (c_x9:PySem.W.codeIn K cd_x9 "is_listener" = true) (k_x9:PySem.W.keepIn K (.ref f_x9) = true)
  (a_x1:PySem.W.nsIn K mainGlobals "refuse_wrong_turn" = some (some (.ref f_x1))) (l_x1:K.lookup f_x1 = some ⟨oc_x1,od_x1,.func (PySem.W.fnOf "refuse_wrong_turn" "refuse_wrong_turn" (As Vv) (Ap Vv) (Aa Vv) .none kV_x1 dc_x1 pm_x1 an_x1 cd_x1 ct_x1),sl_x1⟩) (c_x1:PySem.W.codeIn K cd_x1 "refuse_wrong_turn" = true) (k_x1:PySem.W.keepIn K (.ref f_x1) = true)
  (a_x10:PySem.W.nsIn K mainGlobals "left_behind" = some (some (.ref f_x10))) (l_x10:K.lookup f_x10 = some ⟨oc_x10,od_x10,.func (PySem.W.fnOf "left_behind" "left_behind" (As Lo) (Ap Lo) (Aa Lo) .none kV_x10 dc_x10 pm_x10 an_x10 cd_x10 ct_x10),sl_x10⟩) (c_x10:PySem.W.codeIn K cd_x10 "left_behind" = true) (k_x10:PySem.W.keepIn K (.ref f_x10) = true)
  (a_x4:PySem.W.nsIn K mainGlobals "quiet_behind" = some (some (.ref f_x4))) (l_x4:K.lookup f_x4 = some ⟨oc_x4,od_x4,.func (PySem.W.fnOf "quiet_behind" "quiet_behind" (As Vc) (Ap Vc) (Aa Vc) .none kV_x4 dc_x4 pm_x4 an_x4 cd_x4 ct_x4),sl_x4⟩) (c_x4:PySem.W.codeIn K cd_x4 "quiet_behind" = true) (k_x4:PySem.W.keepIn K (.ref f_x4) = true)
  (a_x32:PySem.W.nsIn K mainGlobals "after" = some (some (.ref f_x32))) (l_x32:K.lookup f_x32 = some ⟨oc_x32,od_x32,.func (PySem.W.fnOf "after" "after" (As Fr) (Ap Fr) (Aa Fr) (.ref dt_x32) kV_x32 dc_x32 pm_x32 an_x32 cd_x32 ct_x32),sl_x32⟩) (c_x32:PySem.W.codeIn K cd_x32 "after" = true) (k_x32:PySem.W.keepIn K (.ref f_x32) = true) (t_x32:K.lookup dt_x32 = some ⟨tc_x32,td_x32,.seq #[Value.bool false] tn_x32,ts_x32⟩)
  (a_x15:PySem.W.nsIn K mainGlobals "all_behind" = some (some (.ref f_x15))) (l_x15:K.lookup f_x15 = some ⟨oc_x15,od_x15,.func (PySem.W.fnOf "all_behind" "all_behind" (As Mm) (Ap Mm) (Aa Mm) .none kV_x15 dc_x15 pm_x15 an_x15 cd_x15 ct_x15),sl_x15⟩) (c_x15:PySem.W.codeIn K cd_x15 "all_behind" = true) (k_x15:PySem.W.keepIn K (.ref f_x15) = true)
  (a_x5:PySem.W.nsIn K mainGlobals "quiet_values" = some (some (.ref f_x5))) (l_x5:K.lookup f_x5 = some ⟨oc_x5,od_x5,.func (PySem.W.fnOf "quiet_values" "quiet_values" (As V0) (Ap V0) (Aa V0) .none kV_x5 dc_x5 pm_x5 an_x5 cd_x5 ct_x5),sl_x5⟩) (c_x5:PySem.W.codeIn K cd_x5 "quiet_values" = true) (k_x5:PySem.W.keepIn K (.ref f_x5) = true)
  (a_x25:PySem.W.nsIn K mainGlobals "how_many" = some (some (.ref f_x25))) (l_x25:K.lookup f_x25 = some ⟨oc_x25,od_x25,.func (PySem.W.fnOf "how_many" "how_many" (As N6) (Ap N6) (Aa N6) .none kV_x25 dc_x25 pm_x25 an_x25 cd_x25 ct_x25),sl_x25⟩) (c_x25:PySem.W.codeIn K cd_x25 "how_many" = true) (k_x25:PySem.W.keepIn K (.ref f_x25) = true)
  (a_x26:PySem.W.nsIn K mainGlobals "all_left" = some (some (.ref f_x26))) (l_x26:K.lookup f_x26 = some ⟨oc_x26,od_x26,.func (PySem.W.fnOf "all_left" "all_left" (As Kd) (Ap Kd) (Aa Kd) .none kV_x26 dc_x26 pm_x26 an_x26 cd_x26 ct_x26),sl_x26⟩) (c_x26:PySem.W.codeIn K cd_x26 "all_left" = true) (k_x26:PySem.W.keepIn K (.ref f_x26) = true)
  (a_x20:PySem.W.nsIn K mainGlobals "standings" = some (some (.ref f_x20))) (l_x20:K.lookup f_x20 = some ⟨oc_x20,od_x20,.func (PySem.W.fnOf "standings" "standings" (As Lp) (Ap Lp) (Aa Lp) .none kV_x20 dc_x20 pm_x20 an_x20 cd_x20 ct_x20),sl_x20⟩) (c_x20:PySem.W.codeIn K cd_x20 "standings" = true) (k_x20:PySem.W.keepIn K (.ref f_x20) = true)
  (a_x16:PySem.W.nsIn K mainGlobals "may_answer" = some (some (.ref f_x16))) (l_x16:K.lookup f_x16 = some ⟨oc_x16,od_x16,.func (PySem.W.fnOf "may_answer" "may_answer" (As N5) (Ap N5) (Aa N5) .none kV_x16 dc_x16 pm_x16 an_x16 cd_x16 ct_x16),sl_x16⟩) (c_x16:PySem.W.codeIn K cd_x16 "may_answer" = true) (k_x16:PySem.W.keepIn K (.ref f_x16) = true)
  (a_x21:PySem.W.nsIn K mainGlobals "goes_down" = some (some (.ref f_x21))) (l_x21:K.lookup f_x21 = some ⟨oc_x21,od_x21,.func (PySem.W.fnOf "goes_down" "goes_down" (As Mt) (Ap Mt) (Aa Mt) .none kV_x21 dc_x21 pm_x21 an_x21 cd_x21 ct_x21),sl_x21⟩) (c_x21:PySem.W.codeIn K cd_x21 "goes_down" = true) (k_x21:PySem.W.keepIn K (.ref f_x21) = true)
  (a_x11:PySem.W.nsIn K mainGlobals "lets_broken" = some (some (.ref f_x11))) (l_x11:K.lookup f_x11 = some ⟨oc_x11,od_x11,.func (PySem.W.fnOf "lets_broken" "lets_broken" (As Kw) (Ap Kw) (Aa Kw) .none kV_x11 dc_x11 pm_x11 an_x11 cd_x11 ct_x11),sl_x11⟩) (c_x11:PySem.W.codeIn K cd_x11 "lets_broken" = true) (k_x11:PySem.W.keepIn K (.ref f_x11) = true)
  (a_x2:PySem.W.nsIn K mainGlobals "calls_by_standing" = some (some (.ref f_x2))) (l_x2:K.lookup f_x2 = some ⟨oc_x2,od_x2,.func (PySem.W.fnOf "calls_by_standing" "calls_by_standing" (As Uy) (Ap Uy) (Aa Uy) .none kV_x2 dc_x2 pm_x2 an_x2 cd_x2 ct_x2),sl_x2⟩) (c_x2:PySem.W.codeIn K cd_x2 "calls_by_standing" = true) (k_x2:PySem.W.keepIn K (.ref f_x2) = true)
  (a_x31:PySem.W.nsIn K mainGlobals "ways_to" = some (some (.ref f_x31))) (l_x31:K.lookup f_x31 = some ⟨oc_x31,od_x31,.func (PySem.W.fnOf "ways_to" "ways_to" (As Nr) (Ap Nr) (Aa Nr) .none kV_x31 dc_x31 pm_x31 an_x31 cd_x31 ct_x31),sl_x31⟩) (c_x31:PySem.W.codeIn K cd_x31 "ways_to" = true) (k_x31:PySem.W.keepIn K (.ref f_x31) = true)
  (a_x0:PySem.W.nsIn K mainGlobals "without_calls_left" = some (some (.ref f_x0))) (l_x0:K.lookup f_x0 = some ⟨oc_x0,od_x0,.func (PySem.W.fnOf "without_calls_left" "without_calls_left" (As Vd) (Ap Vd) (Aa Vd) .none kV_x0 dc_x0 pm_x0 an_x0 cd_x0 ct_x0),sl_x0⟩) (c_x0:PySem.W.codeIn K cd_x0 "without_calls_left" = true) (k_x0:PySem.W.keepIn K (.ref f_x0) = true)
  (a_x33:PySem.W.nsIn K mainGlobals "ranks" = some (some (.ref f_x33))) (l_x33:K.lookup f_x33 = some ⟨oc_x33,od_x33,.func (PySem.W.fnOf "ranks" "ranks" (As Kl) (Ap Kl) (Aa Kl) .none kV_x33 dc_x33 pm_x33 an_x33 cd_x33 ct_x33),sl_x33⟩) (c_x33:PySem.W.codeIn K cd_x33 "ranks" = true) (k_x33:PySem.W.keepIn K (.ref f_x33) = true)
  (a_x34:PySem.W.nsIn K mainGlobals "worth" = some (some (.ref f_x34))) (l_x34:K.lookup f_x34 = some ⟨oc_x34,od_x34,.func (PySem.W.fnOf "worth" "worth" (As Ml) (Ap Ml) (Aa Ml) .none kV_x34 dc_x34 pm_x34 an_x34 cd_x34 ct_x34),sl_x34⟩) (c_x34:PySem.W.codeIn K cd_x34 "worth" = true) (k_x34:PySem.W.keepIn K (.ref f_x34) = true)
  (a_x6:PySem.W.nsIn K mainGlobals "worst_answer" = some (some (.ref f_x6))) (l_x6:K.lookup f_x6 = some ⟨oc_x6,od_x6,.func (PySem.W.fnOf "worst_answer" "worst_answer" (As Uw) (Ap Uw) (Aa Uw) .none kV_x6 dc_x6 pm_x6 an_x6 cd_x6 ct_x6),sl_x6⟩) (c_x6:PySem.W.codeIn K cd_x6 "worst_answer" = true) (k_x6:PySem.W.keepIn K (.ref f_x6) = true)
  (a_x12:PySem.W.nsIn K mainGlobals "all_answers" = some (some (.ref f_x12))) (l_x12:K.lookup f_x12 = some ⟨oc_x12,od_x12,.func (PySem.W.fnOf "all_answers" "all_answers" (As Km) (Ap Km) (Aa Km) .none kV_x12 dc_x12 pm_x12 an_x12 cd_x12 ct_x12),sl_x12⟩) (c_x12:PySem.W.codeIn K cd_x12 "all_answers" = true) (k_x12:PySem.W.keepIn K (.ref f_x12) = true)
  (a_x3:PySem.W.nsIn K mainGlobals "unbroken_behind" = some (some (.ref f_x3))) (l_x3:K.lookup f_x3 = some ⟨oc_x3,od_x3,.func (PySem.W.fnOf "unbroken_behind" "unbroken_behind" (As R0) (Ap R0) (Aa R0) .none kV_x3 dc_x3 pm_x3 an_x3 cd_x3 ct_x3),sl_x3⟩) (c_x3:PySem.W.codeIn K cd_x3 "unbroken_behind" = true) (k_x3:PySem.W.keepIn K (.ref f_x3) = true)
  (a_x7:PySem.W.nsIn K mainGlobals "broken_paper" = some (some (.ref f_x7))) (l_x7:K.lookup f_x7 = some ⟨oc_x7,od_x7,.func (PySem.W.fnOf "broken_paper" "broken_paper" (As Rl) (Ap Rl) (Aa Rl) .none kV_x7 dc_x7 pm_x7 an_x7 cd_x7 ct_x7),sl_x7⟩) (c_x7:PySem.W.codeIn K cd_x7 "broken_paper" = true) (k_x7:PySem.W.keepIn K (.ref f_x7) = true)
  (a_x27:PySem.W.nsIn K mainGlobals "_law_cell" = some (some (.ref f_x27))) (l_x27:K.lookup f_x27 = some ⟨oc_x27,od_x27,.func (PySem.W.fnOf "_law_cell" "_law_cell" (As Mz) (Ap Mz) (Aa Mz) .none kV_x27 dc_x27 pm_x27 an_x27 cd_x27 ct_x27),sl_x27⟩) (c_x27:PySem.W.codeIn K cd_x27 "_law_cell" = true) (k_x27:PySem.W.keepIn K (.ref f_x27) = true)
  (a_x28:PySem.W.nsIn K mainGlobals "_law_wide" = some (some (.ref f_x28))) (l_x28:K.lookup f_x28 = some ⟨oc_x28,od_x28,.func (PySem.W.fnOf "_law_wide" "_law_wide" (As Nh) (Ap Nh) (Aa Nh) .none kV_x28 dc_x28 pm_x28 an_x28 cd_x28 ct_x28),sl_x28⟩) (c_x28:PySem.W.codeIn K cd_x28 "_law_wide" = true) (k_x28:PySem.W.keepIn K (.ref f_x28) = true)
  (a_x29:PySem.W.nsIn K mainGlobals "_law_hall" = some (some (.ref f_x29))) (l_x29:K.lookup f_x29 = some ⟨oc_x29,od_x29,.func (PySem.W.fnOf "_law_hall" "_law_hall" (As Hb) (Ap Hb) (Aa Hb) .none kV_x29 dc_x29 pm_x29 an_x29 cd_x29 ct_x29),sl_x29⟩) (c_x29:PySem.W.codeIn K cd_x29 "_law_hall" = true) (k_x29:PySem.W.keepIn K (.ref f_x29) = true)
  (a_x8:PySem.W.nsIn K mainGlobals "_law_standing" = some (some (.ref f_x8))) (l_x8:K.lookup f_x8 = some ⟨oc_x8,od_x8,.func (PySem.W.fnOf "_law_standing" "_law_standing" (As V2) (Ap V2) (Aa V2) .none kV_x8 dc_x8 pm_x8 an_x8 cd_x8 ct_x8),sl_x8⟩) (c_x8:PySem.W.codeIn K cd_x8 "_law_standing" = true) (k_x8:PySem.W.keepIn K (.ref f_x8) = true)
  (a_x17:PySem.W.nsIn K mainGlobals "_law_behind" = some (some (.ref f_x17))) (l_x17:K.lookup f_x17 = some ⟨oc_x17,od_x17,.func (PySem.W.fnOf "_law_behind" "_law_behind" (As Nf) (Ap Nf) (Aa Nf) .none kV_x17 dc_x17 pm_x17 an_x17 cd_x17 ct_x17),sl_x17⟩) (c_x17:PySem.W.codeIn K cd_x17 "_law_behind" = true) (k_x17:PySem.W.keepIn K (.ref f_x17) = true)
  (a_x18:PySem.W.nsIn K mainGlobals "_law_turned" = some (some (.ref f_x18))) (l_x18:K.lookup f_x18 = some ⟨oc_x18,od_x18,.func (PySem.W.fnOf "_law_turned" "_law_turned" (As Ng) (Ap Ng) (Aa Ng) .none kV_x18 dc_x18 pm_x18 an_x18 cd_x18 ct_x18),sl_x18⟩) (c_x18:PySem.W.codeIn K cd_x18 "_law_turned" = true) (k_x18:PySem.W.keepIn K (.ref f_x18) = true)
  (a_x13:PySem.W.nsIn K mainGlobals "_law_changed" = some (some (.ref f_x13))) (l_x13:K.lookup f_x13 = some ⟨oc_x13,od_x13,.func (PySem.W.fnOf "_law_changed" "_law_changed" (As Mx) (Ap Mx) (Aa Mx) .none kV_x13 dc_x13 pm_x13 an_x13 cd_x13 ct_x13),sl_x13⟩) (c_x13:PySem.W.codeIn K cd_x13 "_law_changed" = true) (k_x13:PySem.W.keepIn K (.ref f_x13) = true)
  (a_x14:PySem.W.nsIn K mainGlobals "_law_spoiled" = some (some (.ref f_x14))) (l_x14:K.lookup f_x14 = some ⟨oc_x14,od_x14,.func (PySem.W.fnOf "_law_spoiled" "_law_spoiled" (As L7) (Ap L7) (Aa L7) .none kV_x14 dc_x14 pm_x14 an_x14 cd_x14 ct_x14),sl_x14⟩) (c_x14:PySem.W.codeIn K cd_x14 "_law_spoiled" = true) (k_x14:PySem.W.keepIn K (.ref f_x14) = true)
  (a_x22:PySem.W.nsIn K mainGlobals "_law_falls" = some (some (.ref f_x22))) (l_x22:K.lookup f_x22 = some ⟨oc_x22,od_x22,.func (PySem.W.fnOf "_law_falls" "_law_falls" (As O5) (Ap O5) (Aa O5) .none kV_x22 dc_x22 pm_x22 an_x22 cd_x22 ct_x22),sl_x22⟩) (c_x22:PySem.W.codeIn K cd_x22 "_law_falls" = true) (k_x22:PySem.W.keepIn K (.ref f_x22) = true)
  (a_x30:PySem.W.nsIn K mainGlobals "_law_lets" = some (some (.ref f_x30))) (l_x30:K.lookup f_x30 = some ⟨oc_x30,od_x30,.func (PySem.W.fnOf "_law_lets" "_law_lets" (As Nm) (Ap Nm) (Aa Nm) .none kV_x30 dc_x30 pm_x30 an_x30 cd_x30 ct_x30),sl_x30⟩) (c_x30:PySem.W.codeIn K cd_x30 "_law_lets" = true) (k_x30:PySem.W.keepIn K (.ref f_x30) = true)
  (a_x23:PySem.W.nsIn K mainGlobals "_law_asked" = some (some (.ref f_x23))) (l_x23:K.lookup f_x23 = some ⟨oc_x23,od_x23,.func (PySem.W.fnOf "_law_asked" "_law_asked" (As Mp) (Ap Mp) (Aa Mp) .none kV_x23 dc_x23 pm_x23 an_x23 cd_x23 ct_x23),sl_x23⟩) (c_x23:PySem.W.codeIn K cd_x23 "_law_asked" = true) (k_x23:PySem.W.keepIn K (.ref f_x23) = true)
  (a_law:PySem.W.nsIn K mainGlobals "law" = some (some (.ref f_law))) (l_law:K.lookup f_law = some ⟨oc_law,od_law,.func (PySem.W.fnOf "law" "law" (As Ii) (Ap Ii) (Aa Ii) .none kV_law dc_law pm_law an_law cd_law ct_law),sl_law⟩) (c_law:PySem.W.codeIn K cd_law "law" = true) (k_law:PySem.W.keepIn K (.ref f_law) = true)
  {tk_MOST_STANDINGS:Nat} (y_MOST_STANDINGS:PySem.W.nsIn K mainGlobals "MOST_STANDINGS" = some (some (.int 3000 tk_MOST_STANDINGS))) (z_len:PySem.W.nsIn K mainGlobals "len" = some none) (z_max:PySem.W.nsIn K mainGlobals "max" = some none) (z_tuple:PySem.W.nsIn K mainGlobals "tuple" = some none) (z_range:PySem.W.nsIn K mainGlobals "range" = some none) (z_enumerate:PySem.W.nsIn K mainGlobals "enumerate" = some none) (z_dict:PySem.W.nsIn K mainGlobals "dict" = some none) (z_sorted:PySem.W.nsIn K mainGlobals "sorted" = some none) (z_min:PySem.W.nsIn K mainGlobals "min" = some none) (z_list:PySem.W.nsIn K mainGlobals "list" = some none) (z_isinstance:PySem.W.nsIn K mainGlobals "isinstance" = some none) (z_bool:PySem.W.nsIn K mainGlobals "bool" = some none)   :
  ∃ fd:FuncData,(∀ (s:Shared) (v:Value),BindsTo s fd ⟨[v],[]⟩ [("script",v)]) /\ ∀ base:Heap,K.In base -> base.Ns mainGlobals mg -> Al l.prog w K mg base Bv 9 fa fd ["script"] (Pc K):=by
 have e:=hfa.symm.trans (PySem.W.mg_of X G a_law)
 cases e
 have T:Txt K mg ⟨f_x19,f_x24,f_x9,f_x1,f_x10,f_x4,f_x32,f_x15,f_x5,f_x25,f_x26,f_x20,f_x16,f_x21,f_x11,f_x2,f_x31,f_x0,f_x33,f_x34,f_x6,f_x12,f_x3,f_x7,f_x27,f_x28,f_x29,f_x8,f_x17,f_x18,f_x13,f_x14,f_x22,f_x30,f_x23,fa⟩ := ⟨PySem.W.mg_of X G a_x19,k_x19,PySem.W.mg_of X G a_x24,k_x24,PySem.W.mg_of X G a_x9,k_x9,PySem.W.mg_of X G a_x1,k_x1,PySem.W.mg_of X G a_x10,k_x10,PySem.W.mg_of X G a_x4,k_x4,PySem.W.mg_of X G a_x32,k_x32,PySem.W.mg_of X G a_x15,k_x15,PySem.W.mg_of X G a_x5,k_x5,PySem.W.mg_of X G a_x25,k_x25,PySem.W.mg_of X G a_x26,k_x26,PySem.W.mg_of X G a_x20,k_x20,PySem.W.mg_of X G a_x16,k_x16,PySem.W.mg_of X G a_x21,k_x21,PySem.W.mg_of X G a_x11,k_x11,PySem.W.mg_of X G a_x2,k_x2,PySem.W.mg_of X G a_x31,k_x31,PySem.W.mg_of X G a_x0,k_x0,PySem.W.mg_of X G a_x33,k_x33,PySem.W.mg_of X G a_x34,k_x34,PySem.W.mg_of X G a_x6,k_x6,PySem.W.mg_of X G a_x12,k_x12,PySem.W.mg_of X G a_x3,k_x3,PySem.W.mg_of X G a_x7,k_x7,PySem.W.mg_of X G a_x27,k_x27,PySem.W.mg_of X G a_x28,k_x28,PySem.W.mg_of X G a_x29,k_x29,PySem.W.mg_of X G a_x8,k_x8,PySem.W.mg_of X G a_x17,k_x17,PySem.W.mg_of X G a_x18,k_x18,PySem.W.mg_of X G a_x13,k_x13,PySem.W.mg_of X G a_x14,k_x14,PySem.W.mg_of X G a_x22,k_x22,PySem.W.mg_of X G a_x30,k_x30,PySem.W.mg_of X G a_x23,k_x23,PySem.W.mg_of X G a_law,k_law,PySem.W.mg_none_of X G z_len,PySem.W.mg_none_of X G z_max,PySem.W.mg_none_of X G z_tuple,PySem.W.mg_none_of X G z_range,PySem.W.mg_none_of X G z_enumerate,PySem.W.mg_none_of X G z_dict,PySem.W.mg_none_of X G z_sorted,PySem.W.mg_none_of X G z_min,PySem.W.mg_none_of X G z_list,PySem.W.mg_none_of X G z_isinstance,PySem.W.mg_none_of X G z_bool,⟨_,PySem.W.mg_of X G y_MOST_STANDINGS⟩⟩
 have F_x19:=Bg (st:=Nq) l_x19 c_x19 k_x19
 have F_x24:=Bg (st:=Mj) l_x24 c_x24 k_x24
 have F_x9:=Bg (st:=W1) l_x9 c_x9 k_x9
 have F_x1:=Bg (st:=Vv) l_x1 c_x1 k_x1
 have F_x10:=Bg (st:=Lo) l_x10 c_x10 k_x10
 have F_x4:=Bg (st:=Vc) l_x4 c_x4 k_x4
 have F_x32:Z4 K "after" "after" Fr f_x32 _:=⟨⟨_,_,_,_,_,_,_,_,_,_,rfl,l_x32,c_x32⟩⟩
 have F_x15:=Bg (st:=Mm) l_x15 c_x15 k_x15
 have F_x5:=Bg (st:=V0) l_x5 c_x5 k_x5
 have F_x25:=Bg (st:=N6) l_x25 c_x25 k_x25
 have F_x26:=Bg (st:=Kd) l_x26 c_x26 k_x26
 have F_x20:=Bg (st:=Lp) l_x20 c_x20 k_x20
 have F_x16:=Bg (st:=N5) l_x16 c_x16 k_x16
 have F_x21:=Bg (st:=Mt) l_x21 c_x21 k_x21
 have F_x11:=Bg (st:=Kw) l_x11 c_x11 k_x11
 have F_x2:=Bg (st:=Uy) l_x2 c_x2 k_x2
 have F_x31:=Bg (st:=Nr) l_x31 c_x31 k_x31
 have F_x0:=Bg (st:=Vd) l_x0 c_x0 k_x0
 have F_x33:=Bg (st:=Kl) l_x33 c_x33 k_x33
 have F_x34:=Bg (st:=Ml) l_x34 c_x34 k_x34
 have F_x6:=Bg (st:=Uw) l_x6 c_x6 k_x6
 have F_x12:=Bg (st:=Km) l_x12 c_x12 k_x12
 have F_x3:=Bg (st:=R0) l_x3 c_x3 k_x3
 have F_x7:=Bg (st:=Rl) l_x7 c_x7 k_x7
 have F_x27:=Bg (st:=Mz) l_x27 c_x27 k_x27
 have F_x28:=Bg (st:=Nh) l_x28 c_x28 k_x28
 have F_x29:=Bg (st:=Hb) l_x29 c_x29 k_x29
 have F_x8:=Bg (st:=V2) l_x8 c_x8 k_x8
 have F_x17:=Bg (st:=Nf) l_x17 c_x17 k_x17
 have F_x18:=Bg (st:=Ng) l_x18 c_x18 k_x18
 have F_x13:=Bg (st:=Mx) l_x13 c_x13 k_x13
 have F_x14:=Bg (st:=L7) l_x14 c_x14 k_x14
 have F_x22:=Bg (st:=O5) l_x22 c_x22 k_x22
 have F_x30:=Bg (st:=Nm) l_x30 c_x30 k_x30
 have F_x23:=Bg (st:=Mp) l_x23 c_x23 k_x23
 have F_law:=Bg (st:=Ii) l_law c_law k_law
 have B_x19:=F_x19.binds (ps:=["hall"]) fun _ _ _ _ _ _ us hl=>by obtain ⟨_,rfl⟩ := Jz hl; rfl
 have B_x24:=F_x24.binds (ps:=["hall","standing"]) fun _ _ _ _ _ _ us hl=>by obtain ⟨_,_,rfl⟩ := Mg hl; rfl
 have B_x9:=F_x9.binds (ps:=["hall","who"]) fun _ _ _ _ _ _ us hl=>by obtain ⟨_,_,rfl⟩ := Mg hl; rfl
 have B_x1:=F_x1.binds (ps:=["hall","standing","who","lost"]) fun _ _ _ _ _ _ us hl=>by obtain ⟨_,_,_,_,rfl⟩ := Se hl; rfl
 have B_x10:=F_x10.binds (ps:=["hall","standing","who","lost"]) fun _ _ _ _ _ _ us hl=>by obtain ⟨_,_,_,_,rfl⟩ := Se hl; rfl
 have B_x4:=F_x4.binds (ps:=["hall","standing","lost"]) fun _ _ _ _ _ _ us hl=>by obtain ⟨_,_,_,rfl⟩ := Me hl; rfl
 have B_x32:B8 K (PySem.W.fnOf "after" "after" (As Fr) (Ap Fr) (Aa Fr) (.ref dt_x32) kV_x32 dc_x32 pm_x32 an_x32 cd_x32 ct_x32) ["hall","standing","who","lost"] []:=fun s us hK hl=>by
  have h4:us.length = 4:=by simpa using hl
  obtain ⟨_,_,_,_,rfl⟩ := Se h4
  exact BindsTo.of_defaults rfl (hK _ _ t_x32) rfl rfl rfl
 have B_after_d:B8 K (PySem.W.fnOf "after" "after" (As Fr) (Ap Fr) (Aa Fr) (.ref dt_x32) kV_x32 dc_x32 pm_x32 an_x32 cd_x32 ct_x32) ["hall","standing","who","lost"] [Value.bool false]:=fun s us hK hl=>by
  have h4:us.length = 3:=by simpa using hl
  obtain ⟨_,_,_,rfl⟩ := Me h4
  exact BindsTo.of_defaults rfl (hK _ _ t_x32) rfl rfl rfl
 have B_x15:=F_x15.binds (ps:=["hall","standing","who"]) fun _ _ _ _ _ _ us hl=>by obtain ⟨_,_,_,rfl⟩ := Me hl; rfl
 have B_x5:=F_x5.binds (ps:=["hall"]) fun _ _ _ _ _ _ us hl=>by obtain ⟨_,rfl⟩ := Jz hl; rfl
 have B_x25:=F_x25.binds (ps:=["hall"]) fun _ _ _ _ _ _ us hl=>by obtain ⟨_,rfl⟩ := Jz hl; rfl
 have B_x26:=F_x26.binds (ps:=["waits"]) fun _ _ _ _ _ _ us hl=>by obtain ⟨_,rfl⟩ := Jz hl; rfl
 have B_x20:=F_x20.binds (ps:=["hall"]) fun _ _ _ _ _ _ us hl=>by obtain ⟨_,rfl⟩ := Jz hl; rfl
 have B_x16:=F_x16.binds (ps:=["hall","standing","answers"]) fun _ _ _ _ _ _ us hl=>by obtain ⟨_,_,_,rfl⟩ := Me hl; rfl
 have B_x21:=F_x21.binds (ps:=["hall","listed","standing","answers"]) fun _ _ _ _ _ _ us hl=>by obtain ⟨_,_,_,_,rfl⟩ := Se hl; rfl
 have B_x11:=F_x11.binds (ps:=["hall","paper"]) fun _ _ _ _ _ _ us hl=>by obtain ⟨_,_,rfl⟩ := Mg hl; rfl
 have B_x2:=F_x2.binds (ps:=["hall"]) fun _ _ _ _ _ _ us hl=>by obtain ⟨_,rfl⟩ := Jz hl; rfl
 have B_x31:=F_x31.binds (ps:=["pending"]) fun _ _ _ _ _ _ us hl=>by obtain ⟨_,rfl⟩ := Jz hl; rfl
 have B_x0:=F_x0.binds (ps:=["pending","ways","ranked"]) fun _ _ _ _ _ _ us hl=>by obtain ⟨_,_,_,rfl⟩ := Me hl; rfl
 have B_x33:=F_x33.binds (ps:=["hall"]) fun _ _ _ _ _ _ us hl=>by obtain ⟨_,rfl⟩ := Jz hl; rfl
 have B_x34:=F_x34.binds (ps:=["table","behind"]) fun _ _ _ _ _ _ us hl=>by obtain ⟨_,_,rfl⟩ := Mg hl; rfl
 have B_x6:=F_x6.binds (ps:=["hall","table","standing","who"]) fun _ _ _ _ _ _ us hl=>by obtain ⟨_,_,_,_,rfl⟩ := Se hl; rfl
 have B_x12:=F_x12.binds (ps:=["hall","table","standing"]) fun _ _ _ _ _ _ us hl=>by obtain ⟨_,_,_,rfl⟩ := Me hl; rfl
 have B_x3:=F_x3.binds (ps:=["hall","standing","answers"]) fun _ _ _ _ _ _ us hl=>by obtain ⟨_,_,_,rfl⟩ := Me hl; rfl
 have B_x7:=F_x7.binds (ps:=["hall"]) fun _ _ _ _ _ _ us hl=>by obtain ⟨_,rfl⟩ := Jz hl; rfl
 have B_x27:=F_x27.binds (ps:=["script","k"]) fun _ _ _ _ _ _ us hl=>by obtain ⟨_,_,rfl⟩ := Mg hl; rfl
 have B_x28:=F_x28.binds (ps:=["cells"]) fun _ _ _ _ _ _ us hl=>by obtain ⟨_,rfl⟩ := Jz hl; rfl
 have B_x29:=F_x29.binds (ps:=["script"]) fun _ _ _ _ _ _ us hl=>by obtain ⟨_,rfl⟩ := Jz hl; rfl
 have B_x8:=F_x8.binds (ps:=["hall","cell"]) fun _ _ _ _ _ _ us hl=>by obtain ⟨_,_,rfl⟩ := Mg hl; rfl
 have B_x17:=F_x17.binds (ps:=["hall","standing","who","lost"]) fun _ _ _ _ _ _ us hl=>by obtain ⟨_,_,_,_,rfl⟩ := Se hl; rfl
 have B_x18:=F_x18.binds (ps:=["answers","at"]) fun _ _ _ _ _ _ us hl=>by obtain ⟨_,_,rfl⟩ := Mg hl; rfl
 have B_x13:=F_x13.binds (ps:=["entry","way","cell"]) fun _ _ _ _ _ _ us hl=>by obtain ⟨_,_,_,rfl⟩ := Me hl; rfl
 have B_x14:=F_x14.binds (ps:=["hall","paper","cell"]) fun _ _ _ _ _ _ us hl=>by obtain ⟨_,_,_,rfl⟩ := Me hl; rfl
 have B_x22:=F_x22.binds (ps:=["hall","there","standing","answers"]) fun _ _ _ _ _ _ us hl=>by obtain ⟨_,_,_,_,rfl⟩ := Se hl; rfl
 have B_x30:=F_x30.binds (ps:=["hall","paper"]) fun _ _ _ _ _ _ us hl=>by obtain ⟨_,_,rfl⟩ := Mg hl; rfl
 have B_x23:=F_x23.binds (ps:=["hall","paper"]) fun _ _ _ _ _ _ us hl=>by obtain ⟨_,_,rfl⟩ := Mg hl; rfl
 refine ⟨PySem.W.fnOf "law" "law" (As Ii) (Ap Ii) (Aa Ii) .none kV_law dc_law pm_law an_law cd_law ct_law,fun s v=>.of_eq rfl,fun base _ _=>?_⟩
 have G_x19:Al l.prog w K mg base Bv 1 _ _ ["hall"] (Oa K):=de T F_x19
 have G_x24:Al l.prog w K mg base Bv 1 _ _ ["hall","standing"] (Iz K):=gp T F_x24
 have G_x9:Al l.prog w K mg base Bv 1 _ _ ["hall","who"] (Xb K):=kh T F_x9
 have G_x1:Al l.prog w K mg base Bv 2 _ _ ["hall","standing","who","lost"] (Y9 K):=ig T F_x1 G_x9 B_x9 G_x24 B_x24
 have G_x10:Al l.prog w K mg base Bv 3 _ _ ["hall","standing","who","lost"] (S4 K):=cr T F_x10 G_x1 B_x1
 have G_x4:Al l.prog w K mg base Bv 1 _ _ ["hall","standing","lost"] (Wk K):=im T F_x4
 have G_x32:Al l.prog w K mg base Bv 4 _ _ ["hall","standing","who","lost"] (Jl K):=d4 T F_x32 G_x10 B_x10 G_x4 B_x4
 have G_x15:Al l.prog w K mg base Bv 5 _ _ ["hall","standing","who"] (Sj K):=dk T F_x15 G_x24 B_x24 G_x32 B_x32 B_after_d
 have G_x5:Al l.prog w K mg base Bv 1 _ _ ["hall"] (Tz K):=ki T F_x5
 have G_x25:Al l.prog w K mg base Bv 2 _ _ ["hall"] (Rx K):=d6 T F_x25 G_x5 B_x5
 have G_x26:Al l.prog w K mg base Bv 1 _ _ ["waits"] (Tn K):=fm T F_x26
 have G_x20:Al l.prog w K mg base Bv 3 _ _ ["hall"] (To K):=cz T F_x20 G_x26 B_x26 G_x25 B_x25 G_x5 B_x5
 have G_x16:Al l.prog w K mg base Bv 2 _ _ ["hall","standing","answers"] (Rn K):=ff T F_x16 G_x24 B_x24
 have G_x21:Al l.prog w K mg base Bv 5 _ _ ["hall","listed","standing","answers"] (Sy K):=fb T F_x21 G_x32 B_x32 B_after_d
 have G_x11:Al l.prog w K mg base Bv 6 _ _ ["hall","paper"] (Sg K):=dj T F_x11 G_x19 B_x19 G_x21 B_x21 G_x16 B_x16
 have G_x2:Al l.prog w K mg base Bv 6 _ _ ["hall"] (X3 K):=jf T F_x2 G_x20 B_x20 G_x15 B_x15
 have G_x31:Al l.prog w K mg base Bv 1 _ _ ["pending"] (Tc K):=dm T F_x31
 have G_x0:Al l.prog w K mg base Bv 1 _ _ ["pending","ways","ranked"] (Xq K):=il T F_x0
 have G_x33:Al l.prog w K mg base Bv 7 _ _ ["hall"] (Sz K):=gk T F_x33 G_x2 B_x2 G_x31 B_x31 G_x0 B_x0
 have G_x34:Al l.prog w K mg base Bv 1 _ _ ["table","behind"] (Ro K):=cp T F_x34
 have G_x6:Al l.prog w K mg base Bv 5 _ _ ["hall","table","standing","who"] (Xf K):=le T F_x6 G_x34 B_x34 G_x32 B_x32 B_after_d G_x24 B_x24
 have G_x12:Al l.prog w K mg base Bv 6 _ _ ["hall","table","standing"] (Ss K):=bz T F_x12 G_x6 B_x6
 have G_x3:Al l.prog w K mg base Bv 5 _ _ ["hall","standing","answers"] (Y2 K):=kx T F_x3 G_x32 B_x32 B_after_d
 have G_x7:Al l.prog w K mg base Bv 8 _ _ ["hall"] (Yk K):=kc T F_x7 G_x33 B_x33 G_x19 B_x19 G_x12 B_x12 G_x3 B_x3
 have G_x27:Al l.prog w K mg base Bv 1 _ _ ["script","k"] (Sr K):=bp T F_x27
 have G_x28:Al l.prog w K mg base Bv 1 _ _ ["cells"] (Sh K):=dz T F_x28
 have G_x29:Al l.prog w K mg base Bv 2 _ _ ["script"] (Td K):=fz T F_x29 G_x27 B_x27 G_x28 B_x28
 have G_x8:Al l.prog w K mg base Bv 1 _ _ ["hall","cell"] (Wp K):=j8 T F_x8
 have G_x17:Al l.prog w K mg base Bv 1 _ _ ["hall","standing","who","lost"] (Sf K):=fq T F_x17
 have G_x18:Al l.prog w K mg base Bv 1 _ _ ["answers","at"] (Tr K):=d0 T F_x18
 have G_x13:Al l.prog w K mg base Bv 2 _ _ ["entry","way","cell"] (Su K):=f9 T F_x13 G_x18 B_x18
 have G_x14:Al l.prog w K mg base Bv 3 _ _ ["hall","paper","cell"] (Sm K):=fh T F_x14 G_x8 B_x8 G_x13 B_x13
 have G_x22:Al l.prog w K mg base Bv 2 _ _ ["hall","there","standing","answers"] (Tm K):=dc T F_x22 G_x17 B_x17
 have G_x30:Al l.prog w K mg base Bv 3 _ _ ["hall","paper"] (Tt K):=gn T F_x30 G_x22 B_x22
 have G_x23:Al l.prog w K mg base Bv 7 _ _ ["hall","paper"] (Tb K):=fc T F_x23 G_x11 B_x11 G_x30 B_x30
 exact gr T F_law G_x29 B_x29 G_x7 B_x7 G_x23 B_x23 G_x14 B_x14
theorem walk {l : PySem.W.OpenLaw} {q : Program} {loose : List Str} {XP : (Str -> Option Value) -> Heap -> Prop} {YP : World -> Heap -> Prop} {d : DefRec} {K : Params -> PySem.W.Frag} (hn : l.most = some 63) (hdf : d.params.defaults = [])
  (hY:∀ (w:World) (h:Heap),YP w h -> (K w.params).In h)
  (F:∀ (w:World) (mg:Str -> Option Value) (fa:Addr) (h:Heap),(K w.params).In h -> h.Ns mainGlobals mg -> mg d.name = some (.ref fa) ->
   ∃ fd:FuncData,(∀ (s:Shared) (u:Value),BindsTo s fd ⟨[u],[]⟩ [("script",u)]) /\ ∀ base:Heap,(K w.params).In base -> base.Ns mainGlobals mg -> Al l.prog w (K w.params) mg base Bv 9 fa fd ["script"] (Pc (K w.params))) :
  PySem.W.WalkO q loose XP YP l.row.toRowW d [] (fun f vs=>PySem.call f vs) :=
 L2.walk_ofB (n:=63) (k:=9) (x := "script") (CX:=fun _=>Bv) (sp:=fun w=>Pc (K w.params)) hn (by decide) hdf ⟨rfl,by decide,by decide⟩ hY F (fun _ _ a ns hl hb _ hS=>⟨a,ns,rfl,hS,hl,hb,fun _=>rfl⟩) fun _ _ _ _ _ z=>z
end Law
namespace PySem.W.Fast
theorem tw6189007675090879243:True:=trivial
theorem tw14868050106226523930:True:=trivial
theorem tw13250759518032614870:True:=trivial
theorem tw10637710900284714514:True:=trivial
theorem tw13459509126100614470:True:=trivial
theorem tw16796006255162398455:True:=trivial
theorem tw251729047908579232:True:=trivial
theorem tw8376482610196599733:True:=trivial
theorem tw2267206012086308392:True:=trivial
theorem tw17910523988934213805:True:=trivial
theorem tw8607607612005647331:True:=trivial
theorem tw3134669078719499891:True:=trivial
theorem tw12330170574209226168:True:=trivial
theorem tw7083593660159143532:True:=trivial
theorem tw3627409622953481142:True:=trivial
theorem tw7341192949414657746:True:=trivial
theorem tw4048120167022697889:True:=trivial
theorem tw972895678759253853:True:=trivial
theorem tw5721969071509888754:True:=trivial
theorem tw17328552705637185299:True:=trivial
theorem tw14492867699228677943:True:=trivial
theorem tw16403330125023992760:True:=trivial
theorem tw5834311249493707624:True:=trivial
theorem tw11385572629785461437:True:=trivial
theorem tw3304797545591190411:True:=trivial
theorem tw8452161713290416651:True:=trivial
theorem tw14723892241890409213:True:=trivial
theorem tw6694187429027765406:True:=trivial
theorem tw10033752666460028920:True:=trivial
theorem tw2429046629775022827:True:=trivial
theorem tw18170113754980423569:True:=trivial
theorem tw15375348689298621175:True:=trivial
theorem tw3238248791987331117:True:=trivial
theorem tw10603700149628107602:True:=trivial
theorem tw11788515821902970851:True:=trivial
theorem tw12627873708501734781:True:=trivial
theorem tw12271272470974579528:True:=trivial
theorem tw6282343925327125814:True:=trivial
theorem tw7595729418069808426:True:=trivial
theorem tw470375084723554987:True:=trivial
theorem tw1319807714830301055:True:=trivial
theorem tw18226780260758486443:True:=trivial
theorem tw9187037978849543603:True:=trivial
theorem tw11432162730340941112:True:=trivial
theorem tw10916625748984948354:True:=trivial
theorem tw3742039667232956601:True:=trivial
theorem tw11045389596123706384:True:=trivial
theorem tw9011288665259274525:True:=trivial
theorem tw10997424339101902476:True:=trivial
theorem tw14793150256769591019:True:=trivial
theorem tw17105082890295368266:True:=trivial
theorem tw10451237770914355575:True:=trivial
theorem tw3885924967322098022:True:=trivial
theorem tw14985426263567690456:True:=trivial
theorem tw16013473925992898838:True:=trivial
theorem tw9920747638093061168:True:=trivial
theorem tw15141001045115901481:True:=trivial
theorem tw4420681513847656332:True:=trivial
theorem tw14363891992451143107:True:=trivial
theorem tw4909204979514770935:True:=trivial
theorem tw1758977405726351339:True:=trivial
theorem tw2370015568235266452:True:=trivial
theorem tw5784498729844644951:True:=trivial
theorem tw3244001343485003574:True:=trivial
theorem tw14518964978968176767:True:=trivial
theorem tw12715326095969428950:True:=trivial
theorem tw11044828699091798478:True:=trivial
theorem tw18078069148276988997:True:=trivial
theorem tw16500575081914163413:True:=trivial
theorem tw12327684411862868394:True:=trivial
theorem tw16696441899488972676:True:=trivial
theorem tw11214181867355272897:True:=trivial
theorem tw15088436750388784842:True:=trivial
theorem tw11776966563050374010:True:=trivial
theorem tw18319694769997373015:True:=trivial
theorem tw18304372504032355228:True:=trivial
theorem tw10188546080380303612:True:=trivial
theorem tw534241842607855478:True:=trivial
theorem tw6877466634718937044:True:=trivial
theorem tw234234572221429111:True:=trivial
theorem tw10039819689020877499:True:=trivial
theorem tw8210173194741828955:True:=trivial
theorem tw15496775109366123898:True:=trivial
theorem tw13564529784139827890:True:=trivial
theorem tw5159812522163744473:True:=trivial
end PySem.W.Fast
open PySem PySem.W PyProof.Rows
set_option maxRecDepth 100000 in
set_option maxHeartbeats 0 in
theorem PySem.Challenge.cw_roundcall_k36_broken_papers_let_by_holds : PySem.Challenge.rw_roundcall_k36_broken_papers_let_by.Holds := by
 w_on; o_law; k_head; (case hw=>w_witness2)
 k_fill
 refine Law.walk (l:=PySem.Challenge.rw_roundcall_k36_broken_papers_let_by) rfl rfl (fun w h Y=>PySem.W.kIn_of Y) ?F
 case F =>
  intro w mg fa h KX G hmg
  refine' Law.all_mk KX G hmg ?_ ?_ ?_ ?_ ?_ ?_ ?_ ?_ ?_ ?_ ?_ ?_ ?_ ?_ ?_ ?_ ?_ ?_ ?_ ?_ ?_ ?_ ?_ ?_ ?_ ?_ ?_ ?_ ?_ ?_ ?_ ?_ ?_ ?_ ?_ ?_ ?_ ?_ ?_ ?_ ?_ ?_ ?_ ?_ ?_ ?_ ?_ ?_ ?_ ?_ ?_ ?_ ?_ ?_ ?_ ?_ ?_ ?_ ?_ ?_ ?_ ?_ ?_ ?_ ?_ ?_ ?_ ?_ ?_ ?_ ?_ ?_ ?_ ?_ ?_ ?_ ?_ ?_ ?_ ?_ ?_ ?_ ?_ ?_ ?_ ?_ ?_ ?_ ?_ ?_ ?_ ?_ ?_ ?_ ?_ ?_ ?_ ?_ ?_ ?_ ?_ ?_ ?_ ?_ ?_ ?_ ?_ ?_ ?_ ?_ ?_ ?_ ?_ ?_ ?_ ?_ ?_ ?_ ?_ ?_ ?_ ?_ ?_ ?_ ?_ ?_ ?_ ?_ ?_ ?_ ?_ ?_ ?_ ?_ ?_ ?_ ?_ ?_ ?_ ?_ ?_ ?_ ?_ ?_ ?_ ?_ ?_ ?_ ?_ ?_ ?_ ?_ ?_ ?_ ?_ ?_ ?_
  all_goals (try k_is)
