import PyProof.Rows.All
import Wide.All
import OpenK.AllK
import Wide.FinOn
import Lean
import PyProof.EqAt
import PyProof.EqKinds
import PyProof.TupleCall
import PySem.Challenge.RW_roundcall_k34_all_that_is_come_to
/-! THE HAND LAYER, for ints, bools, texts, own classes, LISTS and tuples (index, slices, in, append, pop ..), calls, loops. Paste it whole ahead of your own text; what your proof does not reach may be deleted. -/
set_option Elab.async false
set_option linter.all false
set_option maxRecDepth 100000
set_option maxHeartbeats 4000000
set_option bootstrap.genMatcherCode false
namespace L2
local macro_rules | `(tactic| omega) => `(tactic| lia)
open PySem PySem.Spec PyProof.Rows
noncomputable abbrev E4:=Sum Int Str
noncomputable def Ic:E4 -> Value -> Bool
 | .inl k,v=>Value.isInt k v
 | .inr x,v=>Value.isStrOf x v
noncomputable def lw (w:World):E4 -> Int
 | .inl k=>hashInt k
 | .inr x=>hashStr w x
theorem Ca:∀ {k:E4} {v:Value},Ic k v = true -> (∃ i t,k = Sum.inl i /\ v = Value.int i t) \/ (∃ x t,k = Sum.inr x /\ v = Value.str x t)
 | .inl i,v,h=>by
  obtain ⟨t,e⟩ := Value.isInt_shape (k:=i) (v:=v) h
  exact .inl ⟨i,t,rfl,e⟩
 | .inr x,v,h=>by
  obtain ⟨t,e⟩ := Value.isStrOf_shape (x:=x) (v:=v) h
  exact .inr ⟨x,t,rfl,e⟩
theorem V0 (i:Int) (t:Tok):Ic (.inl i) (.int i t) = true:=by simp [Ic,Value.isInt]
theorem V5 (x:Str) (t:Tok):Ic (.inr x) (.str x t) = true:=by simp [Ic,Value.isStrOf]
theorem du (a b:Int):decide ((Sum.inl a:E4) = Sum.inl b) = (a == b):=by
 by_cases e:a = b
 ·subst e; simp
 ·have h:¬ (Sum.inl a:E4) = Sum.inl b:=fun q=>e (Sum.inl.inj q)
  rw [decide_eq_false h]
  exact (beq_eq_false_iff_ne.mpr e).symm
theorem eh (a b:Str):decide ((Sum.inr a:E4) = Sum.inr b) = decide (a = b):=by
 by_cases e:a = b
 ·subst e; simp
 ·have h:¬ (Sum.inr a:E4) = Sum.inr b:=fun q=>e (Sum.inr.inj q)
  rw [decide_eq_false h,decide_eq_false e]
theorem fb (a:Int) (b:Str):decide ((Sum.inl a:E4) = Sum.inr b) = false:=decide_eq_false (fun q=>nomatch q)
theorem c9 (a:Str) (b:Int):decide ((Sum.inr a:E4) = Sum.inl b) = false:=decide_eq_false (fun q=>nomatch q)
noncomputable def D7 (prog:Program) (w:World):PySem.KeyKind prog w E4 where
 is:=Ic
 hash:=lw w
 inj:=fun v a b ha hb=>by
  rcases Ca ha with ⟨i,t,rfl,rfl⟩ | ⟨x,t,rfl,rfl⟩
  ·rcases Ca hb with ⟨j,u,rfl,e⟩ | ⟨y,u,rfl,e⟩
   ·injection e with e1 _; rw [e1]
   ·exact nomatch e
  ·rcases Ca hb with ⟨j,u,rfl,e⟩ | ⟨y,u,rfl,e⟩
   ·exact nomatch e
   ·injection e with e1 _; rw [e1]
 byValue:=fun k v h=>by
  rcases Ca h with ⟨i,t,rfl,rfl⟩ | ⟨x,t,rfl,rfl⟩ <;> rfl
 pyHash:=fun hv h=>by
  rcases Ca hv with ⟨i,t,rfl,rfl⟩ | ⟨x,t,rfl,rfl⟩
  ·exact wpAny_pyHash_int h
  ·exact wpAny_pyHash_str h
 eqBool:=fun hu hv h=>by
  rcases Ca hu with ⟨i,t,rfl,rfl⟩ | ⟨x,t,rfl,rfl⟩
  ·rcases Ca hv with ⟨j,u,rfl,rfl⟩ | ⟨y,u,rfl,rfl⟩
   ·rw [du] at h; exact wpAny_eqBool_int h
   ·rw [fb] at h; exact SeqAt.EqAt.int_str i t y u _ _ _ _ h
  ·rcases Ca hv with ⟨j,u,rfl,rfl⟩ | ⟨y,u,rfl,rfl⟩
   ·rw [c9] at h; exact SeqAt.EqAt.str_int x t j u _ _ _ _ h
   ·rw [eh] at h; exact wpAny_eqBool_str h
 «strs» := fun k x t v h=>by
  rcases Ca h with ⟨i,u,rfl,e⟩ | ⟨y,u,rfl,e⟩
  ·exact nomatch e
  ·injection e with e1 _
   subst e1
   cases v <;> rfl
theorem Q8 (prog:Program) (w:World) (i:Int) (t:Tok):(D7 prog w).is (.inl i) (.int i t) = true:=V0 i t
theorem Q3 (prog:Program) (w:World) (x:Str) (t:Tok):(D7 prog w).is (.inr x) (.str x t) = true:=V5 x t
inductive V where
 | non | bl (b:Bool) | int (i:Int) | str (x:Str) | byt (b:Array UInt8) | flt (b:UInt64) | ref (a:Addr) | ty (n:String)
 deriving DecidableEq
noncomputable def Ax:V -> Value -> Prop
 | .non,u=>u = Value.none
 | .bl b,u=>u = Value.bool b
 | .int i,u=>∃ t,u = Value.int i t
 | .str x,u=>∃ t,u = Value.str x t
 | .byt b,u=>∃ t,u = Value.bytes b t
 | .flt b,u=>∃ t,u = Value.float b t
 | .ref a,u=>u = Value.ref a
 | .ty n,u=>u = Value.type n
noncomputable abbrev B6:List V -> List Value -> Prop:=Paired Ax
theorem B6.length {xs:List V} {us:List Value} (r:B6 xs us):xs.length = us.length:=Paired.length r
theorem B6.get:∀ {xs:List V} {us:List Value} {i:Nat} {x:V},B6 xs us -> xs[i]? = some x -> ∃ u,us[i]? = some u /\ Ax x u
 | _,_,_,_,.nil,e=>by simp at e
 | _,_,0,_,.cons r _,e=>by simp at e; subst e; exact ⟨_,rfl,r⟩
 | _,_,i + 1,x,.cons _ t,e=>by
  obtain ⟨u,h1,h2⟩ := B6.get (i:=i) (x:=x) t (by simpa using e)
  exact ⟨u,by simpa using h1,h2⟩
theorem B6.set {x:V} {u:Value} (r:Ax x u):∀ {xs:List V} {us:List Value} (i:Nat),B6 xs us -> B6 (xs.set i x) (us.set i u)
 | _,_,_,.nil=>.nil
 | _,_,0,.cons _ t=>.cons r t
 | _,_,i + 1,.cons q t=>.cons q (B6.set r i t)
theorem B6.append {xs ys:List V} {us ws:List Value} (h:B6 xs us) (s:B6 ys ws):B6 (xs ++ ys) (us ++ ws):=by
 induction h with
 | nil=>exact s
 | cons r t ih=>exact .cons r ih
theorem B6.take:∀ {xs:List V} {us:List Value} (n:Nat),B6 xs us -> B6 (xs.take n) (us.take n)
 | _,_,0,_=>.nil
 | _,_,_ + 1,.nil=>.nil
 | _,_,n + 1,.cons r t=>.cons r (B6.take n t)
theorem B6.drop:∀ {xs:List V} {us:List Value} (n:Nat),B6 xs us -> B6 (xs.drop n) (us.drop n)
 | _,_,0,r=>r
 | _,_,_ + 1,.nil=>.nil
 | _,_,n + 1,.cons _ t=>B6.drop n t
noncomputable def Hl:Option V -> Option Value -> Prop
 | some v,some u=>Ax v u
 | none,none=>True
 | _,_=>False
noncomputable def KV {κ:Type}:List (κ × V) -> List (κ × Value) -> Prop:=Paired fun (p:κ × V) (q:κ × Value)=>p.1 = q.1 /\ Ax p.2 q.2
noncomputable def kV:E4 -> V
 | .inl i=>.int i
 | .inr x=>.str x
section
variable {prog:Program} {w:World}
noncomputable def Cy (prog:Program) (w:World) (h:Heap) (k:List Int × Int) (a:Addr):Prop :=
 ∃ o n u t,h.get? a = some o /\ o.cls = .type "tuple" /\ o.data = .seq #[.ref u,.int k.2 t] n /\ IsTupleKey (intKind prog w) h k.1 u
theorem Cy.typeIs {s:Shared} {k:List Int × Int} {a:Addr} (x:Cy prog w s.heap k a):s.TypeIs (.ref a) "tuple" := let ⟨o,_,_,_,ho,hc,_⟩ := x; ⟨o,ho,hc⟩
theorem Cy.inj {h:Heap} {a:Addr} {x y:List Int × Int} (hx:Cy prog w h x a) (hy:Cy prog w h y a):x = y:=by
 obtain ⟨o,n,u,t,ho,_,hd,hi⟩ := hx
 obtain ⟨o',n',u',t',ho',_,hd',hi'⟩ := hy
 obtain rfl:o = o':=Option.some.inj (ho.symm.trans ho')
 rw [hd] at hd'
 injection hd' with h1 _
 simp only [Array.mk.injEq,List.cons.injEq,Value.ref.injEq,Value.int.injEq,and_true] at h1
 obtain ⟨rfl,h2,_⟩ := h1
 exact Prod.ext (hi.inj hi') h2
theorem Cy.keeps {h h':Heap} {k:List Int × Int} {a d:Addr} {o:Obj} {es ep} (x:Cy prog w h k a) (ho:h.get? d = some o) (hd:o.data = .dict es ep) (hs:Heap.SameBut d h h'):Cy prog w h' k a:=by
 obtain ⟨o',n,u,t,ho',hc,hd',hi⟩ := x
 have hne:a ≠ d:=by
  rintro rfl
  obtain rfl:o' = o:=Option.some.inj (ho'.symm.trans ho)
  rw [hd] at hd'
  exact nomatch hd'
 exact ⟨o',n,u,t,(hs.2 a hne).trans ho',hc,hd',hi.keeps ho hd hs⟩
noncomputable def Jg (prog:Program) (w:World) (k:List Int × Int):Int:=reduceHash (Builtin.Tuple.tupleHashOf [tupleKeyHash (intKind prog w) k.1,(intKind prog w).hash k.2])
theorem Rz {A : Around} {E : Value -> Shared -> Prop} {s : Shared} {k : List Int × Int} {a : Addr} {Q : Int -> Shared -> Prop} (hu : A.units + 8 < cLine) (hk : Cy prog w s.heap k a) (h : Q (Jg prog w k) { s with toks := s.toks + (k.1.length + 3) }) :
  wpAny (model prog w) A (pyHash (.ref a)) Q E s:=by
 have hT:=hk.typeIs
 obtain ⟨o,n,u,t,ho,_,hd,hi⟩ := hk
 unfold pyHash
 first | unfold pyHashByItsType | skip
 first | refine wpAny_bind (wpAny_cRoomFor_or (.inr (by omega)) ?_) | skip
 refine wpAny_bind (wpAny_specialOf hT F.slot_tuple_hash.lookup ?_)
 show wpAny _ _ (if (some (Value.builtin "tuple.__hash__") == some Value.none) = true then _ else _) Q E s
 rw [if_neg (by rw [beq_builtin_none]; exact Bool.false_ne_true)]
 refine wpAny_bind (wpAny_specialOf hT F.slot_tuple_hash.lookup ?_)
 show wpAny _ _ (callSpecialIfBoundUnlessNone? (.ref a) "__hash__" _ >>= _) Q E s
 refine wpAny_bind (wpAny_callSpecialIfBoundUnlessNone?_slot hT F.slot_tuple_hash (wpAny_call_entry F.slot_tuple_hash hT F.entry_tuple_hash ?_ (F.args_tuple_hash_1 _)))
 show wpAny _ _ (Builtin.Tuple.tupleItemsOf (.ref a) >>= _) _ _ s
 refine wpAny_bind (wpAny_tupleItemsOf ho hd ?_)
 refine wpAny_bind ?_
 rw [<- Array.forIn_toList]
 show wpAny _ _ (forIn [Value.ref u,Value.int k.2 t] _ _) _ _ _
 rw [List.forIn_cons]
 have hin:A.in1.units < cLine:=by
  first | (show A.units + 1 < cLine; omega) | (show A.units < cLine; omega) | (simp only [Around.in1]; omega)
 refine wpAny_bind (wpAny_bind (wpAny_pyHash_tuple (knd:=intKind prog w) hin hi ?_))
 refine wpAny_pure ?_
 show wpAny _ _ (forIn [Value.int k.2 t] _ _) _ _ _
 rw [List.forIn_cons]
 refine wpAny_bind (wpAny_bind ((intKind prog w).pyHash (k:=k.2) (by simp [intKind,Value.isInt]) ?_))
 refine wpAny_pure ?_
 show wpAny _ _ (forIn [] _ _) _ _ _
 rw [List.forIn_nil]
 refine wpAny_pure ?_
 show wpAny _ _ (retInt (Builtin.Tuple.tupleHashOf [tupleKeyHash (intKind prog w) k.1,(intKind prog w).hash k.2])) _ _ _
 refine wpAny_ret_mkInt ?_
 generalize e:Builtin.Tuple.tupleHashOf [tupleKeyHash (intKind prog w) k.1,(intKind prog w).hash k.2] = z
 show wpAny _ _ (if (decide (-(2:Int) ^ 63 <= z) && decide (z < 2 ^ 63)) = true then _ else _) Q E _
 unfold Jg reduceHash at h
 rw [e] at h
 by_cases hr:(decide (-(2:Int) ^ 63 <= z) && decide (z < 2 ^ 63)) = true
 ·rw [if_pos hr]
  rw [if_pos hr] at h
  exact wpAny_pure (by simpa [Nat.add_assoc] using h)
 ·rw [if_neg hr]
  rw [if_neg hr] at h
  exact wpAny_bind (wpAny_rule (wpAny_pure (by simpa [Nat.add_assoc] using h)))
theorem Xd {A : Around} {E : Value -> Shared -> Prop} {s : Shared} {x y : List Int × Int} {a b : Addr} {Q : Bool -> Shared -> Prop} (hu : A.units + 8 < cLine) (hx : Cy prog w s.heap x a) (hy : Cy prog w s.heap y b) (h : Q (decide (x = y)) s) :
  wpAny (model prog w) A (eqBool (.ref a) (.ref b)) Q E s:=by
 unfold eqBool
 try with_reducible refine wpAny_holding ?_
 show wpAny _ _ (if (Value.ref a == Value.ref b) = true then _ else _) Q E s
 by_cases hab:(Value.ref a == Value.ref b) = true
 ·rw [if_pos hab]
  have e:a = b:=by have:=eq_of_beq hab; injection this
  subst e
  obtain rfl:=hx.inj hy
  exact wpAny_bind (wpAny_rule (wpAny_pure (by simpa using h)))
 ·rw [if_neg hab]
  refine wpAny_bind (wpAny_richCompare_same_room (op := .Eq) hx.typeIs hy.typeIs F.slot_tuple_eq
   (wpAny_call_entry F.slot_tuple_eq hx.typeIs F.entry_tuple_eq ?_ (F.args_tuple_eq_2 _ _)) (by omega))
  have hTb:=hy.typeIs
  obtain ⟨oa,na,ua,ta,hoa,_,hda,hia⟩ := hx
  obtain ⟨ob,nb,ub,tb,hob,_,hdb,hib⟩ := hy
  show wpAny _ _ (isInstance (.ref b) (.type "tuple") >>= _) _ _ s
  refine wpAny_bind (wpAny_isInstance hTb isSubtype_tuple_tuple ?_)
  simp only [Bool.not_true,Bool.false_eq_true,if_false]
  refine wpAny_bind (wpAny_tupleItemsOf hoa hda ?_)
  refine wpAny_bind (wpAny_tupleItemsOf hob hdb ?_)
  refine wpAny_bind ?_
  show wpAny _ _ (forIn [(Value.ref ua,Value.ref ub),(Value.int x.2 ta,Value.int y.2 tb)] _ _) _ _ _
  rw [List.forIn_cons]
  have hin:A.in1.units < cLine:=by
   first | (show A.units + 1 < cLine; omega) | (show A.units < cLine; omega) | (simp only [Around.in1]; omega)
  refine wpAny_bind (wpAny_bind (wpAny_eqBool_tuple (knd:=intKind prog w) hin hia hib ?_))
  by_cases h1:x.1 = y.1
  ·rw [decide_eq_true h1]
   simp only [Bool.not_true,Bool.false_eq_true,if_false]
   refine wpAny_pure ?_
   show wpAny _ _ (forIn [(Value.int x.2 ta,Value.int y.2 tb)] _ _) _ _ _
   rw [List.forIn_cons]
   refine wpAny_bind (wpAny_bind ((intKind prog w).eqBool (a:=x.2) (b:=y.2) (by simp [intKind,Value.isInt]) (by simp [intKind,Value.isInt]) ?_))
   by_cases h2:x.2 = y.2
   ·rw [decide_eq_true h2]
    simp only [Bool.not_true,Bool.false_eq_true,if_false]
    refine wpAny_pure ?_
    show wpAny _ _ (forIn [] _ _) _ _ _
    rw [List.forIn_nil]
    refine wpAny_pure ?_
    have e:decide (x = y) = true:=decide_eq_true (Prod.ext h1 h2)
    rw [e] at h
    exact wpAny_pure ⟨_,rfl,(fun e=>nomatch e),wpAny_truthy_bool h⟩
   ·rw [decide_eq_false h2]
    simp only [Bool.not_false,if_true]
    have e:decide (x = y) = false:=decide_eq_false fun z=>h2 (by rw [z])
    rw [e] at h
    exact wpAny_bind (wpAny_pure (wpAny_pure (wpAny_pure (wpAny_pure ⟨_,rfl,(fun e=>nomatch e),wpAny_truthy_bool h⟩))))
  ·rw [decide_eq_false h1]
   simp only [Bool.not_false,if_true]
   have e:decide (x = y) = false:=decide_eq_false fun z=>h1 (by rw [z])
   rw [e] at h
   exact wpAny_bind (wpAny_pure (wpAny_pure (wpAny_pure (wpAny_pure ⟨_,rfl,(fun e=>nomatch e),wpAny_truthy_bool h⟩))))
theorem b9 {A:Around} {E:Value -> Shared -> Prop} {s:Shared} {ks:List Int} {a:Addr} {Q:Bool -> Shared -> Prop} (hk:IsTupleKey (intKind prog w) s.heap ks a) (h:Q true s):wpAny (model prog w) A (eqIsQuiet 7 (.ref a)) Q E s:=by
 have hT:=hk.typeIs
 obtain ⟨o,items,n,ho,_,hd,hi⟩ := hk
 unfold eqIsQuiet
 refine wpAny_bind (wpAny_specialOf hT F.slot_tuple_eq.lookup ?_)
 show wpAny _ _ (isInstance (.ref a) (.type "tuple") >>= _) _ _ s
 refine wpAny_bind (wpAny_isInstance hT isSubtype_tuple_tuple ?_)
 simp only [Bool.not_true,Bool.false_eq_true,if_false]
 refine wpAny_bind (wpAny_seqItems ho hd ?_)
 refine wpAny_bind ?_
 show wpAny _ _ (forIn items _ _) _ _ s
 rw [<- Array.forIn_toList]
 refine wpAny_forIn_list _ (fun rest r s'=>r.1 = none /\ s' = s /\ ∀ v ∈ rest,carriedByValue v = true) _ ?_ ?_ _ _ ⟨rfl,rfl,hi.byValue⟩
 ·rintro v rest r s' ⟨hr,rfl,hall⟩
  rw [eqIsQuiet_byValue _ (hall v List.mem_cons_self)]
  refine wpAny_bind (wpAny_pure ?_)
  simp only [Bool.not_true,Bool.false_eq_true,if_false]
  exact wpAny_pure ⟨rfl,rfl,fun u hu'=>hall u (List.mem_cons_of_mem _ hu')⟩
 ·rintro ⟨r1,r2⟩ s' ⟨hr,rfl,_⟩
  simp only at hr
  subst hr
  exact wpAny_pure h
theorem Qq {A:Around} {E:Value -> Shared -> Prop} {s:Shared} {k:List Int × Int} {a:Addr} {Q:Bool -> Shared -> Prop} (hk:Cy prog w s.heap k a) (h:Q true s):wpAny (model prog w) A (eqIsQuiet 8 (.ref a)) Q E s:=by
 have hT:=hk.typeIs
 obtain ⟨o,n,u,t,ho,_,hd,hi⟩ := hk
 unfold eqIsQuiet
 refine wpAny_bind (wpAny_specialOf hT F.slot_tuple_eq.lookup ?_)
 show wpAny _ _ (isInstance (.ref a) (.type "tuple") >>= _) _ _ s
 refine wpAny_bind (wpAny_isInstance hT isSubtype_tuple_tuple ?_)
 simp only [Bool.not_true,Bool.false_eq_true,if_false]
 refine wpAny_bind (wpAny_seqItems ho hd ?_)
 refine wpAny_bind ?_
 show wpAny _ _ (forIn #[Value.ref u,Value.int k.2 t] _ _) _ _ s
 rw [<- Array.forIn_toList]
 show wpAny _ _ (forIn [Value.ref u,Value.int k.2 t] _ _) _ _ s
 rw [List.forIn_cons]
 refine wpAny_bind (wpAny_bind (b9 hi ?_))
 simp only [Bool.not_true,Bool.false_eq_true,if_false]
 refine wpAny_pure ?_
 show wpAny _ _ (forIn [Value.int k.2 t] _ _) _ _ s
 rw [List.forIn_cons,eqIsQuiet_byValue _ rfl]
 refine wpAny_bind (wpAny_bind (wpAny_pure ?_))
 simp only [Bool.not_true,Bool.false_eq_true,if_false]
 refine wpAny_pure ?_
 show wpAny _ _ (forIn [] _ _) _ _ s
 rw [List.forIn_nil]
 exact wpAny_pure (wpAny_pure h)
noncomputable def C9 (prog:Program) (w:World):HeapKind prog w (List Int × Int) where
 is:=Cy prog w
 hash:=Jg prog w
 draws:=fun k=>k.1.length + 3
 room:=fun A=>A.units + 8 < cLine
 inj:=fun hx hy=>hx.inj hy
 keeps:=fun x ho hd hs=>x.keeps ho hd hs
 pyHash:=fun hu hk h=>Rz hu hk h
 eqBool:=fun hu hx hy h=>Xd hu hx hy h
 quiet:=fun hk h=>Qq hk h
end
set_option genInjectivity false in
set_option genSizeOf false in
inductive HO where
  | lst (xs:List V)
  | tup (xs:List V)
  | dK (kvs:List (E4 × V)) | dT (kvs:List ((List Int × Int) × V))
  | set (S:Int -> Bool) (n:Nat)
  | ins (C dx:Addr) (fs:List (Str × V))
  | own (x:Addr)
  | xd (fs:List (Str × V))
  | met (f x:Addr)
  | rng (lo hi:Int)
  | frz (o:Obj) (u:HO)
  | tbl (ps:Array Value)
  | ext (φ:Heap -> Prop)
noncomputable abbrev Hp:=Addr -> Option HO
noncomputable def E2 (H:Hp) (b:Addr) (k:List Int × Int):Prop := ∃ u,H b = some (.tup [.ref u,.int k.2]) /\ H u = some (.tup (k.1.map V.int))
theorem E2.up {H H2:Hp} {b:Addr} {k:List Int × Int} (ht:∀ b xs,H b = some (.tup xs) -> H2 b = some (.tup xs)) (h:E2 H b k):E2 H2 b k:=let ⟨u,a1,a2⟩ := h; ⟨u,ht _ _ a1,ht _ _ a2⟩
noncomputable def upd (H:Hp) (a:Addr) (o:HO):Hp:=fun b=>if b = a then some o else H b
theorem A5 {H:Hp} {a:Addr} {o:HO}:upd H a o a = some o:=by unfold upd; rw [if_pos rfl]
theorem Ac {H:Hp} {a b:Addr} {o:HO} (h:b ≠ a):upd H a o b = H b:=by unfold upd; rw [if_neg h]
theorem Bl {H:Hp} {a b:Addr} {o u:HO} (h:H a = some o) (h':H b = some u) (d:o ≠ u):a ≠ b:=by
 intro e; subst e; rw [h] at h'; exact d (Option.some.inj h')
theorem Ah {H:Hp} {a b:Addr} {o:HO} (h:H a = some o) (h':H b = none):a ≠ b:=by
 intro e; subst e; rw [h] at h'; cases h'
section
variable (P:Program) (w:World)
noncomputable def Br (H:Hp) (h:Heap) (a:Addr):HO -> Prop
 | .lst xs=>xs.length <= sizeLine /\ ∃ (its:List Value) (n:Nat),B6 xs its /\ h.get? a = some { cls := .type "list",data := .seq its.toArray n }
 | .tup xs=>(xs.length <= sizeLine /\ ∃ o,h.get? a = some o /\ o.dict = none) /\ ∃ its:List Value,B6 xs its /\ IsTup h a its.toArray
 | .dK kvs=>kvs.length <= sizeLine /\ (a == sysModules) = false /\ ∃ vs,KV kvs vs /\ h.DictOf (D7 P w) a vs
 | .dT kvs => kvs.length <= sizeLine /\ (a == sysModules) = false /\ ∃ xs : List ((List Int × Int) × Addr × Value),
   Paired (fun (p:(List Int × Int) × V) (q:(List Int × Int) × Addr × Value)=>p.1 = q.1 /\ E2 H q.2.1 p.1 /\ Ax p.2 q.2.2) kvs xs /\
   ∃ o es ep,h.get? a = some o /\ o.ExactDict /\ o.data = .dict es ep /\ es.toList = xs.map (entryOfKey (C9 P w)) /\ (xs.map (·.1)).Nodup
 | .set S n=>h.SetOf (intKind P w) a S n
 | .ins C dx fs => H dx = some (.own a) /\ fs.length <= 1000 /\ dx ≠ a /\ h.get? a = some (PySem.W.instObj C dx) /\
   ∃ mA,h.Ns1 dx mA /\ (∀ f,Hl (fs.lookup f) (mA f)) /\ PySem.Within mA (fs.map (·.1))
 | .own _=>∃ o,h.get? a = some o
 | .xd fs=>∃ mA,h.Ns1 a mA /\ ∀ f,Hl (fs.lookup f) (mA f)
 | .rng lo hi=>∃ t u v,h.get? a = some { cls := .type "range",data := .fields #[.int lo t,.int hi u,.int 1 v] }
 | .frz o u=>h.get? a = some o /\ Br H h a u
 | .tbl ps=>h.get? a = some { cls := .none,data := .fields ps }
 | .met f x=>h.get? a = some (PySem.W.methodObj (.ref f) (.ref x))
 | .ext φ=>φ h /\ (∃ o,h.get? a = some o) /\ ∀ h1 h2:Heap,φ h1 -> (∀ o,h1.get? a = some o -> h2.get? a = some o) -> φ h2
noncomputable def Hj (H:Hp) (h:Heap):Prop := ∀ a o,H a = some o -> Br P w H h a o
end
section
variable {P:Program} {w:World} {H H':Hp} {h h':Heap} {a:Addr} {o:HO}
theorem Br.lt (x:Br P w H h a o):a < h.objs.size:=by
 cases o with
 | lst xs=>obtain ⟨_,_,_,_,e⟩ := x; exact Heap.lt_size e
 | tup xs=>obtain ⟨_,_,_,p⟩ := x; exact p.lt
 | dK kvs=>obtain ⟨_,_,_,_,o,_,_,e,_⟩ := x; exact Heap.lt_size e
 | dT kvs=>obtain ⟨_,_,_,_,o,_,_,e,_⟩ := x; exact Heap.lt_size e
 | set S n=>obtain ⟨o,_,_,_,e,_⟩ := x; exact Heap.lt_size e
 | ins C dx fs=>obtain ⟨_,_,_,e,_⟩ := x; exact Heap.lt_size e
 | own y=>obtain ⟨_,e⟩ := x; exact Heap.lt_size e
 | xd fs=>obtain ⟨_,⟨_,_,_,e,_⟩,_⟩ := x; exact Heap.lt_size e
 | rng lo hi=>obtain ⟨_,_,_,e⟩ := x; exact Heap.lt_size e
 | frz ob u=>obtain ⟨e,_⟩ := x; exact Heap.lt_size e
 | tbl ps=>exact Heap.lt_size (show h.get? a = some _ from x)
 | met f y=>exact Heap.lt_size (show h.get? a = some _ from x)
 | ext φ=>obtain ⟨_,⟨_,e⟩,_⟩ := x; exact Heap.lt_size e
theorem Paired.mapP {α β:Type} {F G:α -> β -> Prop} {l₁:List α} {l₂:List β} (h:Paired F l₁ l₂) (f:∀ a b,F a b -> G a b):Paired G l₁ l₂:=by
 induction h with
 | nil=>exact .nil
 | cons r t ih=>exact .cons (f _ _ r) ih
theorem Br.stay (x : Br P w H h a o) (k : ∀ b u, (b = a \/ H b = some (.own a)) -> h.get? b = some u -> h'.get? b = some u)
  (ho:∀ b,H b = some (.own a) -> H' b = some (.own a)) (ht:∀ b xs,H b = some (.tup xs) -> H' b = some (.tup xs)):Br P w H' h' a o:=by
 induction o with
 | lst xs=>obtain ⟨z,its,n,r,e⟩ := x; exact ⟨z,its,n,r,k _ _ (.inl rfl) e⟩
 | tup xs=>obtain ⟨z,its,r,ob,e,c⟩ := x; exact ⟨⟨z.1,let ⟨o,e2,d⟩ := z.2; ⟨o,k _ _ (.inl rfl) e2,d⟩⟩,its,r,ob,k _ _ (.inl rfl) e,c⟩
 | dK kvs=>obtain ⟨z,y,vs,r,ob,es,ep,e,c⟩ := x; exact ⟨z,y,vs,r,ob,es,ep,k _ _ (.inl rfl) e,c⟩
 | dT kvs =>
  obtain ⟨z,y,xs,r,ob,es,ep,e,c⟩ := x
  exact ⟨z,y,xs,Paired.mapP r fun p q z=>⟨z.1,z.2.1.up ht,z.2.2⟩,ob,es,ep,k _ _ (.inl rfl) e,c⟩
 | set S n=>obtain ⟨ob,es,ep,t,e,c⟩ := x; exact ⟨ob,es,ep,t,k _ _ (.inl rfl) e,c⟩
 | ins C dx fs =>
  obtain ⟨d,z,ne,e,mA,⟨od,es,ep,e2,c⟩,r⟩ := x
  exact ⟨ho _ d,z,ne,k _ _ (.inl rfl) e,mA,⟨od,es,ep,k _ _ (.inr d) e2,c⟩,r⟩
 | own y=>obtain ⟨ob,e⟩ := x; exact ⟨ob,k _ _ (.inl rfl) e⟩
 | xd fs=>obtain ⟨mA,⟨od,es,ep,e,c⟩,r⟩ := x; exact ⟨mA,⟨od,es,ep,k _ _ (.inl rfl) e,c⟩,r⟩
 | rng lo hi=>obtain ⟨t,u,v,e⟩ := x; exact ⟨t,u,v,k _ _ (.inl rfl) e⟩
 | frz ob u ih=>obtain ⟨e,q⟩ := x; exact ⟨k _ _ (.inl rfl) e,ih q⟩
 | tbl ps =>
  have e:h.get? a = some { cls := .none,data := .fields ps }:=x
  show h'.get? a = some { cls := .none,data := .fields ps }
  exact k a _ (.inl rfl) e
 | met f y =>
  have e:h.get? a = some (PySem.W.methodObj (.ref f) (.ref y)):=x
  show h'.get? a = some (PySem.W.methodObj (.ref f) (.ref y))
  exact k a _ (.inl rfl) e
 | ext φ=>obtain ⟨p,⟨o,e⟩,st⟩ := x; exact ⟨st _ _ p fun o q=>k _ _ (.inl rfl) q,⟨o,k _ _ (.inl rfl) e⟩,st⟩
theorem Hj.lt (x:Hj P w H h) (e:H a = some o):a < h.objs.size:=(x a o e).lt
theorem Hj.fresh (x:Hj P w H h) (e:h.objs.size <= a):H a = none:=by
 cases q:H a with
 | none=>rfl
 | some u=>exact absurd (Nat.lt_of_lt_of_le (x.lt q) e) (Nat.lt_irrefl _)
theorem Hj.kept (x:Hj P w H h) (k:∀ b u,h.get? b = some u -> h'.get? b = some u):Hj P w H h':=fun a o e =>
 (x a o e).stay (fun b u _ q=>k b u q) (fun _ q=>q) fun _ _ q=>q
theorem Hj.laid (x:Hj P w H h) (k:∀ b u,h.get? b = some u -> h'.get? b = some u) (hp:h.objs.size <= a) (new:Br P w (upd H a o) h' a o):Hj P w (upd H a o) h':=fun b u e=>by
 have hn:=x.fresh hp
 by_cases hb:b = a
 ·subst hb; rw [A5] at e; cases e; exact new
 ·rw [Ac hb] at e
  exact (x b u e).stay (fun c v _ q=>k c v q) (fun c q=>by rw [Ac (Ah q hn)]; exact q) fun c xs q=>by rw [Ac (Ah q hn)]; exact q
end
noncomputable def Rd (H:Hp) (a:Addr) (u:HO):Prop:=H a = some u \/ ∃ o,H a = some (.frz o u)
theorem Rd.ok {P:Program} {w:World} {H:Hp} {h:Heap} {a:Addr} {u:HO} (r:Rd H a u) (x:Hj P w H h):Br P w H h a u:=by
 rcases r with r | ⟨o,r⟩
 ·exact x a u r
 ·obtain ⟨_,q⟩ := x a _ r
  exact q
noncomputable def kf:Option HO -> Prop
 | some (.lst _)=>True
 | some (.dK _)=>True
 | some (.dT _)=>True
 | some (.set _ _)=>True
 | some (.ins _ _ _)=>True
 | some (.ext _)=>True
 | _=>False
section
variable {P:Program} {w:World} {H:Hp} {h h':Heap} {x e:Addr} {o':HO}
theorem Hj.write (ok : Hj P w H h) (mu : kf (H x)) (he : e = x \/ H e = some (.own x)) (k : ∀ b u, b ≠ e -> h.get? b = some u -> h'.get? b = some u) (heo : ∃ u, h'.get? e = some u)
  (new:Br P w (upd H x o') h' x o'):Hj P w (upd H x o') h':=fun b u q=>by
 have nown:∀ c y,H c = some (.own y) -> c ≠ x:=fun c y r z=>by subst z; rw [r] at mu; exact mu
 have ntup:∀ c xs,H c = some (.tup xs) -> c ≠ x:=fun c xs r z=>by subst z; rw [r] at mu; exact mu
 by_cases hb:b = x
 ·subst hb; rw [A5] at q; cases q; exact new
 ·rw [Ac hb] at q
  by_cases hbe:b = e
  ·have q' : H b = some (.own x) := by
    rcases he with z | z
    ·exact absurd (hbe.trans z) hb
    ·rw [hbe]; exact z
   rw [q] at q'; cases q'
   obtain ⟨v,hv⟩ := heo
   exact ⟨v,by rw [hbe]; exact hv⟩
  ·refine (ok b u q).stay (fun c v hc r=>k c v ?_ r) (fun c r=>by rw [Ac (nown c b r)]; exact r) fun c xs r=>by rw [Ac (ntup c xs r)]; exact r
   rcases hc with rfl | hc
   ·exact hbe
   ·rintro rfl
    rcases he with z | z
    ·exact nown c b hc z
    ·rw [hc] at z; cases z; exact hb rfl
end
structure Un (fs ex:List Addr) (H H':Hp) (h h':Heap):Prop where
 keep:∀ b o,h.get? b = some o -> H b = none -> b ∉ fs -> b ∉ ex -> h'.get? b = some o
 slot:∀ b o,h.get? b = some o -> H b = none -> b ∈ fs -> b ∉ ex -> ∃ sl,h'.get? b = some { o with slots:=sl }
 free:∀ b o,h.get? b = some o -> H b = none -> b ∉ ex -> H' b = none
 there:∀ b o,h.get? b = some o -> b ∉ ex -> ∃ o',h'.get? b = some o'
 tups:∀ b xs,H b = some (.tup xs) -> H' b = some (.tup xs)
 frzs:∀ b o u,H b = some (.frz o u) -> H' b = some (.frz o u)
 tbls:∀ b ps,H b = some (.tbl ps) -> ∃ more,H' b = some (.tbl (ps ++ more))
section
variable {fs fs' ex ex':List Addr} {H H1 H2:Hp} {h h1 h2 h':Heap} {a x e:Addr} {o:HO}
theorem Un.any (u:Un fs ex H H1 h h1) {b:Addr} {ob:Obj} (q:h.get? b = some ob) (n:H b = none) (hx:b ∉ ex):∃ sl,h1.get? b = some { ob with slots:=sl }:=by
 by_cases hb:b ∈ fs
 ·exact u.slot b ob q n hb hx
 ·exact ⟨ob.slots,u.keep b ob q n hb hx⟩
theorem Un.kept (k:∀ b u,h.get? b = some u -> h'.get? b = some u):Un fs ex H H h h' :=
 ⟨fun b ob q _ _ _=>k b ob q,fun b ob q _ _ _=>⟨ob.slots,k b ob q⟩,fun _ _ _ n _=>n,fun b ob q _=>⟨ob,k b ob q⟩,fun _ _ q=>q,fun _ _ _ q=>q,fun _ ps q=>⟨#[],by rw [q]; simp⟩⟩
theorem Un.refl:Un fs ex H H h h:=Un.kept fun _ _ q=>q
theorem Un.laid (k:∀ b u,h.get? b = some u -> h'.get? b = some u) (hp:h.objs.size <= a) (hn:H a = none):Un fs ex H (upd H a o) h h' where
 keep:=fun b u q _ _ _=>k b u q
 slot:=fun b u q _ _ _=>⟨u.slots,k b u q⟩
 free:=fun b u q n _=>by rw [Ac (Nat.ne_of_lt (Nat.lt_of_lt_of_le (Heap.lt_size q) hp))]; exact n
 there:=fun b u q _=>⟨u,k b u q⟩
 tups:=fun b xs q=>by rw [Ac (Ah q hn)]; exact q
 frzs:=fun b u xs q=>by rw [Ac (Ah q hn)]; exact q
 tbls:=fun b ps q=>⟨#[],by rw [Ac (Ah q hn),q]; simp⟩
theorem Un.write (mu:kf (H x)) (he:e = x \/ H e = some (.own x)) (k:∀ b u,b ≠ e -> h.get? b = some u -> h'.get? b = some u) (heo:∃ u,h'.get? e = some u):Un fs ex H (upd H x o) h h':=by
 have hx:∀ b,H b = none -> b ≠ x:=fun b n z=>by subst z; rw [n] at mu; exact mu
 have hb:∀ b,H b = none -> b ≠ e:=fun b n z=>by
  subst z
  rcases he with r | r
  ·exact hx b n r
  ·rw [n] at r; cases r
 have hm:∀ b u,H b = some u -> ¬ kf (some u) -> b ≠ x:=fun b u q nm z=>by subst z; rw [q] at mu; exact nm mu
 refine ⟨fun b u q n _ _=>k b u (hb b n) q,fun b u q n _ _=>⟨u.slots,k b u (hb b n) q⟩,fun b u q n _=>by rw [Ac (hx b n)]; exact n,fun b u q _=>?_,
  fun b xs q=>by rw [Ac (hm b _ q fun z=>z)]; exact q,fun b u xs q=>by rw [Ac (hm b _ q fun z=>z)]; exact q,fun b ps q=>⟨#[],by rw [Ac (hm b _ q fun z=>z),q]; simp⟩⟩
 by_cases hbe:b = e
 ·subst hbe; exact heo
 ·exact ⟨u,k b u hbe q⟩
end
noncomputable def ko (h:Heap) (H:Hp):List Addr:=(List.range h.objs.size).filter fun a=>(H a).isSome
noncomputable def Ou (h:Heap) (H:Hp):Heap:=PySem.W.hideAll h (ko h H)
theorem V6 (h:Heap) (H:Hp):(Ou h H).objs.size = h.objs.size:=PySem.W.hideAll_size _ _
theorem Xf {h:Heap} {H:Hp} {b:Addr} {o:Obj} (e:h.get? b = some o) (n:H b = none):(Ou h H).get? b = some o :=
 PySem.W.hideAll_get _ e fun hm=>by
  have q:(H b).isSome = true:=(List.mem_filter.mp hm).2
  rw [n] at q; simp at q
theorem Z4 {h:Heap} {H:Hp} {b:Addr} {o:Obj} (e:(Ou h H).get? b = some o):h.get? b = some o /\ H b = none:=by
 have e':h.get? b = some o:=PySem.W.of_hideAll (ko h H) e
 refine ⟨e',?_⟩
 cases q:H b with
 | none=>rfl
 | some x =>
  have hm:b ∈ ko h H:=List.mem_filter.mpr ⟨List.mem_range.mpr (Heap.lt_size e'),by simp [q]⟩
  have z:(Ou h H).get? b = none:=PySem.W.hideAll_none (ko h H) hm
  rw [z] at e; cases e
structure Mod (K:PySem.W.Frag) (mg:Str -> Option Value) (base:Heap):Prop where
 kin:K.In base
 glob:base.Ns mainGlobals mg
 blt:∃ mb,base.Ns builtinsNs mb /\ ∀ x:Str,x ≠ "__name__" -> mb x = bootBuiltins x
 nolimit:base.NoLimit
set_option genInjectivity false in
set_option genSizeOf false in
structure Cx where
 prog:Program
 w:World
 K:PySem.W.Frag
 mg:Str -> Option Value
 base:Heap
 A:Around
 N:List Str
 s₀:Shared
 H₀:Hp
 env:Env
 outer:List Env
 stack:List Env
 ex:List Addr
 fn:Str -> Bool
 calm:Bool
 pn:List (Addr × Obj)
 xe:Value -> Shared -> Prop
noncomputable def frs (l:List Env):List Addr:=l.filterMap (·.frame)
noncomputable abbrev Cx.fs (X:Cx):List Addr:=frs X.outer
noncomputable def m8 (sc:Scope) (x:Str):Prop:=sc.names.lookup x = some .local \/ sc.names.lookup x = some .cell \/ sc.names.lookup x = some .free
noncomputable def l0 (sc:Scope) (x:Str):Prop:=sc.names.lookup x = some .local \/ sc.names.lookup x = some .cell
noncomputable def le (env:Env) (h:Heap) (m:Str -> Option Value) (x:Str) (u:Value):Prop :=
 (env.kindOf x = some .local /\ m x = some u) \/ ((env.kindOf x = some .cell \/ env.kindOf x = some .free) /\ ∃ c,env.cells.lookup x = some c /\ h.IsCell c (some u))
structure Cx.Ok (X:Cx):Prop where
 mod:Mod X.K X.mg X.base
 kind:X.env.scope.kind = .function
 glob:X.env.globals = mainGlobals
 blt:X.env.builtins = builtinsNs
 above:X.s₀.heap.objs.size <= X.env.locals
 inj:∀ x y c,X.env.cells.lookup x = some c -> X.env.cells.lookup y = some c -> x = y
 has:∀ x,(X.env.kindOf x = some .cell \/ X.env.kindOf x = some .free) -> ∃ c,X.env.cells.lookup x = some c
 cab:∀ x c,X.fn x = true -> X.env.cells.lookup x = some c -> X.s₀.heap.objs.size <= c
 hd:X.calm = true -> X.A.handled = none
 frames:X.A.frames = some X.stack
 stk:X.stack = X.outer \/ (X.stack = X.env :: X.outer /\ X.env.frame = some X.env.locals)
 exf:∀ b ∈ X.ex,b ≠ X.env.locals /\ ∀ x c,X.env.cells.lookup x = some c -> c ≠ b
 bs:∀ b o,X.base.get? b = some o -> X.s₀.heap.get? b = some o /\ X.H₀ b = none
 bsz:X.base.objs.size <= X.s₀.heap.objs.size
 noex:∀ b o,X.base.get? b = some o -> b ∉ X.ex
 exfs:∀ b ∈ X.ex,b ∉ X.fs
 funs:X.s₀.heap.FunFrames X.base X.outer
 frf:∀ b ∈ X.fs,X.H₀ b = none
structure Ai (X:Cx) (pins:List (Addr × Obj)) (σ:List (Option V)) (H:Hp) (s:Shared):Prop where
 ok:X.Ok
 os:s.os = X.s₀.os
 bare:AllBare s.gens
 base:Un X.fs X.ex X.H₀ H X.s₀.heap s.heap
 loc:∃ m,s.heap.Ns X.env.locals m /\ ∀ (i:Nat) (x:Str) (v:V),X.N[i]? = some x -> σ[i]? = some (some v) -> m8 X.env.scope x -> ∃ u,Ax v u /\ le X.env s.heap m x u
 cell:∀ x c,X.env.cells.lookup x = some c -> ∃ v,s.heap.IsCell c v
 free:H X.env.locals = none
 freeC:∀ x c,X.env.cells.lookup x = some c -> H c = none
 pin:∀ p ∈ X.pn ++ pins,s.heap.get? p.1 = some p.2 /\ H p.1 = none /\ p.1 ≠ X.env.locals /\ p.1 ∉ X.fs /\ ∀ v,p.2.data ≠ .cell v
 hok:Hj X.prog X.w H s.heap
 len:σ.length = X.N.length
section
variable {X:Cx} {pins:List (Addr × Obj)} {σ:List (Option V)} {H H':Hp} {s:Shared} {h':Heap}
theorem Cx.Ok.nofr (ok:X.Ok) {b:Addr} {o:Obj} (e:X.base.get? b = some o):b ∉ X.fs:=fun hb=>by
 have:=(ok.funs.mem hb).1
 rw [e] at this; cases this
theorem Ai.bs (I:Ai X pins σ H s):∀ b o,X.base.get? b = some o -> s.heap.get? b = some o /\ H b = none:=fun b o e =>
 ⟨I.base.keep b o (I.ok.bs b o e).1 (I.ok.bs b o e).2 (I.ok.nofr e) (I.ok.noex b o e),I.base.free b o (I.ok.bs b o e).1 (I.ok.bs b o e).2 (I.ok.noex b o e)⟩
theorem Ai.bk (I:Ai X pins σ H s):∀ b o,X.base.get? b = some o -> s.heap.get? b = some o:=fun b o e=>(I.bs b o e).1
theorem Ai.mod (I:Ai X pins σ H s):Mod X.K X.mg X.base:=I.ok.mod
theorem Ai.kIn (I:Ai X pins σ H s):X.K.In s.heap:=I.ok.mod.kin.keeps I.bk
theorem Ai.lt (I:Ai X pins σ H s):X.env.locals < s.heap.objs.size:=let ⟨_,hn,_⟩ := I.loc; hn.lt
theorem Ai.sz (I:Ai X pins σ H s):X.s₀.heap.objs.size <= s.heap.objs.size:=Nat.le_trans I.ok.above (Nat.le_of_lt I.lt)
theorem Ai.nofs (I:Ai X pins σ H s) {a:Addr} (h:s.heap.objs.size <= a):a ∉ X.fs:=fun hb=>by
 obtain ⟨_,o,ho,_⟩ := I.ok.funs.mem hb
 exact absurd (Nat.lt_of_lt_of_le (Heap.lt_size ho) (Nat.le_trans I.sz h)) (Nat.lt_irrefl _)
theorem Ai.cne (I:Ai X pins σ H s):∀ x c,X.env.cells.lookup x = some c -> c ≠ X.env.locals:=fun x c e z=>by
 obtain ⟨v,o,ho,hd⟩ := I.cell x c e
 obtain ⟨m,⟨o',es,ep,ho',hd',_⟩,_⟩ := I.loc
 rw [z,ho'] at ho; cases ho; rw [hd'] at hd; cases hd
theorem Ai.funs (I:Ai X pins σ H s):s.heap.FunFrames X.base X.outer:=by
 have all:∀ (l:List Env),(∀ b ∈ frs l,b ∈ X.fs) -> X.s₀.heap.FunFrames X.base l -> s.heap.FunFrames X.base l:=by
  intro l
  induction l with
  | nil=>intro _ _; trivial
  | cons env r ih =>
   intro hs hl
   obtain ⟨hk,⟨L,o,hf,hn,ho,hd⟩,hr⟩ := hl
   have hL:L ∈ X.fs:=hs L (by unfold frs; rw [List.filterMap_cons,hf]; exact List.mem_cons_self)
   obtain ⟨sl,e⟩ := I.base.slot L o ho (I.ok.frf L hL) hL fun z=>I.ok.exfs L z hL
   exact ⟨hk,⟨L,_,hf,hn,e,hd⟩,ih (fun b hb=>hs b (by unfold frs; rw [List.filterMap_cons,hf]; exact List.mem_cons_of_mem _ hb)) hr⟩
 exact all X.outer (fun _ hb=>hb) I.ok.funs
theorem Ai.stack (I:Ai X pins σ H s):s.heap.FunFrames X.base X.stack:=by
 rcases I.ok.stk with e | ⟨e,hf⟩
 ·rw [e]; exact I.funs
 ·rw [e]
  obtain ⟨m,hn,_⟩ := I.loc
  refine .cons (by rw [I.ok.kind]; decide) hf hn ?_ I.funs
  exact Heap.get?_none_of_le (Nat.le_trans I.ok.bsz I.ok.above)
theorem Ai.stkSub (I:Ai X pins σ H s):∀ b ∈ frs X.stack,b ∈ X.env.locals :: X.fs:=fun b hb=>by
 rcases I.ok.stk with e | ⟨e,hf⟩
 ·rw [e] at hb; exact List.mem_cons_of_mem _ hb
 ·rw [e] at hb
  unfold frs at hb
  rw [List.filterMap_cons,hf] at hb
  exact hb
theorem Ai.stkFree (I:Ai X pins σ H s):∀ b ∈ frs X.stack,H b = none:=fun b hb=>by
 rcases List.mem_cons.mp (I.stkSub b hb) with e | hb
 ·rw [e]; exact I.free
 ·obtain ⟨_,o,ho,_⟩ := I.ok.funs.mem hb
  exact I.base.free b o ho (I.ok.frf b hb) fun z=>I.ok.exfs b z hb
theorem Ai.step {g' : Array GenState} {t' : Nat} {d' : Drawn} {ch : List Addr} (I : Ai X pins σ H s)
  (hch:∀ b ∈ ch,(b ∈ X.ex \/ X.s₀.heap.objs.size <= b) /\ b ≠ X.env.locals /\ (∀ x c,X.env.cells.lookup x = some c -> c ≠ b) /\ ∀ p ∈ X.pn ++ pins,p.1 ≠ b)
  (keep:∀ b o,b ≠ X.env.locals -> b ∉ X.fs -> b ∉ ch -> s.heap.get? b = some o -> H b = none -> h'.get? b = some o)
  (slot:∀ b o,b ≠ X.env.locals -> b ∈ X.fs -> b ∉ ch -> s.heap.get? b = some o -> H b = none -> ∃ sl,h'.get? b = some { o with slots:=sl }) (free:∀ b o,b ∉ ch -> s.heap.get? b = some o -> H b = none -> H' b = none)
  (there:∀ b o,b ∉ ch -> s.heap.get? b = some o -> ∃ o',h'.get? b = some o')
  (tups:∀ b xs,H b = some (.tup xs) -> H' b = some (.tup xs)) (frzs:∀ b o u,H b = some (.frz o u) -> H' b = some (.frz o u)) (tbls:∀ b ps,H b = some (.tbl ps) -> ∃ more,H' b = some (.tbl (ps ++ more)))
  (ns:∀ m,s.heap.Ns X.env.locals m -> h'.Ns X.env.locals m) (hok:Hj X.prog X.w H' h') (hg:AllBare g') :
  Ai X pins σ H' { s with heap:=h',gens:=g',drawn:=d',toks:=t' }:=by
 have neL:∀ b o,X.s₀.heap.get? b = some o -> b ≠ X.env.locals:=fun b o e=>Nat.ne_of_lt (Nat.lt_of_lt_of_le (Heap.lt_size e) I.ok.above)
 have neC:∀ b o,X.s₀.heap.get? b = some o -> b ∉ X.ex -> b ∉ ch:=fun b o e hx hb=>by
  rcases (hch b hb).1 with z | z
  ·exact hx z
  ·exact absurd (Nat.lt_of_lt_of_le (Heap.lt_size e) z) (Nat.lt_irrefl _)
 have cellK:∀ x c,X.env.cells.lookup x = some c -> ∀ v,s.heap.IsCell c v -> h'.IsCell c v:=fun x c e v ⟨o,ho,hd⟩=>by
  have nch:c ∉ ch:=fun z=>(hch c z).2.2.1 x c e rfl
  by_cases hc:c ∈ X.fs
  ·obtain ⟨sl,q⟩ := slot c o (I.cne x c e) hc nch ho (I.freeC x c e)
   exact ⟨_,q,hd⟩
  ·exact ⟨o,keep c o (I.cne x c e) hc nch ho (I.freeC x c e),hd⟩
 refine ⟨I.ok,I.os,hg,⟨fun b o e n hb hx=>?_,fun b o e n hb hx=>?_,fun b o e n hx=>?_,fun b o e hx=>?_,fun b xs e=>tups b xs (I.base.tups b xs e),fun b o xs e=>frzs b o xs (I.base.frzs b o xs e),fun b ps e=>?_⟩,?_,fun x c e=>?_,?_,fun x c e=>?_,fun p hp=>?_,hok,I.len⟩
 ·exact keep b o (neL b o e) hb (neC b o e hx) (I.base.keep b o e n hb hx) (I.base.free b o e n hx)
 ·obtain ⟨sl,e1⟩ := I.base.slot b o e n hb hx
  obtain ⟨sl',e2⟩ := slot b _ (neL b o e) hb (neC b o e hx) e1 (I.base.free b o e n hx)
  exact ⟨sl',e2⟩
 ·obtain ⟨o',e1⟩ := I.base.there b o e hx
  exact free b o' (neC b o e hx) e1 (I.base.free b o e n hx)
 ·obtain ⟨o',e1⟩ := I.base.there b o e hx
  exact there b o' (neC b o e hx) e1
 ·obtain ⟨m1,e1⟩ := I.base.tbls b ps e
  obtain ⟨m2,e2⟩ := tbls b _ e1
  exact ⟨m1 ++ m2,by rw [e2,Array.append_assoc]⟩
 ·obtain ⟨m,hn,hl⟩ := I.loc
  refine ⟨m,ns m hn,fun i x v e1 e2 e3=>?_⟩
  obtain ⟨u,r,l⟩ := hl i x v e1 e2 e3
  refine ⟨u,r,?_⟩
  rcases l with l | ⟨k,c,e,z⟩
  ·exact .inl l
  ·exact .inr ⟨k,c,e,cellK x c e _ z⟩
 ·obtain ⟨v,z⟩ := I.cell x c e
  exact ⟨v,cellK x c e v z⟩
 ·obtain ⟨m,⟨o,_,_,ho,_⟩,_⟩ := I.loc
  exact free _ o (fun z=>(hch _ z).2.1 rfl) ho I.free
 ·obtain ⟨v,o,ho,hd⟩ := I.cell x c e
  exact free c o (fun z=>(hch c z).2.2.1 x c e rfl) ho (I.freeC x c e)
 ·obtain ⟨e,n,ne,nf,d⟩ := I.pin p hp
  have nch:p.1 ∉ ch:=fun z=>(hch p.1 z).2.2.2 p hp rfl
  exact ⟨keep p.1 p.2 ne nf nch e n,free p.1 p.2 nch e n,ne,nf,d⟩
theorem Ai.un {t':Nat} (I:Ai X pins σ H s) (u:Un X.fs [] H H' s.heap h') (hok:Hj X.prog X.w H' h'):Ai X pins σ H' { s with heap:=h',toks:=t' }:=by
 obtain ⟨m,⟨o,es,ep,ho,r⟩,_⟩ := id I.loc
 obtain ⟨sl,hL⟩ := u.any ho I.free (by simp)
 exact I.step (g':=s.gens) (d':=s.drawn) (ch:=[]) (fun _ z=>nomatch z) (fun b o _ hb _ e n=>u.keep b o e n hb (by simp)) (fun b o _ hb _ e n=>u.slot b o e n hb (by simp)) (fun b o _ e n=>u.free b o e n (by simp)) (fun b o _ e=>u.there b o e (by simp)) u.tups u.frzs u.tbls (fun m' hm=>by
  obtain ⟨o',es',ep',ho',r'⟩ := hm
  rw [ho] at ho'; cases ho'
  exact ⟨_,es',ep',hL,r'⟩) hok I.bare
theorem Ai.call {g' : Array GenState} {t' : Nat} {d' : Drawn} {ch : List Addr} (I : Ai X pins σ H s) (u : Un (frs X.stack) ch H H' s.heap h') (hok : Hj X.prog X.w H' h') (hg : AllBare g')
  (hch:∀ b ∈ ch,(b ∈ X.ex \/ X.s₀.heap.objs.size <= b) /\ b ≠ X.env.locals /\ (∀ x c,X.env.cells.lookup x = some c -> c ≠ b) /\ ∀ p ∈ X.pn ++ pins,p.1 ≠ b) :
  Ai X pins σ H' { s with heap:=h',gens:=g',drawn:=d',toks:=t' }:=by
 obtain ⟨m,⟨o,es,ep,ho,r⟩,_⟩ := id I.loc
 obtain ⟨sl,hL⟩ := u.any ho I.free fun z=>(hch _ z).2.1 rfl
 exact I.step (ch:=ch) hch (fun b o hL hb hc e n=>u.keep b o e n (fun z=>(List.mem_cons.mp (I.stkSub b z)).elim hL hb) hc) (fun b o _ _ hc e n=>u.any e n hc) (fun b o hc e n=>u.free b o e n hc) (fun b o hc e=>u.there b o e hc) u.tups u.frzs u.tbls (fun m' hm=>by
  obtain ⟨o',es',ep',ho',r'⟩ := hm
  rw [ho] at ho'; cases ho'
  exact ⟨_,es',ep',hL,r'⟩) hok hg
theorem Ai.turned {t' : Nat} {it : Addr} (I : Ai X pins σ H s) (k : ∀ b o, b ≠ it -> s.heap.get? b = some o -> h'.get? b = some o) (hn : H it = none) (hL : it ≠ X.env.locals)
  (h1:it ∈ X.ex \/ X.s₀.heap.objs.size <= it) (h2:∀ x c,X.env.cells.lookup x = some c -> c ≠ it) (h3:∀ p ∈ X.pn ++ pins,p.1 ≠ it):Ai X pins σ H { s with heap:=h',toks:=t' }:=by
 have nit:∀ b u,H b = some u -> b ≠ it:=fun b u e z=>by rw [z,hn] at e; cases e
 refine I.step (g':=s.gens) (d':=s.drawn) (ch:=[it]) (fun b hb=>?_) (fun b o _ _ hc e _=>k b o (fun z=>hc (by simp [z])) e) (fun b o _ _ hc e _=>⟨o.slots,k b o (fun z=>hc (by simp [z])) e⟩) (fun _ _ _ _ n=>n)
  (fun b o hc e=>⟨o,k b o (fun z=>hc (by simp [z])) e⟩) (fun _ _ e=>e) (fun _ _ _ e=>e) (fun b ps e=>⟨#[],by rw [e]; simp⟩) (fun m hm=>?_) (fun b u e=>?_) I.bare
 ·have e:b = it:=by simpa using hb
  subst e
  exact ⟨h1,hL,h2,h3⟩
 ·obtain ⟨o,es,ep,ho,r⟩ := hm
  exact ⟨o,es,ep,k _ o (Ne.symm hL) ho,r⟩
 ·refine (I.hok b u e).stay (fun c v hc q=>k c v ?_ q) (fun _ q=>q) fun _ _ q=>q
  rcases hc with z | z
  ·rw [z]; exact nit b u e
  ·exact nit c _ z
theorem Ai.tok (I:Ai X pins σ H s) (t:Nat):Ai X pins σ H { s with toks:=t }:=I.un (h':=s.heap) (t':=t) Un.refl I.hok
theorem Ai.kept {t':Nat} (I:Ai X pins σ H s) (k:∀ b u,s.heap.get? b = some u -> h'.get? b = some u):Ai X pins σ H { s with heap:=h',toks:=t' }:=I.un (Un.kept k) (I.hok.kept k)
theorem Ai.laid {a : Addr} {o : HO} {t' : Nat} (I : Ai X pins σ H s) (k : ∀ b u, s.heap.get? b = some u -> h'.get? b = some u) (hp : s.heap.objs.size <= a) (new : Br X.prog X.w (upd H a o) h' a o) :
  Ai X pins σ (upd H a o) { s with heap:=h',toks:=t' }:=I.un (Un.laid k hp (I.hok.fresh hp)) (I.hok.laid k hp new)
theorem Ai.write {x e : Addr} {o : HO} {t' : Nat} (I : Ai X pins σ H s) (mu : kf (H x)) (he : e = x \/ H e = some (.own x)) (k : ∀ b u, b ≠ e -> s.heap.get? b = some u -> h'.get? b = some u) (heo : ∃ u, h'.get? e = some u)
  (new:Br X.prog X.w (upd H x o) h' x o):Ai X pins σ (upd H x o) { s with heap:=h',toks:=t' }:=I.un (Un.write mu he k heo) (I.hok.write mu he k heo new)
theorem Ai.weak {σ':List (Option V)} (I:Ai X pins σ H s) (hl:σ'.length = σ.length) (w:∀ (i:Nat) v,σ'[i]? = some (some v) -> σ[i]? = some (some v)):Ai X pins σ' H s :=
 ⟨I.ok,I.os,I.bare,I.base,let ⟨m,hn,hl'⟩ := I.loc; ⟨m,hn,fun i x v e1 e2 e3=>hl' i x v e1 (w i v e2) e3⟩,I.cell,I.free,I.freeC,I.pin,I.hok,hl.trans I.len⟩
theorem Ai.pins_of {pins':List (Addr × Obj)} (I:Ai X pins σ H s) (h:∀ p ∈ pins',s.heap.get? p.1 = some p.2 /\ H p.1 = none /\ p.1 ≠ X.env.locals /\ p.1 ∉ X.fs /\ ∀ v,p.2.data ≠ .cell v):Ai X pins' σ H s :=
 ⟨I.ok,I.os,I.bare,I.base,I.loc,I.cell,I.free,I.freeC,fun p hp=>(List.mem_append.mp hp).elim (fun z=>I.pin p (List.mem_append_left _ z)) (h p),I.hok,I.len⟩
theorem Qp {N:List Str} (hN:N.Nodup) {i j:Nat} {x:Str} (a:N[i]? = some x) (b:N[j]? = some x):i = j:=by
 obtain ⟨h1,e1⟩ := List.getElem?_eq_some_iff.mp a
 obtain ⟨h2,e2⟩ := List.getElem?_eq_some_iff.mp b
 exact (List.getElem_inj hN).mp (e1.trans e2.symm)
theorem Nb {M : Model} {A : Around} {E : Value -> Shared -> Prop} {i : Nat} {x : Str} {v : V} {u : Value} {Q : Unit -> Shared -> Prop} (I : Ai X pins σ H s) (hN : X.N.Nodup) (hi : X.N[i]? = some x) (hx : l0 X.env.scope x) (r : Ax v u)
  (h:∀ s',Ai X pins (σ.set i (some v)) H s' -> (∃ a,Heap.SameBut a s.heap s'.heap /\ (a = X.env.locals \/ X.env.cells.lookup x = some a)) -> Q () s') (hf:X.fn x = true \/ X.env.scope.names.lookup x = some .local:=by first | exact .inl rfl | exact .inr rfl | assumption):wpAny M A (storeName X.env x u) Q E s:=by
 obtain ⟨m,hn,hl⟩ := id I.loc
 have hcls:(X.env.scope.kind == .class || (X.env.scope.kind == .module && X.env.locals != X.env.globals)) = false:=by rw [I.ok.kind]; rfl
 have hiσ:i < σ.length:=by rw [I.len]; exact (List.getElem?_eq_some_iff.mp hi).1
 have cne:=I.cne
 have tracked:∀ {a:Addr} {h':Heap},(∃ o,s.heap.get? a = some o /\ H a = none) -> Heap.SameBut a s.heap h' -> Hj X.prog X.w H h':=fun {a h'} ha hs b ob e=>by
  obtain ⟨_,_,hfree⟩ := ha
  refine (I.hok b ob e).stay (fun c w' hc q=>(hs.2 c ?_).trans q) (fun _ q=>q) fun _ _ q=>q
  rintro rfl
  rcases hc with rfl | hc
  ·rw [hfree] at e; cases e
  ·rw [hfree] at hc; cases hc
 rcases hx with hk | hk
 ·refine wpAny_storeName_local hk hn (fun h' hn' hs=>?_) hcls
  obtain ⟨oL,_,_,hoL,_⟩ := id hn
  refine h _ ⟨I.ok,I.os,I.bare,⟨fun b o e n hb hx=>?_,fun b o e n hb hx=>?_,I.base.free,fun b o e hx=>?_,I.base.tups,I.base.frzs,I.base.tbls⟩,⟨_,hn',fun j y v' e1 e2 e3=>?_⟩,fun y c e=>?_,I.free,I.freeC,fun p hp=>?_,tracked ⟨oL,hoL,I.free⟩ hs,by simpa using I.len⟩ ⟨_,hs,.inl rfl⟩
  ·exact (hs.2 b (Nat.ne_of_lt (Nat.lt_of_lt_of_le (Heap.lt_size e) I.ok.above))).trans (I.base.keep b o e n hb hx)
  ·obtain ⟨sl,e1⟩ := I.base.slot b o e n hb hx
   exact ⟨sl,(hs.2 b (Nat.ne_of_lt (Nat.lt_of_lt_of_le (Heap.lt_size e) I.ok.above))).trans e1⟩
  ·obtain ⟨o',e1⟩ := I.base.there b o e hx
   exact ⟨o',(hs.2 b (Nat.ne_of_lt (Nat.lt_of_lt_of_le (Heap.lt_size e) I.ok.above))).trans e1⟩
  ·by_cases hj:j = i
   ·subst hj
    rw [hi] at e1; cases e1
    rw [List.getElem?_set_self hiσ] at e2
    cases e2
    exact ⟨u,r,.inl ⟨hk,by simp⟩⟩
   ·rw [List.getElem?_set_ne (Ne.symm hj)] at e2
    obtain ⟨u',r',q⟩ := hl j y v' e1 e2 e3
    refine ⟨u',r',?_⟩
    rcases q with ⟨k,e⟩ | ⟨k,c,e,z⟩
    ·refine .inl ⟨k,?_⟩
     have:y ≠ x:=fun e=>hj (Qp hN e1 (e ▸ hi))
     simp [this,e]
    ·exact .inr ⟨k,c,e,z.sameBut hs (cne y c e)⟩
  ·obtain ⟨w',z⟩ := I.cell y c e
   exact ⟨w',z.sameBut hs (cne y c e)⟩
  ·obtain ⟨e,n,ne,nf,d⟩ := I.pin p hp
   exact ⟨(hs.2 p.1 ne).trans e,n,ne,nf,d⟩
 ·have hfn : X.fn x = true := by
   rcases hf with z | z
   ·exact z
   ·rw [z] at hk; cases hk
  obtain ⟨c,hc⟩ := I.ok.has x (.inl hk)
  obtain ⟨w',z⟩ := I.cell x c hc
  refine wpAny_storeName_cell I.ok.kind hk hc z (fun h' hc' hs=>?_)
  obtain ⟨oc,hoc,hocd⟩ := id z
  refine h { s with heap:=h' } ⟨I.ok,I.os,I.bare,⟨fun b o e n hb hx=>?_,fun b o e n hb hx=>?_,I.base.free,fun b o e hx=>?_,I.base.tups,I.base.frzs,I.base.tbls⟩,⟨m,hn.sameBut hs (Ne.symm (cne x c hc)),fun j y v' e1 e2 e3=>?_⟩,fun y c' e=>?_,I.free,I.freeC,fun p hp=>?_,tracked ⟨oc,hoc,I.freeC x c hc⟩ hs,by simpa using I.len⟩ ⟨c,hs,.inr hc⟩
  ·exact (hs.2 b (Nat.ne_of_lt (Nat.lt_of_lt_of_le (Heap.lt_size e) (I.ok.cab x c hfn hc)))).trans (I.base.keep b o e n hb hx)
  ·obtain ⟨sl,e1⟩ := I.base.slot b o e n hb hx
   exact ⟨sl,(hs.2 b (Nat.ne_of_lt (Nat.lt_of_lt_of_le (Heap.lt_size e) (I.ok.cab x c hfn hc)))).trans e1⟩
  ·obtain ⟨o',e1⟩ := I.base.there b o e hx
   exact ⟨o',(hs.2 b (Nat.ne_of_lt (Nat.lt_of_lt_of_le (Heap.lt_size e) (I.ok.cab x c hfn hc)))).trans e1⟩
  ·by_cases hj:j = i
   ·subst hj
    rw [hi] at e1; cases e1
    rw [List.getElem?_set_self hiσ] at e2
    cases e2
    exact ⟨u,r,.inr ⟨.inl hk,c,hc,hc'⟩⟩
   ·rw [List.getElem?_set_ne (Ne.symm hj)] at e2
    obtain ⟨u',r',q⟩ := hl j y v' e1 e2 e3
    refine ⟨u',r',?_⟩
    rcases q with q | ⟨k,c',e,z'⟩
    ·exact .inl q
    ·refine .inr ⟨k,c',e,z'.sameBut hs ?_⟩
     rintro rfl
     exact hj (Qp hN e1 (I.ok.inj _ _ _ e hc ▸ hi))
  ·by_cases hcc:c' = c
   ·subst hcc; exact ⟨_,hc'⟩
   ·obtain ⟨w2,z2⟩ := I.cell y c' e
    exact ⟨w2,z2.sameBut hs hcc⟩
  ·obtain ⟨e,n,ne,nf,d⟩ := I.pin p hp
   refine ⟨(hs.2 p.1 ?_).trans e,n,ne,nf,d⟩
   intro q
   rw [q,hoc] at e
   have q':oc = p.2:=Option.some.inj e
   exact d w' (by rw [<- q']; exact hocd)
theorem Q4 {M : Model} {A : Around} {E : Value -> Shared -> Prop} {i : Nat} {x : Str} {v : V} {u : Value} {Q : Unit -> Shared -> Prop} (I : Ai X pins σ H s) (hN : X.N.Nodup) (hi : X.N[i]? = some x) (hx : l0 X.env.scope x) (r : Ax v u)
  (h:∀ s',Ai X pins (σ.set i (some v)) H s' -> Q () s') (hf:X.fn x = true \/ X.env.scope.names.lookup x = some .local:=by first | exact .inl rfl | exact .inr rfl | assumption):wpAny M A (storeName X.env x u) Q E s :=
 Nb I hN hi hx r (fun s' I' _=>h s' I') hf
theorem Ai.call' {s' : Shared} {ch : List Addr} (I : Ai X pins σ H s) (ho : s'.os = s.os) (u : Un (frs X.stack) ch H H' s.heap s'.heap) (hok : Hj X.prog X.w H' s'.heap) (hg : AllBare s'.gens)
  (hch:∀ b ∈ ch,(b ∈ X.ex \/ X.s₀.heap.objs.size <= b) /\ b ≠ X.env.locals /\ (∀ x c,X.env.cells.lookup x = some c -> c ≠ b) /\ ∀ p ∈ X.pn ++ pins,p.1 ≠ b):Ai X pins σ H' s':=by
 obtain ⟨h',g',d',t',o'⟩ := s'
 have e:o' = s.os:=ho
 subst e
 exact I.call (g':=g') (t':=t') (d':=d') u hok hg hch
end
noncomputable abbrev XK:=Value -> Option Addr -> Hp -> Prop
noncomputable abbrev St:=List (Option V)
noncomputable abbrev VK:=V -> Hp -> Prop
noncomputable abbrev TE:=St -> Hp -> VK -> Prop
noncomputable abbrev TT:=St -> Hp -> (Bool -> Hp -> Prop) -> Prop
noncomputable abbrev TA:=St -> Hp -> (List V -> Hp -> Prop) -> Prop
set_option genInjectivity false in
set_option genSizeOf false in
structure Ju where
 nx:St -> Hp -> Prop
 rt:VK
 bk:St -> Hp -> Prop:=fun _ _=>False
 ct:St -> Hp -> Prop:=fun _ _=>False
noncomputable abbrev TS:=Ju -> St -> Hp -> Prop
noncomputable def EP (X:Cx) (pins:List (Addr × Obj)) (σ:St) (Q:VK) (u:Value) (s':Shared):Prop := ∃ v H',Ai X pins σ H' s' /\ Ax v u /\ Q v H'
noncomputable def TP (X:Cx) (pins:List (Addr × Obj)) (σ:St) (Q:Bool -> Hp -> Prop) (b:Bool) (s':Shared):Prop := ∃ H',Ai X pins σ H' s' /\ Q b H'
noncomputable def AP (X:Cx) (pins:List (Addr × Obj)) (σ:St) (Q:List V -> Hp -> Prop) (us:List Value) (s':Shared):Prop := ∃ vs H',Ai X pins σ H' s' /\ B6 vs us /\ Q vs H'
noncomputable def SP (X:Cx) (pins:List (Addr × Obj)) (D:Ju) (f:Flow) (s':Shared):Prop :=
 match f with
 | .next=>∃ σ' H',Ai X pins σ' H' s' /\ D.nx σ' H'
 | .brk=>∃ σ' H',Ai X pins σ' H' s' /\ D.bk σ' H'
 | .cont=>∃ σ' H',Ai X pins σ' H' s' /\ D.ct σ' H'
 | .ret u=>∃ v σ' H',Ai X pins σ' H' s' /\ Ax v u /\ D.rt v H'
noncomputable def PE (X:Cx) (e:Expr) (t:TE):Prop :=
 ∀ (pins:List (Addr × Obj)) (s:Shared) (σ:St) (H:Hp) (Q:VK),Ai X pins σ H s -> t σ H Q -> wpAny (model X.prog X.w) X.A (eval e X.env) (EP X pins σ Q) X.xe s
noncomputable def PT (X:Cx) (e:Expr) (t:TT):Prop :=
 ∀ (pins:List (Addr × Obj)) (s:Shared) (σ:St) (H:Hp) (Q:Bool -> Hp -> Prop),Ai X pins σ H s -> t σ H Q -> wpAny (model X.prog X.w) X.A (isTrue e X.env (eval e X.env)) (TP X pins σ Q) X.xe s
noncomputable def PW (X:Cx) (e:Expr) (t:TT):Prop :=
 ∀ (whole:Sem Value) (pins:List (Addr × Obj)) (s:Shared) (σ:St) (H:Hp) (Q:Bool -> Hp -> Prop),Ai X pins σ H s -> t σ H Q -> wpAny (model X.prog X.w) X.A (isTrue e X.env whole) (TP X pins σ Q) X.xe s
theorem PW.pt {X:Cx} {e:Expr} {t:TT} (h:PW X e t):PT X e t:=h _
noncomputable def PA (X:Cx) (es:List Expr) (t:TA):Prop :=
 ∀ (pos:Pos) (pins:List (Addr × Obj)) (s:Shared) (σ:St) (H:Hp) (Q:List V -> Hp -> Prop),Ai X pins σ H s -> t σ H Q -> wpAny (model X.prog X.w) X.A (spliced (backTo pos (starEach es X.env))) (AP X pins σ Q) X.xe s
noncomputable def PS (X:Cx) (st:Stmt) (t:TS):Prop :=
 ∀ (pins:List (Addr × Obj)) (s:Shared) (σ:St) (H:Hp) (D:Ju),Ai X pins σ H s -> t D σ H -> wpAny (model X.prog X.w) X.A (exec st X.env) (SP X pins D) X.xe s
noncomputable def R8 (X:Cx) (st:List Stmt) (t:TS):Prop :=
 ∀ (pins:List (Addr × Obj)) (s:Shared) (σ:St) (H:Hp) (D:Ju),Ai X pins σ H s -> t D σ H -> wpAny (model X.prog X.w) X.A (execs st X.env) (SP X pins D) X.xe s
theorem C7 {α:Type} {t:Sem α} {Q Q':α -> Shared -> Prop} {M:Model} {A:Around} {E:Value -> Shared -> Prop} {s:Shared} (h:wpAny M A t Q E s) (hQ:∀ a s,Q a s -> Q' a s):wpAny M A t Q' E s:=wpAny_mono h hQ fun _ _ x=>x
section
variable {X:Cx}
noncomputable def gv (i:Nat):TE:=fun σ H Q=>∃ v,σ[i]? = some (some v) /\ Q v H
noncomputable def tC (v:V):TE:=fun _ H Q=>Q v H
theorem g0 {i:Nat} {x:Str} {pos:Pos} (hN:X.N[i]? = some x) (hv:m8 X.env.scope x) (hd:(x == ("__debug__" : Str)) = false:=by decide) (hcd:(x == ("__classdict__" : Str)) = false:=by decide):PE X (.Name x pos) (gv i):=by
 intro pins s σ H Q I h
 obtain ⟨v,e,h⟩ := h
 obtain ⟨m,hn,hl⟩ := I.loc
 obtain ⟨u,r,l⟩ := hl i x v hN e hv
 have fin:EP X pins σ Q u s:=⟨v,H,I,r,h⟩
 rcases l with ⟨hk,hm⟩ | ⟨hk,c,hc,hcell⟩
 ·exact wpAny_Name (wpAny_loadName_local I.ok.kind hk hn hm fin) hd
 ·rcases hk with hk | hk
  ·exact wpAny_Name (wpAny_loadName_cell I.ok.kind hk hc hcell fin) hd
  ·exact wpAny_Name (wpAny_loadName_free I.ok.kind hk hc hcell fin hcd) hd
theorem Aa {i j pos}:PE X (.Constant (.int i) j pos) (tC (.int i)):=fun _ _ _ H _ I h=>wpAny_Constant_int ⟨.int i,H,I.tok _,⟨_,rfl⟩,h⟩
theorem Ho {b j pos}:PE X (.Constant (.bool b) j pos) (tC (.bl b)):=fun _ _ _ H _ I h=>Constant_bool ⟨.bl b,H,I,rfl,h⟩
theorem D3 {j pos}:PE X (.Constant .none j pos) (tC .non):=fun _ _ _ H _ I h=>Constant_none ⟨.non,H,I,rfl,h⟩
noncomputable def Gl (X:Cx) (x:Str):Prop:=X.env.kindOf x = some .globalImplicit
theorem U4 {E : Value -> Shared -> Prop} {pins : List (Addr × Obj)} {s : Shared} {σ : St} {H : Hp} {x : Str} {u : Value} {pos : Pos} {Q : Value -> Shared -> Prop} (I : Ai X pins σ H s) (hg : Gl X x) (hm : X.mg x = some u) (h : Q u s)
  (hd:(x == ("__debug__" : Str)) = false:=by decide):wpAny (model X.prog X.w) X.A (eval (.Name x pos) X.env) Q E s :=
 Calls.Name_function_global I.ok.kind hg (Calls.loadGlobal_global (by rw [I.ok.glob]; exact I.mod.glob.keeps I.bk) hm h) hd
theorem Iq {E : Value -> Shared -> Prop} {pins : List (Addr × Obj)} {s : Shared} {σ : St} {H : Hp} {x : Str} {u : Value} {pos : Pos} {Q : Value -> Shared -> Prop} (I : Ai X pins σ H s) (hg : Gl X x) (hm : X.mg x = none) (hv : bootBuiltins x = some u) (h : Q u s)
  (hn:x ≠ "__name__" := by decide) (hd:(x == ("__debug__" : Str)) = false:=by decide):wpAny (model X.prog X.w) X.A (eval (.Name x pos) X.env) Q E s:=by
 obtain ⟨mb,h1,h2⟩ := I.mod.blt
 exact Calls.Name_function_global I.ok.kind hg (Calls.loadGlobal_builtin (by rw [I.ok.glob]; exact I.mod.glob.keeps I.bk) hm (by rw [I.ok.blt]; exact h1.keeps I.bk) ((h2 x hn).trans hv) h) hd
theorem Zv {x:Str} {v:V} {u:Value} {pos:Pos} (hg:Gl X x) (hm:X.mg x = some u) (r:Ax v u) (hd:(x == ("__debug__" : Str)) = false:=by decide):PE X (.Name x pos) (tC v) :=
 fun _ _ _ H _ I h=>U4 I hg hm ⟨v,H,I,r,h⟩ hd
theorem Zf {x:Str} {v:V} {u:Value} {pos:Pos} (hg:Gl X x) (hm:X.mg x = none) (hv:bootBuiltins x = some u) (r:Ax v u) (hn:x ≠ "__name__" := by decide) (hd:(x == ("__debug__" : Str)) = false:=by decide):PE X (.Name x pos) (tC v) :=
 fun _ _ _ H _ I h=>Iq I hg hm hv ⟨v,H,I,r,h⟩ hn hd
variable {a b:Expr} {ta tb:TE} {pos:Pos}
noncomputable def PC (X:Cx) (op:CmpOp) (a b:Expr) (t:TE):Prop :=
 ∀ (pins:List (Addr × Obj)) (s:Shared) (σ:St) (H:Hp) (Q:VK),Ai X pins σ H s -> t σ H Q ->
  wpAny (model X.prog X.w) X.A (eval a X.env) (fun v s₁=>wpAny (model X.prog X.w) X.A (eval b X.env) (fun u s₂=>wpAny (model X.prog X.w) X.A (compareOp op v u) (EP X pins σ Q) X.xe s₂) X.xe s₁) X.xe s
noncomputable def tB (t:TE):TT:=fun σ H Q=>t σ H fun x H1=>∃ c,x = .bl c /\ Q c H1
theorem ez {op:CmpOp} {t:TE} (h:PC X op a b t) (h1:behindInMarks op b = false:=by first | exact nobehind _ (by decide) (by decide) | rfl):PE X (.Compare a [op] [b] pos) t:=fun pins s σ H Q I hw=>wpAny_Compare1 (h pins s σ H Q I hw) h1
theorem Fk {op:CmpOp} {t:TE} (h:PC X op a b t) (h1:behindInMarks op b = false:=by first | exact nobehind _ (by decide) (by decide) | rfl):PT X (.Compare a [op] [b] pos) (tB t):=by
 intro pins s σ H Q I hw
 refine wpAny_isTrue_Compare1 (C7 (h pins s σ H _ I hw) fun v s1 h1=>C7 h1 fun u s2 h2=>C7 h2 fun c s3 ⟨x,H1,I1,r1,q1⟩=>?_) h1
 obtain ⟨d,rfl,q⟩ := q1
 cases r1
 exact wpAny_truthy_bool ⟨H1,I1,q⟩
theorem Ep {e:Expr} {t:TE} (h:PE X e t) (he:∀ whole,isTrue e X.env whole = (do let v <- whole; standAt e.pos; holding [v] (truthy v)):=by intro _; rfl):PT X e (tB t):=by
 intro pins s σ H Q I hw
 refine isTrue_plain (C7 (h pins s σ H _ I hw) fun v s1 ⟨x,H1,I1,r1,q1⟩=>?_) (he _)
 obtain ⟨d,rfl,q⟩ := q1
 cases r1
 exact wpAny_truthy_bool ⟨H1,I1,q⟩
variable {tA tB':TT} {rest:List Expr}
noncomputable def m7 (t:TT):TT:=fun σ H Q=>t σ H fun c H1=>Q (!c) H1
theorem Ij (ha:PT X a tA):PW X (.BoolOp .And [a] pos) tA:=by
 intro wh pins s σ H Q I h
 refine isTrue_and (C7 (ha pins s σ H Q I h) fun c s1 e=>?_)
 cases c with
 | true=>exact isTrue_and_nil e
 | false=>exact e
theorem Ww (ha:PT X a tA):PW X (.BoolOp .Or [a] pos) tA:=by
 intro wh pins s σ H Q I h
 refine isTrue_or (C7 (ha pins s σ H Q I h) fun c s1 e=>?_)
 cases c with
 | false=>exact isTrue_or_nil e
 | true=>exact e
theorem Fs (ha:PT X a tA):PT X (.UnaryOp .Not a pos) (m7 tA):=by
 intro pins s σ H Q I h
 exact isTrue_not (ha pins s σ H (fun c H1=>Q (!c) H1) I h)
theorem Ru {op} {t:TE} (h:PE X a t):PE X (.BoolOp op [a] pos) t:=fun pins s σ H Q I hw=>BoolOp_one (h pins s σ H Q I hw)
noncomputable def nk (t:TT) (ta tb:TE):TE:=fun σ H Q=>t σ H fun c H1=>if c = true then ta σ H1 Q else tb σ H1 Q
theorem Wq {c:Expr} (hc:PT X c tA) (ha:PE X a ta) (hb:PE X b tb):PE X (.IfExp c a b pos) (nk tA ta tb):=by
 intro pins s σ H Q I h
 refine wpAny_IfExp (C7 (hc pins s σ H _ I h) fun d s1 hz0=>?_)
 obtain ⟨H1,I1,q1⟩ := hz0
 cases d with
 | true=>exact ha pins s1 σ H1 Q I1 q1
 | false=>exact hb pins s1 σ H1 Q I1 q1
end
noncomputable def Bo (K:PySem.W.Frag) (H:Hp) (a:Addr) (xs:List V):Prop :=
 Rd H a (.lst xs) \/
  ∃ (o:Obj) (its:Array Value) (n:Nat),K.lookup a = some o /\ o.cls = .type "list" /\ o.dict = none /\ o.data = .seq its n /\ its.size <= sizeLine /\ B6 xs its.toList
noncomputable def Bx (K:PySem.W.Frag) (H:Hp) (a:Addr) (xs:List V):Prop :=
 Rd H a (.tup xs) \/
  ∃ (o:Obj) (its:Array Value) (n:Nat),K.lookup a = some o /\ o.cls = .type "tuple" /\ o.data = .seq its n /\ its.size <= sizeLine /\ B6 xs its.toList
noncomputable def mm:Value -> Option V
 | .none=>some .non
 | .bool b=>some (.bl b)
 | .int i _=>some (.int i)
 | .str x _=>some (.str x)
 | .bytes b _=>some (.byt b)
 | .float b _=>some (.flt b)
 | .ref a=>some (.ref a)
 | .type n=>some (.ty n)
 | _=>none
theorem Ax.abs {x:V} {u:Value} (r:Ax x u):mm u = some x:=by
 cases x with
 | non=>cases r; rfl
 | bl _=>cases r; rfl
 | int _=>obtain ⟨t,rfl⟩ := r; rfl
 | str _=>obtain ⟨t,rfl⟩ := r; rfl
 | byt _=>obtain ⟨t,rfl⟩ := r; rfl
 | flt _=>obtain ⟨t,rfl⟩ := r; rfl
 | ref _=>cases r; rfl
 | ty _=>cases r; rfl
theorem Ax.inj {x y:V} {u:Value} (r:Ax x u) (q:Ax y u):x = y:=Option.some.inj (r.abs.symm.trans q.abs)
theorem B6.inj {xs ys:List V} {us:List Value} (h:B6 xs us) (g:B6 ys us):xs = ys:=by
 induction h generalizing ys with
 | nil =>
  cases g
  rfl
 | cons r t ih =>
  cases g with
  | cons r' t'=>rw [r.inj r',ih t']
section
variable {X:Cx} {pins:List (Addr × Obj)} {σ:St} {H:Hp} {s:Shared} {a:Addr} {xs ys:List V}
theorem Bo.of {K:PySem.W.Frag} (h:H a = some (.lst xs)):Bo K H a xs := .inl (.inl h)
theorem Bx.of {K:PySem.W.Frag} (h:H a = some (.tup xs)):Bx K H a xs := .inl (.inl h)
theorem Ai.list (I:Ai X pins σ H s) (h:Bo X.K H a xs):∃ its:List Value,B6 xs its /\ PlainL s.heap a its.toArray /\ xs.length <= sizeLine:=by
 rcases h with h | ⟨o,its,n,hk,hc,hd,hs,hz,r⟩
 ·obtain ⟨z,its,n,r,e⟩ := h.ok I.hok
  exact ⟨its,r,⟨_,n,e,rfl,rfl,rfl⟩,z⟩
 ·refine ⟨its.toList,r,⟨o,n,I.kIn a o hk,hc,hd,by simpa using hs⟩,?_⟩
  have e:=r.length
  simp only [Array.length_toList] at e
  omega
theorem Ai.tuple (I:Ai X pins σ H s) (h:Bx X.K H a xs):∃ its:List Value,B6 xs its /\ IsTup s.heap a its.toArray /\ xs.length <= sizeLine:=by
 rcases h with h | ⟨o,its,n,hk,hc,hs,hz,r⟩
 ·obtain ⟨z,its,r,p⟩ := h.ok I.hok
  exact ⟨its,r,p,z.1⟩
 ·refine ⟨its.toList,r,⟨o,I.kIn a o hk,hc,n,by simpa using hs⟩,?_⟩
  have e:=r.length
  simp only [Array.length_toList] at e
  omega
theorem Ai.list_inj (I:Ai X pins σ H s) (h:Bo X.K H a xs) (h':Bo X.K H a ys):xs = ys:=by
 obtain ⟨its,r,⟨o,n,e,_,_,d⟩,_⟩ := I.list h
 obtain ⟨its',r',⟨o',n',e',_,_,d'⟩,_⟩ := I.list h'
 rw [e] at e'; cases e'
 rw [d] at d'
 injection d' with d1 _
 have:its = its':=by simpa using congrArg Array.toList d1
 subst this
 exact r.inj r'
theorem Ai.tuple_inj (I:Ai X pins σ H s) (h:Bx X.K H a xs) (h':Bx X.K H a ys):xs = ys:=by
 obtain ⟨its,r,⟨o,e,_,n,d⟩,_⟩ := I.tuple h
 obtain ⟨its',r',⟨o',e',_,n',d'⟩,_⟩ := I.tuple h'
 rw [e] at e'; cases e'
 rw [d] at d'
 injection d' with d1 _
 have:its = its':=by simpa using congrArg Array.toList d1
 subst this
 exact r.inj r'
end
noncomputable abbrev Cx.wish (X:Cx) (E:Value -> Shared -> Prop):Cx:={ X with xe:=E }
noncomputable abbrev Cx.nox (X:Cx):Cx:=X.wish fun _ _=>False
theorem Cx.Ok.wish {X:Cx} (ok:X.Ok) (E:Value -> Shared -> Prop):(X.wish E).Ok :=
 ⟨ok.mod,ok.kind,ok.glob,ok.blt,ok.above,ok.inj,ok.has,ok.cab,ok.hd,ok.frames,ok.stk,ok.exf,ok.bs,ok.bsz,ok.noex,ok.exfs,ok.funs,ok.frf⟩
theorem Cx.Ok.unwish {X:Cx} {E:Value -> Shared -> Prop} (ok:(X.wish E).Ok):X.Ok :=
 ⟨ok.mod,ok.kind,ok.glob,ok.blt,ok.above,ok.inj,ok.has,ok.cab,ok.hd,ok.frames,ok.stk,ok.exf,ok.bs,ok.bsz,ok.noex,ok.exfs,ok.funs,ok.frf⟩
section
variable {X:Cx} {pins:List (Addr × Obj)} {σ:St} {H:Hp} {s:Shared} {E:Value -> Shared -> Prop}
theorem Ai.wish (I:Ai X pins σ H s) (E:Value -> Shared -> Prop):Ai (X.wish E) pins σ H s:=⟨I.ok.wish E,I.os,I.bare,I.base,I.loc,I.cell,I.free,I.freeC,I.pin,I.hok,I.len⟩
theorem Ai.unwish (I:Ai (X.wish E) pins σ H s):Ai X pins σ H s:=⟨I.ok.unwish,I.os,I.bare,I.base,I.loc,I.cell,I.free,I.freeC,I.pin,I.hok,I.len⟩
theorem SP.unwish {D:Ju} {f:Flow} {s':Shared} (h:SP (X.wish E) pins D f s'):SP X pins D f s':=by
 cases f with
 | next=>obtain ⟨σ',H',I,q⟩ := h; exact ⟨σ',H',I.unwish,q⟩
 | brk=>obtain ⟨σ',H',I,q⟩ := h; exact ⟨σ',H',I.unwish,q⟩
 | cont=>obtain ⟨σ',H',I,q⟩ := h; exact ⟨σ',H',I.unwish,q⟩
 | ret u=>obtain ⟨v,σ',H',I,r,q⟩ := h; exact ⟨v,σ',H',I.unwish,r,q⟩
theorem R8.nox {st:List Stmt} {t:TS} (h:R8 X.nox st t):R8 X st t:=fun pins s σ H D I hw =>
 wpAny_mono (h pins s σ H D (I.wish _) hw) (fun _ _ q=>q.unwish) fun _ _ z=>False.elim z
end
section
variable {X:Cx} {st:Stmt} {rest:List Stmt} {t u:TS} {e:Expr} {te:TE} {pos:Pos}
noncomputable def i0:TS:=fun D σ H=>D.nx σ H
noncomputable def jg (t u:TS):TS:=fun D σ H=>t { D with nx:=u D } σ H
theorem Av:R8 X [] i0:=fun _ _ σ H _ I h=>wpAny_execs_nil ⟨σ,H,I,h⟩
theorem A6 (h1:PS X st t) (h2:R8 X rest u):R8 X (st :: rest) (jg t u):=by
 intro pins s σ H D I h
 refine wpAny_execs_cons (C7 (h1 pins s σ H { D with nx:=u D } I h) fun f s1 q=>?_)
 cases f with
 | next =>
  obtain ⟨σ',H',I',q⟩ := q
  exact h2 pins s1 σ' H' D I' q
 | ret v=>exact q
 | brk=>exact q
 | cont=>exact q
theorem Ab (h1:PS X st t):R8 X [st] t:=by
 intro pins s σ H D I h
 refine wpAny_execs_cons (C7 (h1 pins s σ H D I h) fun f s1 q=>?_)
 cases f with
 | next=>exact wpAny_execs_nil q
 | ret v=>exact q
 | brk=>exact q
 | cont=>exact q
theorem Ai.quiet {pins:List (Addr × Obj)} {σ:St} {H:Hp} {s:Shared} (I:Ai X pins σ H s):interactive X.env = false:=by simp [interactive,I.ok.kind]
noncomputable def j8 (te:TE):TS:=fun D σ H=>te σ H fun _ H1=>D.nx σ H1
theorem Co (he:PE X e te) (hs:swapsWith e none pos.line X.env = pure false:=by rfl):PS X (.Expr e pos) (j8 te):=by
 intro pins s σ H D I h
 exact wpAny_Expr_any (C7 (he pins s σ H _ I h) fun v s1 ⟨x,H1,I1,r1,q1⟩=>⟨σ,H1,I1,q1⟩) I.quiet hs
noncomputable def mf (te:TE):TS:=fun D σ H=>te σ H D.rt
theorem Ao (he:PE X e te):PS X (.Return (some e) pos) (mf te):=by
 intro pins s σ H D I h
 exact wpAny_Return_some (C7 (he pins s σ H _ I h) fun v s1 ⟨x,H1,I1,r1,q1⟩=>⟨x,σ,H1,I1,r1,q1⟩)
noncomputable def mr (c:TT) (t u:TS):TS:=fun D σ H=>c σ H fun b H1=>if b = true then t D σ H1 else u D σ H1
theorem Cn {c:Expr} {a b:List Stmt} {tc:TT} (hc:PT X c tc) (ha:R8 X a t) (hb:R8 X b u):PS X (.If c a b pos) (mr tc t u):=by
 intro pins s σ H D I h
 refine wpAny_If (C7 (hc pins s σ H _ I h) fun d s1 hz0=>?_)
 obtain ⟨H1,I1,q1⟩ := hz0
 cases d with
 | true=>exact ha pins s1 σ H1 D I1 q1
 | false=>exact hb pins s1 σ H1 D I1 q1
noncomputable def cu:TS:=fun _ _ _=>False
theorem L9:PS X st cu:=fun _ _ _ _ _ _ h=>h.elim
end
noncomputable abbrev TG:=V -> St -> Hp -> (St -> Hp -> Prop) -> Prop
noncomputable abbrev aj:=List V -> St -> Hp -> (St -> Hp -> Prop) -> Prop
noncomputable def PG (X:Cx) (target:Expr) (t:TG):Prop :=
 ∀ (pins:List (Addr × Obj)) (s:Shared) (σ:St) (H:Hp) (v:V) (u:Value) (Q:St -> Hp -> Prop),Ai X pins σ H s -> Ax v u -> t v σ H Q ->
  wpAny (model X.prog X.w) X.A (assign target X.env u) (fun _ s'=>∃ σ' H',Ai X pins σ' H' s' /\ Q σ' H') X.xe s
noncomputable def gs (X:Cx) (ts:List Expr) (t:aj):Prop :=
 ∀ (pins:List (Addr × Obj)) (s:Shared) (σ:St) (H:Hp) (vs:List V) (us:List Value) (Q:St -> Hp -> Prop),Ai X pins σ H s -> B6 vs us -> t vs σ H Q ->
  wpAny (model X.prog X.w) X.A (assignInOrder ((assignEach ts X.env).map (·.2)) us) (fun _ s'=>∃ σ' H',Ai X pins σ' H' s' /\ Q σ' H') X.xe s
noncomputable abbrev b6:=V -> V -> V -> Hp -> (Hp -> Prop) -> Prop
noncomputable def i7 (X:Cx) (t:b6):Prop :=
 ∀ (pins:List (Addr × Obj)) (s:Shared) (σ:St) (H:Hp) (o i v:V) (ov iv u:Value) (Q:Hp -> Prop),Ai X pins σ H s -> Ax o ov -> Ax i iv -> Ax v u -> t o i v H Q ->
  wpAny (model X.prog X.w) X.A (setItem ov iv u) (fun _ s'=>∃ H',Ai X pins σ H' s' /\ Q H') X.xe s
section
variable {X:Cx} {pos:Pos}
noncomputable def Ie (i:Nat):TG:=fun v σ H Q=>Q (σ.set i (some v)) H
theorem Aq {i:Nat} {x:Str} (hN:X.N.Nodup) (hi:X.N[i]? = some x) (hx:l0 X.env.scope x) (hf:X.fn x = true \/ X.env.scope.names.lookup x = some .local:=by first | exact .inl rfl | exact .inr rfl | assumption):PG X (.Name x pos) (Ie i):=by
 intro pins s σ H v u Q I r h
 exact wpAny_assign_Name (Q4 I hN hi hx r (fun s' I'=>⟨_,H,I',h⟩) hf)
noncomputable def i8:aj:=fun vs σ H Q=>vs = [] /\ Q σ H
noncomputable def Wk (t:TG) (u:aj):aj:=fun vs σ H Q=>∃ v r,vs = v :: r /\ t v σ H fun σ' H'=>u r σ' H' Q
theorem Gd:gs X [] i8:=by
 intro pins s σ H vs us Q I r h
 obtain ⟨e,h⟩ := h
 subst e
 cases r
 exact assignInOrder_nil ⟨σ,H,I,h⟩
theorem Ci {e : Expr} {es : List Expr} {t : TG} {u : aj} (h1 : PG X e t) (h2 : gs X es u)
  (hs:(assignEach (e :: es) X.env).map (·.2) = assign e X.env :: (assignEach es X.env).map (·.2):=by rfl):gs X (e :: es) (Wk t u):=by
 intro pins s σ H vs us Q I r h
 obtain ⟨v,vr,e1,h⟩ := h
 subst e1
 cases r with
 | cons r rr =>
  rw [hs]
  refine assignInOrder_cons (C7 (h1 pins s σ H _ _ _ I r h) fun _ s1 hz0=>?_)
  obtain ⟨σ1,H1,I1,q1⟩ := hz0
  exact h2 pins s1 σ1 H1 _ _ Q I1 rr q1
noncomputable def ba (K:PySem.W.Frag) (n:Nat) (t:aj):TG:=fun v σ H Q=>∃ a xs,v = .ref a /\ Bx K H a xs /\ xs.length = n /\ t xs σ H Q
theorem c8 {es : List Expr} {k : Nat} {t : aj} {n : Nat} (hc : X.calm = true) (h : gs X es t)
  (hn:(assignEach es X.env).length = n:=by rfl) (hst:(assignEach es X.env).findIdx? (·.1) = none:=by rfl):PG X (.Tuple es k pos) (ba X.K n t):=by
 intro pins s σ H v u Q I r hw
 obtain ⟨a,xs,e1,hq,hl,hw⟩ := hw
 subst e1
 cases r
 obtain ⟨its,rv,ht,hz⟩ := I.tuple hq
 refine assign_Tuple_tuple (I.ok.hd hc) ht (by simp [hn,<- hl,rv.length]) hst fun h' hx=>?_
 have I1:Ai X pins σ H { s with heap:=h' }:=I.kept (t':=s.toks) fun b o e=>hx b o (Nat.ne_of_lt (Heap.lt_size e)) e
 exact h pins _ σ H xs _ Q I1 (by simpa using rv) hw
noncomputable def md (to ti:TE) (t:b6):TG:=fun v σ H Q=>to σ H fun o H1=>ti σ H1 fun i H2=>t o i v H2 fun H3=>Q σ H3
theorem Wy {o i : Expr} {to ti : TE} {t : b6} (ho : PE X o to) (hi : PE X i ti) (hs : i7 X t)
  (ha:∀ v,assign (.Subscript o i pos) X.env v = (do
   let ov <- holding [v] (eval o X.env)
   let iv <- holding [v,ov] (eval i X.env)
   standAt pos
   holding [v,ov,iv] (setItem ov iv v)
   release [v,ov,iv] []):=by intro _; rfl):PG X (.Subscript o i pos) (md to ti t):=by
 intro pins s σ H v u Q I r h
 rw [ha]
 refine wpAny_bind (wpAny_holding (C7 (ho pins s σ H _ I h) fun ov s1 hz0=>?_))
 obtain ⟨x,H1,I1,r1,q1⟩ := hz0
 refine wpAny_bind (wpAny_holding (C7 (hi pins s1 σ H1 _ I1 q1) fun iv s2 hz0=>?_))
 obtain ⟨y,H2,I2,r2,q2⟩ := hz0
 refine wpAny_bind (wpAny_standAt (wpAny_bind (wpAny_holding (C7 (hs pins s2 σ H2 x y v ov iv u _ I2 r1 r2 r q2) fun _ s3 hz0=>?_))))
 obtain ⟨H3,I3,q3⟩ := hz0
 exact wpAny_release ⟨σ,H3,I3,q3⟩
noncomputable def ja (te:TE) (g:TG):TS:=fun D σ H=>te σ H fun x H1=>g x σ H1 D.nx
theorem Wm {tg e : Expr} {te : TE} {g : TG} (he : PE X e te) (hg : PG X tg g) (hs : swapsWithSole [tg] e pos.line X.env = pure false := by rfl) (hw : swappedStores [tg] e X.env = pure none := by rfl)
  (h1:(assignEach [tg] X.env).map (·.2) = [assign tg X.env]:=by rfl):PS X (.Assign [tg] e pos) (ja te g):=by
 intro pins s σ H D I h
 refine wpAny_Assign_stores (C7 (he pins s σ H _ I h) fun v s1 ⟨x,H1,I1,r1,q1⟩=>?_) hs hw
 rw [h1]
 exact C7 (hg pins s1 σ H1 x v _ I1 r1 q1) fun _ s2 q=>q
theorem Al {i : Nat} {x : Str} {e : Expr} {te : TE} {pos' : Pos} (hN : X.N.Nodup) (hi : X.N[i]? = some x) (hx : l0 X.env.scope x) (he : PE X e te) (hs : swapsWith e (some (.Name x pos')) pos.line X.env = pure false := by rfl) (hf : X.fn x = true \/ X.env.scope.names.lookup x = some .local := by first | exact .inl rfl | exact .inr rfl | assumption) :
  PS X (.Assign [.Name x pos'] e pos) (ja te (Ie i)):=by
 intro pins s σ H D I h
 refine wpAny_Assign_Name (C7 (he pins s σ H _ I h) fun v s1 ⟨y,H1,I1,r1,q1⟩=>?_) hs
 exact Q4 I1 hN hi hx r1 (fun s2 I2=>⟨_,H1,I2,q1⟩) hf
end
section
variable {X:Cx} {pos:Pos}
noncomputable def Oe (c:TT) (tb:TS):TS:=fun D σ H=>∃ W:Nat -> St -> Hp -> Prop,(∃ m,W m σ H) /\ ∀ m σ H,W m σ H ->
 c σ H fun b H1=>if b = true then ∃ N:St -> Hp -> Prop,(∀ σ' H',N σ' H' -> ∃ m',m' < m /\ W m' σ' H') /\ tb { D with nx:=N,ct:=N,bk:=D.nx } σ H1 else D.nx σ H1
theorem Ia {c:Expr} {body:List Stmt} {tc:TT} {tb:TS} (hp:PassesOwn (model X.prog X.w) X.A X.env X.xe) (hc:PT X c tc) (hb:R8 X body tb):PS X (.While c body [] pos) (Oe tc tb):=by
 intro pins s σ H D I h
 obtain ⟨W,⟨m0,w0⟩,turn⟩ := h
 refine wpAny_While (codeAny_whileLoop (fun n s'=>∃ σ' H',Ai X pins σ' H' s' /\ W n σ' H') ?_ m0 ⟨σ,H,I,w0⟩)
 rintro n s1 ⟨σ1,H1,I1,w1⟩
 refine wpAny_passesOwn hp (C7 (hc pins s1 σ1 H1 _ I1 (turn n σ1 H1 w1)) fun b s2 hz0=>?_)
 obtain ⟨H2,I2,q2⟩ := hz0
 cases b with
 | true =>
  obtain ⟨N,hN,q2⟩ := q2
  rw [if_pos rfl]
  refine wpAny_passesOwn hp (C7 (hb pins s2 σ1 H2 _ I2 q2) fun f s3 q3=>?_)
  cases f with
  | next =>
   obtain ⟨σ3,H3,I3,n3⟩ := q3
   obtain ⟨m',hm,w3⟩ := hN σ3 H3 n3
   exact ⟨m',hm,σ3,H3,I3,w3⟩
  | cont =>
   obtain ⟨σ3,H3,I3,n3⟩ := q3
   obtain ⟨m',hm,w3⟩ := hN σ3 H3 n3
   exact ⟨m',hm,σ3,H3,I3,w3⟩
  | brk=>exact q3
  | ret v=>exact q3
 | false =>
  rw [if_neg Bool.false_ne_true]
  exact wpAny_execs_nil ⟨σ1,H2,I2,q2⟩
end
set_option genInjectivity false in
set_option genSizeOf false in
structure It where
 go:Nat -> Hp -> Prop
 yld:Nat -> Hp -> V -> Hp -> Prop
 stop:Nat -> Hp -> Prop
noncomputable def Lx (X:Cx) (pins:List (Addr × Obj)) (H:Hp) (b:Addr):Prop :=
 H b = none /\ b ≠ X.env.locals /\ b ∉ X.fs /\ (b ∈ X.ex \/ X.s₀.heap.objs.size <= b) /\ (∀ x c,X.env.cells.lookup x = some c -> c ≠ b) /\ ∀ p ∈ X.pn ++ pins,p.1 ≠ b
theorem Ai.fpOk {X:Cx} {pins:List (Addr × Obj)} {σ:St} {H H':Hp} {s:Shared} {b:Addr} (I:Ai X pins σ H s) (hb:s.heap.objs.size <= b) (hn:H' b = none):Lx X pins H' b:=by
 refine ⟨hn,Nat.ne_of_gt (Nat.lt_of_lt_of_le I.lt hb),I.nofs hb,.inr (Nat.le_trans I.sz hb),fun x c e z=>?_,fun p hp z=>?_⟩
 ·obtain ⟨v,q⟩ := I.cell x c e
  exact absurd (Nat.lt_of_lt_of_le q.lt (by rw [z]; exact hb)) (Nat.lt_irrefl _)
 ·exact absurd (Nat.lt_of_lt_of_le (Heap.lt_size (I.pin p hp).1) (by rw [z]; exact hb)) (Nat.lt_irrefl _)
structure Ss (P:Program) (w:World) (K:PySem.W.Frag) (tg:Expr) (J:It) (fp:List Addr) (it:Addr) (tn:Nat -> Heap -> Prop):Prop where
 mem:it ∈ fp
 obj:∀ i h,tn i h -> ∀ b ∈ fp,∃ o,h.get? b = some o /\ ∀ v,o.data ≠ .cell v
 keep:∀ i h h',tn i h -> (∀ b ∈ fp,∀ o,h.get? b = some o -> h'.get? b = some o) -> tn i h'
 item:∀ (X:Cx),X.prog = P -> X.w = w -> X.K = K -> X.calm = true -> ∀ (i:Nat) (pins:List (Addr × Obj)) (s:Shared) (σ:St) (H:Hp) (E:Value -> Shared -> Prop),Ai X pins σ H s -> (∀ b ∈ fp,Lx X pins H b) -> tn i s.heap -> J.go i H ->
  wpAny (model P w) X.A (pyNext (.ref it)) (fun r s1=>∃ u,r = some u /\
   wpAny (model P w) X.A (letOwnedTupleGo tg (.ref it) u) (fun _ s2=>∃ x H',Ai X pins σ H' s2 /\ Ax x u /\ J.yld i H x H' /\ tn (i + 1) s2.heap /\ ∀ b ∈ fp,H' b = none) E s1) E s
 done:∀ (X:Cx),X.prog = P -> X.w = w -> X.K = K -> X.calm = true -> ∀ (i:Nat) (pins:List (Addr × Obj)) (s:Shared) (σ:St) (H:Hp) (E:Value -> Shared -> Prop),Ai X pins σ H s -> (∀ b ∈ fp,Lx X pins H b) -> tn i s.heap -> J.stop i H ->
  wpAny (model P w) X.A (pyNext (.ref it)) (fun r s1=>r = none /\ Ai X pins σ H s1) E s
 self:∀ (A:Around) (i:Nat) (s:Shared) (Q:Value -> Shared -> Prop) (E:Value -> Shared -> Prop),tn i s.heap -> Q (.ref it) s -> wpAny (model P w) A (pyIter (.ref it)) Q E s
noncomputable abbrev TI:=St -> Hp -> (It -> Hp -> Prop) -> Prop
noncomputable def mv (X:Cx) (pins:List (Addr × Obj)) (σ:St) (tg:Expr) (R:It -> Hp -> Prop) (itv:Value) (s2:Shared):Prop :=
 ∃ (it:Addr) (fp:List Addr) (tn:Nat -> Heap -> Prop) (J:It) (H':Hp),itv = .ref it /\ Ai X pins σ H' s2 /\ Ss X.prog X.w X.K tg J fp it tn /\ tn 0 s2.heap /\ (∀ b ∈ fp,Lx X pins H' b) /\ R J H'
noncomputable def PI (X:Cx) (tg iter:Expr) (wi:TI):Prop :=
 ∀ (pins:List (Addr × Obj)) (s:Shared) (σ:St) (H:Hp) (R:It -> Hp -> Prop),Ai X pins σ H s -> wi σ H R ->
  wpAny (model X.prog X.w) X.A (eval iter X.env) (fun v s1=>wpAny (model X.prog X.w) X.A (pyIter v) (mv X pins σ tg R) X.xe s1) X.xe s
theorem Y3 {M : Model} {A : Around} {E : Value -> Shared -> Prop} {s : Shared} {tg : Expr} {it : Addr} {u : Value} {o : Obj} {n : String} {vs : Array Value} {Q : Unit -> Shared -> Prop} (ho : s.heap.get? it = some o) (hc : o.cls = .type n) (hd : o.data = .fields vs)
  (hn:["enumerate","zip","dict_itemiterator","dict_reverseitemiterator","odict_iterator","itertools.zip_longest","itertools.pairwise"].contains n = false) (hQ:Q () s):wpAny M A (letOwnedTupleGo tg (.ref it) u) Q E s:=by
 unfold letOwnedTupleGo
 cases tg <;> first
  | exact wpAny_pure hQ
  | (cases u <;> first
    | exact wpAny_pure hQ
    | (refine wpAny_bind (wpAny_load ho ?_)
       rw [hc,hd]
       show wpAny M A (if (["enumerate","zip","dict_itemiterator","dict_reverseitemiterator","odict_iterator","itertools.zip_longest","itertools.pairwise"].contains n && vs[0]? == some (rawInt _)) = true then _ else _) Q E s
       rw [if_neg (by intro h; rw [hn,Bool.false_and] at h; cases h)]
       exact wpAny_pure hQ))
noncomputable def bp (K:PySem.W.Frag) (a:Addr):It :=
 ⟨fun i H=>∃ xs x,Bo K H a xs /\ xs[i]? = some x,fun i H x H'=>H' = H /\ ∀ xs,Bo K H a xs -> xs[i]? = some x,fun i H=>∃ xs,Bo K H a xs /\ xs.length <= i⟩
noncomputable def gn (K:PySem.W.Frag) (a:Addr):It :=
 ⟨fun i H=>∃ xs x,Bx K H a xs /\ xs[i]? = some x,fun i H x H'=>H' = H /\ ∀ xs,Bx K H a xs -> xs[i]? = some x,fun i H=>∃ xs,Bx K H a xs /\ xs.length <= i⟩
noncomputable def az (lo:Int) (n:Nat):It:=⟨fun i _=>i < n,fun i H x H'=>H' = H /\ x = .int (lo + i),fun i _=>n <= i⟩
theorem Vv {P:Program} {w:World} {K:PySem.W.Frag} {tg:Expr} (a it:Addr):Ss P w K tg (bp K a) [it] it (fun i h=>h.IsListIter it a i) where
 mem:=by simp
 obj:=fun i h st b hb=>by
  have e:b = it:=by simpa using hb
  subst e
  obtain ⟨o,e,c,d⟩ := st
  exact ⟨o,e,fun v z=>by rw [d] at z; cases z⟩
 keep:=fun i h h' st k=>st.at fun o e=>k it (by simp) o e
 item:=by
  intro X hP hw hK hc i pins s σ H E I hf st hg
  subst hP hw hK
  obtain ⟨xs,x,hq,hx⟩ := hg
  obtain ⟨its,rv,p,hz⟩ := I.list hq
  obtain ⟨u,hu,ru⟩ := rv.get hx
  obtain ⟨f0,f1,f2,f3,f4,f5⟩ := hf it (by simp)
  refine wpAny_pyNext_list_item st p.isList (x:=u) (by simpa using hu) fun h' st' sb=>?_
  have I1:Ai X pins σ H { s with heap:=h' }:=I.turned (t':=s.toks) (fun b o hb e=>(sb.2 b hb).trans e) f0 f1 f3 f4 f5
  obtain ⟨o,e,c,d⟩ := id st'
  exact ⟨u,rfl,Y3 (s:={ s with heap:=h' }) e c d (by decide) ⟨x,H,I1,ru,⟨rfl,fun ys hy=>by rw [I.list_inj hy hq]; exact hx⟩,st',fun b hb=>(hf b hb).1⟩⟩
 done:=by
  intro X hP hw hK hc i pins s σ H E I hf st hg
  subst hP hw hK
  obtain ⟨xs,hq,hx⟩ := hg
  obtain ⟨its,rv,p,hz⟩ := I.list hq
  obtain ⟨f0,f1,f2,f3,f4,f5⟩ := hf it (by simp)
  have hl:=rv.length
  exact wpAny_pyNext_list_end (I.ok.hd hc) st p.isList (by simp; omega) fun h' eb=>⟨rfl,I.turned (t':=s.toks) (fun b o hb e=>eb b o hb e) f0 f1 f3 f4 f5⟩
 self:=fun _ _ _ _ _ st h=>wpAny_pyIter_listiter st h
theorem Sw {P:Program} {w:World} {K:PySem.W.Frag} {tg:Expr} (a it:Addr):Ss P w K tg (gn K a) [it] it (fun i h=>h.IsTupleIter it a i) where
 mem:=by simp
 obj:=fun i h st b hb=>by
  have e:b = it:=by simpa using hb
  subst e
  obtain ⟨o,e,c,d⟩ := st
  exact ⟨o,e,fun v z=>by rw [d] at z; cases z⟩
 keep:=fun i h h' st k=>st.at fun o e=>k it (by simp) o e
 item:=by
  intro X hP hw hK hc i pins s σ H E I hf st hg
  subst hP hw hK
  obtain ⟨xs,x,hq,hx⟩ := hg
  obtain ⟨its,rv,p,hz⟩ := I.tuple hq
  obtain ⟨u,hu,ru⟩ := rv.get hx
  obtain ⟨f0,f1,f2,f3,f4,f5⟩ := hf it (by simp)
  refine wpAny_pyNext_tuple_item st (show s.heap.IsTuple a its.toArray from p) (x:=u) (by simpa using hu) fun h' st' sb=>?_
  have I1:Ai X pins σ H { s with heap:=h' }:=I.turned (t':=s.toks) (fun b o hb e=>(sb.2 b hb).trans e) f0 f1 f3 f4 f5
  obtain ⟨o,e,c,d⟩ := id st'
  exact ⟨u,rfl,Y3 (s:={ s with heap:=h' }) e c d (by decide) ⟨x,H,I1,ru,⟨rfl,fun ys hy=>by rw [I.tuple_inj hy hq]; exact hx⟩,st',fun b hb=>(hf b hb).1⟩⟩
 done:=by
  intro X hP hw hK hc i pins s σ H E I hf st hg
  subst hP hw hK
  obtain ⟨xs,hq,hx⟩ := hg
  obtain ⟨its,rv,p,hz⟩ := I.tuple hq
  obtain ⟨f0,f1,f2,f3,f4,f5⟩ := hf it (by simp)
  have hl:=rv.length
  exact wpAny_pyNext_tuple_end (I.ok.hd hc) st (show s.heap.IsTuple a its.toArray from p) (by simp; omega) fun h' eb=>⟨rfl,I.turned (t':=s.toks) (fun b o hb e=>eb b o hb e) f0 f1 f3 f4 f5⟩
 self:=fun _ _ _ _ _ st h=>wpAny_pyIter_tupleiter st h
theorem Sk {P:Program} {w:World} {K:PySem.W.Frag} {tg:Expr} (it:Addr) (lo:Int) (n:Nat):Ss P w K tg (az lo n) [it] it (fun i h=>IsRangeIter h it (lo + (i:Nat) * 1) ((n:Int) - (i:Nat)) 1) where
 mem:=by simp
 obj:=fun i h st b hb=>by
  have e:b = it:=by simpa using hb
  subst e
  exact ⟨_,st,fun v z=>by
   have z':Data.fields _ = Data.cell v:=z
   cases z'⟩
 keep:=fun i h h' st k=>k it (by simp) _ st
 item:=by
  intro X hP hw hK hc i pins s σ H E I hf st hg
  subst hP hw hK
  obtain ⟨f0,f1,f2,f3,f4,f5⟩ := hf it (by simp)
  have W:=Walks.range (prog:=X.prog) (w:=X.w) (I.ok.hd hc) it lo 1 n
  refine W.item i s _ _ hg st fun v h' tk hv st' kk=>?_
  obtain ⟨t,rfl⟩ := hv
  have I1:Ai X pins σ H { s with heap:=h',toks:=tk }:=I.turned (fun b o hb e=>kk b o (by simpa using hb) e) f0 f1 f3 f4 f5
  refine ⟨_,rfl,Y3 (s:={ s with heap:=h',toks:=tk }) (n := "range_iterator") st' rfl rfl (by decide) ⟨.int (lo + i),H,I1,⟨t,?_⟩,⟨rfl,rfl⟩,st',fun b hb=>(hf b hb).1⟩⟩
  rw [Int.mul_one]
 done:=by
  intro X hP hw hK hc i pins s σ H E I hf st hg
  subst hP hw hK
  obtain ⟨f0,f1,f2,f3,f4,f5⟩ := hf it (by simp)
  exact wpAny_pyNext_range_end (I.ok.hd hc) st (by have:n <= i:=hg; omega) fun h' eb=>⟨rfl,I.turned (t':=s.toks) (fun b o hb e=>eb b o hb e) f0 f1 f3 f4 f5⟩
 self:=fun _ _ _ _ _ st h=>wpAny_pyIter_rangeiter st h
section
variable {X:Cx} {tg:Expr}
theorem Qb {pins : List (Addr × Obj)} {σ : St} {H : Hp} {s : Shared} {R : It -> Hp -> Prop} {E : Value -> Shared -> Prop} {lo hi : Int} {t u v : Tok} {tk : Nat} (I : Ai X pins σ H s) (h1 : -(2 ^ 62) <= lo) (h2 : lo < 2 ^ 62) (h3 : -(2 ^ 62) <= hi) (h4 : hi < 2 ^ 62)
  (q:R (az lo (hi - lo).toNat) H):wpAny (model X.prog X.w) X.A (pyIter (.ref s.heap.objs.size)) (mv X pins σ tg R) E { s with heap:=s.heap.push { cls := .type "range",data := .fields #[.int lo t,.int hi u,.int 1 v] },toks:=tk }:=by
 refine wpAny_pyIter_range (IsRange.new ..) (small_one h1 h2 h3 h4) ?_
 have I1:Ai X pins σ H { s with heap:=s.heap.push { cls := .type "range",data := .fields #[.int lo t,.int hi u,.int 1 v] },toks:=tk }:=I.kept fun b o e=>Heap.get?_push_of_some _ e
 refine ⟨(s.heap.push { cls := .type "range",data := .fields #[.int lo t,.int hi u,.int 1 v] }).objs.size,[(s.heap.push { cls := .type "range",data := .fields #[.int lo t,.int hi u,.int 1 v] }).objs.size],_,_,H,rfl,
  I1.kept (t':=tk) fun b o e=>Heap.get?_push_of_some _ e,Sk _ lo (hi - lo).toNat,?_,fun b hb=>?_,q⟩
 ·have e1:lo + ((0:Nat):Int) * 1 = lo:=by simp
  have e2:(((hi - lo).toNat:Nat):Int) - ((0:Nat):Int) = Builtin.Range.rangeSize lo hi 1:=by rw [rangeSize_one]; split <;> omega
  show IsRangeIter _ _ (lo + ((0:Nat):Int) * 1) ((((hi - lo).toNat:Nat):Int) - ((0:Nat):Int)) 1
  rw [e1,e2]
  exact Heap.get?_push_size _ rfl
 ·have e:b = (s.heap.push { cls := .type "range",data := .fields #[.int lo t,.int hi u,.int 1 v] }).objs.size:=by simpa using hb
  subst e
  exact I1.fpOk (Nat.le_refl _) (I1.hok.fresh (Nat.le_refl _))
noncomputable def jn (ta:TA):TI:=fun σ H R=>ta σ H fun vs H1=>∃ j:Int,vs = [.int j] /\ -(2 ^ 62) <= j /\ j < 2 ^ 62 /\ R (az 0 j.toNat) H1
noncomputable def gu (ta:TA):TI:=fun σ H R=>ta σ H fun vs H1=>∃ i j:Int,vs = [.int i,.int j] /\ (-(2 ^ 62) <= i /\ i < 2 ^ 62 /\ -(2 ^ 62) <= j /\ j < 2 ^ 62) /\ R (az i (j - i).toNat) H1
theorem Cz {a:Expr} {ta:TA} {p pos:Pos} (hg:Gl X "range") (hm:X.mg "range" = none) (ha:PA X [a] ta) (hs:starEach [a] X.env = [(false,eval a X.env)]:=by rfl):PI X tg (.Call (.Name "range" p) [a] [] pos) (jn ta):=by
 intro pins s σ H R I h
 refine Call_ (Iq I hg hm boot_range (PyProof.Rows.callWith_type1 (C7 (ha pos pins s σ H _ I h) fun us s1 ⟨vs,H1,I1,r1,q1⟩=>?_) hs rfl))
 obtain ⟨j,e,q1,q2,q⟩ := q1
 subst e
 cases r1 with
 | cons r rr =>
  cases rr
  obtain ⟨t,rfl⟩ := r
  exact call_range_1 (Qb I1 (by omega) (by omega) q1 q2 (by simpa using q))
theorem W0 {a b : Expr} {ta : TA} {p pos : Pos} (hg : Gl X "range") (hm : X.mg "range" = none) (ha : PA X [a, b] ta) (hs : starEach [a, b] X.env = [(false, eval a X.env), (false, eval b X.env)] := by rfl) (hs2 : starEach [b] X.env = [(false, eval b X.env)] := by rfl) :
  PI X tg (.Call (.Name "range" p) [a,b] [] pos) (gu ta):=by
 intro pins s σ H R I h
 refine Call_ (Iq I hg hm boot_range (PyProof.Rows.callWith_type1 (C7 (ha pos pins s σ H _ I h) fun us s1 ⟨vs,H1,I1,r1,q1⟩=>?_) (by rw [hs,hs2]) (by rw [hs2]; rfl)))
 obtain ⟨i,j,e,⟨q1,q2,q3,q4⟩,q⟩ := q1
 subst e
 cases r1 with
 | cons r rr =>
  cases rr with
  | cons r' rr =>
   cases rr
   obtain ⟨t,rfl⟩ := r
   obtain ⟨t',rfl⟩ := r'
   exact call_range_2 (Qb I1 q1 q2 q3 q4 q)
noncomputable def lh (wi:TI) (g:TG) (tb:TS):TS:=fun D σ H=>wi σ H fun J H1=>∃ W:Nat -> Nat -> St -> Hp -> Prop,(∃ m,W 0 m σ H1) /\ ∀ i m σ H,W i m σ H ->
 (J.stop i H /\ D.nx σ H) \/ (J.go i H /\ ∃ N:St -> Hp -> Prop,(∀ σ' H',N σ' H' -> ∃ m',m' < m /\ W (i + 1) m' σ' H') /\ ∀ x H',J.yld i H x H' -> g x σ H' fun σ2 H2=>tb { D with nx:=N,ct:=N,bk:=D.nx } σ2 H2)
noncomputable def Li (fp:List Addr) (h:Heap):List (Addr × Obj):=fp.filterMap fun b=>(h.get? b).map fun o=>(b,o)
theorem Fe {fp:List Addr} {h:Heap} {b:Addr} {o:Obj} (hb:b ∈ fp) (e:h.get? b = some o):(b,o) ∈ Li fp h:=List.mem_filterMap.mpr ⟨b,hb,by rw [e]; rfl⟩
theorem Uw {fp:List Addr} {h:Heap} {p:Addr × Obj} (hp:p ∈ Li fp h):p.1 ∈ fp /\ h.get? p.1 = some p.2:=by
 obtain ⟨b,hb,e⟩ := List.mem_filterMap.mp hp
 cases q:h.get? b with
 | none=>rw [q] at e; cases e
 | some o =>
  rw [q] at e
  have e':(b,o) = p:=Option.some.inj e
  subst e'
  exact ⟨hb,q⟩
theorem Ai.pinned {pins:List (Addr × Obj)} {σ:St} {H:Hp} {s:Shared} {fp:List Addr} (I:Ai X pins σ H s) (hf:∀ b ∈ fp,Lx X pins H b) (ho:∀ b ∈ fp,∃ o,s.heap.get? b = some o /\ ∀ v,o.data ≠ .cell v):Ai X (pins ++ Li fp s.heap) σ H s :=
 I.pins_of fun p hp=>(List.mem_append.mp hp).elim (fun z=>I.pin p (List.mem_append_right _ z)) fun z=>by
  obtain ⟨hb,e⟩ := Uw z
  obtain ⟨f0,f1,f2,_⟩ := hf p.1 hb
  obtain ⟨o,e',d⟩ := ho p.1 hb
  rw [e] at e'; cases e'
  exact ⟨e,f0,f1,f2,d⟩
theorem Ai.unpinned {pins pl:List (Addr × Obj)} {σ:St} {H:Hp} {s:Shared} (I:Ai X (pins ++ pl) σ H s):Ai X pins σ H s:=I.pins_of fun p hp=>I.pin p (List.mem_append_right _ (List.mem_append_left _ hp))
theorem Cr {iter : Expr} {body : List Stmt} {wi : TI} {g : TG} {tb : TS} {pos : Pos} (hp : PassesOwn (model X.prog X.w) X.A X.env X.xe) (hc : X.calm = true) (hi : PI X tg iter wi) (hg : PG X tg g) (hb : R8 X body tb)
  (hs:∀ x,foldedSetIterable iter X.env x = pure x:=by intro _; rfl):PS X (.For tg iter body [] pos) (lh wi g tb):=by
 intro pins s σ H D I h
 refine wpAny_For (C7 (hi pins s σ H _ I h) fun v s1 h1=>C7 h1 fun itv s2 h2=>?_) hs
 obtain ⟨it,fp,tn,J,H2,e,I2,T,st2,f2,W,⟨m0,w0⟩,turn⟩ := h2
 subst e
 have stat:∀ {H':Hp},(∀ b ∈ fp,H' b = none) -> ∀ b ∈ fp,Lx X pins H' b:=fun hn b hb=>⟨hn b hb,(f2 b hb).2⟩
 refine codeAny_forLoop_any (fun n s'=>∃ i σ' H',Ai X pins σ' H' s' /\ tn i s'.heap /\ (∀ b ∈ fp,H' b = none) /\ W i n σ' H') ?_ m0 ⟨0,σ,H2,I2,st2,fun b hb=>(f2 b hb).1,w0⟩
 rintro n s3 ⟨i,σ3,H3,I3,st3,fr3,w3⟩
 rcases turn i n σ3 H3 w3 with ⟨stop,qn⟩ | ⟨go,N,hN,step⟩
 ·refine wpAny_passesOwn hp (C7 (T.done X rfl rfl rfl hc i pins s3 σ3 H3 X.xe I3 (stat fr3) st3 stop) fun r s4 hz0=>?_)
  obtain ⟨hr,I4⟩ := hz0
  subst hr
  exact wpAny_execs_nil ⟨σ3,H3,I4,qn⟩
 ·refine wpAny_passesOwn hp (C7 (T.item X rfl rfl rfl hc i pins s3 σ3 H3 X.xe I3 (stat fr3) st3 go) fun r s4 hz0=>?_)
  obtain ⟨u,hr,h4⟩ := hz0
  subst hr
  refine wpAny_passesOwn hp (C7 h4 fun _ s5 hz0=>?_)
  obtain ⟨x,H5,I5,r5,y5,st5,fr5⟩ := hz0
  have I5':=I5.pinned (stat fr5) (T.obj _ _ st5)
  refine wpAny_passesOwn hp (C7 (hg _ s5 σ3 H5 x u _ I5' r5 (step x H5 y5)) fun _ s6 hz0=>?_)
  obtain ⟨σ6,H6,I6,q6⟩ := hz0
  refine wpAny_passesOwn hp (C7 (hb _ s6 σ6 H6 _ I6 q6) fun f s7 q7=>?_)
  have again:∀ {σ7:St} {H7:Hp},Ai X (pins ++ Li fp s5.heap) σ7 H7 s7 -> N σ7 H7 -> ∃ m,m < n /\ ∃ i σ' H',Ai X pins σ' H' s7 /\ tn i s7.heap /\ (∀ b ∈ fp,H' b = none) /\ W i m σ' H':=fun {σ7 H7} I7 n7=>by
   obtain ⟨m',hm,w7⟩ := hN σ7 H7 n7
   refine ⟨m',hm,i + 1,σ7,H7,I7.unpinned,T.keep _ _ _ st5 fun b hb o e=>(I7.pin (b,o) (List.mem_append_right _ (List.mem_append_right _ (Fe hb e)))).1,fun b hb=>?_,w7⟩
   obtain ⟨o,e,d⟩ := T.obj _ _ st5 b hb
   exact (I7.pin (b,o) (List.mem_append_right _ (List.mem_append_right _ (Fe hb e)))).2.1
  cases f with
  | next=>obtain ⟨σ7,H7,I7,n7⟩ := q7; exact again I7 n7
  | cont=>obtain ⟨σ7,H7,I7,n7⟩ := q7; exact again I7 n7
  | brk=>obtain ⟨σ7,H7,I7,q7⟩ := q7; exact ⟨σ7,H7,I7.unpinned,q7⟩
  | ret v=>obtain ⟨x7,σ7,H7,I7,r7,q7⟩ := q7; exact ⟨x7,σ7,H7,I7.unpinned,r7,q7⟩
end
theorem D6 {K : PySem.W.Frag} {a : Addr} {xs : List V} {g : TG} {tb : TS} {D : Ju} {σ : St} {H : Hp} (Pv : Nat -> St -> Hp -> Prop) (h0 : Pv 0 σ H) (hl : ∀ i σ H, i <= xs.length -> Pv i σ H -> Bo K H a xs)
  (hs:∀ i x σ H,xs[i]? = some x -> Pv i σ H -> g x σ H fun σ2 H2=>tb { D with nx:=Pv (i + 1),ct:=Pv (i + 1),bk:=D.nx } σ2 H2) (hd:∀ σ H,Pv xs.length σ H -> D.nx σ H) :
  ∃ W:Nat -> Nat -> St -> Hp -> Prop,(∃ m,W 0 m σ H) /\ ∀ i m σ H,W i m σ H ->
   ((bp K a).stop i H /\ D.nx σ H) \/ ((bp K a).go i H /\ ∃ N:St -> Hp -> Prop,(∀ σ' H',N σ' H' -> ∃ m',m' < m /\ W (i + 1) m' σ' H') /\ ∀ x H',(bp K a).yld i H x H' -> g x σ H' fun σ2 H2=>tb { D with nx:=N,ct:=N,bk:=D.nx } σ2 H2):=by
 refine ⟨fun i m σ H=>m = xs.length - i /\ i <= xs.length /\ Pv i σ H,⟨xs.length,by simp,Nat.zero_le _,h0⟩,?_⟩
 rintro i m σ H ⟨rfl,hi,p⟩
 have q:=hl i σ H hi p
 by_cases hlt:i < xs.length
 ·refine .inr ⟨⟨xs,xs[i],q,by simp [hlt]⟩,Pv (i + 1),fun σ' H' p'=>⟨xs.length - (i + 1),by omega,rfl,hlt,p'⟩,fun x H' y=>?_⟩
  obtain ⟨e,y⟩ := y
  subst e
  exact hs i x σ _ (y xs q) p
 ·have e:i = xs.length:=by omega
  subst e
  exact .inl ⟨⟨xs,q,Nat.le_refl _⟩,hd σ H p⟩
theorem U5 {K : PySem.W.Frag} {a : Addr} {xs : List V} {g : TG} {tb : TS} {D : Ju} {σ : St} {H : Hp} (Pv : Nat -> St -> Hp -> Prop) (h0 : Pv 0 σ H) (hl : ∀ i σ H, i <= xs.length -> Pv i σ H -> Bx K H a xs)
  (hs:∀ i x σ H,xs[i]? = some x -> Pv i σ H -> g x σ H fun σ2 H2=>tb { D with nx:=Pv (i + 1),ct:=Pv (i + 1),bk:=D.nx } σ2 H2) (hd:∀ σ H,Pv xs.length σ H -> D.nx σ H) :
  ∃ W:Nat -> Nat -> St -> Hp -> Prop,(∃ m,W 0 m σ H) /\ ∀ i m σ H,W i m σ H ->
   ((gn K a).stop i H /\ D.nx σ H) \/ ((gn K a).go i H /\ ∃ N:St -> Hp -> Prop,(∀ σ' H',N σ' H' -> ∃ m',m' < m /\ W (i + 1) m' σ' H') /\ ∀ x H',(gn K a).yld i H x H' -> g x σ H' fun σ2 H2=>tb { D with nx:=N,ct:=N,bk:=D.nx } σ2 H2):=by
 refine ⟨fun i m σ H=>m = xs.length - i /\ i <= xs.length /\ Pv i σ H,⟨xs.length,by simp,Nat.zero_le _,h0⟩,?_⟩
 rintro i m σ H ⟨rfl,hi,p⟩
 have q:=hl i σ H hi p
 by_cases hlt:i < xs.length
 ·refine .inr ⟨⟨xs,xs[i],q,by simp [hlt]⟩,Pv (i + 1),fun σ' H' p'=>⟨xs.length - (i + 1),by omega,rfl,hlt,p'⟩,fun x H' y=>?_⟩
  obtain ⟨e,y⟩ := y
  subst e
  exact hs i x σ _ (y xs q) p
 ·have e:i = xs.length:=by omega
  subst e
  exact .inl ⟨⟨xs,q,Nat.le_refl _⟩,hd σ H p⟩
theorem J6 {lo : Int} {n : Nat} {g : TG} {tb : TS} {D : Ju} {σ : St} {H : Hp} (Pv : Nat -> St -> Hp -> Prop) (h0 : Pv 0 σ H)
  (hs:∀ i σ H,i < n -> Pv i σ H -> g (.int (lo + i)) σ H fun σ2 H2=>tb { D with nx:=Pv (i + 1),ct:=Pv (i + 1),bk:=D.nx } σ2 H2) (hd:∀ σ H,Pv n σ H -> D.nx σ H) :
  ∃ W:Nat -> Nat -> St -> Hp -> Prop,(∃ m,W 0 m σ H) /\ ∀ i m σ H,W i m σ H ->
   ((az lo n).stop i H /\ D.nx σ H) \/ ((az lo n).go i H /\ ∃ N:St -> Hp -> Prop,(∀ σ' H',N σ' H' -> ∃ m',m' < m /\ W (i + 1) m' σ' H') /\ ∀ x H',(az lo n).yld i H x H' -> g x σ H' fun σ2 H2=>tb { D with nx:=N,ct:=N,bk:=D.nx } σ2 H2):=by
 refine ⟨fun i m σ H=>m = n - i /\ i <= n /\ Pv i σ H,⟨n,by simp,Nat.zero_le _,h0⟩,?_⟩
 rintro i m σ H ⟨rfl,hi,p⟩
 by_cases hlt:i < n
 ·refine .inr ⟨hlt,Pv (i + 1),fun σ' H' p'=>⟨n - (i + 1),by omega,rfl,hlt,p'⟩,fun x H' y=>?_⟩
  obtain ⟨e,y⟩ := y
  subst e y
  exact hs i σ _ hlt p
 ·have e:i = n:=by omega
  subst e
  exact .inl ⟨Nat.le_refl _,hd σ H p⟩
theorem Hz {c : TT} {tb : TS} {D : Ju} {σ : St} {H : Hp} (Pv : St -> Hp -> Prop) (μ : St -> Hp -> Nat) (h0 : Pv σ H)
  (hs:∀ σ H,Pv σ H -> c σ H fun b H1=>if b = true then tb { D with nx:=fun σ' H'=>Pv σ' H' /\ μ σ' H' < μ σ H,ct:=fun σ' H'=>Pv σ' H' /\ μ σ' H' < μ σ H,bk:=D.nx } σ H1 else D.nx σ H1)
  (mono:∀ σ H Q Q',(∀ b H1,Q b H1 -> Q' b H1) -> c σ H Q -> c σ H Q'):Oe c tb D σ H:=by
 refine ⟨fun m σ H=>m = μ σ H /\ Pv σ H,⟨_,rfl,h0⟩,?_⟩
 rintro m σ H ⟨rfl,p⟩
 refine mono σ H _ _ (fun b H1 q=>?_) (hs σ H p)
 cases b with
 | true=>exact ⟨_,fun σ' H' ⟨p',l⟩=>⟨_,l,rfl,p'⟩,q⟩
 | false=>exact q
noncomputable abbrev R2:=V -> V -> Hp -> VK -> Prop
noncomputable def Ji (X:Cx) (f:Value -> Value -> Sem Value) (r:R2):Prop :=
 ∀ (pins:List (Addr × Obj)) (s:Shared) (σ:St) (H:Hp) (x y:V) (v u:Value) (Q:VK),Ai X pins σ H s -> Ax x v -> Ax y u -> r x y H Q ->
  wpAny (model X.prog X.w) X.A (f v u) (EP X pins σ Q) X.xe s
noncomputable def lj (X:Cx) (f:Value -> Sem Value) (r:V -> Hp -> VK -> Prop):Prop :=
 ∀ (pins:List (Addr × Obj)) (s:Shared) (σ:St) (H:Hp) (x:V) (v:Value) (Q:VK),Ai X pins σ H s -> Ax x v -> r x H Q ->
  wpAny (model X.prog X.w) X.A (f v) (EP X pins σ Q) X.xe s
noncomputable def E1 (X:Cx) (f:Value) (r:List V -> Hp -> VK -> Prop):Prop :=
 ∀ (pins:List (Addr × Obj)) (s:Shared) (σ:St) (H:Hp) (xs:List V) (us:List Value) (Q:VK),Ai X pins σ H s -> B6 xs us -> r xs H Q ->
  wpAny (model X.prog X.w) X.A (call f us) (EP X pins σ Q) X.xe s
noncomputable def ms (X:Cx) (r:V -> Hp -> (Bool -> Hp -> Prop) -> Prop):Prop :=
 ∀ (pins:List (Addr × Obj)) (s:Shared) (σ:St) (H:Hp) (x:V) (v:Value) (Q:Bool -> Hp -> Prop),Ai X pins σ H s -> Ax x v -> r x H Q ->
  wpAny (model X.prog X.w) X.A (truthy v) (TP X pins σ Q) X.xe s
noncomputable def km (r:R2) (ta tb:TE):TE:=fun σ H Q=>ta σ H fun x H1=>tb σ H1 fun y H2=>r x y H2 Q
noncomputable def nj (r:V -> Hp -> VK -> Prop) (ta:TE):TE:=fun σ H Q=>ta σ H fun x H1=>r x H1 Q
noncomputable def rI (C:Int -> Int -> Prop) (g:Int -> Int -> V):R2:=fun x y H Q=>∃ i j,x = .int i /\ y = .int j /\ C i j /\ Q (g i j) H
noncomputable def b8 (g:Int -> Int -> V):R2:=fun x y H Q=>∃ i j,x = .int i /\ y = .int j /\ Q (g i j) H
noncomputable def rU (g:Int -> V):V -> Hp -> VK -> Prop:=fun x H Q=>∃ i,x = .int i /\ Q (g i) H
section
variable {X:Cx} {a b c:Expr} {ta tb tc:TE} {pos:Pos}
theorem fm (ha : PE X a ta) (hb : PE X b tb) {pins : List (Addr × Obj)} {s : Shared} {σ : St} {H : Hp} {R : V -> V -> Hp -> Prop} (I : Ai X pins σ H s)
  (h:ta σ H fun x H1=>tb σ H1 fun y H2=>R x y H2) {Q:Value -> Shared -> Prop} {f:Value -> Value -> Sem Value}
  (hf:∀ v u s2 x y H2,Ai X pins σ H2 s2 -> Ax x v -> Ax y u -> R x y H2 -> wpAny (model X.prog X.w) X.A (f v u) Q X.xe s2) :
  wpAny (model X.prog X.w) X.A (eval a X.env) (fun v s₁=>wpAny (model X.prog X.w) X.A (eval b X.env) (fun u s₂=>wpAny (model X.prog X.w) X.A (f v u) Q X.xe s₂) X.xe s₁) X.xe s:=by
 refine C7 (ha pins s σ H _ I h) fun v s1 hz0=>?_
 obtain ⟨x,H1,I1,r1,q1⟩ := hz0
 refine C7 (hb pins s1 σ H1 _ I1 q1) fun u s2 hz0=>?_
 obtain ⟨y,H2,I2,r2,q2⟩ := hz0
 exact hf v u s2 x y H2 I2 r1 r2 q2
theorem Ba {op:Operator} {r:R2} (ho:Ji X (binaryOp op) r) (ha:PE X a ta) (hb:PE X b tb):PE X (.BinOp a op b pos) (km r ta tb):=by
 intro pins s σ H Q I h
 exact wpAny_BinOp (fm ha hb I h fun v u s2 x y H2 I2 rx ry q=>ho pins s2 σ H2 x y v u Q I2 rx ry q)
theorem jm {op:UnaryOp} {r:V -> Hp -> VK -> Prop} (ho:lj X (unaryOp op) r) (ha:PE X a ta):PE X (.UnaryOp op a pos) (nj r ta):=by
 intro pins s σ H Q I h
 exact UnaryOp_ (C7 (ha pins s σ H _ I h) fun v s1 ⟨x,H1,I1,r1,q1⟩=>ho pins s1 σ H1 x v Q I1 r1 q1)
theorem mo {f : Value -> Value -> Sem Value} {C : Int -> Int -> Prop} {g : Int -> Int -> Int}
  (rule:∀ (i j:Int) (t u:Tok) (s:Shared) (Q:Value -> Shared -> Prop) (E:Value -> Shared -> Prop),C i j -> Q (.int (g i j) s.toks) { s with toks:=s.toks + 1 } -> wpAny (model X.prog X.w) X.A (f (.int i t) (.int j u)) Q E s) :
  Ji X f (rI C fun i j=>.int (g i j)):=by
 intro pins s σ H x y v u Q I rx ry h
 obtain ⟨i,j,rfl,rfl,hc,q⟩ := h
 obtain ⟨t,rfl⟩ := rx
 obtain ⟨t',rfl⟩ := ry
 exact rule i j t t' s _ _ hc ⟨.int (g i j),H,I.tok _,⟨_,rfl⟩,q⟩
theorem kh {f : Value -> Value -> Sem Value} {g : Int -> Int -> Int}
  (rule:∀ (i j:Int) (t u:Tok) (s:Shared) (Q:Value -> Shared -> Prop) (E:Value -> Shared -> Prop),Q (.int (g i j) s.toks) { s with toks:=s.toks + 1 } -> wpAny (model X.prog X.w) X.A (f (.int i t) (.int j u)) Q E s) :
  Ji X f (b8 fun i j=>.int (g i j)):=by
 intro pins s σ H x y v u Q I rx ry h
 obtain ⟨i,j,rfl,rfl,q⟩ := h
 obtain ⟨t,rfl⟩ := rx
 obtain ⟨t',rfl⟩ := ry
 exact rule i j t t' s _ _ ⟨.int (g i j),H,I.tok _,⟨_,rfl⟩,q⟩
theorem f7 {f : Value -> Value -> Sem Value} {g : Int -> Int -> Bool}
  (rule:∀ (i j:Int) (t u:Tok) (s:Shared) (Q:Value -> Shared -> Prop) (E:Value -> Shared -> Prop),Q (.bool (g i j)) s -> wpAny (model X.prog X.w) X.A (f (.int i t) (.int j u)) Q E s) :
  Ji X f (b8 fun i j=>.bl (g i j)):=by
 intro pins s σ H x y v u Q I rx ry h
 obtain ⟨i,j,rfl,rfl,q⟩ := h
 obtain ⟨t,rfl⟩ := rx
 obtain ⟨t',rfl⟩ := ry
 exact rule i j t t' s _ _ ⟨.bl (g i j),H,I,rfl,q⟩
noncomputable def nc (i j:Int):Prop:=0 < j /\ j < 1073741824
theorem D4:Ji X (binaryOp .Add) (b8 fun i j=>.int (i + j)):=kh fun _ _ _ _ _ _ _ q=>add_int q
theorem Hb:Ji X (binaryOp .Sub) (b8 fun i j=>.int (i - j)):=kh fun _ _ _ _ _ _ _ q=>sub_int q
theorem Gi:Ji X (binaryOp .FloorDiv) (rI nc fun i j=>.int (i / j)):=mo fun i j _ _ _ _ _ hc q=>by
 have h1:(0:Int) < j:=hc.1
 have h2:j < 1073741824:=hc.2
 exact floordiv_int (by omega) (by rw [Int.fdiv_eq_ediv_of_nonneg i (by omega)]; exact q) (.inl (PyProof.noPylong_small (by omega)))
theorem Cs:Ji X (binaryOp .Mod) (rI (fun _ j=>0 < j) fun i j=>.int (i % j)):=mo fun i j _ _ _ _ _ hc q=>by
 have h1:(0:Int) < j:=hc
 exact mod_int' (by omega) (by rw [Int.fmod_eq_emod_of_nonneg i (by omega)]; exact q)
theorem nt {f : Value -> Sem Value} {g : Int -> Int}
  (rule:∀ (i:Int) (t:Tok) (s:Shared) (Q:Value -> Shared -> Prop) (E:Value -> Shared -> Prop),Q (.int (g i) s.toks) { s with toks:=s.toks + 1 } -> wpAny (model X.prog X.w) X.A (f (.int i t)) Q E s) :
  lj X f (rU fun i=>.int (g i)):=by
 intro pins s σ H x v Q I rx h
 obtain ⟨i,rfl,q⟩ := h
 obtain ⟨t,rfl⟩ := rx
 exact rule i t s _ _ ⟨.int (g i),H,I.tok _,⟨_,rfl⟩,q⟩
theorem g7:lj X (unaryOp .USub) (rU fun i=>.int (-i)):=nt fun _ _ _ _ _ q=>neg_int q
end
noncomputable def gz:V -> V -> Bool
 | .non,.non=>true | .non,.int _=>true | .int _,.non=>true | .non,.bl _=>true | .bl _,.non=>true | .non,.str _=>true | .str _,.non=>true
 | .int _,.int _=>true | .bl _,.bl _=>true | .str _,.str _=>true | .byt _,.byt _=>true
 | .int _,.str _=>true | .str _,.int _=>true | .bl _,.str _=>true | .str _,.bl _=>true
 | _,_=>false
noncomputable def nn:R2:=fun x y H Q=>gz x y = true /\ Q (.bl (decide (x = y))) H
noncomputable def ny:R2:=fun x y H Q=>gz x y = true /\ Q (.bl (!decide (x = y))) H
theorem Ub {i j:Int}:decide (V.int i = V.int j) = (i == j):=by
 rw [Bool.eq_iff_iff]
 simp
theorem W8 {i j:Bool}:decide (V.bl i = V.bl j) = (i == j):=by
 rw [Bool.eq_iff_iff]
 simp
theorem Ue {i j:Str}:decide (V.str i = V.str j) = (i == j):=by
 rw [Bool.eq_iff_iff]
 simp
theorem Tk {i j:Array UInt8}:decide (V.byt i = V.byt j) = (i.toList == j.toList):=by
 rw [Bool.eq_iff_iff]
 cases i
 cases j
 simp
section
variable {X:Cx} {a b c:Expr} {ta tb tc:TE} {pos:Pos}
theorem Bg {pins:List (Addr × Obj)} {σ:St} {H:Hp} {s:Shared} {Q:VK} {k k':Bool} (I:Ai X pins σ H s) (q:Q (.bl k) H) (e:k = k'):EP X pins σ Q (.bool k') s:=by
 subst e
 exact ⟨.bl k,H,I,rfl,q⟩
theorem Fn:Ji X (compareOp .Eq) nn:=by
 intro pins s σ H x y v u Q I rx ry h
 obtain ⟨hs,q⟩ := h
 cases x with
 | non =>
  cases rx
  cases y with
  | non=>cases ry; exact PySem.EqNone.eq_none_none (Bg I q (by simp))
  | bl j=>cases ry; exact PySem.EqNone.eq_none_bool (Bg I q (by simp))
  | int j=>obtain ⟨t',rfl⟩ := ry; exact PySem.EqNone.eq_none_int (Bg I q (by simp))
  | str j=>obtain ⟨t',rfl⟩ := ry; exact PySem.EqNone.eq_none_str (Bg I q (by simp))
  | _=>exact absurd (show false = true from hs) Bool.false_ne_true
 | bl i =>
  cases rx
  cases y with
  | non=>cases ry; exact PySem.EqNone.eq_bool_none (Bg I q (by simp))
  | bl j=>cases ry; exact eq_bool (Bg I q W8)
  | str j=>obtain ⟨t',rfl⟩ := ry; exact PySem.EqMixed.eq_bool_str (Bg I q (by simp))
  | _=>exact absurd (show false = true from hs) Bool.false_ne_true
 | int i =>
  obtain ⟨t,rfl⟩ := rx
  cases y with
  | non=>cases ry; exact PySem.EqNone.eq_int_none (Bg I q (by simp))
  | int j=>obtain ⟨t',rfl⟩ := ry; exact eq_int (Bg I q Ub)
  | str j=>obtain ⟨t',rfl⟩ := ry; exact PySem.EqMixed.eq_int_str (Bg I q (by simp))
  | _=>exact absurd (show false = true from hs) Bool.false_ne_true
 | str i =>
  obtain ⟨t,rfl⟩ := rx
  cases y with
  | non=>cases ry; exact PySem.EqNone.eq_str_none (Bg I q (by simp))
  | bl j=>cases ry; exact PySem.EqMixed.eq_str_bool (Bg I q (by simp))
  | int j=>obtain ⟨t',rfl⟩ := ry; exact PySem.EqMixed.eq_str_int (Bg I q (by simp))
  | str j=>obtain ⟨t',rfl⟩ := ry; exact eq_str (Bg I q Ue)
  | _=>exact absurd (show false = true from hs) Bool.false_ne_true
 | byt i =>
  obtain ⟨t,rfl⟩ := rx
  cases y with
  | byt j=>obtain ⟨t',rfl⟩ := ry; exact PySem.W.eq_bytes (Bg I q Tk)
  | _=>exact absurd (show false = true from hs) Bool.false_ne_true
 | _=>cases y <;> exact absurd (show false = true from hs) Bool.false_ne_true
theorem ju:Ji X (compareOp .NotEq) ny:=by
 intro pins s σ H x y v u Q I rx ry h
 obtain ⟨hs,q⟩ := h
 cases x with
 | non =>
  cases rx
  cases y with
  | non=>cases ry; exact PySem.EqNone.ne_none_none (Bg I q (by simp))
  | bl j=>cases ry; exact PySem.EqNone.ne_none_bool (Bg I q (by simp))
  | int j=>obtain ⟨t',rfl⟩ := ry; exact PySem.EqNone.ne_none_int (Bg I q (by simp))
  | str j=>obtain ⟨t',rfl⟩ := ry; exact PySem.EqNone.ne_none_str (Bg I q (by simp))
  | _=>exact absurd (show false = true from hs) Bool.false_ne_true
 | bl i =>
  cases rx
  cases y with
  | non=>cases ry; exact PySem.EqNone.ne_bool_none (Bg I q (by simp))
  | bl j=>cases ry; exact ne_bool (Bg I q (congrArg not W8))
  | str j=>obtain ⟨t',rfl⟩ := ry; exact PySem.EqMixed.ne_bool_str (Bg I q (by simp))
  | _=>exact absurd (show false = true from hs) Bool.false_ne_true
 | int i =>
  obtain ⟨t,rfl⟩ := rx
  cases y with
  | non=>cases ry; exact PySem.EqNone.ne_int_none (Bg I q (by simp))
  | int j=>obtain ⟨t',rfl⟩ := ry; exact ne_int (Bg I q (congrArg not Ub))
  | str j=>obtain ⟨t',rfl⟩ := ry; exact PySem.EqMixed.ne_int_str (Bg I q (by simp))
  | _=>exact absurd (show false = true from hs) Bool.false_ne_true
 | str i =>
  obtain ⟨t,rfl⟩ := rx
  cases y with
  | non=>cases ry; exact PySem.EqNone.ne_str_none (Bg I q (by simp))
  | bl j=>cases ry; exact PySem.EqMixed.ne_str_bool (Bg I q (by simp))
  | int j=>obtain ⟨t',rfl⟩ := ry; exact PySem.EqMixed.ne_str_int (Bg I q (by simp))
  | str j=>obtain ⟨t',rfl⟩ := ry; exact ne_str (Bg I q (congrArg not Ue))
  | _=>exact absurd (show false = true from hs) Bool.false_ne_true
 | byt i =>
  obtain ⟨t,rfl⟩ := rx
  cases y with
  | byt j=>obtain ⟨t',rfl⟩ := ry; exact PySem.W.ne_bytes (Bg I q (congrArg not Tk))
  | _=>exact absurd (show false = true from hs) Bool.false_ne_true
 | _=>cases y <;> exact absurd (show false = true from hs) Bool.false_ne_true
theorem To:Ji X (compareOp .Lt) (b8 fun i j=>.bl (decide (i < j))):=f7 fun _ _ _ _ _ _ _ q=>lt_int q
theorem Qr:Ji X (compareOp .Gt) (b8 fun i j=>.bl (decide (j < i))):=f7 fun _ _ _ _ _ _ _ q=>gt_int q
theorem io:Ji X (compareOp .GtE) (b8 fun i j=>.bl (decide (j <= i))):=f7 fun _ _ _ _ _ _ _ q=>ge_int q
theorem Yi:Ji X (compareOp .Is) (fun x y H Q=>y = .non /\ Q (.bl (decide (x = .non))) H):=by
 intro pins s σ H x y v u Q I rx ry h
 obtain ⟨rfl,q⟩ := h
 cases ry
 refine is_none_gen (Bg I q ?_)
 cases x <;> first
  | (cases rx; rfl)
  | (obtain ⟨t,rfl⟩ := rx; rfl)
theorem Ii:Ji X (compareOp .IsNot) (fun x y H Q=>y = .non /\ Q (.bl (!decide (x = .non))) H):=by
 intro pins s σ H x y v u Q I rx ry h
 obtain ⟨rfl,q⟩ := h
 cases ry
 refine isnot_none_gen (Bg I q ?_)
 cases x <;> first
  | (cases rx; rfl)
  | (obtain ⟨t,rfl⟩ := rx; rfl)
theorem Be (b:Expr) {op:CmpOp} (h:op ≠ .In:=by decide) (h2:op ≠ .NotIn:=by decide):behindInMarks op b = false:=by
 have e1:(op == CmpOp.In) = false:=by cases op <;> first | rfl | exact absurd rfl h
 have e2:(op == CmpOp.NotIn) = false:=by cases op <;> first | rfl | exact absurd rfl h2
 cases b <;> simp [behindInMarks,e1,e2]
theorem Ej {op:CmpOp} {r:R2} (ho:Ji X (compareOp op) r) (ha:PE X a ta) (hb:PE X b tb) (hm:behindInMarks op b = false):PE X (.Compare a [op] [b] pos) (km r ta tb):=by
 intro pins s σ H Q I h
 exact wpAny_Compare1 (fm ha hb I h fun v u s2 x y H2 I2 rx ry q=>ho pins s2 σ H2 x y v u Q I2 rx ry q) hm
noncomputable def jh (t:TE):TT:=fun σ H Q=>t σ H fun x H'=>∃ k,x = .bl k /\ Q k H'
theorem Bd {op:CmpOp} {r:R2} (ho:Ji X (compareOp op) r) (ha:PE X a ta) (hb:PE X b tb) (hm:behindInMarks op b = false):PT X (.Compare a [op] [b] pos) (jh (km r ta tb)):=by
 intro pins s σ H Q I h
 refine wpAny_isTrue_Compare1 (C7 (ha pins s σ H _ I h) fun v s1 ⟨x,H1,I1,r1,q1⟩=>C7 (hb pins s1 σ H1 _ I1 q1) fun u s2 ⟨y,H2,I2,r2,q2⟩ =>
  C7 (ho pins s2 σ H2 x y v u _ I2 r1 r2 q2) fun c s3 ⟨z,H3,I3,r3,k,e,q3⟩=>?_) hm
 subst e
 cases r3
 exact wpAny_truthy_bool ⟨H3,I3,q3⟩
noncomputable def je (K:PySem.W.Frag) (x:V) (H:Hp) (k:Bool):Prop :=
 match x with
 | .non=>k = false
 | .bl b=>k = b
 | .int i=>k = (i != 0)
 | .str y=>y.length <= sizeLine /\ k = ((y.length:Int) != 0)
 | .byt y=>y.size <= sizeLine /\ k = ((y.size:Int) != 0)
 | .ref p=>(∃ xs,Bo K H p xs /\ k = !xs.isEmpty) \/ (∃ xs,Bx K H p xs /\ k = !xs.isEmpty) \/ ∃ kvs,H p = some (.dK kvs) /\ k = !kvs.isEmpty
 | _=>False
theorem S7 {κ:Type} {kvs:List (κ × V)} {vs:List (κ × Value)} (r:KV kvs vs):(!vs.isEmpty) = !kvs.isEmpty:=by
 cases r <;> rfl
theorem Lg {xs:List V} {its:List Value} (r:B6 xs its):(!its.toArray.isEmpty) = !xs.isEmpty:=by
 cases r <;> simp
theorem Gx:(sizeLine:Nat) < 2 ^ 63:=by rw [sizeLine_eq]; decide
theorem fq:ms X (fun x H Q=>∃ k,je X.K x H k /\ Q k H):=by
 intro pins s σ H x v Q I rx h
 obtain ⟨k,e,q⟩ := h
 have hl:=Gx
 have hs:sizeLine = 16777216:=sizeLine_eq
 cases x with
 | non =>
  cases rx
  have e':k = false:=e
  subst e'
  exact truthy_none ⟨H,I,q⟩
 | bl b =>
  cases rx
  have e':k = b:=e
  subst e'
  exact wpAny_truthy_bool ⟨H,I,q⟩
 | int i =>
  obtain ⟨t,rfl⟩ := rx
  have e':k = (i != 0):=e
  subst e'
  exact PySem.P.truthy_int ⟨H,I,q⟩
 | str y =>
  obtain ⟨t,rfl⟩ := rx
  obtain ⟨hy,e'⟩ : y.length <= sizeLine /\ k = ((y.length:Int) != 0):=e
  subst e'
  exact PySem.P.truthy_str (by omega) ⟨H,I.tok _,q⟩
 | byt y =>
  obtain ⟨t,rfl⟩ := rx
  obtain ⟨hy,e'⟩ : y.size <= sizeLine /\ k = ((y.size:Int) != 0):=e
  subst e'
  exact PySem.W.truthy_bytes (by omega) ⟨H,I.tok _,q⟩
 | ref p =>
  cases rx
  have e':(∃ xs,Bo X.K H p xs /\ k = !xs.isEmpty) \/ (∃ xs,Bx X.K H p xs /\ k = !xs.isEmpty) \/ ∃ kvs,H p = some (.dK kvs) /\ k = !kvs.isEmpty:=e
  rcases e' with ⟨xs,hx,e'⟩ | ⟨xs,hx,e'⟩ | ⟨kvs,hx,e'⟩
  ·subst e'
   obtain ⟨its,r,pl,hz⟩ := I.list hx
   have hlen:=r.length
   exact wpAny_truthy_list pl.isList (by simp only [List.size_toArray]; omega) ⟨H,I.tok _,by rw [Lg r]; exact q⟩
  ·subst e'
   obtain ⟨its,r,pl,hz⟩ := I.tuple hx
   have hlen:=r.length
   exact truthy_tuple pl (by simp only [List.size_toArray]; omega) ⟨H,I.tok _,by rw [Lg r]; exact q⟩
  ·subst e'
   obtain ⟨hz,hS,vs,r,m⟩ : kvs.length <= sizeLine /\ (p == sysModules) = false /\ ∃ vs,KV kvs vs /\ s.heap.DictOf (D7 X.prog X.w) p vs:=I.hok p _ hx
   have hlen:kvs.length = vs.length:=Paired.length r
   exact wpAny_truthy_dict hS m (by omega) ⟨H,I.tok _,by rw [S7 r]; exact q⟩
 | _=>exact (show False from e).elim
theorem Lp (ha : PE X a ta) (he : ∀ whole, isTrue a X.env whole = (do let v <- whole; standAt a.pos; holding [v] (truthy v))) :
  PT X a (fun σ H Q=>ta σ H fun x H'=>∃ k,je X.K x H' k /\ Q k H'):=by
 intro pins s σ H Q I h
 exact isTrue_plain (C7 (ha pins s σ H _ I h) fun v s1 ⟨x,H1,I1,r1,q1⟩=>fq pins s1 σ H1 x v Q I1 r1 q1) (he _)
theorem Jn {x:V} {us:List Value} (r:B6 [x] us):∃ u,us = [u] /\ Ax x u:=by
 cases r with
 | cons r1 r2=>cases r2; exact ⟨_,rfl,r1⟩
theorem Wl {x y:V} {us:List Value} (r:B6 [x,y] us):∃ u w',us = [u,w'] /\ Ax x u /\ Ax y w':=by
 cases r with
 | cons r1 r2 =>
  cases r2 with
  | cons r3 r4=>cases r4; exact ⟨_,_,rfl,r1,r3⟩
theorem F9 (hc:X.calm = true):E1 X (.builtin "max") (fun xs H Q=>∃ i j,xs = [.int i,.int j] /\ Q (.int (if j > i then j else i)) H):=by
 intro pins s σ H xs us Q I r h
 obtain ⟨i,j,rfl,q⟩ := h
 obtain ⟨u,w',rfl,⟨t,rfl⟩,⟨t',rfl⟩⟩ := Wl r
 refine max_two_ints (I.ok.hd hc) fun h' tk k=>⟨_,H,I.kept k,?_,q⟩
 by_cases hj:j > i
 ·rw [if_pos hj,if_pos hj]; exact ⟨_,rfl⟩
 ·rw [if_neg hj,if_neg hj]; exact ⟨_,rfl⟩
theorem V2 (hc:X.calm = true):E1 X (.builtin "min") (fun xs H Q=>∃ i j,xs = [.int i,.int j] /\ Q (.int (if j < i then j else i)) H):=by
 intro pins s σ H xs us Q I r h
 obtain ⟨i,j,rfl,q⟩ := h
 obtain ⟨u,w',rfl,⟨t,rfl⟩,⟨t',rfl⟩⟩ := Wl r
 refine min_two_ints (I.ok.hd hc) fun h' tk k=>⟨_,H,I.kept k,?_,q⟩
 by_cases hj:j < i
 ·rw [if_pos hj,if_pos hj]; exact ⟨_,rfl⟩
 ·rw [if_neg hj,if_neg hj]; exact ⟨_,rfl⟩
theorem Uq:E1 X (.type "int") (fun xs H Q=>(∃ i,xs = [.int i] /\ Q (.int i) H) \/ ∃ k,xs = [.bl k] /\ Q (.int (if k then 1 else 0)) H):=by
 intro pins s σ H xs us Q I r h
 rcases h with ⟨i,rfl,q⟩ | ⟨k,rfl,q⟩
 ·obtain ⟨u,rfl,t,rfl⟩ := Jn r
  exact call_int_int ⟨.int i,H,I,⟨_,rfl⟩,q⟩
 ·obtain ⟨u,rfl,r1⟩ := Jn r
  cases r1
  exact call_int_bool ⟨.int (if k then 1 else 0),H,I.tok _,⟨_,rfl⟩,q⟩
end
structure bj (h:Heap) (x dx C:Addr) (mA:Str -> Option Value):Prop where
 obj:h.get? x = some (PySem.W.instObj C dx)
 ns:h.Ns1 dx mA
 ne:dx ≠ x
theorem Up {h:Heap} {dx:Addr} {mA:Str -> Option Value} (n:h.Ns1 dx mA):∃ od,h.get? dx = some od /\ ∀ name,PySem.W.lookIn name od = some (mA name):=by
 obtain ⟨o,es,ep,ho,hd,hk,_,hm⟩ := n
 refine ⟨o,ho,fun name=>?_⟩
 have e:=hm name
 unfold nsFind findBy at e
 rw [<- Array.find?_toList] at e
 unfold PySem.W.lookIn
 rw [hd]
 dsimp only
 split
 ·rename_i y q
  rw [q] at e
  exact congrArg some e
 ·rename_i q
  rw [q] at e
  have a:es.toList.any (·.refKey) = false:=by
   rw [List.any_eq_false]
   intro y hy
   obtain ⟨z,t,hkey⟩ := hk y (Array.mem_toList_iff.mp hy)
   simp [DictEntry.refKey,hkey]
  have a':¬ es.toList.any (·.refKey) = true:=by rw [a]; exact Bool.false_ne_true
  rw [if_neg a']
  exact congrArg some e
theorem bj.look {h:Heap} {x dx C:Addr} {mA:Str -> Option Value} (I:bj h x dx C mA):∃ od,PySem.W.InstAt h x (PySem.W.instObj C dx) C (some od) /\ ∀ name,PySem.W.lookIn name od = some (mA name) :=
 let ⟨od,ho,hl⟩ := Up I.ns
 ⟨od,⟨I.obj,rfl,rfl,ho⟩,hl⟩
section
variable {prog:Program} {w:World} {A:Around} {E:Value -> Shared -> Prop} {s:Shared} {K:PySem.W.Frag} {x dx C f:Addr} {mA:Str -> Option Value} {name:Str} {v:Value}
end
theorem Hl.some_of {v:V} {o:Option Value} (r:Hl (some v) o):∃ u,o = some u /\ Ax v u:=by
 cases o with
 | none=>exact (show False from r).elim
 | some u=>exact ⟨u,rfl,r⟩
section
variable {P:Program} {w:World} {H H':Hp} {h h':Heap} {a C dx:Addr} {fs fs':List (Str × V)}
theorem Zy (hok:Hj P w H h) (e:H a = some (.ins C dx fs)):∃ mA,bj h a dx C mA /\ (∀ f,Hl (fs.lookup f) (mA f)) /\ PySem.Within mA (fs.map (·.1)) /\ fs.length <= 1000 /\ H dx = some (.own a):=by
 obtain ⟨d,z,ne,ob,mA,n,r,q⟩ := (show Br P w H h a (.ins C dx fs) from hok a _ e)
 exact ⟨mA,⟨ob,n,ne⟩,r,q,z,d⟩
end
structure mn (K:PySem.W.Frag) (C:Addr):Prop where
 pg:PySem.W.plainGet K C Str.empty = true
 hd:PySem.W.hasDictIn K C = true
 po:PySem.W.plainOver K C = true
 sa:PySem.W.findIn K (.ref C) "__setattr__" = some (some (.builtin "object.__setattr__"))
theorem mn.get {K:PySem.W.Frag} {C:Addr} (c:mn K C) (f:Str):PySem.W.plainGet K C f = true:=c.pg
section
variable {X:Cx} {pins:List (Addr × Obj)} {σ:St} {H:Hp} {s:Shared} {a C dx:Addr} {fs:List (Str × V)} {f:Str} {v:V} {A:Around} {E:Value -> Shared -> Prop}
end
section
variable {X:Cx} {o e value:Expr} {f:Str} {pos pos' tpos:Pos} {ta tv:TE}
end
section
variable {X:Cx} {pins:List (Addr × Obj)} {σ:St} {H:Hp} {s:Shared} {A:Around} {E:Value -> Shared -> Prop} {Q:Value -> Shared -> Prop} {c:Value} {b:Bool}
inductive Ja (K:PySem.W.Frag) (H:Hp):V -> Value -> Prop where
 | non:Ja K H .non (.type "NoneType")
 | bl (x:Bool):Ja K H (.bl x) (.type "bool")
 | int (i:Int):Ja K H (.int i) (.type "int")
 | str (x:Str):Ja K H (.str x) (.type "str")
 | flt (x:UInt64):Ja K H (.flt x) (.type "float")
 | lst {a:Addr} {xs:List V} (e:H a = some (.lst xs)):Ja K H (.ref a) (.type "list")
 | frz {a:Addr} {o:Obj} {xs:List V} (e:H a = some (.frz o (.lst xs))):Ja K H (.ref a) (.type "list")
 | tup {a:Addr} {xs:List V} (e:H a = some (.tup xs)):Ja K H (.ref a) (.type "tuple")
 | dK {a:Addr} {kvs:List (E4 × V)} (e:H a = some (.dK kvs)):Ja K H (.ref a) (.type "dict")
 | dT {a:Addr} {kvs:List ((List Int × Int) × V)} (e:H a = some (.dT kvs)):Ja K H (.ref a) (.type "dict")
 | ins {a C dx : Addr} {fs : List (Str × V)} (e : H a = some (.ins C dx fs)) (cl : mn K C) (ha : PySem.W.findIn K (.ref C) "__class__" = some (some (.builtin "object.__class__")))
   (hn:PySem.W.specialIn K (.builtin "object.__class__") "__get__" = some (some (.builtin "getset_descriptor.__get__"))) (htk:PySem.W.takesIn K (.builtin "object.__class__") = some true)
   (hm:PySem.W.mroIn K C (.type "object") = some true):Ja K H (.ref a) (.ref C)
theorem Vf {x : V} {u t : Value} (I : Ai X pins σ H s) (rx : Ax x u) (ty : Ja X.K H x t) (e : PySem.W.kitOne X.K t c = some b) (h : ∀ tk, Q (.bool b) { s with toks := tk }) :
  wpAny (model X.prog X.w) A (call (.builtin "isinstance") [u,c]) Q E s:=by
 cases ty with
 | non=>cases (show u = Value.none from rx); exact PySem.W.kia_one PySem.W.kitx_none I.kIn True.intro e (fun z=>nomatch z) h
 | bl y=>cases (show u = Value.bool y from rx); exact PySem.W.kia_one PySem.W.kitx_bool I.kIn True.intro e (fun z=>nomatch z) h
 | int i=>obtain ⟨t,q⟩ := (show ∃ t,u = Value.int i t from rx); cases q; exact PySem.W.kia_one PySem.W.kitx_int I.kIn True.intro e (fun z=>nomatch z) h
 | str y=>obtain ⟨t,q⟩ := (show ∃ t,u = Value.str y t from rx); cases q; exact PySem.W.kia_one PySem.W.kitx_str I.kIn True.intro e (fun z=>nomatch z) h
 | flt y=>obtain ⟨t,q⟩ := (show ∃ t,u = Value.float y t from rx); cases q; exact PySem.W.kia_one PySem.W.kitx_float I.kIn True.intro e (fun z=>nomatch z) h
 | @lst a xs ea =>
  cases (show u = Value.ref a from rx)
  obtain ⟨_,_,n,_,h1⟩ := (show Br X.prog X.w H s.heap a (.lst xs) from I.hok a _ ea)
  exact PySem.W.kia_one PySem.W.kitx_list I.kIn ⟨_,h1,rfl⟩ e (fun z=>nomatch z) h
 | @frz a ob xs ea =>
  cases (show u = Value.ref a from rx)
  obtain ⟨_,_,_,n,_,h1⟩ := (show Br X.prog X.w H s.heap a (.frz ob (.lst xs)) from I.hok a _ ea)
  exact PySem.W.kia_one PySem.W.kitx_list I.kIn ⟨_,h1,rfl⟩ e (fun z=>nomatch z) h
 | @tup a xs ea =>
  cases (show u = Value.ref a from rx)
  obtain ⟨_,_,_,p⟩ := (show Br X.prog X.w H s.heap a (.tup xs) from I.hok a _ ea)
  obtain ⟨o,h1,h2,_⟩ := p
  exact PySem.W.kia_one PySem.W.kitx_tuple I.kIn ⟨o,h1,h2⟩ e (fun z=>nomatch z) h
 | @dK a kvs ea =>
  cases (show u = Value.ref a from rx)
  obtain ⟨_,_,vs,_,p⟩ := (show Br X.prog X.w H s.heap a (.dK kvs) from I.hok a _ ea)
  obtain ⟨o,es,ep,h1,h2,_⟩ := p
  exact PySem.W.kia_one PySem.W.kitx_dict I.kIn ⟨o,h1,h2.1⟩ e (fun z=>nomatch z) h
 | @dT a kvs ea =>
  cases (show u = Value.ref a from rx)
  obtain ⟨_,_,xs,_,o,es,ep,h1,h2,_⟩ := (show Br X.prog X.w H s.heap a (.dT kvs) from I.hok a _ ea)
  exact PySem.W.kia_one PySem.W.kitx_dict I.kIn ⟨o,h1,h2.1⟩ e (fun z=>nomatch z) h
 | @ins a C dx fs ea cl ha hn htk hm =>
  cases (show u = Value.ref a from rx)
  obtain ⟨mA,O,_⟩ := Zy I.hok ea
  obtain ⟨od,J,_⟩ := O.look
  exact PySem.W.kia_one (PySem.W.kitx_own (cl.get _) cl.hd ha hn htk hm) I.kIn J e (fun z=>nomatch z) h
end
structure De (k:Nat) (A:Around):Prop where
 hd:A.handled = none
 dp:A.depth + 3 * k + 5 < recursionLimit
 un:A.units + 16 * k + 200 < cLine
theorem De.mono {j k:Nat} {A:Around} (r:De k A) (h:j <= k):De j A:=⟨r.hd,by have:=r.dp; omega,by have:=r.un; omega⟩
theorem De.deeper {k:Nat} {A:Around} (r:De (k + 1) A) (env:Env):De k (A.deeper env) :=
 ⟨r.hd,by have:=r.dp; show A.depth + 1 + 3 * k + 5 < _; omega,by have:=r.un; show A.units + 3 + 16 * k + 200 < _; omega⟩
theorem De.depth {k:Nat} {A:Around} (r:De k A):A.depth < recursionLimit:=by have:=r.dp; omega
theorem De.units {k:Nat} {A:Around} (r:De k A):A.units + 64 < cLine:=by have:=r.un; omega
noncomputable def lr:TA:=fun _ H Q=>Q [] H
noncomputable def ig (ta:TE) (tr:TA):TA:=fun σ H Q=>ta σ H fun x H1=>tr σ H1 fun xs H2=>Q (x :: xs) H2
section
variable {X:Cx} {e:Expr} {es:List Expr} {te:TE} {t:TA} {pos:Pos}
theorem A7:PA X [] lr:=fun _ _ _ _ H Q I h=>Calls.spliced_nil ⟨[],H,I,.nil,h⟩
theorem A0 (ha:PE X e te) (hr:PA X es t) (hs:starEach (e :: es) X.env = (false,eval e X.env) :: starEach es X.env:=by rfl):PA X (e :: es) (ig te t):=by
 intro pos pins s σ H Q I h
 rw [hs]
 show wpAny _ _ (spliced ((false,eval e X.env) :: backTo pos (starEach es X.env))) _ _ s
 refine Calls.spliced_cons (C7 (ha pins s σ H _ I h) fun u s1 hz0=>?_)
 obtain ⟨x,H1,I1,r1,q1⟩ := hz0
 exact C7 (hr pos pins s1 σ H1 _ I1 q1) fun us s2 ⟨xs,H2,I2,r2,q2⟩=>⟨x :: xs,H2,I2,.cons r1 r2,q2⟩
noncomputable def lv (t:TA):TE:=fun σ H Q=>t σ H fun xs H1=>xs.length <= sizeLine /\ ∀ p,H1 p = none -> Q (.ref p) (upd H1 p (.tup xs))
noncomputable def lz (t:TA):TE:=fun σ H Q=>t σ H fun xs H1=>xs.length <= sizeLine /\ ∀ p,H1 p = none -> Q (.ref p) (upd H1 p (.lst xs))
theorem Bt {x1} (h:PA X es t):PE X (.Tuple es x1 pos) (lv t):=by
 intro pins s σ H Q I hq
 refine wpAny_Tuple_spliced (C7 (h pos pins s σ H _ I hq) fun us s1 ⟨xs,H1,I1,r,z,q⟩=>⟨by rw [<- r.length]; exact z,?_⟩)
 have hf:H1 s1.heap.objs.size = none:=I1.hok.fresh (Nat.le_refl _)
 refine ⟨.ref s1.heap.objs.size,upd H1 s1.heap.objs.size (.tup xs),I1.laid (t':=s1.toks) (fun b u e=>Heap.get?_push_of_some _ e) (Nat.le_refl _) ?_,rfl,q _ hf⟩
 exact ⟨⟨z,⟨_,Heap.get?_push_size _ rfl,rfl⟩⟩,us,r,⟨_,Heap.get?_push_size _ rfl,rfl,_,rfl⟩⟩
theorem D5 (h:PA X es t):PE X (.List es pos) (lz t):=by
 intro pins s σ H Q I hq
 refine wpAny_List_spliced (C7 (h pos pins s σ H _ I hq) fun us s1 ⟨xs,H1,I1,r,z,q⟩=>⟨by rw [<- r.length]; exact z,?_⟩)
 have hf:H1 s1.heap.objs.size = none:=I1.hok.fresh (Nat.le_refl _)
 refine ⟨.ref s1.heap.objs.size,upd H1 s1.heap.objs.size (.lst xs),I1.laid (t':=s1.toks) (fun b u e=>Heap.get?_push_of_some _ e) (Nat.le_refl _) ?_,rfl,q _ hf⟩
 exact ⟨z,us,0,r,Heap.get?_push_size _ rfl⟩
end
noncomputable abbrev Sp:=List V -> Hp -> VK -> XK -> Prop
noncomputable abbrev Xb:=List Env -> Hp -> Shared -> XK -> Value -> Shared -> Prop
structure Zi (P:Program) (w:World) (K:PySem.W.Frag) (mg:Str -> Option Value) (base:Heap) (A:Around) (outer:List Env) (s:Shared) (H:Hp):Prop where
 frames:A.frames = some outer
 mod:Mod K mg base
 bs:∀ b o,base.get? b = some o -> s.heap.get? b = some o /\ H b = none
 bsz:base.objs.size <= s.heap.objs.size
 funs:s.heap.FunFrames base outer
 frf:∀ b ∈ frs outer,H b = none
 hok:Hj P w H s.heap
 bare:AllBare s.gens
noncomputable def CE (outer:List Env) (P:Program) (w:World) (H:Hp) (s:Shared) (Q:VK) (u:Value) (s':Shared):Prop :=
 ∃ v H',s'.os = s.os /\ AllBare s'.gens /\ Un (frs outer) [] H H' s.heap s'.heap /\ Hj P w H' s'.heap /\ Ax v u /\ Q v H'
noncomputable def CR (CX:Xb) (outer:List Env) (P:Program) (w:World) (H:Hp) (s:Shared) (Q:VK) (E:XK) (r:Result) (s':Shared):Prop :=
 match r with
 | .ok (.ret u)=>CE outer P w H s Q u s'
 | .ok _=>False
 | .error e=>CX outer H s E e s'
structure Aj (P:Program) (w:World) (K:PySem.W.Frag) (mg:Str -> Option Value) (base:Heap) (CX:Xb) (k:Nat) (f:Addr) (fd:FuncData) (ps:List Str) (sp:Sp):Prop where
 len:∀ vs H Q E,sp vs H Q E -> vs.length = ps.length
 run:∀ (A:Around) (outer:List Env) (s:Shared) (H:Hp) (args:Args) (us:List Value) (vs:List V) (Q:VK) (E:XK),De k A -> Zi P w K mg base A outer s H -> BindsTo s fd args (ps.zip us) -> B6 vs us -> sp vs H Q E ->
  codeAny (model P w) A (.call (.ref f) args) (CR CX outer P w H s Q E) s
section
variable {X:Cx} {pins:List (Addr × Obj)} {σ:St} {H:Hp} {s s':Shared}
theorem Ai.env0 (I:Ai X pins σ H s):Zi X.prog X.w X.K X.mg X.base X.A X.stack s H :=
 ⟨I.ok.frames,I.ok.mod,I.bs,Nat.le_trans I.ok.bsz I.sz,I.stack,I.stkFree,I.hok,I.bare⟩
theorem Ai.after {Q:VK} {u:Value} (I:Ai X pins σ H s) (h:CE X.stack X.prog X.w H s Q u s'):EP X pins σ Q u s':=by
 obtain ⟨v,H',os,bare,un,hok,r,q⟩ := h
 obtain ⟨hh,g,d,t,os'⟩ := s'
 obtain rfl:os' = s.os:=os
 exact ⟨v,H',I.call (h':=hh) (g':=g) (d':=d) (t':=t) (ch:=[]) un hok bare (fun b z=>absurd z (by simp)),r,q⟩
end
noncomputable def ji (sp:Sp) (dvs:List V) (E:XK) (t:TA):TE:=fun σ H Q=>t σ H fun vs H1=>sp (vs ++ dvs) H1 Q E
noncomputable def Az (K:PySem.W.Frag) (fd:FuncData) (ps:List Str) (ds:List Value):Prop :=
 ∀ (s:Shared) (us:List Value),K.In s.heap -> (us ++ ds).length = ps.length -> BindsTo s fd ⟨us,[]⟩ (ps.zip (us ++ ds))
theorem Az.all {K:PySem.W.Frag} {fd:FuncData} {ps:List Str} (h:∀ us:List Value,us.length = ps.length -> bindArgs fd ⟨us,[]⟩ = pure (ps.zip us)):Az K fd ps []:=fun s us _ hl=>by
 rw [List.append_nil] at hl ⊢
 exact .of_eq (h us hl)
noncomputable def Sx (CX:Xb) (X:Cx) (E:XK):Prop := ∀ (pins:List (Addr × Obj)) (σ:St) (H:Hp) (s:Shared) (e:Value) (s':Shared),Ai X pins σ H s -> CX X.stack H s E e s' -> X.xe e s'
section
variable {X:Cx} {CX:Xb} {k:Nat} {f C:Addr} {fd:FuncData} {ps:List Str} {sp:Sp} {dvs:List V} {ds:List Value} {E:XK} {x m:Str} {p pos apos:Pos} {e o:Expr} {es:List Expr} {ta:TE} {t:TA}
theorem bh {pins : List (Addr × Obj)} {σ : St} {H : Hp} {s : Shared} {Q : VK} {us : List Value} {vs : List V} (F : Aj X.prog X.w X.K X.mg X.base CX k f fd ps sp) (hr : De k X.A) (hb : Az X.K fd ps ds) (hd : B6 dvs ds) (hx : Sx CX X E)
  (I:Ai X pins σ H s) (r:B6 vs us) (h:sp (vs ++ dvs) H Q E):wpAny (model X.prog X.w) X.A (call (.ref f) us) (EP X pins σ Q) X.xe s:=by
 have r2:B6 (vs ++ dvs) (us ++ ds):=r.append hd
 have hl:(us ++ ds).length = ps.length:=by rw [<- r2.length]; exact F.len _ _ _ _ h
 refine wpAny_call (codeAny_mono (F.run X.A X.stack s H ⟨us,[]⟩ (us ++ ds) (vs ++ dvs) Q E hr I.env0 (hb s us I.kIn hl) r2 h) fun r s' hq=>?_)
 cases r with
 | error e=>exact hx pins σ H s e s' I hq
 | ok fl =>
  cases fl with
  | ret u=>exact I.after hq
  | next=>exact False.elim hq
  | brk=>exact False.elim hq
  | cont=>exact False.elim hq
theorem Ag (F : Aj X.prog X.w X.K X.mg X.base CX k f fd ps sp) (hr : De k X.A) (hg : Gl X x) (hm : X.mg x = some (.ref f)) (hk : PySem.W.keepIn X.K (.ref f) = true) (hb : Az X.K fd ps ds) (hd : B6 dvs ds) (hx : Sx CX X E)
  (ha:PA X (e :: es) t) (hdb:(x == ("__debug__" : Str)) = false:=by decide) (he:starEach (e :: es) X.env = (false,eval e X.env) :: starEach es X.env:=by rfl) (hpl:(backTo pos (starEach es X.env)).any (·.1) = false:=by rfl) :
  PE X (.Call (.Name x p) (e :: es) [] pos) (ji sp dvs E t):=by
 intro pins s σ H Q I h
 refine wpAny_Call_Name_kw (U4 I hg hm ?_ hdb)
 refine PySem.W.callWith_K (h₀:=X.base) I.ok.mod.kin hk (C7 (ha pos pins s σ H _ I h) fun us s1 ⟨vs,H1,I1,r,q⟩=>⟨I1.kIn,?_⟩) he hpl
 exact bh F hr hb hd hx I1 r q
end
section
variable {X:Cx} {CX:Xb} {k:Nat} {f C:Addr} {fd:FuncData} {ps ks:List Str} {sp:Sp} {E:XK} {x m:Str} {p pos apos kpos:Pos} {e o:Expr} {es:List Expr} {kws:List Keyword} {te ta:TE} {t tk:TA} {nm:Option Str}
variable {g:List Value -> List Value -> List Value} {gV:List V -> List V -> List V}
end
structure As (N P:List Str) (sc:Scope):Prop where
 kind:sc.kind = .function
 co:sc.isCoroutine = false
 gen:sc.isGenerator = false
 nd:N.Nodup
 pre:N.take P.length = P
 par:∀ x ∈ P,sc.names.lookup x = some .local \/ sc.names.lookup x = some .cell
 nofree:∀ y ∈ sc.names,y.2 ≠ .free
theorem O6 {kindOf:Str -> Option NameKind} {x:Str}:∀ {binds:List (Str × Value)} {m:Str -> Option Value},(∀ v,(x,v) ∉ binds) -> bindL kindOf binds m x = m x
 | [],_,_=>rfl
 | (n,v) :: r,m,h=>by
  unfold bindL
  rw [O6 fun w hw=>h w (List.mem_cons_of_mem _ hw)]
  split
  ·have:x ≠ n:=by rintro rfl; exact h v List.mem_cons_self
   simp [this]
  ·rfl
theorem Na {kindOf:Str -> Option NameKind} {x:Str}:∀ {binds:List (Str × Value)} {m:Str -> Option Value},(∀ v,(x,v) ∉ binds) -> bindC kindOf binds m x = m x
 | [],_,_=>rfl
 | (n,v) :: r,m,h=>by
  unfold bindC
  rw [Na fun w hw=>h w (List.mem_cons_of_mem _ hw)]
  split
  ·rfl
  ·have:x ≠ n:=by rintro rfl; exact h v List.mem_cons_self
   simp [this]
theorem Mu {kindOf : Str -> Option NameKind} {x : Str} {v : Value} : ∀ {P : List Str} {vs : List Value} {i : Nat} {m : Str -> Option Value}, P.Nodup -> P[i]? = some x -> vs[i]? = some v -> kindOf x = some .local ->
  bindL kindOf (P.zip vs) m x = some v
 | [],_,_,_,_,h,_,_=>by simp at h
 | _ :: _,[],_,_,_,_,h,_=>by simp at h
 | p :: P,w :: vs,0,m,nd,h1,h2,hk=>by
  simp at h1 h2; subst h1; subst h2
  show bindL kindOf ((p,w) :: P.zip vs) m p = _
  unfold bindL
  rw [O6 fun v hv=>(List.nodup_cons.mp nd).1 (List.of_mem_zip hv).1,if_pos hk]
  simp
 | p :: P,w :: vs,i + 1,m,nd,h1,h2,hk=>by
  show bindL kindOf ((p,w) :: P.zip vs) m x = _
  unfold bindL
  exact Mu (i:=i) (List.nodup_cons.mp nd).2 (by simpa using h1) (by simpa using h2) hk
theorem Nt {kindOf : Str -> Option NameKind} {x : Str} {v : Value} : ∀ {P : List Str} {vs : List Value} {i : Nat} {m : Str -> Option Value}, P.Nodup -> P[i]? = some x -> vs[i]? = some v -> kindOf x ≠ some .local ->
  bindC kindOf (P.zip vs) m x = some v
 | [],_,_,_,_,h,_,_=>by simp at h
 | _ :: _,[],_,_,_,_,h,_=>by simp at h
 | p :: P,w :: vs,0,m,nd,h1,h2,hk=>by
  simp at h1 h2; subst h1; subst h2
  show bindC kindOf ((p,w) :: P.zip vs) m p = _
  unfold bindC
  rw [Na fun v hv=>(List.nodup_cons.mp nd).1 (List.of_mem_zip hv).1,if_neg hk]
  simp
 | p :: P,w :: vs,i + 1,m,nd,h1,h2,hk=>by
  show bindC kindOf ((p,w) :: P.zip vs) m x = _
  unfold bindC
  exact Nt (i:=i) (List.nodup_cons.mp nd).2 (by simpa using h1) (by simpa using h2) hk
noncomputable def start (N:List Str) (vs:List V):St:=vs.map some ++ List.replicate (N.length - vs.length) none
noncomputable def Sj (CX:Xb) (P:Program) (w:World) (K:PySem.W.Frag) (mg:Str -> Option Value) (base:Heap) (N:List Str) (qual:Str) (scope:Scope) (f:Addr) (cd:Value) (A:Around) (outer:List Env) (s:Shared) (H:Hp) (E:XK):Cx where
 prog:=P
 w:=w
 K:=K
 mg:=mg
 base:=base
 A:=A.deeper (envOfC qual scope s.heap.objs.size f cd)
 N:=N
 s₀:=s
 H₀:=H
 env:=envOfC qual scope s.heap.objs.size f cd
 outer:=outer
 stack:=envOfC qual scope s.heap.objs.size f cd :: outer
 ex:=[]
 calm:=true
 fn:=fun _=>true
 pn:=[]
 xe:=fun e s'=>wpAny (model P w) (A.deeper (envOfC qual scope s.heap.objs.size f cd)) (leaving (envOfC qual scope s.heap.objs.size f cd) e) (fun _ s''=>CX outer H s E e s'') (fun e' s''=>CX outer H s E e' s'') s'
theorem Pk {sc:Scope} {n:Nat} {x:Str} (h:sc.names.lookup x = some .cell):∃ c,(cellsFrom n sc.names []).lookup x = some c:=by
 have q:=PySem.W.cellsFrom_some sc.names n [] (.inl h)
 exact Option.isSome_iff_exists.mp q
theorem Ur {CX : Xb} {P : Program} {w : World} {K : PySem.W.Frag} {mg : Str -> Option Value} {base : Heap} {N ps : List Str} {qual : Str} {scope : Scope} {f : Addr} {cd : Value} {A : Around} {outer : List Env} {s s1 : Shared} {H : Hp} {E : XK} {us : List Value} {vs : List V}
  (S:As N ps scope) (hd:A.handled = none) (e0:Zi P w K mg base A outer s H) (hl:vs.length = ps.length) (r:B6 vs us)
  (x:InCallC s s.heap.objs.size (bindL (envOfC qual scope s.heap.objs.size f cd).kindOf (ps.zip us) fun _=>none) (cellsFrom (s.heap.objs.size + 1) scope.names []) (bindC (envOfC qual scope s.heap.objs.size f cd).kindOf (ps.zip us) fun _=>none) s1) :
  Ai (Sj CX P w K mg base N qual scope f cd A outer s H E) [] (start N vs) H s1:=by
 have hpl:ps.length <= N.length:=by have:=congrArg List.length S.pre; rw [List.length_take] at this; omega
 obtain ⟨h1,tk,rfl,hk⟩ := x.done
 have noA:∀ b:Addr,b ∉ (Sj CX P w K mg base N qual scope f cd A outer s H E).ex:=fun b z=>absurd (show b ∈ ([]:List Addr) from z) (by simp)
 refine ⟨⟨e0.mod,S.kind,rfl,rfl,Nat.le_refl _,fun y z c h1 h2=>?_,fun y hy=>?_,fun y c _ h=>?_,fun _=>hd,Around.frames_deeper e0.frames,.inr ⟨rfl,rfl⟩,fun b z=>absurd z (noA b),e0.bs,e0.bsz,fun b _ _=>noA b,fun b z=>absurd z (noA b),e0.funs,e0.frf⟩,
  rfl,e0.bare,Un.kept hk,⟨_,x.toInCall.ns,fun i y v h1 h2 h3=>?_⟩,fun y c h=>⟨_,x.cell y c h⟩,e0.hok.fresh (Nat.le_refl _),fun y c h=>?_,fun p hp=>absurd (show p ∈ ([]:List (Addr × Obj)) from hp) (by simp),e0.hok.kept hk,?_⟩
 ·exact name_of_addr x.apart (PySem.mem_of_lookup h1) (PySem.mem_of_lookup h2)
 ·have hy:scope.names.lookup y = some .cell \/ scope.names.lookup y = some .free:=hy
  rcases hy with hy | hy
  ·exact Pk hy
  ·exact absurd rfl (S.nofree _ (PySem.mem_of_lookup hy))
 ·exact Nat.le_of_lt (x.above y c (PySem.mem_of_lookup h))
 ·have hi : i < vs.length := by
   unfold start at h2
   by_cases hi:i < vs.length
   ·exact hi
   ·rw [List.getElem?_append_right (by simpa using hi)] at h2
    rw [List.getElem?_replicate] at h2
    split at h2 <;> cases h2
  have ha:vs[i]? = some v:=by
   unfold start at h2
   rw [List.getElem?_append_left (by simpa using hi),List.getElem?_map] at h2
   cases e:vs[i]? with
   | none=>rw [e] at h2; cases h2
   | some a=>rw [e] at h2; cases h2; rfl
  obtain ⟨u,hu,rv⟩ := r.get ha
  have hp:ps[i]? = some y:=by
   rw [<- S.pre,List.getElem?_take_of_lt (by omega)]; exact h1
  have ndP:ps.Nodup:=by rw [<- S.pre]; exact S.nd.sublist (List.take_sublist _ _)
  refine ⟨u,rv,?_⟩
  rcases S.par y (List.mem_of_getElem? hp) with k | k
  ·exact .inl ⟨k,Mu ndP hp hu k⟩
  ·obtain ⟨c,e⟩ := Pk (n:=s.heap.objs.size + 1) k
   refine .inr ⟨.inl k,c,e,?_⟩
   have q:=x.cell y c e
   rw [Nt ndP hp hu (by show scope.names.lookup y ≠ _; rw [k]; decide)] at q
   exact q
 ·exact e0.hok.fresh (Nat.le_of_lt (x.above y c (PySem.mem_of_lookup h)))
 ·unfold start
  show _ = N.length
  rw [List.length_append,List.length_map,List.length_replicate]
  omega
theorem ag {CX : Xb} {P : Program} {w : World} {K : PySem.W.Frag} {mg : Str -> Option Value} {base : Heap} {k : Nat} {f : Addr} {name qual : Str} {params : Arguments} {body : List Stmt} {scope : Scope} {dV kV doc pm cdv ct oc : Value} {an od : Option Addr}
  {osl:Array (Option Value)} {N ps:List Str} {sp:Sp} (lk:K.lookup f = some ⟨oc,od,.func (PySem.W.fnOf name qual params body scope dV kV doc pm an cdv ct),osl⟩) (hcd:PySem.W.codeIn K cdv qual = true) (S:As N ps scope)
  (len:∀ vs H Q E,sp vs H Q E -> vs.length = ps.length)
  (hbody:∀ (A:Around) (outer:List Env) (s:Shared) (H:Hp) (vs:List V) (Q:VK) (E:XK),De k (A.deeper (envOfC qual scope s.heap.objs.size f cdv)) -> sp vs H Q E ->
   ∃ t,R8 (Sj CX P w K mg base N qual scope f cdv A outer s H E) body t /\ t { nx:=fun _ H'=>Q .non H',rt:=Q } (start N vs) H) :
  Aj P w K mg base CX (k + 1) f (PySem.W.fnOf name qual params body scope dV kV doc pm an cdv ct) ps sp:=by
 refine ⟨len,fun A outer s H args us vs Q E hr e0 hb r hsp=>?_⟩
 have hl:=len _ _ _ _ hsp
 have KX:K.In s.heap:=e0.mod.kin.keeps fun b o e=>(e0.bs b o e).1
 have lim:s.heap.NoLimit:=e0.mod.nolimit.keeps fun b o e=>(e0.bs b o e).1
 have hkind:∀ y ∈ ps.zip us,scope.names.lookup y.1 = some .local \/ (scope.names.lookup y.1 = some .cell /\ ((cellsFrom (s.heap.objs.size + 1) scope.names []).lookup y.1).isSome = true):=fun ⟨n,v⟩ hy=>by
  rcases S.par n (List.of_mem_zip hy).1 with q | q
  ·exact .inl q
  ·exact .inr ⟨q,PySem.W.cellsFrom_some _ _ _ (.inl q)⟩
 refine codeAny_call_function hr.depth (KX _ _ lk) rfl S.co S.gen rfl (PySem.W.codeRec_of KX hcd) (hb _ _ _ _ ?_)
 refine wpAny_newFunctionEnv_cells S.kind hkind fun env he s1 x=>?_
 subst he
 refine ⟨lim.keeps x.toInCall.keep,codeAny_func ?_⟩
 obtain ⟨t,ht,hq⟩ := hbody A outer s H vs Q E (hr.deeper _) hsp
 have I:Ai (Sj CX P w K mg base N qual scope f cdv A outer s H E) [] (start N vs) H s1:=Ur S hr.hd e0 hl r x
 refine wpAny_mono (ht [] s1 (start N vs) H _ I hq) (fun fl s' hs=>?_) fun e s' hs=>hs
 have fin:∀ {σ':St} {H':Hp} {v:V} {u:Value},Ai (Sj CX P w K mg base N qual scope f cdv A outer s H E) [] σ' H' s' -> Ax v u -> Q v H' -> CE outer P w H s Q u s' :=
  fun {σ' H' v u} J rv q=>⟨v,H',J.os,J.bare,J.base,J.hok,rv,q⟩
 cases fl with
 | ret u =>
  obtain ⟨v,σ',H',J,rv,q⟩ := hs
  exact fin J rv q
 | next =>
  obtain ⟨σ',H',J,q⟩ := hs
  exact fin (v:=V.non) (u:=Value.none) J rfl q
 | brk =>
  obtain ⟨_,_,_,q⟩ := hs
  exact False.elim q
 | cont =>
  obtain ⟨_,_,_,q⟩ := hs
  exact False.elim q
section
variable {X:Cx} {x:Str} {p pos:Pos} {e:Expr} {es:List Expr} {t:TA} {id T:String} {r:List V -> Hp -> VK -> Prop}
noncomputable def ng (r:List V -> Hp -> VK -> Prop) (t:TA):TE:=fun σ H Q=>t σ H fun vs H1=>r vs H1 Q
theorem Aw (hc : E1 X (.builtin id) r) (hg : Gl X x) (hm : X.mg x = none) (hv : bootBuiltins x = some (.builtin id)) (ha : PA X (e :: es) t) (hn : x ≠ "__name__" := by decide) (hdb : (x == ("__debug__" : Str)) = false := by decide)
  (he:starEach (e :: es) X.env = (false,eval e X.env) :: starEach es X.env:=by rfl) (hpl:(backTo pos (starEach es X.env)).any (·.1) = false:=by rfl):PE X (.Call (.Name x p) (e :: es) [] pos) (ng r t):=by
 intro pins s σ H Q I h
 refine wpAny_Call_Name_kw (Iq I hg hm hv ?_ hn hdb)
 exact PyProof.Rows.callWith_builtin1 (C7 (ha pos pins s σ H _ I h) fun us s1 ⟨vs,H1,I1,r1,q1⟩=>hc pins s1 σ H1 vs us Q I1 r1 q1) he hpl
theorem Cc (hc : E1 X (.type T) r) (hg : Gl X x) (hm : X.mg x = none) (hv : bootBuiltins x = some (.type T)) (ha : PA X (e :: es) t) (hn : x ≠ "__name__" := by decide) (hdb : (x == ("__debug__" : Str)) = false := by decide)
  (he:starEach (e :: es) X.env = (false,eval e X.env) :: starEach es X.env:=by rfl) (hpl:(backTo pos (starEach es X.env)).any (·.1) = false:=by rfl):PE X (.Call (.Name x p) (e :: es) [] pos) (ng r t):=by
 intro pins s σ H Q I h
 refine wpAny_Call_Name_kw (Iq I hg hm hv ?_ hn hdb)
 exact PyProof.Rows.callWith_type1 (C7 (ha pos pins s σ H _ I h) fun us s1 ⟨vs,H1,I1,r1,q1⟩=>hc pins s1 σ H1 vs us Q I1 r1 q1) he hpl
end
end L2
namespace HT
local macro_rules | `(tactic| omega) => `(tactic| lia)
open PySem PyProof.Rows
section
open PySem.SeqAt
open PySem.AutoSeq1 (wpAny_loadPart')
open PySem.MeetsSeq PySem.MeetsSeq2 PySem.MeetsSeq3
end
section
variable {prog:Program} {w:World} {A:Around} {E:Value -> Shared -> Prop} {s:Shared}
theorem cat_tup {t b : Addr} {vs ws : List Value} {Q : Value -> Shared -> Prop} (ht : IsTup s.heap t vs.toArray) (hb : IsTup s.heap b ws.toArray) (hv : vs ≠ [])
  (h1:ws = [] -> Q (.ref t) s) (h2:ws ≠ [] -> Q (.ref s.heap.objs.size) { s with heap:=s.heap.push { cls := .type "tuple",data := .seq (vs ++ ws).toArray } })
  (hsz:vs.length + ws.length <= sizeLine):wpAny (model prog w) A (binaryOp .Add (.ref t) (.ref b)) Q E s:=by
 obtain ⟨⟨cls,dd,data,sl⟩,ho,hc,n,hd⟩ := id ht
 obtain ⟨⟨cls2,dd2,data2,sl2⟩,ho2,hc2,n2,hd2⟩ := id hb
 simp only at hc hd hc2 hd2
 subst hc hd hc2 hd2
 have e:vs.toArray ++ ws.toArray = (vs ++ ws).toArray:=by simp
 by_cases hw:ws = []
 ·exact concat_meets ⟨_, ho, rfl⟩ ⟨_, ho2, rfl⟩ noFill_tuple_add seq_tuple_add PySem.F.slot_tuple_add PySem.F.entry_tuple_add (PySem.F.args_tuple_add_2 _ _)
   (tuple_addW1 t b vs.toArray ws.toArray n n2 dd dd2 sl sl2 (by simpa using hv) (by simp [hw])) ⟨ho,ho2,h1 hw⟩
 ·refine concat_meets ⟨_, ho, rfl⟩ ⟨_, ho2, rfl⟩ noFill_tuple_add seq_tuple_add PySem.F.slot_tuple_add PySem.F.entry_tuple_add (PySem.F.args_tuple_add_2 _ _)
   (tuple_addW2 t b vs.toArray ws.toArray n n2 dd dd2 sl sl2 (by simpa using hv) (by simpa using hw) (by rw [List.size_toArray,List.size_toArray]; exact hsz)) ⟨ho,ho2,?_⟩
  rw [e]
  exact h2 hw
noncomputable def sIx (n d:Nat):Option Int -> Nat
 | none=>d
 | some v=>if v < 0 then (v + (n:Int)).toNat else min v.toNat n
theorem sIx_none (n d:Nat):sIx n d none = d:=rfl
theorem sIx_nat (n d k:Nat):sIx n d (some (k:Int)) = min k n:=by
 show (if (k:Int) < 0 then ((k:Int) + (n:Int)).toNat else min (k:Int).toNat n) = min k n
 rw [if_neg (by omega),Int.toNat_natCast]
end
end HT
namespace L2
local macro_rules | `(tactic| omega) => `(tactic| lia)
open PySem PySem.Spec PyProof.Rows
noncomputable abbrev TO:=St -> Hp -> (Option Int -> Hp -> Prop) -> Prop
noncomputable def PO (X:Cx) (e:Option Expr) (t:TO):Prop :=
 ∀ (pins:List (Addr × Obj)) (s:Shared) (σ:St) (H:Hp) (Q:Option Int -> Hp -> Prop),Ai X pins σ H s -> t σ H Q ->
  wpAny (model X.prog X.w) X.A (evalPart e X.env) (fun u s'=>∃ o H',Ai X pins σ H' s' /\ IsPart u o /\ Q o H') X.xe s
noncomputable def Yo:TO:=fun _ H Q=>Q none H
noncomputable def jz (t:TE):TO:=fun σ H Q=>t σ H fun x H1=>∃ i,x = .int i /\ Q (some i) H1
section
variable {X:Cx} {e:Expr} {te:TE} {lo hi:Option Expr} {tl th:TO} {pos p2:Pos}
theorem K1:PO X none Yo:=by
 intro pins s σ H Q I h
 rw [evalPart_none]
 exact wpAny_pure ⟨none,H,I,.none,h⟩
theorem K0 (h:PE X e te):PO X (some e) (jz te):=by
 intro pins s σ H Q I hw
 rw [evalPart_some]
 refine C7 (h pins s σ H _ I hw) fun u s1 hz0=>?_
 obtain ⟨x,H1,I1,r1,q1⟩ := hz0
 obtain ⟨i,rfl,q⟩ := q1
 obtain ⟨t,rfl⟩ := r1
 exact ⟨some i,H1,I1,.int i t,q⟩
noncomputable def l8 (X:Cx) (r:V -> Option Int -> Option Int -> Hp -> VK -> Prop):Prop :=
 ∀ (pins:List (Addr × Obj)) (s:Shared) (σ:St) (H:Hp) (x:V) (v vl vu:Value) (lo hi:Option Int) (sl:Addr) (Q:VK),Ai X pins σ H s -> Ax x v -> s.heap.IsSliceOf sl vl vu .none -> IsPart vl lo -> IsPart vu hi -> r x lo hi H Q ->
  ∃ T id,typeLookup (.type T) "__getitem__" = pure (some (.builtin id)) /\ s.TypeIs v T /\ wpAny (model X.prog X.w) X.A (getItem v (.ref sl)) (EP X pins σ Q) X.xe s
noncomputable def nw (r:V -> Option Int -> Option Int -> Hp -> VK -> Prop) (te:TE) (tl th:TO):TE:=fun σ H Q=>te σ H fun x H1=>tl σ H1 fun l H2=>th σ H2 fun u H3=>r x l u H3 Q
theorem Ig {r:V -> Option Int -> Option Int -> Hp -> VK -> Prop} (hr:l8 X r) (he:PE X e te) (hl:PO X lo tl) (hu:PO X hi th):PE X (.Subscript e (.Slice lo hi none p2) pos) (nw r te tl th):=by
 intro pins s σ H Q I h
 refine Subscript_ (C7 (he pins s σ H _ I h) fun v s1 hz0=>?_)
 obtain ⟨x,H1,I1,r1,q1⟩ := hz0
 refine wpAny_Slice (C7 (hl pins s1 σ H1 _ I1 q1) fun vl s2 ⟨l,H2,I2,pl,q2⟩=>C7 (hu pins s2 σ H2 _ I2 q2) fun vu s3 hz0=>?_)
 obtain ⟨u,H3,I3,pu,q3⟩ := hz0
 rw [evalPart_none]
 refine wpAny_pure ?_
 have I4:Ai X pins σ H3 { s3 with heap:=s3.heap.push { cls := .type "slice",data := .fields #[vl,vu,.none] } }:=I3.kept (t':=s3.toks) fun b ob q=>Heap.get?_push_of_some _ q
 obtain ⟨T,id,hT,ht,hg⟩ := hr pins { s3 with heap:=s3.heap.push { cls := .type "slice",data := .fields #[vl,vu,.none] } } σ H3 x v vl vu l u s3.heap.objs.size Q I4 r1 (Heap.IsSliceOf.new ..) pl pu q3
 show wpAny (model X.prog X.w) X.A (subscriptTail e (.Slice lo hi none p2) v (.ref s3.heap.objs.size)) (EP X pins σ Q) X.xe { s3 with heap:=s3.heap.push { cls := .type "slice",data := .fields #[vl,vu,.none] } }
 exact tail_any (ops:=[.ref s3.heap.objs.size,v]) ht hT hg (by with_unfolding_all rfl)
noncomputable def Vb (xs:List V) (lo hi:Option Int):List V:=(xs.drop (HT.sIx xs.length 0 lo)).take (HT.sIx xs.length xs.length hi - HT.sIx xs.length 0 lo)
theorem Qx (xs:List V) (lo hi:Option Int):(Vb xs lo hi).length <= xs.length:=by
 unfold Vb
 rw [List.length_take,List.length_drop]
 omega
noncomputable def j5 (K:PySem.W.Frag):R2:=fun x y H Q=>∃ a b xs ys,x = .ref a /\ y = .ref b /\ Bx K H a xs /\ Bx K H b ys /\ xs ≠ [] /\ xs.length + ys.length <= sizeLine /\
 (ys = [] -> Q (.ref a) H) /\ (ys ≠ [] -> ∀ p,H p = none -> Q (.ref p) (upd H p (.tup (xs ++ ys))))
theorem B6.nil_iff {xs:List V} {us:List Value} (r:B6 xs us):us = [] ↔ xs = []:=by
 cases r with
 | nil=>simp
 | cons _ _=>simp
theorem Z8:Ji X (binaryOp .Add) (j5 X.K):=by
 intro pins s σ H x y v u Q I rx ry h
 obtain ⟨a,b,xs,ys,rfl,rfl,ha,hb,hx,hz,q1,q2⟩ := h
 cases rx
 cases ry
 obtain ⟨its,r1,p1,_⟩ := I.tuple ha
 obtain ⟨its2,r2,p2,_⟩ := I.tuple hb
 refine HT.cat_tup p1 p2 (fun z=>hx (r1.nil_iff.mp z)) (fun z=>⟨.ref a,H,I,rfl,q1 (r2.nil_iff.mp z)⟩) (fun z=>?_) (by rw [<- r1.length,<- r2.length]; exact hz)
 refine ⟨.ref s.heap.objs.size,_,I.laid (t':=s.toks) (o := .tup (xs ++ ys)) (fun b ob q=>Heap.get?_push_of_some _ q) (Nat.le_refl _) ?_,rfl,q2 (fun w=>z (r2.nil_iff.mpr w)) _ (I.hok.fresh (Nat.le_refl _))⟩
 exact ⟨⟨by rw [List.length_append]; exact hz,⟨_,Heap.get?_push_size _ rfl,rfl⟩⟩,_,r1.append r2,IsTup.new _ _⟩
end
noncomputable def Vw (n:Nat) (i:Int):Option Nat:=if 0 <= i then (if i < n then some i.toNat else none) else if -(n:Int) <= i then some (i + n).toNat else none
noncomputable def Pe {α:Type} (xs:List α) (i:Int):Option α:=(Vw xs.length i).bind fun j=>xs[j]?
theorem Ug {n:Nat} {i:Int} {j:Nat} (h:Vw n i = some j):seqIndex? i n = some j /\ j < n /\ -(n:Int) <= i /\ i < n:=by
 unfold Vw at h
 by_cases h0:0 <= i
 ·rw [if_pos h0] at h
  by_cases h1:i < n
  ·rw [if_pos h1] at h
   have e:i.toNat = j:=Option.some.inj h
   exact ⟨by rw [seqIndex_of h0 h1,e],by omega,by omega,h1⟩
  ·rw [if_neg h1] at h; cases h
 ·rw [if_neg h0] at h
  by_cases h1 : -(n:Int) <= i
  ·rw [if_pos h1] at h
   have e:(i + n).toNat = j:=Option.some.inj h
   exact ⟨by rw [seqIndex_neg (by omega) h1,e],by omega,h1,by omega⟩
  ·rw [if_neg h1] at h; cases h
theorem Tr {α:Type} {xs:List α} {i:Int} {v:α} (h:Pe xs i = some v):∃ j,seqIndex? i xs.length = some j /\ xs[j]? = some v /\ j < xs.length /\ -(xs.length:Int) <= i /\ i < xs.length:=by
 unfold Pe at h
 cases e:Vw xs.length i with
 | none=>rw [e] at h; cases h
 | some j =>
  rw [e] at h
  obtain ⟨h1,h2,h3,h4⟩ := Ug e
  exact ⟨j,h1,h,h2,h3,h4⟩
theorem P3 {α:Type} {xs:List α} {j:Nat} {v:α} (h:xs[j]? = some v):Pe xs (j:Int) = some v:=by
 have hj:j < xs.length:=(List.getElem?_eq_some_iff.mp h).1
 have e:Vw xs.length (j:Int) = some j:=by
  unfold Vw
  rw [if_pos (by omega),if_pos (by omega)]; simp
 unfold Pe; rw [e]; exact h
theorem X6 {α:Type} (xs:List α) (v:α):Pe (xs ++ [v]) (-1) = some v:=by
 have hl:(xs ++ [v]).length = xs.length + 1:=by simp
 have e:Vw (xs ++ [v]).length (-1) = some xs.length:=by
  unfold Vw
  rw [hl,if_neg (by decide),if_pos (by omega)]
  congr 1
  omega
 unfold Pe
 rw [e]
 show (xs ++ [v])[xs.length]? = some v
 simp
noncomputable def Yv (b:Expr):Prop := ∀ o i,subscripted b false o i = operate [o,i] (getItem o i)
noncomputable def kq (X:Cx) (r:R2):Prop :=
 ∀ (value slice:Expr) (pins:List (Addr × Obj)) (s:Shared) (σ:St) (H:Hp) (x y:V) (v u:Value) (Q:VK),Ai X pins σ H s -> Ax x v -> Ax y u -> r x y H Q ->
  subscripted slice false v u = operate [v,u] (getItem v u) -> wpAny (model X.prog X.w) X.A (subscriptTail value slice v u) (EP X pins σ Q) X.xe s
noncomputable def lf (X:Cx) (id:String) (r:V -> List V -> Hp -> VK -> Prop):Prop :=
 ∀ (pins:List (Addr × Obj)) (s:Shared) (σ:St) (H:Hp) (x:V) (xs:List V) (v:Value) (us:List Value) (Q:VK),Ai X pins σ H s -> Ax x v -> B6 xs us -> r x xs H Q ->
  wpAny (model X.prog X.w) X.A (call (.builtin id) (v :: us)) (EP X pins σ Q) X.xe s
section
variable {X:Cx} {a b:Expr} {ta tb:TE} {pos:Pos}
theorem B9 {r:R2} (hr:kq X r) (ha:PE X a ta) (hb:PE X b tb) (hs:Yv b):PE X (.Subscript a b pos) (km r ta tb):=by
 intro pins s σ H Q I h
 exact Subscript_ (fm ha hb I h fun v u s2 x y H2 I2 rx ry q=>hr a b pins s2 σ H2 x y v u Q I2 rx ry q (hs _ _))
noncomputable def lq (K:PySem.W.Frag):R2:=fun x y H Q=>∃ p xs i v,x = .ref p /\ y = .int i /\ Bo K H p xs /\ Pe xs i = some v /\ Q v H
noncomputable def ln (K:PySem.W.Frag):R2:=fun x y H Q=>∃ p xs i v,x = .ref p /\ y = .int i /\ Bx K H p xs /\ Pe xs i = some v /\ Q v H
theorem Z0:kq X (lq X.K):=by
 intro value slice pins s σ H x y v u Q I rx ry h hs
 obtain ⟨p,xs,i,z,rfl,rfl,hq,he,q⟩ := h
 cases rx
 obtain ⟨t,rfl⟩ := ry
 obtain ⟨its,r,pl,hz⟩ := I.list hq
 obtain ⟨j,h1,h2,h3,h4,h5⟩ := Tr he
 obtain ⟨w,ew,rw'⟩ := r.get h2
 have hl:=r.length
 have hn:=Gx
 have fin:EP X pins σ Q w s:=⟨z,H,I,rw',q⟩
 by_cases h0:0 <= i
 ·have hj : i.toNat = j := by
   rw [seqIndex_of h0 h5] at h1
   exact Option.some.inj h1
  exact item_listR pl.isList h0 (by omega) (by rw [hj]; simpa using ew) fin hs
 ·have hj : (i + (its.toArray.size : Int)).toNat = j := by
   rw [seqIndex_neg (by omega) h4] at h1
   rw [List.size_toArray,<- hl]
   exact Option.some.inj h1
  exact subscriptTail_builtinR (x:=w) pl.isList.typeIs slot_list_getitem.lookup
   (wpAny_getItem_list_neg (Q:=fun r s'=>r = w /\ EP X pins σ Q r s') pl.isList (by omega) (by rw [List.size_toArray] <;> omega) (by omega) (by rw [hj]; simpa using ew) ⟨rfl,fin⟩) hs
theorem fu:kq X (ln X.K):=by
 intro value slice pins s σ H x y v u Q I rx ry h hs
 obtain ⟨p,xs,i,z,rfl,rfl,hq,he,q⟩ := h
 cases rx
 obtain ⟨t,rfl⟩ := ry
 obtain ⟨its,r,pl,hz⟩ := I.tuple hq
 obtain ⟨j,h1,h2,h3,h4,h5⟩ := Tr he
 obtain ⟨w,ew,rw'⟩ := r.get h2
 have hl:=r.length
 have hn:=Gx
 have fin:EP X pins σ Q w s:=⟨z,H,I,rw',q⟩
 exact subscriptTail_builtinR (x:=w) pl.typeIs slot_tuple_getitem.lookup
  (getItem_tuple (j:=j) (Q:=fun r s'=>r = w /\ EP X pins σ Q r s') pl (by omega) (by omega) (by rw [List.size_toArray,<- hl]; exact h1) (by simpa using ew) ⟨rfl,fin⟩) hs
theorem Ra (its:List Value) (n j:Nat) (u:Value):Obj.mapSeq (·.setIfInBounds j u) { cls := .type "list",data := .seq its.toArray n } = { cls := .type "list",data := .seq (its.set j u).toArray n }:=by
 simp [Obj.mapSeq]
theorem Ai.lst {pins : List (Addr × Obj)} {σ : St} {H : Hp} {s : Shared} {p : Addr} {xs : List V} (I : Ai X pins σ H s) (h : H p = some (.lst xs)) :
  ∃ (its:List Value) (n:Nat),B6 xs its /\ s.heap.get? p = some { cls := .type "list",data := .seq its.toArray n } /\ xs.length <= sizeLine:=by
 obtain ⟨z,its,n,r,e⟩ := I.hok p _ h
 exact ⟨its,n,r,e,z⟩
theorem Ai.lstUpd {pins : List (Addr × Obj)} {σ : St} {H : Hp} {s : Shared} {p : Addr} {xs ys : List V} {its its' : List Value} {n n' : Nat} {f : Obj -> Obj} (I : Ai X pins σ H s) (h : H p = some (.lst xs))
  (ho:s.heap.get? p = some { cls := .type "list",data := .seq its.toArray n }) (hf:f { cls := .type "list",data := .seq its.toArray n } = { cls := .type "list",data := .seq its'.toArray n' }) (r:B6 ys its') (hz:ys.length <= sizeLine) (t:Nat) :
  Ai X pins σ (upd H p (.lst ys)) { s with heap:=s.heap.update p f,toks:=t }:=by
 have e:(s.heap.update p f).get? p = some { cls := .type "list",data := .seq its'.toArray n' }:=by
  rw [Heap.get?_update_self f ho (by rw [hf] <;> rfl),hf]
 refine I.write (x:=p) (e:=p) (by rw [h]; trivial) (.inl rfl) (fun b u hb q=>(Heap.get?_update_other _ _ (Ne.symm hb)).trans q) ⟨_,e⟩ ?_
 exact ⟨hz,its',n',r,e⟩
noncomputable def i6:V -> V -> V -> Hp -> (Hp -> Prop) -> Prop:=fun o i v H Q=>∃ p xs k j,o = .ref p /\ i = .int k /\ H p = some (.lst xs) /\ Vw xs.length k = some j /\ Q (upd H p (.lst (xs.set j v)))
theorem Ql:i7 X i6:=by
 intro pins s σ H o i v ov iv u Q I ro ri rv h
 obtain ⟨p,xs,k,j,rfl,rfl,hp,hj,q⟩ := h
 cases ro
 obtain ⟨t,rfl⟩ := ri
 obtain ⟨its,n,r,ho,hz⟩ := I.lst hp
 obtain ⟨h1,h2,h3,h4⟩ := Ug hj
 have hl:=r.length
 have hn:=Gx
 have I':Ai X pins σ (upd H p (.lst (xs.set j v))) { s with heap:=s.heap.update p (Obj.mapSeq (·.setIfInBounds j u)) } :=
  I.lstUpd hp ho (Ra its n j u) (r.set rv j) (by rw [List.length_set]; exact hz) s.toks
 by_cases h0:0 <= k
 ·have hk : k.toNat = j := by
   rw [seqIndex_of h0 h4] at h1
   exact Option.some.inj h1
  exact PySem.W.ki_setAt ho h0 (by omega) (by rw [List.size_toArray,<- hl]; exact h4) (by rw [hk]; exact ⟨_,I',q⟩)
 ·have hk : (k + (its.toArray.size : Int)).toNat = j := by
   rw [seqIndex_neg (by omega) h3] at h1
   rw [List.size_toArray,<- hl]
   exact Option.some.inj h1
  exact PySem.W.ki_setBack ho (by omega) (by rw [List.size_toArray,<- hl]; exact h3) (by omega) (by rw [hk]; exact ⟨_,I',q⟩)
theorem Os (lo hi:Option Int) (n:Nat):(sliceBounds lo hi none n).1 = ((HT.sIx n 0 lo:Nat):Int) /\ (sliceBounds lo hi none n).2.1 = ((HT.sIx n n hi:Nat):Int) /\ (sliceBounds lo hi none n).2.2 = 1:=by
 refine ⟨?_,?_,rfl⟩
 ·cases lo with
  | none=>simp [sliceBounds,HT.sIx]
  | some i =>
   simp only [sliceBounds,HT.sIx,Option.getD_none,show (1:Int) > 0 by decide,if_true]
   by_cases h:i < 0
   ·simp only [h,if_true] <;> omega
   ·simp only [h,if_false] <;> omega
 ·cases hi with
  | none=>simp [sliceBounds,HT.sIx]
  | some i =>
   simp only [sliceBounds,HT.sIx,Option.getD_none,show (1:Int) > 0 by decide,if_true]
   by_cases h:i < 0
   ·simp only [h,if_true] <;> omega
   ·simp only [h,if_false] <;> omega
theorem Ml (its:List Value) (lo hi:Option Int):slicePick its.toArray lo hi none = ((its.drop (HT.sIx its.length 0 lo)).take (HT.sIx its.length its.length hi - HT.sIx its.length 0 lo)).toArray:=by
 obtain ⟨h1,h2,h3⟩ := Os lo hi its.toArray.size
 unfold slicePick
 rw [h1,h2,h3]
 simp only [sliceRange_one,pick_run,List.size_toArray] <;> rfl
noncomputable def jc (K:PySem.W.Frag):V -> Option Int -> Option Int -> Hp -> VK -> Prop:=fun x lo hi H Q=>∃ a xs,x = .ref a /\ Bo K H a xs /\ ∀ p,H p = none -> Q (.ref p) (upd H p (.lst (Vb xs lo hi)))
theorem Zq:l8 X (jc X.K):=by
 intro pins s σ H x v vl vu lo hi sl Q I rx hs pl pu h
 obtain ⟨a,xs,rfl,hx,q⟩ := h
 cases rx
 obtain ⟨its,r,ht,hz⟩ := I.list hx
 have hlen:=r.length
 refine ⟨"list",_,slot_list_getitem.lookup,ht.isList.typeIs,?_⟩
 refine wpAny_getItem_list_slice ht.isList hs pl pu .none (by simp) ?_ (by rw [List.size_toArray] <;> omega)
 rw [Ml,<- hlen]
 refine ⟨.ref s.heap.objs.size,_,I.laid (t':=s.toks) (o := .lst (Vb xs lo hi)) (fun b ob q=>Heap.get?_push_of_some _ q) (Nat.le_refl _) ?_,rfl,q _ (I.hok.fresh (Nat.le_refl _))⟩
 exact ⟨Nat.le_trans (Qx xs lo hi) hz,_,0,(r.drop (HT.sIx xs.length 0 lo)).take (HT.sIx xs.length xs.length hi - HT.sIx xs.length 0 lo),Heap.get?_push_size _ rfl⟩
noncomputable def Ft:V -> Bool
 | .non=>true
 | .bl _=>true
 | .int _=>true
 | .str _=>true
 | _=>false
noncomputable def Za:V -> V -> Bool
 | .non,.non=>true
 | .bl a,.bl b=>a == b
 | .bl a,.int b=>(if a then 1 else 0) == b
 | .int a,.bl b=>a == (if b then 1 else 0)
 | .int a,.int b=>a == b
 | .str a,.str b=>a == b
 | _,_=>false
theorem bm {A:Around} {s:Shared} {y x:V} {u v:Value} (ry:Ax y u) (rx:Ax x v) (fy:Ft y = true) (fx:Ft x = true):SeqAt.EqAt A s u v (Za y x):=by
 cases y with
 | non =>
  cases ry
  cases x with
  | non=>cases rx; exact SeqAt.EqAt.same _
  | bl b=>cases rx; exact SeqAt.EqAt.none_bool b
  | int b=>obtain ⟨t,rfl⟩ := rx; exact SeqAt.EqAt.none_int b t
  | str b=>obtain ⟨t,rfl⟩ := rx; exact SeqAt.EqAt.none_str b t
  | _=>exact absurd (show false = true from fx) Bool.false_ne_true
 | bl a =>
  cases ry
  cases x with
  | non=>cases rx; exact SeqAt.EqAt.bool_none a
  | bl b=>cases rx; exact SeqAt.EqAt.bool_bool a b
  | int b=>obtain ⟨t,rfl⟩ := rx; exact SeqAt.EqAt.bool_int a b t
  | str b=>obtain ⟨t,rfl⟩ := rx; exact SeqAt.EqAt.bool_str a b t
  | _=>exact absurd (show false = true from fx) Bool.false_ne_true
 | int a =>
  obtain ⟨t',rfl⟩ := ry
  cases x with
  | non=>cases rx; exact SeqAt.EqAt.int_none a t'
  | bl b=>cases rx; exact SeqAt.EqAt.int_bool a t' b
  | int b=>obtain ⟨t,rfl⟩ := rx; exact SeqAt.EqAt.int_int a t' b t
  | str b=>obtain ⟨t,rfl⟩ := rx; exact SeqAt.EqAt.int_str a t' b t
  | _=>exact absurd (show false = true from fx) Bool.false_ne_true
 | str a =>
  obtain ⟨t',rfl⟩ := ry
  cases x with
  | non=>cases rx; exact SeqAt.EqAt.str_none a t'
  | bl b=>cases rx; exact SeqAt.EqAt.str_bool a t' b
  | int b=>obtain ⟨t,rfl⟩ := rx; exact SeqAt.EqAt.str_int a t' b t
  | str b=>obtain ⟨t,rfl⟩ := rx; exact SeqAt.EqAt.str_str a t' b t
  | _=>exact absurd (show false = true from fx) Bool.false_ne_true
 | _=>exact absurd (show false = true from fy) Bool.false_ne_true
noncomputable def Zj (x:V) (u:Value):Bool:=match u with
 | .none=>Za .non x
 | .bool b=>Za (.bl b) x
 | .int i _=>Za (.int i) x
 | .str z _=>Za (.str z) x
 | _=>false
theorem Ws {x y:V} {u:Value} (r:Ax y u) (f:Ft y = true):Zj x u = Za y x:=by
 cases y with
 | non=>cases r; rfl
 | bl b=>cases r; rfl
 | int i=>obtain ⟨t,rfl⟩ := r; rfl
 | str z=>obtain ⟨t,rfl⟩ := r; rfl
 | _=>exact absurd (show false = true from f) Bool.false_ne_true
theorem U1 {x:V} {xs:List V} {us:List Value} (h:B6 xs us) (f:xs.all Ft = true):us.any (Zj x) = xs.any fun y=>Za y x:=by
 induction h with
 | nil=>rfl
 | cons r t ih =>
  rw [List.all_cons,Bool.and_eq_true] at f
  rw [List.any_cons,List.any_cons,Ws r f.1,ih f.2]
theorem Pm {A:Around} {s:Shared} {x:V} {v:Value} (rx:Ax x v) (fx:Ft x = true) {xs:List V} {us:List Value} (h:B6 xs us) (f:xs.all Ft = true):∀ u ∈ us,SeqAt.EqAt A s u v (Zj x u):=by
 induction h with
 | nil =>
  intro u hu
  cases hu
 | cons r t ih =>
  intro u' hu
  rw [List.all_cons,Bool.and_eq_true] at f
  rcases List.mem_cons.mp hu with rfl | hu
  ·rw [Ws r f.1]
   exact bm r rx f.1 fx
  ·exact ih f.2 u' hu
noncomputable def l5 (x:V) (xs:List V):Bool:=xs.any fun y=>Za y x
noncomputable def nh (K:PySem.W.Frag) (neg:Bool):R2:=fun x y H Q=>∃ p xs,y = .ref p /\ (Bo K H p xs \/ Bx K H p xs) /\ Ft x = true /\ xs.all Ft = true /\ Q (.bl (if neg then !l5 x xs else l5 x xs)) H
theorem V4:Ji X (compareOp .In) (nh X.K false):=by
 intro pins s σ H x y v u Q I rx ry h
 obtain ⟨p,xs,rfl,hq,fx,fs,q⟩ := h
 cases ry
 rcases hq with hq | hq
 ·obtain ⟨its,r,pl,hz⟩ := I.list hq
  refine SeqAt.in_listAt (Zj x) pl.isList (fun w hw=>Pm rx fx r fs w (by simpa using hw)) ⟨.bl _,H,I,rfl,?_⟩
  rw [show its.toArray.any (Zj x) = its.any (Zj x) by simp,U1 r fs]
  exact q
 ·obtain ⟨its,r,pl,hz⟩ := I.tuple hq
  refine SeqAt.in_tupleAt (Zj x) pl (fun w hw=>Pm rx fx r fs w (by simpa using hw)) ⟨.bl _,H,I,rfl,?_⟩
  rw [show its.toArray.any (Zj x) = its.any (Zj x) by simp,U1 r fs]
  exact q
theorem P6:E1 X (.builtin "len") (fun xs H Q=>∃ p ys,xs = [.ref p] /\ (Bo X.K H p ys \/ Bx X.K H p ys) /\ Q (.int ys.length) H):=by
 intro pins s σ H xs us Q I r h
 obtain ⟨p,ys,rfl,hq,q⟩ := h
 obtain ⟨u,rfl,rx⟩ := Jn r
 cases rx
 have hn:=Gx
 rcases hq with hq | hq
 ·obtain ⟨its,r',pl,hz⟩ := I.list hq
  have hlen:=r'.length
  exact Calls.call_len_list pl.isList (by simp only [List.size_toArray] <;> omega) ⟨.int ys.length,H,I.tok _,⟨s.toks + 1,by rw [List.size_toArray,hlen]⟩,q⟩
 ·obtain ⟨its,r',pl,hz⟩ := I.tuple hq
  have hlen:=r'.length
  exact len_tuple pl (by simp only [List.size_toArray] <;> omega) ⟨.int ys.length,H,I.tok _,⟨s.toks + 1,by rw [List.size_toArray,hlen]⟩,q⟩
theorem Me:E1 X (.type "tuple") (fun xs H Q=>∃ p ys,xs = [.ref p] /\ ((Bo X.K H p ys /\ ∀ l,H l = none -> Q (.ref l) (upd H l (.tup ys))) \/ (Bx X.K H p ys /\ Q (.ref p) H))):=by
 intro pins s σ H xs us Q I r h
 obtain ⟨p,ys,rfl,h⟩ := h
 obtain ⟨u,rfl,rx⟩ := Jn r
 cases rx
 rcases h with ⟨hq,q⟩ | ⟨hq,q⟩
 ·obtain ⟨its,r',pl,hz⟩ := I.list hq
  have hlen:=r'.length
  refine call_tuple_list pl.isList (fun h' kp=>?_) (by simp only [List.size_toArray] <;> omega)
  have I1:Ai X pins σ H { s with heap:=h' }:=I.kept (t':=s.toks) kp
  have I2:Ai X pins σ (upd H h'.objs.size (.tup ys)) { s with heap:=h'.push { cls := .type "tuple",data := .seq its.toArray } } :=
   I1.laid (t':=s.toks) (fun b o e=>Heap.get?_push_of_some _ e) (Nat.le_refl _) (show Br X.prog X.w _ _ _ (.tup ys) from ⟨⟨hz,⟨_,Heap.get?_push_size _ rfl,rfl⟩⟩,its,r',IsTup.new _ _⟩)
  exact ⟨.ref h'.objs.size,_,I2,rfl,q _ (I1.hok.fresh (Nat.le_refl _))⟩
 ·obtain ⟨its,r',pl,hz⟩ := I.tuple hq
  exact call_tuple_same pl ⟨.ref p,H,I,rfl,q⟩
noncomputable def lg (K:PySem.W.Frag) (T:String) (x:V) (H:Hp):Prop:=match x with
 | .str _=>T = "str"
 | .int _=>T = "int"
 | .ref p => (T = "list" /\ ∃ xs, Bo K H p xs) \/ (T = "tuple" /\ ((∃ o, K.lookup p = some o /\ o.cls = .type "tuple" /\ o.dict = none) \/ ∃ xs, H p = some (.tup xs))) \/
   (T = "dict" /\ ((∃ kvs,H p = some (.dK kvs)) \/ ∃ kvs,H p = some (.dT kvs))) \/ (T = "set" /\ ∃ S n,H p = some (.set S n))
 | _=>False
theorem X4 {pins : List (Addr × Obj)} {σ : St} {H : Hp} {s : Shared} {T : String} {x : V} {v : Value} (I : Ai X pins σ H s) (r : Ax x v) (ty : lg X.K T x H) :
  s.TypeIs v T /\ ∀ a,v = .ref a -> ∃ ob,s.heap.get? a = some ob /\ ob.dict = none:=by
 cases x with
 | str z =>
  obtain ⟨t,rfl⟩ := r
  cases (show T = "str" from ty)
  exact ⟨typeIs_str s z t,fun _ e=>nomatch e⟩
 | int i =>
  obtain ⟨t,rfl⟩ := r
  cases (show T = "int" from ty)
  exact ⟨typeIs_int s i t,fun _ e=>nomatch e⟩
 | ref p =>
  cases r
  rcases ty with ⟨rfl,xs,hq⟩ | ⟨rfl,⟨o,hk,hc,hd⟩ | ⟨ys,hk⟩⟩ | ⟨rfl,hk⟩ | ⟨rfl,S,n,hk⟩
  ·obtain ⟨its,_,pl,_⟩ := I.list hq
   refine ⟨pl.isList.typeIs,fun a e=>?_⟩
   cases e
   obtain ⟨o,n,e,c,hd,_⟩ := pl
   exact ⟨o,e,hd⟩
  ·refine ⟨⟨o,I.kIn p o hk,hc⟩,fun a e=>?_⟩
   cases e
   exact ⟨o,I.kIn _ o hk,hd⟩
  ·obtain ⟨⟨_,o2,e2,d2⟩,_,_,⟨o1,e1,c1,_⟩⟩ := (show Br X.prog X.w H s.heap p (.tup ys) from I.hok p _ hk)
   refine ⟨⟨o1,e1,c1⟩,fun a ea=>?_⟩
   cases ea
   exact ⟨o2,e2,d2⟩
  ·have z : ∃ o, s.heap.get? p = some o /\ o.ExactDict := by
    rcases hk with ⟨kvs,hk⟩ | ⟨kvs,hk⟩
    ·obtain ⟨_,_,_,_,o,_,_,e,ex,_⟩ := I.hok p _ hk
     exact ⟨o,e,ex⟩
    ·obtain ⟨_,_,_,_,o,_,_,e,ex,_⟩ := I.hok p _ hk
     exact ⟨o,e,ex⟩
   obtain ⟨o,e,ex⟩ := z
   refine ⟨⟨o,e,ex.1⟩,fun a e2=>?_⟩
   cases e2
   exact ⟨o,e,ex.2.1⟩
  ·obtain ⟨o,_,_,_,e,ex,_⟩ := I.hok p _ hk
   refine ⟨⟨o,e,ex.1⟩,fun a e2=>?_⟩
   cases e2
   exact ⟨o,e,ex.2.1⟩
 | _=>exact False.elim ty
noncomputable def Zc (K:PySem.W.Frag) (T:String) (r:V -> List V -> Hp -> VK -> Prop) (to:TE):TE:=fun σ H Q=>to σ H fun x H1=>lg K T x H1 /\ r x [] H1 Q
noncomputable def Tv (K:PySem.W.Frag) (T:String) (r:V -> List V -> Hp -> VK -> Prop) (to:TE) (t:TA):TE:=fun σ H Q=>to σ H fun x H1=>lg K T x H1 /\ t σ H1 fun xs H2=>r x xs H2 Q
variable {o e:Expr} {es:List Expr} {to:TE} {t:TA} {name:Str} {apos cpos:Pos} {T id:String} {r:V -> List V -> Hp -> VK -> Prop}
theorem Ox (pa : PlainAttrs T) (slot : Slot T name id) (hty : typeOf (.builtin id) = pure (.type "method_descriptor")) (hm : lf X id r) (ho : PE X o to)
  (hbase:attributeBase o name X.env (eval o X.env) = eval o X.env:=by rfl) (hline:(apos.endLine == cpos.line) = true:=by rfl):PE X (.Call (.Attribute o name apos) [] [] cpos) (Zc X.K T r to):=by
 intro pins s σ H Q I h
 refine wpAny_Call_method0_late hbase hline (C7 (ho pins s σ H _ I h) fun v s1 hz0=>?_)
 obtain ⟨x,H1,I1,r1,ty,q1⟩ := hz0
 obtain ⟨h1,h2⟩ := X4 I1 r1 ty
 exact ⟨T,id,pa,slot,hty,h1,h2,Calls.callWith_builtin rfl (PySem.evalArgs_none (hm pins s1 σ H1 x [] v [] Q I1 r1 .nil q1))⟩
theorem Ez (pa : PlainAttrs T) (slot : Slot T name id) (hty : typeOf (.builtin id) = pure (.type "method_descriptor")) (hm : lf X id r) (ho : PE X o to) (ha : PA X (e :: es) t)
  (hbase:attributeBase o name X.env (eval o X.env) = eval o X.env:=by rfl)
  (hfew:((backTo cpos (starEach (e :: es) X.env)).all (fun x=>!x.1) && (backToKw cpos (keywordEach [] X.env)).all (fun x=>x.1.isSome)
   && decide ((e :: es).length + ([]:List Keyword).length + (if ([]:List Keyword).isEmpty then 0 else 1) < 30)) = true:=by rfl)
  (hline:(apos.endLine == cpos.line) = true:=by rfl) (hs:starEach (e :: es) X.env = (false,eval e X.env) :: starEach es X.env:=by rfl) (hplain:(backTo cpos (starEach es X.env)).any (·.1) = false:=by rfl) :
  PE X (.Call (.Attribute o name apos) (e :: es) [] cpos) (Tv X.K T r to t):=by
 intro pins s σ H Q I h
 refine wpAny_Call_method_late hbase hfew hline rfl (C7 (ho pins s σ H _ I h) fun v s1 hz0=>?_)
 obtain ⟨x,H1,I1,r1,ty,q1⟩ := hz0
 obtain ⟨h1,h2⟩ := X4 I1 r1 ty
 refine ⟨T,id,pa,slot,hty,h1,h2,?_⟩
 have hA:=ha cpos pins s1 σ H1 _ I1 q1
 rw [hs] at hA ⊢
 refine Calls.callWith_builtin (by show (false || (backTo cpos (starEach es X.env)).any (·.1)) = false; rw [hplain] <;> rfl) (Calls.evalArgs_plain ?_)
 exact C7 hA fun us s2 ⟨vs,H2,I2,r2,q2⟩=>hm pins s2 σ H2 x vs v us Q I2 r1 r2 q2
/- xs.append(e),list.index on a module's tuple .. are lf facts of 06m -/
end
noncomputable def jd (X:Cx) (id:String) (r:V -> List V -> Hp -> VK -> Prop):Prop :=
 ∀ (pins:List (Addr × Obj)) (s:Shared) (σ:St) (H:Hp) (x:V) (xs:List V) (v:Value) (us:List Value) (Q:VK),Ai X pins σ H s -> Ax x v -> B6 xs us -> r x xs H Q ->
  wpAny (model X.prog X.w) X.A (call (.builtin id) (v :: us)) (EP X pins σ Q) X.xe s
theorem B6.one {x:V} {us:List Value} (h:B6 [x] us):∃ u,us = [u] /\ Ax x u:=by
 cases h with
 | cons r t =>
  cases t
  exact ⟨_,rfl,r⟩
theorem B6.zero:∀ {us:List Value},B6 [] us -> us = []
 | _,.nil=>rfl
theorem B6.dropLast {xs:List V} {us:List Value} (h:B6 xs us):B6 xs.dropLast us.dropLast:=by
 induction h with
 | nil=>exact .nil
 | cons r t ih =>
  cases t with
  | nil=>exact .nil
  | cons q t'=>exact .cons r ih
theorem B6.rep {xs:List V} {us:List Value} (h:B6 xs us):∀ k:Nat,B6 (List.replicate k xs).flatten (List.replicate k us).flatten
 | 0=>.nil
 | k + 1=>by
  rw [List.replicate_succ,List.replicate_succ,List.flatten_cons,List.flatten_cons]
  exact B6.append h (B6.rep h k)
theorem Ri {α:Type} (l:List α):l.eraseIdx (l.length - 1) = l.dropLast:=by
 induction l with
 | nil=>rfl
 | cons a r ih =>
  cases r with
  | nil=>rfl
  | cons b r =>
   have e:(a :: b :: r).length - 1 = ((b :: r).length - 1) + 1:=by
    have h1:(a :: b :: r).length = r.length + 2:=rfl
    have h2:(b :: r).length = r.length + 1:=rfl
    omega
   rw [e,List.eraseIdx_cons_succ,ih]
   all_goals rfl
theorem N3 (its : List Value) : ∀ (k : Nat) (acc : List Value),
  List.foldl (fun x1 x2=>x1 ++ x2) acc.toArray (List.replicate k its.toArray) = (acc ++ (List.replicate k its).flatten).toArray
 | 0,acc=>by simp
 | k + 1,acc=>by
  have e:acc.toArray ++ its.toArray = (acc ++ its).toArray:=by simp
  have e2:(acc ++ its) ++ (List.replicate k its).flatten = acc ++ (List.replicate (k + 1) its).flatten:=by
   rw [List.replicate_succ,List.flatten_cons,List.append_assoc]
  rw [<- e2,<- N3 its k (acc ++ its),<- e,List.replicate_succ,List.foldl_cons]
section
variable {X:Cx} {pins:List (Addr × Obj)} {σ:St} {H:Hp} {s:Shared} {l b:Addr} {xs ys zs:List V}
theorem Ai.lset {its its' : List Value} {n : Nat} {f : Array Value -> Array Value} {t' : Nat} (I : Ai X pins σ H s) (hH : H l = some (.lst xs))
  (e:s.heap.get? l = some { cls := .type "list",data := .seq its.toArray n }) (hf:f its.toArray = its'.toArray) (hv:B6 ys its') (hz:ys.length <= sizeLine) :
  Ai X pins σ (upd H l (.lst ys)) { s with heap:=s.heap.update l (Obj.mapSeq f),toks:=t' }:=by
 have q:=PySem.IsL.update e f
 rw [hf] at q
 refine I.write (x:=l) (e:=l) (by rw [hH]; exact trivial) (.inl rfl) (fun b' u hb hu=>(Heap.get?_update_other s.heap (Obj.mapSeq f) (Ne.symm hb)).trans hu) ⟨_,q⟩ ?_
 exact ⟨hz,its',_,hv,q⟩
theorem Ai.lnew {its : List Value} {t' : Nat} (I : Ai X pins σ H s) (hv : B6 ys its) (hz : ys.length <= sizeLine) :
  Ai X pins σ (upd H s.heap.objs.size (.lst ys)) { s with heap:=s.heap.push { cls := .type "list",data := .seq its.toArray },toks:=t' } :=
 I.laid (fun _ _ q=>Heap.get?_push_of_some _ q) (Nat.le_refl _) ⟨hz,its,0,hv,Heap.get?_push_size _ rfl⟩
theorem Ai.fresh (I:Ai X pins σ H s):H s.heap.objs.size = none:=I.hok.fresh (Nat.le_refl _)
theorem Ai.lstM (I:Ai X pins σ H s) (hH:H l = some (.lst xs)):xs.length <= sizeLine /\ ∃ (its:List Value) (n:Nat),B6 xs its /\ xs.length = its.length /\ s.heap.get? l = some { cls := .type "list",data := .seq its.toArray n }:=by
 obtain ⟨z,its,n,r,e⟩ := I.hok l _ hH
 exact ⟨z,its,n,r,r.length,e⟩
theorem Pw {n:Nat} (h:n <= sizeLine):Builtin.List.listTooLong n = false:=by
 unfold Builtin.List.listTooLong
 exact decide_eq_false (by omega)
end
section
variable {X:Cx}
noncomputable def Yr:V -> List V -> Hp -> VK -> Prop:=fun x vs H Q=>∃ l xs y,x = .ref l /\ vs = [y] /\ H l = some (.lst xs) /\ xs.length < sizeLine /\ Q .non (upd H l (.lst (xs ++ [y])))
theorem D0:jd X "list.append" Yr:=by
 intro pins s σ H x vs v us Q I rx rv h
 obtain ⟨l,xs,y,rfl,rfl,hH,hz,q⟩ := h
 cases rx
 obtain ⟨u,rfl,ru⟩ := rv.one
 obtain ⟨z,its,n,r,hl,e⟩ := I.lstM hH
 refine call_meets F.slot_list_append ⟨_,e,rfl⟩ F.entry_list_append (F.args_list_append_2 _ _) (PySem.list_append l its.toArray n u (by rw [List.size_toArray]; omega)) ⟨e,?_⟩
 refine ⟨.non,_,I.lset (its':=its ++ [u]) hH e (by simp) (r.append (.cons ru .nil)) ?_,rfl,q⟩
 rw [List.length_append,List.length_singleton]
 omega
noncomputable def Zn:V -> List V -> Hp -> VK -> Prop:=fun x vs H Q=>∃ l b xs zs,x = .ref l /\ vs = [.ref b] /\ H l = some (.lst xs) /\ H b = some (.lst zs) /\ xs.length + zs.length <= sizeLine /\ Q .non (upd H l (.lst (xs ++ zs)))
theorem Gk:jd X "list.extend" Zn:=by
 intro pins s σ H x vs v us Q I rx rv h
 obtain ⟨l,b,xs,zs,rfl,rfl,hH,hB,hz,q⟩ := h
 cases rx
 obtain ⟨u,rfl,ru⟩ := rv.one
 cases ru
 obtain ⟨z,its,n,r,hl,e⟩ := I.lstM hH
 obtain ⟨z2,its2,n2,r2,hl2,e2⟩ := I.lstM hB
 have hsz:its.toArray.size + its2.toArray.size <= sizeLine:=by rw [List.size_toArray,List.size_toArray]; omega
 have hlong:¬ (!its.toArray.isEmpty && Builtin.List.listTooLong (its.toArray.size + its2.toArray.size)) = true:=by
  rw [Pw hsz,Bool.and_false]
  exact Bool.false_ne_true
 refine call_meets F.slot_list_extend ⟨_,e,rfl⟩ F.entry_list_extend (F.args_list_extend_2 _ _)
  (AutoSeq1.list_extend_list_list_0 l its.toArray n b its2.toArray n2 hlong (by rw [List.size_toArray]; omega) (by omega)) ⟨e,e2,?_⟩
 refine ⟨.non,_,I.lset (its':=its ++ its2) hH e (by simp) (r.append r2) ?_,rfl,q⟩
 rw [List.length_append]
 omega
noncomputable def ma:V -> List V -> Hp -> VK -> Prop:=fun x vs H Q=>∃ l xs y,x = .ref l /\ vs = [] /\ H l = some (.lst xs) /\ xs[xs.length - 1]? = some y /\ Q y (upd H l (.lst xs.dropLast))
theorem S8:jd X "list.pop" ma:=by
 intro pins s σ H x vs v us Q I rx rv h
 obtain ⟨l,xs,y,rfl,rfl,hH,hy,q⟩ := h
 cases rx
 have hus:=rv.zero
 subst hus
 obtain ⟨z,its,n,r,hl,e⟩ := I.lstM hH
 obtain ⟨u,hu,ru⟩ := r.get hy
 have hy':its.toArray[its.toArray.size - 1]? = some u:=by
  show its.toArray[its.length - 1]? = some u
  rw [<- Array.getElem?_toList,<- hl]
  exact hu
 refine call_meets F.slot_list_pop ⟨_,e,rfl⟩ F.entry_list_pop (F.args_list_pop_1 _) (MeetsSeq.list_pop_last l its.toArray n u hy' (by rw [List.size_toArray]; omega)) ⟨e,?_⟩
 refine ⟨y,_,I.lset (its':=its.dropLast) hH e ?_ r.dropLast ?_,ru,q⟩
 ·show its.toArray.eraseIdxIfInBounds (its.toArray.size - 1) = its.dropLast.toArray
  rw [List.size_toArray,List.eraseIdxIfInBounds_toArray,Ri]
 ·rw [List.length_dropLast]
  omega
noncomputable def m9:R2:=fun x y H Q=>∃ l k xs,x = .ref l /\ y = .int k /\ H l = some (.lst xs) /\ -(2 ^ 63) <= k /\ k < 2 ^ 63 /\ xs.length * k.toNat <= sizeLine /\
 ∀ p,H p = none -> Q (.ref p) (upd H p (.lst (List.replicate k.toNat xs).flatten))
theorem Zt {α:Type} (xs:List α) (k:Nat):(List.replicate k xs).flatten.length = k * xs.length:=by
 induction k with
 | zero=>simp
 | succ k ih=>rw [List.replicate_succ,List.flatten_cons,List.length_append,ih,Nat.succ_mul,Nat.add_comm]
theorem ck:Ji X (binaryOp .Mult) m9:=by
 intro pins s σ H x y v u Q I rx ry h
 obtain ⟨l,k,xs,rfl,rfl,hH,h1,h2,hz,q⟩ := h
 cases rx
 obtain ⟨t,rfl⟩ := ry
 obtain ⟨z,its,n,r,hl,e⟩ := I.lstM hH
 have hlen:its.toArray.size * k.toNat <= sizeLine:=by rw [List.size_toArray,<- hl]; exact hz
 have hcap:¬ its.toArray.size * k.toNat > (2 ^ 63 - 1) / 8:=by
  have:(sizeLine:Nat) <= (2 ^ 63 - 1) / 8:=by decide
  omega
 have hfit:¬ (!Builtin.List.listFitsIndex k) = true:=by
  rw [fitsIndex_both h1 h2]
  exact Bool.false_ne_true
 have hlong:¬ Builtin.List.listTooLong (its.toArray.size * k.toNat) = true:=by
  rw [Pw hlen]
  exact Bool.false_ne_true
 have hnew:List.foldl (fun x1 x2=>x1 ++ x2) #[] (List.replicate (if its.toArray.isEmpty = true then 0 else k.toNat) its.toArray) = (List.replicate k.toNat its).flatten.toArray:=by
  have f0:∀ m:Nat,List.foldl (fun x1 x2=>x1 ++ x2) #[] (List.replicate m its.toArray) = (List.replicate m its).flatten.toArray:=fun m=>by
   have:=N3 its m []
   rw [List.nil_append] at this
   exact this
  rw [f0]
  cases its with
  | nil=>simp
  | cons a r'=>rw [if_neg (by simp)]
 refine wpAny_binaryOp_repeat_ref (T := "list") (U := "int") (by decide) ⟨_,e,rfl⟩ (fun s'=>typeIs_int s' k t) noFill_list_mul F.fills_int_mul F.slot_int_rmul repeat_list F.slot_int_index.lookup
  (call_meets F.slot_int_rmul (typeIs_int s k t) F.entry_int_rmul (F.args_int_rmul_2 _ _) (int___rmul___int_list k t l its.toArray n)
   ⟨e,rfl,⟨_,e,rfl⟩,call_meets F.slot_list_mul ⟨_,e,rfl⟩ F.entry_list_mul (F.args_list_mul_2 _ _) (AutoListH.list___mul___list_int_3 l its.toArray n k t hfit hcap hlong) ⟨e,?_⟩⟩)
 rw [hnew]
 exact ⟨.ref _,_,I.lnew (t':=s.toks) (r.rep k.toNat) (by rw [Zt,Nat.mul_comm]; exact hz),rfl,q _ I.fresh⟩
end
section
variable {prog:Program} {w:World} {A:Around} {E:Value -> Shared -> Prop} {s:Shared}
end
section
variable {X:Cx}
end
end L2
namespace Att
local macro_rules | `(tactic| omega) => `(tactic| lia)
open PySem PySem.W PySem.Calls PyProof.Rows
theorem Jw {P:Params} {h:Heap}:∀ (ns:List Int) (vs:List Value),WellAll P h vs (ns.map WData.int) -> IntsAre vs ns:=by
 intro ns
 induction ns with
 | nil =>
  intro vs w
  rw [List.map_nil] at w
  cases w
  exact .nil
 | cons n ns ih =>
  intro vs w
  rw [List.map_cons] at w
  cases w with
  | cons a b =>
   cases a
   exact .cons _ _ (ih _ b)
theorem script_of {l : OpenLaw} {n : Nat} (hn : l.most = some n) {P : Params} {h : Heap} {args : List WData} {vals : List Value}
  (hpre:l.row.toRowW.claim.pre args = true) (hwl:WellAll P h vals args) :
  ∃ a vs ns,vals = [Value.ref a] /\ args = [WData.list (ns.map WData.int)] /\ h.get? a = some { cls := .type "list",data := .seq vs.toArray } /\ IntsAre vs ns /\ ns.length <= n:=by
 have hsh:WShape.hasAll [] args [.list .int] = true:=(pre_splitW hpre).1
 have hc:l.pre.holds [] { args:=args } = true:=(pre_splitW hpre).2
 obtain ⟨d,r,rfl,h1,h2⟩ := hasAllW_cons hsh
 obtain rfl:=hasAllW_nil h2
 obtain ⟨xs,rfl,h3⟩ := hasW_list h1
 obtain ⟨ns,rfl⟩ := items_int h3
 have hlen:ns.length <= n:=by
  unfold OpenLaw.pre at hc
  have h4:(WTm.not (.lt (.lit (.int (n:Int))) (.len (.arg 0)))).holds [] { args:=[.list (ns.map .int)] } = true:=by
   have h4:=(holds_andW hc).1
   rw [hn] at h4
   exact h4
  have h5:=condW_of h4 (w_not (w_lt w_lit (w_len_list (w_arg rfl))))
  rw [List.length_map] at h5
  refine Nat.le_of_not_lt fun q=>?_
  have q':(n:Int) < ((ns.length:Nat):Int):=by omega
  first
   | (rw [decide_eq_true q'] at h5; exact absurd h5 (by decide))
   | (simp at h5; omega)
 cases hwl with
 | cons w1 w2 =>
  cases w2
  cases w1 with
  | list ho hall=>exact ⟨_,_,ns,rfl,rfl,ho,Jw ns _ hall,hlen⟩
theorem post_true (l:OpenLaw) (args:List WData):l.row.toRowW.claim.post args (.bool true) args = true :=
 postW_of (r:=l.row.toRowW) (X:=(true == true))
  (show WShape.has [] (.bool true) .bool = true by first | rfl | decide | simp [WShape.has,WShape.arms,WShape.armsAll])
  (show (WTm.eq .res (.lit (.bool true))).value [] { args:=args,res:=some (.bool true),after:=args } = some (.bool (true == true)) from w_eq_bool (w_res rfl) w_lit) rfl
section
variable {prog:Program} {w:World} {A:Around} {E:Value -> Shared -> Prop} {s:Shared} {K:Frag}
end
end Att
namespace L2
local macro_rules | `(tactic| omega) => `(tactic| lia)
open PySem PySem.Spec PyProof.Rows
theorem Nm:∀ {vs:List Value} {ns:List Int},IntsAre vs ns -> B6 (ns.map V.int) vs
 | _,_,.nil=>.nil
 | _,_,.cons n t h=>.cons ⟨t,rfl⟩ (Nm h)
noncomputable def d8 (H:Hp):Prop := ∀ b,H b = none \/ ∃ o xs,H b = some (.frz o (.lst xs))
theorem Xy {P : Program} {w : World} {K : PySem.W.Frag} {mg mb : Str -> Option Value} {CX : Xb} {k : Nat} {fa a : Addr} {fd : FuncData} {x : Str} {sp : Sp} {s₁ : Shared} {vs : List Value} {ns : List Int}
  (KX:K.In s₁.heap) (hns:s₁.heap.Ns mainGlobals mg) (hb:s₁.heap.Ns builtinsNs mb) (hbb:∀ x:Str,x ≠ "__name__" -> mb x = bootBuiltins x) (hlim:s₁.heap.NoLimit) (hg:s₁.gens = #[])
  (ha:s₁.heap.get? a = some { cls := .type "list",data := .seq vs.toArray }) (hi:IntsAre vs ns) (hl:ns.length <= sizeLine) (hr:De k callerA)
  (F:∀ base:Heap,K.In base -> base.Ns mainGlobals mg -> Aj P w K mg base CX k fa fd [x] sp) (hbind:∀ (s:Shared) (u:Value),BindsTo s fd ⟨[u],[]⟩ [(x,u)])
  (hsp:∀ H:Hp,d8 H -> Bo K H a (ns.map V.int) -> sp [.ref a] H (fun v _=>v = .bl true) fun _ _ _=>False)
  (hCX:∀ H e s',CX [] H s₁ (fun _ _ _=>False) e s' -> False) :
  codeAny (model P w) callerA (.call (.ref fa) ⟨[.ref a],[]⟩) (fun r s'=>r = .ok (.ret (.bool true)) /\ OldK s₁.heap s'.heap /\ s'.os = s₁.os /\ AllBare s'.gens) s₁:=by
 have rv:=Nm hi
 have lenV:=hi.length
 have core : ∀ H : Hp, d8 H -> Bo K H a (ns.map V.int) -> Hj P w H s₁.heap -> (∀ b, H b ≠ none -> b = a) -> (H a ≠ none -> K.lookup a = none) ->
   codeAny (model P w) callerA (.call (.ref fa) ⟨[.ref a],[]⟩) (fun r s'=>r = .ok (.ret (.bool true)) /\ OldK s₁.heap s'.heap /\ s'.os = s₁.os /\ AllBare s'.gens) s₁:=by
  intro H hO hS hok hA hK
  have base_of:∀ {b:Addr} {o:Obj},s₁.heap.get? b = some o -> H b = none -> (Ou s₁.heap H).get? b = some o:=fun e n=>Xf e n
  have noA:∀ {b:Addr} {o:Obj} {es:Array DictEntry} {ep:Nat},s₁.heap.get? b = some o -> o.data = .dict es ep -> H b = none:=fun {b o es ep} e d=>by
   cases q:H b with
   | none=>rfl
   | some u =>
    have e':b = a:=hA b (by rw [q]; simp)
    subst e'
    rw [ha] at e; cases e
    have d':Data.seq vs.toArray _ = Data.dict es ep:=d
    cases d'
  have nsK:∀ {b:Addr} {m:Str -> Option Value},s₁.heap.Ns b m -> (Ou s₁.heap H).Ns b m:=fun {b m} ⟨o,es,ep,e,d,r⟩=>⟨o,es,ep,base_of e (noA e d),d,r⟩
  have hKb:K.In (Ou s₁.heap H):=fun b o e=>base_of (KX b o e) (by
   cases q:H b with
   | none=>rfl
   | some u =>
    have e':b = a:=hA b (by rw [q]; simp)
    subst e'
    rw [hK (by rw [q]; simp)] at e; cases e)
  have hM:Mod K mg (Ou s₁.heap H):=⟨hKb,nsK hns,⟨mb,nsK hb,hbb⟩,let ⟨mc,h1,h2⟩ := hlim; ⟨mc,nsK h1,h2⟩⟩
  have e0:Zi P w K mg (Ou s₁.heap H) callerA [] s₁ H:=⟨rfl,hM,fun b o e=>Z4 e,Nat.le_of_eq (V6 _ _),trivial,fun b hb=>absurd (show b ∈ ([]:List Addr) from hb) (by simp),hok,.of_eq hg⟩
  refine codeAny_mono ((F _ hKb (nsK hns)).run callerA [] s₁ H ⟨[.ref a],[]⟩ [.ref a] [.ref a] _ _ hr e0 (hbind s₁ (.ref a)) (.cons rfl .nil) (hsp H hO hS)) fun r s' h=>?_
  cases r with
  | error e=>exact (hCX H e s' h).elim
  | ok fl =>
   cases fl with
   | next=>exact False.elim h
   | brk=>exact False.elim h
   | cont=>exact False.elim h
   | ret u =>
    obtain ⟨v,H',os,bare,un,hok',r',q⟩ := h
    have q':v = .bl true:=q
    subst q'
    obtain rfl:u = Value.bool true:=r'
    refine ⟨rfl,OldK.of_keep fun b o e=>?_,os,bare⟩
    cases q:H b with
    | none=>exact un.keep b o e q (by intro z; exact absurd (show b ∈ ([]:List Addr) from z) (by simp)) (by simp)
    | some u =>
     rcases hO b with z | ⟨ob,xs,z⟩
     ·rw [q] at z; cases z
     ·have z2:=un.frzs b ob _ z
      obtain ⟨e1,_⟩ := hok b _ z
      obtain ⟨e2,_⟩ := hok' b _ z2
      rw [e] at e1; cases e1
      exact e2
 cases hk:K.lookup a with
 | some o =>
  have e:=KX a o hk
  rw [ha] at e
  cases e
  refine core (fun _=>none) (fun _=>.inl rfl) (.inr ⟨_,vs.toArray,_,hk,rfl,rfl,rfl,by rw [List.size_toArray,lenV]; exact hl,by simpa using rv⟩) (fun b u z=>by have z':(none:Option HO) = some u:=z; cases z') (fun b z=>absurd rfl z) fun z=>absurd rfl z
 | none =>
  refine core (fun b=>if b = a then some (.frz { cls := .type "list",data := .seq vs.toArray } (.lst (ns.map V.int))) else none) (fun b=>?_) (.inl (.inr ⟨{ cls := .type "list",data := .seq vs.toArray },if_pos rfl⟩)) (fun b u z=>?_) (fun b z=>?_) fun _=>hk
  ·by_cases hb:b = a
   ·exact .inr ⟨_,_,if_pos hb⟩
   ·exact .inl (if_neg hb)
  ·by_cases hb:b = a
   ·have z':=(if_pos hb).symm.trans z
    cases z'
    subst hb
    exact ⟨ha,by rw [List.length_map]; exact hl,vs,_,rv,ha⟩
   ·have z':=(if_neg hb).symm.trans z
    cases z'
  ·by_cases hb:b = a
   ·exact hb
   ·exact absurd (if_neg hb) z
noncomputable def Ap (s:Stmt):Arguments:=match s with
 | .FunctionDef _ a _ _ _ _ _ _ _ _=>a
 | _=>{ posonlyargs:=[],args:=[],vararg:=none,kwonlyargs:=[],kw_defaults:=[],kwarg:=none,defaults:=[] }
noncomputable def Am (s:Stmt):List Stmt:=match s with
 | .FunctionDef _ _ b _ _ _ _ _ _ _=>b
 | _=>[]
noncomputable def A8 (s:Stmt):Scope:=match s with
 | .FunctionDef _ _ _ _ _ _ sc _ _ _=>sc
 | _=>{ kind := .function,names:=[],isGenerator:=false,isCoroutine:=false }
noncomputable abbrev Bp:Xb:=fun _ _ _ _ _ _=>False
noncomputable abbrev E0:XK:=fun _ _ _=>False
theorem B0 {X:Cx}:Sx Bp X E0:=fun _ _ _ _ _ _ _ h=>h.elim
structure Fq (K:PySem.W.Frag) (x qual:Str) (st:Stmt) (f:Addr) (fd:FuncData):Prop where
 ex:∃ (oc:Value) (od:Option Addr) (kV doc pm:Value) (an:Option Addr) (cdv ct:Value) (osl:Array (Option Value)),
  fd = PySem.W.fnOf x qual (Ap st) (Am st) (A8 st) .none kV doc pm an cdv ct /\ K.lookup f = some ⟨oc,od,.func fd,osl⟩ /\ PySem.W.codeIn K cdv qual = true
 kp:PySem.W.keepIn K (.ref f) = true
section
variable {P:Program} {w:World} {K:PySem.W.Frag} {mg:Str -> Option Value} {base:Heap}
theorem Fq.ok {x qual : Str} {st : Stmt} {f : Addr} {fd : FuncData} {N ps : List Str} {k : Nat} {sp : Sp} (F : Fq K x qual st f fd) (S : As N ps (A8 st)) (len : ∀ vs H Q E, sp vs H Q E -> vs.length = ps.length)
  (hbody:∀ (cdv:Value) (A:Around) (outer:List Env) (s:Shared) (H:Hp) (vs:List V) (Q:VK) (E:XK),De k (A.deeper (envOfC qual (A8 st) s.heap.objs.size f cdv)) -> sp vs H Q E ->
   ∃ t,R8 (Sj Bp P w K mg base N qual (A8 st) f cdv A outer s H E).nox (Am st) t /\ t { nx:=fun _ H'=>Q .non H',rt:=Q } (start N vs) H):Aj P w K mg base Bp (k + 1) f fd ps sp:=by
 obtain ⟨oc,od,kV,doc,pm,an,cdv,ct,osl,rfl,lk,hcd⟩ := F.ex
 refine ag lk hcd S len fun A outer s H vs Q E hr hsp=>?_
 obtain ⟨t,h,q⟩ := hbody cdv A outer s H vs Q E hr hsp
 exact ⟨t,h.nox,q⟩
theorem Fq.binds {x qual : Str} {st : Stmt} {f : Addr} {fd : FuncData} {ps : List Str} (F : Fq K x qual st f fd)
  (h:∀ (kV doc pm:Value) (an:Option Addr) (cdv ct:Value) (us:List Value),us.length = ps.length -> bindArgs (PySem.W.fnOf x qual (Ap st) (Am st) (A8 st) .none kV doc pm an cdv ct) ⟨us,[]⟩ = pure (ps.zip us)):Az K fd ps []:=by
 obtain ⟨oc,od,kV,doc,pm,an,cdv,ct,osl,rfl,lk,hcd⟩ := F.ex
 exact .all (h kV doc pm an cdv ct)
theorem Bi {x qual : Str} {st : Stmt} {f : Addr} {oc : Value} {od an : Option Addr} {osl : Array (Option Value)} {kV doc pm cdv ct : Value} (l : K.lookup f = some ⟨oc, od, .func (PySem.W.fnOf x qual (Ap st) (Am st) (A8 st) .none kV doc pm an cdv ct), osl⟩)
  (c:PySem.W.codeIn K cdv qual = true) (k:PySem.W.keepIn K (.ref f) = true):Fq K x qual st f (PySem.W.fnOf x qual (Ap st) (Am st) (A8 st) .none kV doc pm an cdv ct):=⟨⟨oc,od,kV,doc,pm,an,cdv,ct,osl,rfl,l,c⟩,k⟩
end
theorem B7 {n:Nat} (h:n <= 1000):n < sizeLine:=Nat.lt_of_le_of_lt h (by decide)
section
variable {X:Cx}
theorem pv (i : Nat) {x : Str} {pos : Pos} (hN : X.N[i]? = some x := by rfl) (hv : m8 X.env.scope x := by first | exact Or.inl rfl | exact Or.inr (Or.inl rfl) | exact Or.inr (Or.inr rfl)) (hd : (x == ("__debug__" : Str)) = false := by decide)
  (hcd:(x == ("__classdict__" : Str)) = false:=by decide):PE X (.Name x pos) (gv i):=g0 hN hv hd hcd
end
theorem Fp {c A B:Prop} [Decidable c] (h1:c -> A) (h2:¬ c -> B):if c then A else B:=by
 by_cases h:c
 ·rw [if_pos h]
  exact h1 h
 ·rw [if_neg h]
  exact h2 h
noncomputable def A9 (H H':Hp):Prop := ∀ b o,H b = some o -> H' b = some o
theorem A9.refl (H:Hp):A9 H H:=fun _ _ h=>h
theorem A9.trans {H H1 H2:Hp} (a:A9 H H1) (b:A9 H1 H2):A9 H H2:=fun c o h=>b c o (a c o h)
theorem A9.free {H H':Hp} (e:A9 H H') {l:Addr} (h:H' l = Option.none):H l = Option.none:=by
 cases q:H l with
 | none=>rfl
 | some o =>
  rw [e l o q] at h
  cases h
theorem A9.seq {K:PySem.W.Frag} {H H':Hp} {a:Addr} {xs:List V} (e:A9 H H') (h:Bo K H a xs):Bo K H' a xs:=by
 rcases h with (h | ⟨o,h⟩) | h
 ·exact .inl (.inl (e _ _ h))
 ·exact .inl (.inr ⟨o,e _ _ h⟩)
 ·exact .inr h
noncomputable def Ef (cells:List (Str × Addr)):List (Str × NameKind) -> List (Str × Addr) -> List (Str × Addr)
 | [],cs=>cs
 | (n,k) :: r,cs=>if k == NameKind.free then Ef cells r ((n,(cells.lookup n).getD 0) :: cs) else Ef cells r cs
theorem Iw {cells : List (Str × Addr)} {x : Str} {c : Addr} : ∀ {names : List (Str × NameKind)} {cs : List (Str × Addr)}, (Ef cells names cs).lookup x = some c ->
  cs.lookup x = some c \/ ((x,NameKind.free) ∈ names /\ c = (cells.lookup x).getD 0)
 | [],cs,h=>.inl h
 | (n,k) :: r,cs,h=>by
  unfold Ef at h
  by_cases hk:(k == NameKind.free) = true
  ·rw [if_pos hk] at h
   rcases Iw h with h1 | ⟨h1,h2⟩
   ·rw [List.lookup_cons] at h1
    by_cases hx:(x == n) = true
    ·rw [hx] at h1
     have e:x = n:=eq_of_beq hx
     have e2:k = NameKind.free:=eq_of_beq hk
     subst e e2
     exact .inr ⟨List.mem_cons_self,(Option.some.inj h1).symm⟩
    ·have hx':(x == n) = false:=by simpa using hx
     rw [hx'] at h1
     exact .inl h1
   ·exact .inr ⟨List.mem_cons_of_mem _ h1,h2⟩
  ·rw [if_neg hk] at h
   rcases Iw h with h1 | ⟨h1,h2⟩
   ·exact .inl h1
   ·exact .inr ⟨List.mem_cons_of_mem _ h1,h2⟩
theorem Gy {cells:List (Str × Addr)} {x:Str}:∀ {names:List (Str × NameKind)} {cs:List (Str × Addr)},(∃ c,cs.lookup x = some c) -> ∃ c,(Ef cells names cs).lookup x = some c
 | [],cs,h=>h
 | (n,k) :: r,cs,h=>by
  unfold Ef
  by_cases hk:(k == NameKind.free) = true
  ·rw [if_pos hk]
   refine Gy ?_
   rw [List.lookup_cons]
   cases hx:x == n with
   | true=>exact ⟨_,rfl⟩
   | false=>exact h
  ·rw [if_neg hk]
   exact Gy h
theorem Ex {cells:List (Str × Addr)} {x:Str}:∀ {names:List (Str × NameKind)} {cs:List (Str × Addr)},(x,NameKind.free) ∈ names -> ∃ c,(Ef cells names cs).lookup x = some c
 | [],cs,h=>by cases h
 | (n,k) :: r,cs,h=>by
  unfold Ef
  rcases List.mem_cons.mp h with e | h
  ·have e1:x = n:=congrArg Prod.fst e
   have e2:NameKind.free = k:=congrArg Prod.snd e
   subst e1 e2
   rw [if_pos (by decide)]
   refine Gy ⟨(cells.lookup x).getD 0,?_⟩
   rw [List.lookup_cons,beq_self_eq_true]
  ·by_cases hk:(k == NameKind.free) = true
   ·rw [if_pos hk]
    exact Ex h
   ·rw [if_neg hk]
    exact Ex h
theorem Fl {env : Env} : ∀ {names : List (Str × NameKind)} {x : Str} {k' : NameKind}, (∀ y ∈ names, y.2 ≠ NameKind.cell) -> k' ≠ .local -> (k' = .cell \/ k' = .free) ->
  (names.map fun (n,k)=>if (k == NameKind.free && env.scope.kind == .function && env.kindOf n == some .cell) then (n,NameKind.cell) else (n,k)).lookup x = some k' -> (x,NameKind.free) ∈ names
 | [],_,_,_,_,_,h=>by simp at h
 | (n,k) :: r,x,k',hc,hl,hk',h=>by
  have ih:=@Fl env r x k' (fun y hy=>hc y (List.mem_cons_of_mem _ hy)) hl hk'
  have h0:List.lookup x ((if (k == NameKind.free && env.scope.kind == .function && env.kindOf n == some .cell) = true then (n,NameKind.cell) else (n,k)) :: (r.map fun (n,k)=>if (k == NameKind.free && env.scope.kind == .function && env.kindOf n == some .cell) then (n,NameKind.cell) else (n,k))) = some k':=h
  by_cases hcnd:(k == NameKind.free && env.scope.kind == .function && env.kindOf n == some .cell) = true
  ·rw [if_pos hcnd,List.lookup_cons] at h0
   have e2:k = NameKind.free:=by
    have q:=(Bool.and_eq_true_iff.mp (Bool.and_eq_true_iff.mp hcnd).1).1
    exact eq_of_beq q
   cases hx:x == n with
   | true =>
    have e:x = n:=eq_of_beq hx
    subst e e2
    exact List.mem_cons_self
   | false =>
    rw [hx] at h0
    exact List.mem_cons_of_mem _ (ih h0)
  ·rw [if_neg hcnd,List.lookup_cons] at h0
   cases hx:x == n with
   | true =>
    rw [hx] at h0
    have e:x = n:=eq_of_beq hx
    have e3:k = k':=Option.some.inj h0
    subst e e3
    rcases hk' with z | z
    ·exact absurd z (hc _ List.mem_cons_self)
    ·subst z
     exact List.mem_cons_self
   | false =>
    rw [hx] at h0
    exact List.mem_cons_of_mem _ (ih h0)
structure Cf (sc scope:Scope) (N tgs:List Str) (fr:List Nat):Prop where
 kind:scope.kind = .function
 nocell:∀ y ∈ scope.names,y.2 ≠ NameKind.cell
 loc:∀ y ∈ scope.names,y.2 = NameKind.local -> scope.names.lookup y.1 = some NameKind.local
 free:∀ y ∈ scope.names,y.2 = NameKind.free -> sc.names.lookup y.1 = some NameKind.cell
 frs:∀ j ∈ fr,(N[j]?.bind fun x=>scope.names.lookup x) = some NameKind.free
noncomputable def Bn (N tgs:List Str) (fr:List Nat):List Str:=tgs ++ fr.map fun j=>(N[j]?).getD ⟨#[]⟩
noncomputable def Dh (fr:List Nat) (σ:St):St:=fr.map fun j=>(σ[j]?).getD none
noncomputable def En (n:Nat) (fr:List Nat) (σ:St):St:=List.replicate n none ++ Dh fr σ
noncomputable def Ce (X:Cx) (Nc:List Str) (scope:Scope) (C:Addr) (s2:Shared) (H2:Hp) (fp:List Addr):Cx :=
 { X with N:=Nc,s₀:=s2,H₀:=H2,env:=compEnvC scope (Ef X.env.cells scope.names []) C X.env,outer:=X.stack,ex:=fp,fn:=fun _=>false,pn:=[],xe:=fun _ _=>False }
noncomputable def jx (X:Cx) (ifs:List Expr) (t:TT):Prop :=
 ∀ (pins:List (Addr × Obj)) (s:Shared) (σ:St) (H:Hp) (Q:Bool -> Hp -> Prop),Ai X pins σ H s -> t σ H Q ->
  wpAny (model X.prog X.w) X.A (forIn ifs true fun c r=>if r = true then do let ok <- isTrue c X.env (eval c X.env); pure (ForInStep.yield ok) else pure (ForInStep.yield r)) (TP X pins σ Q) X.xe s
noncomputable def Oy:TT:=fun _ H Q=>Q true H
theorem Cp {X:Cx}:jx X [] Oy:=fun _ _ _ H _ I h=>wpAny_tests_nil ⟨H,I,h⟩
theorem Uj {X:Cx} {c:Expr} {t:TT} (h:PT X c t):jx X [c] t:=fun pins s σ H Q I hq=>wpAny_tests_one (h pins s σ H Q I hq)
section
variable {prog:Program} {w:World} {A:Around} {R:Result -> Shared -> Prop} {s:Shared}
theorem Op {elt target iter : Expr} {ifs : List Expr} {scope : Scope} {pos : Pos} {it acc : Value} {env : Env} (I : Nat -> Shared -> Prop)
  (turn:∀ n s,I n s -> wpAny (model prog w) A (pyNext it) (fun r s₁=>match r with
   | none=>R (.ok .next) s₁
   | some v => wpAny (model prog w) A (letOwnedTupleGo target it v) (fun _ s₁' => wpAny (model prog w) A (assign target env v) (fun _ s₂ =>
     wpAny (model prog w) A (forIn ifs true fun c r=>if r = true then do let ok <- isTrue c env (eval c env); pure (ForInStep.yield ok) else pure (ForInStep.yield r)) (fun ok s₃ =>
      if ok = true then wpAny (model prog w) A (eval elt env) (fun x s₄ =>
       wpAny (model prog w) A (call (.builtin "list.append") [acc,x]) (fun _ s₅=>∃ m,m < n /\ I m s₅) (fun _ _=>False) s₄) (fun _ _=>False) s₃
      else ∃ m,m < n /\ I m s₃) (fun _ _=>False) s₂) (fun _ _=>False) s₁') (fun _ _=>False) s₁) (fun _ _=>False) s)
  (n:Nat) (h:I n s) :
  codeAny (model prog w) A (.compLoop (.ListComp elt [⟨target,iter,ifs,0⟩] scope pos) 0 it acc env) R s:=by
 refine codeAny_loop rfl I (fun n s hI=>?_) n h
 show wpAny _ A ((compTurn (.ListComp elt [⟨target,iter,ifs,0⟩] scope pos) 0 it acc env).onRaise (fun x=>do noteFrame x env; theTreesLotGoes x)) _ _ s
 refine wpAny_noted ?_
 rw [compTurn_list]
 refine wpAny_bind (wpAny_standAt (wpAny_bind (wpAny_mono (turn n s hI) (fun r s₁ h₁=>?_) fun _ _ h'=>h'.elim)))
 cases r with
 | none=>exact wpAny_pure h₁
 | some v =>
  refine wpAny_bind (wpAny_mono h₁ (fun _ s₁' h₁'=>?_) fun _ _ h'=>h'.elim)
  refine wpAny_bind (wpAny_mono h₁' (fun _ s₂ h₂=>wpAny_bind (wpAny_mono h₂ (fun ok s₃ h₃=>?_) fun _ _ h'=>h'.elim)) fun _ _ h'=>h'.elim)
  cases ok with
  | false=>exact wpAny_pure ⟨rfl,h₃⟩
  | true =>
   exact wpAny_bind (wpAny_bind (wpAny_mono h₃ (fun x s₄ h₄=>wpAny_bind (wpAny_mono h₄ (fun _ s₅ h₅=>wpAny_pure (wpAny_pure ⟨rfl,h₅⟩)) fun _ _ h'=>h'.elim)) fun _ _ h'=>h'.elim))
end
noncomputable def E3 (n:Nat) (fr:List Nat) (J:It) (g:TG) (tt:TT) (te:TE) (σ:St) (D:Addr) (H1:Hp) (Q:Hp -> Prop):Prop :=
 ∃ W:Nat -> Nat -> List V -> Hp -> Prop,(∃ m,W 0 m [] (upd H1 D (.lst []))) /\ ∀ i m ys H',W i m ys H' ->
  (J.stop i H' /\ Q H') \/ (J.go i H' /\ ∀ x H2,J.yld i H' x H2 -> g x (En n fr σ) H2 fun σ3 H3=>(∃ zs:St,zs.length = n /\ σ3 = zs ++ Dh fr σ) /\ tt σ3 H3 fun b H4 =>
   if b = true then te σ3 H4 fun y H5=>H5 D = some (.lst ys) /\ ys.length < sizeLine /\ ∃ m',m' < m /\ W (i + 1) m' (ys ++ [y]) (upd H5 D (.lst (ys ++ [y])))
   else ∃ m',m' < m /\ W (i + 1) m' ys H4)
noncomputable def kg (n:Nat) (fr:List Nat) (wi:TI) (g:TG) (tt:TT) (te:TE):TE:=fun σ H Q=>wi σ H fun J H1=>∀ D,H1 D = none -> E3 n fr J g tt te σ D H1 (Q (.ref D))
noncomputable def Wj (n:Nat) (fr:List Nat) (wi:TI) (g:TG) (tt:TT) (te:TE) (i:Nat):TS:=fun D σ H=>wi σ H fun J H1=>∀ l,H1 l = none -> E3 n fr J g tt te σ l H1 (D.nx (σ.set i (some (.ref l))))
section
variable {X:Cx} {tg iter elt:Expr} {ifs:List Expr} {scope sc:Scope} {tgs:List Str} {fr:List Nat} {wi:TI} {g:TG} {tt:TT} {te:TE} {pos:Pos}
theorem N5 {pins : List (Addr × Obj)} {σ : St} {H2 : Hp} {s2 : Shared} {it : Addr} {fp : List Addr} {tn : Nat -> Heap -> Prop} {J : It} {RR : Value -> Addr -> Result -> Shared -> Prop} {E : Value -> Shared -> Prop} {Qf : Hp -> Prop}
  (hsc:X.env.scope = sc) (S:Cf sc scope X.N tgs fr) (hc:X.calm = true)
  (hg:∀ C s2 H2 fp,PG (Ce X (Bn X.N tgs fr) scope C s2 H2 fp) tg g) (ht:∀ C s2 H2 fp,jx (Ce X (Bn X.N tgs fr) scope C s2 H2 fp) ifs tt) (he:∀ C s2 H2 fp,PE (Ce X (Bn X.N tgs fr) scope C s2 H2 fp) elt te)
  (I2:Ai X pins σ H2 s2) (T:Ss X.prog X.w X.K tg J fp it tn) (st2:tn 0 s2.heap) (f2:∀ b ∈ fp,Lx X pins H2 b)
  (run:E3 tgs.length fr J g tt te σ s2.heap.objs.size H2 Qf)
  (hRR:∀ (C:Addr) (H3:Hp) (s4:Shared),Ai X pins σ H3 s4 -> Lx X pins H3 C -> (∃ m,s4.heap.Ns C m) -> Qf H3 -> RR (.ref s2.heap.objs.size) C (.ok .next) s4) :
  wpAny (model X.prog X.w) X.A (newList []) (fun acc s₃=>wpAny (model X.prog X.w) X.A (newFunctionEnv scope X.env.globals (Ef X.env.cells scope.names []) [] X.env.qual none .none (some X.env)) (fun cenv s₄ =>
   codeAny (model X.prog X.w) X.A (.compStart (.ListComp elt [⟨tg,iter,ifs,0⟩] scope pos) 0 (.ref it) acc { cenv with scope:=relabel scope X.env }) (RR acc cenv.locals) s₄) E s₃) E s2:=by
 refine wpAny_newObj_type (wpAny_newFunctionEnv S.nocell (by intro y hy; simp at hy) (fun h₁ hns₁ hsb₁=>?_) S.kind)
 dsimp only at hns₁ hsb₁ ⊢
 generalize hG2:s2.heap.push { cls := .type "list",dict:=none,data := .seq ([]:List Value).toArray } = G2 at hns₁ hsb₁ ⊢
 have hC:G2.objs.size = s2.heap.objs.size + 1:=by rw [<- hG2,Heap.size_push]
 have hDC:s2.heap.objs.size ≠ G2.objs.size:=by rw [hC]; exact Nat.ne_of_lt (Nat.lt_succ_self _)
 have hle:s2.heap.objs.size <= G2.objs.size:=by rw [hC]; exact Nat.le_succ _
 have below:∀ b,b < s2.heap.objs.size -> b ≠ G2.objs.size /\ b ≠ s2.heap.objs.size:=fun b hb=>⟨Nat.ne_of_lt (Nat.lt_of_lt_of_le hb hle),Nat.ne_of_lt hb⟩
 have old:∀ b o,s2.heap.get? b = some o -> h₁.get? b = some o:=fun b o e=>hsb₁.extBut b o (below b (Heap.lt_size e)).1 (Heap.get?_push_of_some _ (hG2 ▸ Heap.get?_push_of_some _ e))
 have accO:h₁.get? s2.heap.objs.size = some { cls := .type "list",data := .seq ([]:List Value).toArray 0 }:=hsb₁.extBut _ _ hDC (Heap.get?_push_of_some _ (hG2 ▸ Heap.get?_push_size _ rfl))
 have hfree0:∀ y ∈ scope.names,y.2 = NameKind.free -> ∃ c,X.env.cells.lookup y.1 = some c:=fun y hy e=>I2.ok.has y.1 (.inl (by show X.env.scope.names.lookup y.1 = _; rw [hsc]; exact S.free y hy e))
 have subC:∀ x c,(Ef X.env.cells scope.names []).lookup x = some c -> X.env.cells.lookup x = some c:=fun x c e=>by
  rcases Iw e with z | ⟨z1,z2⟩
  ·simp at z
  ·obtain ⟨c',e'⟩ := hfree0 _ z1 rfl
   rw [z2,e']
   rfl
 have cellLt:∀ x c,X.env.cells.lookup x = some c -> c < s2.heap.objs.size:=fun x c e=>by
  obtain ⟨v,q⟩ := I2.cell x c e
  exact q.lt
 have fpLt:∀ b ∈ fp,b < s2.heap.objs.size:=fun b hb=>by
  obtain ⟨o,e,_⟩ := T.obj 0 _ st2 b hb
  exact Heap.lt_size e
 have ok3:(Ce X (Bn X.N tgs fr) scope G2.objs.size s2 H2 fp).Ok:=by
  refine ⟨I2.ok.mod,S.kind,I2.ok.glob,I2.ok.blt,hle,fun x y c e1 e2=>I2.ok.inj x y c (subC x c e1) (subC y c e2),fun x hx=>?_,fun x c z _=>absurd z Bool.false_ne_true,I2.ok.hd,I2.ok.frames,.inl rfl,
   fun b hb=>⟨(below b (fpLt b hb)).1,fun x c e=>(f2 b hb).2.2.2.2.1 x c (subC x c e)⟩,I2.bs,Nat.le_trans I2.ok.bsz I2.sz,fun b o e hb=>?_,fun b hb z=>?_,I2.stack,I2.stkFree⟩
  ·rcases hx with hx | hx
   ·exact Ex (Fl (env:=X.env) S.nocell (by decide) (.inl rfl) hx)
   ·exact Ex (Fl (env:=X.env) S.nocell (by decide) (.inr rfl) hx)
  ·rcases (f2 b hb).2.2.2.1 with z | z
   ·exact I2.ok.noex b o e z
   ·exact absurd (Nat.lt_of_lt_of_le (Heap.lt_size e) (Nat.le_trans I2.ok.bsz z)) (Nat.lt_irrefl _)
  ·rcases List.mem_cons.mp (I2.stkSub b z) with z | z
   ·exact (f2 b hb).2.1 z
   ·exact (f2 b hb).2.2.1 z
 have I3:Ai (Ce X (Bn X.N tgs fr) scope G2.objs.size s2 H2 fp) [] (En tgs.length fr σ) (upd H2 s2.heap.objs.size (.lst [])) { s2 with heap:=h₁,toks:=s2.toks + ([]:List (Str × Value)).length }:=by
  refine ⟨ok3,rfl,I2.bare,Un.laid old (Nat.le_refl _) I2.fresh,⟨_,hns₁,fun i x v e1 e2 e3=>?_⟩,fun x c e=>?_,?_,fun x c e=>?_,fun p hp=>absurd (show p ∈ ([]:List (Addr × Obj)) from hp) (by simp),I2.hok.laid old (Nat.le_refl _) ⟨Nat.zero_le _,[],0,.nil,accO⟩,?_⟩
  ·-- a name of the comprehension that has a value at the start is one of the def's cells
   have hi:tgs.length <= i:=by
    refine Nat.le_of_not_lt fun hlt=>?_
    unfold En at e2
    rw [List.getElem?_append_left (by simpa using hlt),List.getElem?_replicate,if_pos hlt] at e2
    cases e2
   have e2':(Dh fr σ)[i - tgs.length]? = some (some v):=by
    unfold En at e2
    rw [List.getElem?_append_right (by simpa using hi)] at e2
    simpa using e2
   have e1':(fr.map fun j=>(X.N[j]?).getD ⟨#[]⟩)[i - tgs.length]? = some x:=by
    have e1:(Bn X.N tgs fr)[i]? = some x:=e1
    unfold Bn at e1
    rw [List.getElem?_append_right hi] at e1
    exact e1
   unfold Dh at e2'
   rw [List.getElem?_map] at e1' e2'
   cases ej:fr[i - tgs.length]? with
   | none=>rw [ej] at e1'; cases e1'
   | some j =>
    rw [ej] at e1' e2'
    have e1j:(X.N[j]?).getD ⟨#[]⟩ = x:=Option.some.inj e1'
    have e2j:(σ[j]?).getD none = some v:=Option.some.inj e2'
    have hfr:=S.frs j (List.mem_of_getElem? ej)
    cases eN:X.N[j]? with
    | none=>rw [eN] at hfr; cases hfr
    | some x' =>
     rw [eN] at hfr e1j
     have ex:x' = x:=e1j
     subst ex
     have hfx:scope.names.lookup x' = some NameKind.free:=hfr
     have hσ:σ[j]? = some (some v):=by
      cases eσ:σ[j]? with
      | none=>rw [eσ] at e2j; cases e2j
      | some o=>rw [eσ] at e2j; exact congrArg some e2j
     have hmem:=PySem.mem_of_lookup hfx
     have hkc:X.env.scope.names.lookup x' = some NameKind.cell:=by rw [hsc]; exact S.free _ hmem rfl
     obtain ⟨m,hn,hl⟩ := I2.loc
     obtain ⟨u,ru,lk⟩ := hl j x' v eN hσ (.inr (.inl hkc))
     refine ⟨u,ru,.inr ⟨?_,?_⟩⟩
     ·have e3:(relabel scope X.env).names.lookup x' = some NameKind.local \/ (relabel scope X.env).names.lookup x' = some NameKind.cell \/ (relabel scope X.env).names.lookup x' = some NameKind.free:=e3
      rcases e3 with z | z | z
      ·exfalso
       have key:∀ (names:List (Str × NameKind)),names.lookup x' = some NameKind.free -> (names.map fun (n,k)=>if (k == NameKind.free && X.env.scope.kind == .function && X.env.kindOf n == some .cell) then (n,NameKind.cell) else (n,k)).lookup x' ≠ some NameKind.local:=by
        intro names
        induction names with
        | nil=>intro h; simp at h
        | cons p r ih =>
         obtain ⟨n,k⟩ := p
         intro h h2
         have h2:List.lookup x' ((if (k == NameKind.free && X.env.scope.kind == .function && X.env.kindOf n == some .cell) = true then (n,NameKind.cell) else (n,k)) :: (r.map fun (n,k)=>if (k == NameKind.free && X.env.scope.kind == .function && X.env.kindOf n == some .cell) then (n,NameKind.cell) else (n,k))) = some NameKind.local:=h2
         rw [List.lookup_cons] at h
         cases hx:x' == n with
         | true =>
          rw [hx] at h
          have ek:k = NameKind.free:=Option.some.inj h
          subst ek
          split at h2
          ·rw [List.lookup_cons,hx] at h2; cases h2
          ·rw [List.lookup_cons,hx] at h2; cases h2
         | false =>
          rw [hx] at h
          split at h2
          ·rw [List.lookup_cons,hx] at h2; exact ih h h2
          ·rw [List.lookup_cons,hx] at h2; exact ih h h2
       exact key scope.names hfx z
      ·exact .inl z
      ·exact .inr z
     ·obtain ⟨c,ec⟩ := Ex (cells:=X.env.cells) (cs:=[]) hmem
      rcases lk with ⟨k1,_⟩ | ⟨_,c',ec',ic⟩
      ·have k1:X.env.scope.names.lookup x' = some NameKind.local:=k1
       rw [hkc] at k1; cases k1
      ·have q:=subC _ _ ec
       rw [ec'] at q
       have q':c' = c:=Option.some.inj q
       subst q'
       exact ⟨_,ec,ic.keeps old⟩
  ·obtain ⟨v,q⟩ := I2.cell x c (subC x c e)
   exact ⟨v,q.keeps old⟩
  ·show upd H2 s2.heap.objs.size (.lst []) G2.objs.size = none
   rw [Ac hDC.symm]
   exact I2.hok.fresh hle
  ·rw [Ac (Nat.ne_of_lt (cellLt x c (subC x c e)))]
   exact I2.freeC x c (subC x c e)
  ·unfold En Dh
   show _ = (Bn X.N tgs fr).length
   unfold Bn
   simp
 obtain ⟨W,⟨m0,w0⟩,turn⟩ := run
 have stat:∀ {H':Hp},(∀ b ∈ fp,H' b = none) -> ∀ b ∈ fp,Lx (Ce X (Bn X.N tgs fr) scope G2.objs.size s2 H2 fp) [] H' b:=fun hn b hb =>
  ⟨hn b hb,(below b (fpLt b hb)).1,ok3.exfs b hb,.inl hb,(ok3.exf b hb).2,fun p hp=>absurd (show p ∈ ([]:List (Addr × Obj)) from hp) (by simp)⟩
 have fr3:∀ b ∈ fp,upd H2 s2.heap.objs.size (.lst []) b = none:=fun b hb=>by rw [Ac (below b (fpLt b hb)).2]; exact (f2 b hb).1
 have st3:tn 0 h₁:=T.keep 0 _ _ st2 fun b _ o e=>old b o e
 have fin:∀ {H3:Hp} {s4:Shared},Ai (Ce X (Bn X.N tgs fr) scope G2.objs.size s2 H2 fp) [] (En tgs.length fr σ) H3 s4 -> Qf H3 -> RR (.ref s2.heap.objs.size) G2.objs.size (.ok .next) s4:=fun {H3 s4} I4 q=>by
  obtain ⟨m,hn,_⟩ := id I4.loc
  have ub:Un (frs X.stack) fp H2 H3 s2.heap s4.heap:=I4.base
  refine hRR G2.objs.size H3 s4 (I2.call' (ch:=fp) (s':=s4) I4.os ub I4.hok I4.bare fun b hb=>⟨(f2 b hb).2.2.2.1,(f2 b hb).2.1,(f2 b hb).2.2.2.2.1,(f2 b hb).2.2.2.2.2⟩) (I2.fpOk hle I4.free) ⟨m,hn⟩ q
 have loop : ∀ s₃ : Shared, s₃ = { s2 with heap := h₁, toks := s2.toks + ([] : List (Str × Value)).length } ->
   codeAny (model X.prog X.w) X.A (.compLoop (.ListComp elt [⟨tg,iter,ifs,0⟩] scope pos) 0 (.ref it) (.ref s2.heap.objs.size) (compEnvC scope (Ef X.env.cells scope.names []) G2.objs.size X.env)) (RR (.ref s2.heap.objs.size) G2.objs.size) s₃:=by
  rintro s₃ rfl
  refine Op (fun n s'=>∃ i ys H',Ai (Ce X (Bn X.N tgs fr) scope G2.objs.size s2 H2 fp) [] (En tgs.length fr σ) H' s' /\ tn i s'.heap /\ (∀ b ∈ fp,H' b = none) /\ W i n ys H') ?_ m0 ⟨0,[],_,I3,st3,fr3,w0⟩
  rintro n s5 ⟨i,ys,H3,J3,sti,fri,w3⟩
  rcases turn i n ys H3 w3 with ⟨stop,q⟩ | ⟨go,step⟩
  ·refine wpAny_mono (T.done (Ce X (Bn X.N tgs fr) scope G2.objs.size s2 H2 fp) rfl rfl rfl hc i [] s5 _ H3 (fun _ _=>False) J3 (stat fri) sti stop) (fun r s6 ⟨hr,J4⟩=>?_) (fun _ _ f=>f)
   subst hr
   exact fin J4 q
  ·refine wpAny_mono (T.item (Ce X (Bn X.N tgs fr) scope G2.objs.size s2 H2 fp) rfl rfl rfl hc i [] s5 _ H3 (fun _ _=>False) J3 (stat fri) sti go) (fun r s6 ⟨u,hr,h6⟩=>?_) (fun _ _ f=>f)
   subst hr
   refine wpAny_mono h6 (fun _ s7 ⟨x,H7,J7,r7,y7,st7,fr7⟩=>?_) (fun _ _ f=>f)
   have J7':=J7.pinned (stat fr7) (T.obj _ _ st7)
   refine wpAny_mono (hg G2.objs.size s2 H2 fp _ s7 _ H7 x u _ J7' r7 (step x H7 y7)) (fun _ s8 ⟨σ8,H8,J8,⟨zs,hz,e8⟩,q8⟩=>?_) (fun _ _ f=>f)
   have again : ∀ {H9 : Hp} {s9 : Shared} {ys' : List V}, Ai (Ce X (Bn X.N tgs fr) scope G2.objs.size s2 H2 fp) ([] ++ Li fp s7.heap) σ8 H9 s9 -> (∃ m', m' < n /\ W (i + 1) m' ys' H9) ->
     ∃ m,m < n /\ ∃ i ys H',Ai (Ce X (Bn X.N tgs fr) scope G2.objs.size s2 H2 fp) [] (En tgs.length fr σ) H' s9 /\ tn i s9.heap /\ (∀ b ∈ fp,H' b = none) /\ W i m ys H':=fun {H9 s9 ys'} J9 ⟨m',hm,w9⟩=>by
    refine ⟨m',hm,i + 1,ys',H9,J9.unpinned.weak ?_ ?_,T.keep _ _ _ st7 fun b hb o e=>(J9.pin (b,o) (List.mem_append_right _ (List.mem_append_right _ (Fe hb e)))).1,fun b hb=>?_,w9⟩
    ·rw [e8]; unfold En; simp [hz]
    ·intro k v ek
     rw [e8]
     unfold En at ek
     by_cases hk:k < tgs.length
     ·rw [List.getElem?_append_left (by simpa using hk),List.getElem?_replicate,if_pos hk] at ek
      cases ek
     ·rw [List.getElem?_append_right (by simpa using hk)] at ek
      rw [List.getElem?_append_right (by omega),hz]
      simpa using ek
    ·obtain ⟨o,e,d⟩ := T.obj _ _ st7 b hb
     exact (J9.pin (b,o) (List.mem_append_right _ (List.mem_append_right _ (Fe hb e)))).2.1
   refine wpAny_mono (ht G2.objs.size s2 H2 fp _ s8 σ8 H8 _ J8 q8) (fun ok s9 ⟨H9,J9,q9⟩=>?_) (fun _ _ f=>f)
   cases ok with
   | false =>
    rw [if_neg Bool.false_ne_true] at q9 ⊢
    exact again J9 q9
   | true =>
    rw [if_pos rfl] at q9 ⊢
    refine wpAny_mono (he G2.objs.size s2 H2 fp _ s9 σ8 H9 _ J9 q9) (fun y s10 ⟨v10,H10,J10,r10,hD,hlen,q10⟩=>?_) (fun _ _ f=>f)
    refine wpAny_mono (D0 (X:=Ce X (Bn X.N tgs fr) scope G2.objs.size s2 H2 fp) _ s10 σ8 H10 (.ref s2.heap.objs.size) [v10] (.ref s2.heap.objs.size) [y] (fun _ H11=>H11 = upd H10 s2.heap.objs.size (.lst (ys ++ [v10]))) J10 rfl (.cons r10 .nil) ⟨_,ys,v10,rfl,rfl,hD,hlen,rfl⟩) (fun _ s11 ⟨_,H11,J11,_,e11⟩=>?_) (fun _ _ f=>f)
    subst e11
    exact again J11 q10
 exact codeAny_compStart_list (loop _ rfl) (T.self _ 0 _ _ _ st3 (loop _ rfl))
theorem Ei (hi : PI X tg iter wi) (sc : Scope) (hsc : X.env.scope = sc) (S : Cf sc scope X.N tgs fr) (hc : X.calm = true) (hclos : closureFor scope X.env = pure (Ef X.env.cells scope.names []))
  (hg:∀ C s2 H2 fp,PG (Ce X (Bn X.N tgs fr) scope C s2 H2 fp) tg g) (ht:∀ C s2 H2 fp,jx (Ce X (Bn X.N tgs fr) scope C s2 H2 fp) ifs tt) (he:∀ C s2 H2 fp,PE (Ce X (Bn X.N tgs fr) scope C s2 H2 fp) elt te)
  (hs:∀ x,foldedSetIterable iter X.env x = pure x:=by intro _; rfl):PE X (.ListComp elt [⟨tg,iter,ifs,0⟩] scope pos) (kg tgs.length fr wi g tt te):=by
 intro pins s σ H Q I h
 rw [eval_ListComp]
 refine wpAny_comprehension_free (use:=none) rfl hs hclos S.kind S.loc (wpAny_mono (hi pins s σ H _ I h) (fun v s1 h1=>wpAny_mono h1 (fun itv s2 h2=>?_) fun _ _ e=>e) fun _ _ e=>e)
 obtain ⟨it,fp,tn,J,H2,e,I2,T,st2,f2,R2⟩ := h2
 subst e
 refine N5 (RR:=fun acc C=>compPost (model X.prog X.w) X.A X.xe none (EP X pins σ Q) acc C) hsc S hc hg ht he I2 T st2 f2 (R2 _ I2.fresh) ?_
 intro C H3 s4 I4 fC ⟨m,hn⟩ q
 refine ⟨m,hn,fun h' hs'=>⟨.ref s2.heap.objs.size,H3,?_,rfl,q⟩⟩
 obtain ⟨hh,gg,dd,tt',oo⟩ := s4
 exact I4.turned (h':=h') (t':=tt') (it:=C) (fun b o hb e=>hs'.extBut b o hb e) fC.1 fC.2.1 fC.2.2.2.1 fC.2.2.2.2.1 fC.2.2.2.2.2
theorem Cv {i : Nat} {y : Str} {py spos : Pos} (hN : X.N.Nodup) (hiy : X.N[i]? = some y) (hi : PI X tg iter wi) (sc : Scope) (hsc : X.env.scope = sc) (S : Cf sc scope X.N tgs fr) (hc : X.calm = true)
  (hclos:closureFor scope X.env = pure (Ef X.env.cells scope.names []))
  (hg:∀ C s2 H2 fp,PG (Ce X (Bn X.N tgs fr) scope C s2 H2 fp) tg g) (ht:∀ C s2 H2 fp,jx (Ce X (Bn X.N tgs fr) scope C s2 H2 fp) ifs tt) (he:∀ C s2 H2 fp,PE (Ce X (Bn X.N tgs fr) scope C s2 H2 fp) elt te)
  (hy:X.env.scope.names.lookup y = some NameKind.local)
  (hsw:swapsWith (.ListComp elt [⟨tg,iter,ifs,0⟩] scope pos) (some (.Name y py)) spos.line X.env = pure true)
  (hs:∀ x,foldedSetIterable iter X.env x = pure x:=by intro _; rfl) :
  PS X (.Assign [.Name y py] (.ListComp elt [⟨tg,iter,ifs,0⟩] scope pos) spos) (Wj tgs.length fr wi g tt te i):=by
 intro pins s σ H D I h
 rw [exec_Assign_Name_used _ _ _ _ hsw]
 refine wpAny_bind (wpAny_standAt (wpAny_bind ?_))
 show wpAny _ X.A (do let _ <- comprehension (.ListComp elt [⟨tg,iter,ifs,0⟩] scope pos) scope X.env _ (newList []) false (eval iter X.env) (some (assign (.Name y py) X.env))) _ _ s
 refine wpAny_bind (wpAny_mono (wpAny_comprehension_free (use:=some (assign (.Name y py) X.env)) (Q:=fun _ s'=>SP X pins D .next s') rfl hs hclos S.kind S.loc
  (wpAny_mono (hi pins s σ H _ I h) (fun v s1 h1=>wpAny_mono h1 (fun itv s2 h2=>?_) fun _ _ e=>e) fun _ _ e=>e)) (fun _ s' hq=>wpAny_pure (wpAny_pure hq)) fun _ _ e=>e)
 obtain ⟨it,fp,tn,J,H2,e,I2,T,st2,f2,R2⟩ := h2
 subst e
 refine N5 (RR:=fun acc C=>compPost (model X.prog X.w) X.A X.xe (some (assign (.Name y py) X.env)) (fun _ s'=>SP X pins D .next s') acc C) hsc S hc hg ht he I2 T st2 f2 (R2 _ I2.fresh) ?_
 intro C H3 s4 I4 fC ⟨m,hn⟩ q
 refine wpAny_assign_Name (Nb (v := .ref s2.heap.objs.size) I4 hN hiy (.inl hy) rfl (fun s5 I5 ⟨a,hsb,ha⟩=>?_) (.inr hy))
 have hLC:C ≠ a:=by
  rcases ha with z | z
  ·rw [z]; exact fC.2.1
  ·exact fun z2=>fC.2.2.2.2.1 y a z z2.symm
 refine ⟨m,hn.sameBut hsb hLC,fun h' hs'=>⟨_,H3,?_,q⟩⟩
 obtain ⟨hh,gg,dd,tt',oo⟩ := s5
 exact I5.turned (h':=h') (t':=tt') (it:=C) (fun b o hb e=>hs'.extBut b o hb e) fC.1 fC.2.1 fC.2.2.2.1 fC.2.2.2.2.1 fC.2.2.2.2.2
end
open PySem.Builtin.Int (intBits)
section
variable {X:Cx}
theorem ab:Ji X (binaryOp .Mult) (rI IntMulOk fun i j=>.int (i * j)):=mo fun _ _ _ _ _ _ _ hc q=>mul_int q hc
end
theorem j6 {a b:Int} {m n:Nat} (ha:intBits a <= m) (hb:intBits b <= n) (h:m + n <= 134217728):IntMulOk a b:=PyProof.Rows.mulOk_of_bits ha hb h
noncomputable def dz (T C:String):Option Bool:=if (Value.type T == Value.type C) = true then some true else if PySem.W.kitMeta C = true then (fastBuiltinMro T).map (·.contains (Value.type C)) else none
theorem Yb (K:PySem.W.Frag) (T C:String):PySem.W.kitOne K (.type T) (.type C) = dz T C:=rfl
theorem Of:dz "list" "list" = some true:=by decide +kernel
section
variable {X:Cx}
noncomputable def jr (K:PySem.W.Frag):List V -> Hp -> VK -> Prop:=fun xs H Q=>∃ x T C b,xs = [x,.ty C] /\ Ja K H x (.type T) /\ dz T C = some b /\ Q (.bl b) H
theorem Xa:E1 X (.builtin "isinstance") (jr X.K):=by
 intro pins s σ H xs us Q I r h
 obtain ⟨x,T,C,b,rfl,ty,e,q⟩ := h
 obtain ⟨u,w',rfl,rx,rc⟩ := Wl r
 obtain rfl:w' = Value.type C:=rc
 exact Vf I rx ty ((Yb X.K T C).trans e) fun tk=>⟨.bl b,H,I.tok _,rfl,q⟩
theorem im {x:Str} {T:String} {pos:Pos} (hg:Gl X x) (hm:X.mg x = none) (hv:bootBuiltins x = some (.type T)) (hn:x ≠ "__name__" := by decide) (hd:(x == ("__debug__" : Str)) = false:=by decide):PE X (.Name x pos) (tC (.ty T)) :=
 Zf hg hm hv rfl hn hd
end
mutual
noncomputable def Rp (H:Hp):PyData -> V -> Prop
 | .none,v=>v = .non
 | .bool b,v=>v = .bl b
 | .int i,v=>v = .int i
 | .tuple ds,v=>∃ a xs,v = .ref a /\ H a = some (.tup xs) /\ RpAll H ds xs
 | .list ds,v=>∃ a xs,v = .ref a /\ H a = some (.lst xs) /\ RpAll H ds xs
 | .str x,v=>v = .str x /\ PyData.strOk x = true
 | .dict _,_=>False
noncomputable def RpAll (H:Hp):List PyData -> List V -> Prop
 | [],vs=>vs = []
 | d :: ds,vs=>∃ x xs,vs = x :: xs /\ Rp H d x /\ RpAll H ds xs
end
mutual
theorem Cl {H:Hp}:∀ (d:PyData) (v:V),Rp H d v -> d.canLay0 = true
 | .none,_,_=>rfl
 | .bool _,_,_=>rfl
 | .int _,_,_=>rfl
 | .tuple ds,_,h=>by
  unfold Rp at h
  obtain ⟨a,xs,_,_,h⟩ := h
  exact rpAll_can ds xs h
 | .list ds,_,h=>by
  unfold Rp at h
  obtain ⟨a,xs,_,_,h⟩ := h
  exact rpAll_can ds xs h
 | .str x,v,h=>by
  unfold Rp at h
  exact h.2
 | .dict _,_,h=>by unfold Rp at h; exact h.elim
theorem rpAll_can {H:Hp}:∀ (ds:List PyData) (vs:List V),RpAll H ds vs -> PyData.canLayAll0 ds = true
 | [],_,_=>rfl
 | d :: ds,vs,h=>by
  unfold RpAll at h
  obtain ⟨x,xs,_,h1,h2⟩ := h
  show (d.canLay0 && PyData.canLayAll0 ds) = true
  rw [Cl d x h1,rpAll_can ds xs h2]
  rfl
end
section
variable {X:Cx} {pins:List (Addr × Obj)} {σ:St} {H:Hp} {s:Shared}
mutual
theorem Cw (I:Ai X pins σ H s):∀ (d:PyData) (v:V) (u:Value),Rp H d v -> Ax v u -> ∃ as,Reads s.heap u d as
 | .none,v,u,h,r=>by
  unfold Rp at h
  subst h
  cases r
  exact ⟨_,.none⟩
 | .bool b,v,u,h,r=>by
  unfold Rp at h
  subst h
  cases r
  exact ⟨_,.bool b⟩
 | .int i,v,u,h,r=>by
  unfold Rp at h
  subst h
  obtain ⟨t,rfl⟩ := r
  exact ⟨_,.int i t⟩
 | .tuple ds,v,u,h,r=>by
  unfold Rp at h
  obtain ⟨a,xs,rfl,ha,h⟩ := h
  cases r
  obtain ⟨_,its,rv,p⟩ := I.hok a _ ha
  obtain ⟨o,h1,h2,n,h3⟩ := p
  obtain ⟨as,q⟩ := rpAll_reads I ds xs its h rv
  exact ⟨_,.tuple h1 h2 h3 (by simpa using q)⟩
 | .list ds,v,u,h,r=>by
  unfold Rp at h
  obtain ⟨a,xs,rfl,ha,h⟩ := h
  cases r
  obtain ⟨_,its,n,rv,p⟩ := I.hok a _ ha
  obtain ⟨as,q⟩ := rpAll_reads I ds xs its h rv
  exact ⟨_,.list p rfl rfl (by simpa using q)⟩
 | .str x,v,u,h,r=>by
  unfold Rp at h
  obtain ⟨rfl,_⟩ := h
  obtain ⟨t,rfl⟩ := r
  exact ⟨_,.str x t⟩
 | .dict _,_,_,h,_=>by unfold Rp at h; exact h.elim
theorem rpAll_reads (I:Ai X pins σ H s):∀ (ds:List PyData) (vs:List V) (us:List Value),RpAll H ds vs -> B6 vs us -> ∃ as,ReadsAll s.heap us ds as
 | [],vs,us,h,r=>by
  unfold RpAll at h
  subst h
  cases r
  exact ⟨_,.nil⟩
 | d :: ds,vs,us,h,r=>by
  unfold RpAll at h
  obtain ⟨x,xs,rfl,h1,h2⟩ := h
  cases r with
  | cons r1 r2 =>
   obtain ⟨as,q1⟩ := Cw I d x _ h1 r1
   obtain ⟨bs,q2⟩ := rpAll_reads I ds xs _ h2 r2
   exact ⟨_,.cons q1 q2⟩
end
end
section
variable {X:Cx} {k:Nat}
noncomputable def mw (neg:Bool):R2:=fun x y H Q=>∃ d e:PyData,Rp H d x /\ Rp H e y /\ d.depth <= 60 /\ Q (.bl (if neg then !PyData.eqv d e else PyData.eqv d e)) H
theorem Xh (hr:De k X.A):Ji X (compareOp .NotEq) (mw true):=by
 intro pins s σ H x y v u Q I rx ry h
 obtain ⟨d,e,h1,h2,hd,q⟩ := h
 obtain ⟨as,q1⟩ := Cw I d x v h1 rx
 obtain ⟨bs,q2⟩ := Cw I e y u h2 ry
 have hu:=hr.units
 exact PySem.SeqAt.compareNe_reads q1 q2 (Cl d x h1) (Cl e y h2) (by omega) ⟨.bl (!PyData.eqv d e),H,I,rfl,q⟩
end
theorem Ua {H:Hp}:∀ ns:List Int,RpAll H (ns.map PyData.int) (ns.map V.int)
 | []=>by unfold RpAll; rfl
 | n :: ns=>by
  show RpAll H (PyData.int n :: ns.map PyData.int) (V.int n :: ns.map V.int)
  unfold RpAll
  exact ⟨_,_,rfl,by unfold Rp; rfl,Ua ns⟩
theorem A9.new {H H':Hp} {p:Addr} {o:HO} (e:A9 H H') (h:H p = none):A9 H (upd H' p o):=fun b u q=>by
 rw [Ac (Ah q h)]
 exact e b u q
theorem A9.upd {H:Hp} {p:Addr} {o:HO} (h:H p = none):A9 H (upd H p o):=(A9.refl H).new h
theorem walk_ofB {l : PySem.W.OpenLaw} {n k : Nat} {q : Program} {loose : List Str} {XP : (Str -> Option Value) -> Heap -> Prop} {YP : World -> Heap -> Prop} {d : DefRec} {K : Params -> PySem.W.Frag} {CX : World -> Xb} {sp : World -> Sp} {x : Str}
  (hn:l.most = some n) (hn2:n <= sizeLine) (hdf:d.params.defaults = []) (hr:De k callerA)
  (hY:∀ (w:World) (h:Heap),YP w h -> (K w.params).In h)
  (F:∀ (w:World) (mg:Str -> Option Value) (fa:Addr) (h:Heap),(K w.params).In h -> h.Ns mainGlobals mg -> mg d.name = some (.ref fa) ->
   ∃ fd:FuncData,(∀ (s:Shared) (u:Value),BindsTo s fd ⟨[u],[]⟩ [(x,u)]) /\
    ∀ base:Heap,(K w.params).In base -> base.Ns mainGlobals mg -> Aj l.prog w (K w.params) mg base (CX w) k fa fd [x] (sp w))
  (hsp:∀ (w:World) (H:Hp) (a:Addr) (ns:List Int),ns.length <= n -> (∀ z ∈ ns,intBits z <= 2 ^ 20) -> d8 H -> Bo (K w.params) H a (ns.map V.int) -> sp w [.ref a] H (fun v _=>v = .bl true) fun _ _ _=>False)
  (hCX:∀ (w:World) (H:Hp) (s:Shared) (e:Value) (s':Shared),CX w [] H s (fun _ _ _=>False) e s' -> False) :
  PySem.W.WalkO q loose XP YP l.row.toRowW d [] (fun f vs=>PySem.call f vs):=by
 intro w s₀ s₁ mg mb G Y fa o pm cd doc dV kV ho hd hcd hD hmg hg args vals as hpre hlay hrd hwl hlo
 obtain rfl:dV = .none:=PySem.W.Dflts.none hD hdf
 obtain rfl:kV = .none:=PySem.W.Dflts.noKw hD
 obtain ⟨a,vs,ns,rfl,rfl,hobj,hints,hlen⟩ := Att.script_of hn hpre hwl
 have big:∀ z ∈ ns,intBits z <= 2 ^ 20:=fun z hz=>by
  have l1:=(PySem.W.layW_cons hlay).1
  have l2:=PySem.W.layableW_item l1 (.int z) (List.mem_map.mpr ⟨z,hz,rfl⟩)
  have l3:=(PySem.W.layableW_iff.mp l2).2.2
  simpa only [PySem.W.WData.weight,Builtin.Int.intBits] using l3
 have KX:=hY w _ Y
 obtain ⟨fd,hb,hF⟩ := F w mg fa _ KX G.T.g hmg
 refine PySem.W.enter_call (codeAny_mono (Xy KX G.T.g G.T.b G.T.builtins G.T.nolimit hg hobj hints (Nat.le_trans hlen hn2) hr hF hb (fun H hO hS=>hsp w H a ns hlen big hO hS) fun H e s'=>hCX w H s₁ e s') fun r s' hq=>?_)
 obtain ⟨rfl,h2,h3,h4⟩ := hq
 exact ⟨.inl ⟨.bool true,.bool true,[],rfl,fun _=>rfl,.bool true,Att.post_true l _,fun _=>⟨List.Pairwise.nil,fun _ hm=>(nomatch hm)⟩⟩,h2,h3,h4⟩
section
variable {X:Cx} {tg:Expr}
noncomputable def mh (K:PySem.W.Frag):R2:=fun x y H Q=>∃ p xs i v,x = .ref p /\ y = .int i /\ (Bo K H p xs \/ Bx K H p xs) /\ Pe xs i = some v /\ Q v H
theorem B8 (K:PySem.W.Frag) (hK:X.K = K:=by rfl):kq X (mh K):=by
 subst hK
 intro value slice pins s σ H x y v u Q I rx ry h hs
 obtain ⟨p,xs,i,z,e1,e2,h | h,ea,q⟩ := h
 ·exact Z0 value slice pins s σ H x y v u Q I rx ry ⟨p,xs,i,z,e1,e2,h,ea,q⟩ hs
 ·exact fu value slice pins s σ H x y v u Q I rx ry ⟨p,xs,i,z,e1,e2,h,ea,q⟩ hs
noncomputable def lp (K:PySem.W.Frag):List V -> Hp -> VK -> Prop:=fun xs H Q=>∃ p ys,xs = [.ref p] /\ (Bo K H p ys \/ Bx K H p ys) /\ Q (.int ys.length) H
theorem Bw (K:PySem.W.Frag) (hK:X.K = K:=by rfl):E1 X (.builtin "len") (lp K):=by
 subst hK
 exact P6
theorem Vi (K:PySem.W.Frag) (hK:X.K = K:=by rfl):E1 X (.builtin "isinstance") (jr K):=by
 subst hK
 exact Xa
theorem df (K:PySem.W.Frag) (hK:X.K = K:=by rfl):Ji X (compareOp .In) (nh K false):=by
 subst hK
 exact V4
theorem Ih (K:PySem.W.Frag) (hK:X.K = K:=by rfl):l8 X (jc K):=by
 subst hK
 exact Zq
theorem Gh (K : PySem.W.Frag) {es : List Expr} {kk : Nat} {t : aj} {n : Nat} {pos : Pos} (hc : X.calm = true) (h : gs X es t) (hK : X.K = K := by rfl)
  (hn:(assignEach es X.env).length = n:=by rfl) (hst:(assignEach es X.env).findIdx? (·.1) = none:=by rfl):PG X (.Tuple es kk pos) (ba K n t):=by
 subst hK
 exact c8 hc h hn hst
noncomputable def P1 (K:PySem.W.Frag) (tl:TE):TI:=fun σ H R=>tl σ H fun x H1=>∃ a,x = .ref a /\ (((∃ xs,Bo K H1 a xs) /\ R (bp K a) H1) \/ ((∃ xs,Bx K H1 a xs) /\ R (gn K a) H1))
theorem Dj {l:Expr} {tl:TE} (hl:PE X l tl):PI X tg l (P1 X.K tl):=by
 intro pins s σ H R I h
 refine C7 (hl pins s σ H _ I h) fun v s1 hz0=>?_
 obtain ⟨x,H1,I1,r1,q1⟩ := hz0
 obtain ⟨a,e,q1⟩ := q1
 subst e
 cases r1
 rcases q1 with ⟨⟨xs,hq⟩,q⟩ | ⟨⟨xs,hq⟩,q⟩
 ·obtain ⟨its,rv,p,hz⟩ := I1.list hq
  refine wpAny_pyIter_list p.isList ?_
  refine ⟨s1.heap.objs.size,[s1.heap.objs.size],_,_,H1,rfl,I1.kept (t':=s1.toks) fun b o e=>Heap.get?_push_of_some _ e,Vv a _,⟨_,Heap.get?_push_size _ rfl,rfl,rfl⟩,fun b hb=>?_,q⟩
  have e:b = s1.heap.objs.size:=by simpa using hb
  subst e
  exact I1.fpOk (Nat.le_refl _) (I1.hok.fresh (Nat.le_refl _))
 ·obtain ⟨its,rv,p,hz⟩ := I1.tuple hq
  refine wpAny_pyIter_tuple (show s1.heap.IsTuple a its.toArray from p) ?_
  refine ⟨s1.heap.objs.size,[s1.heap.objs.size],_,_,H1,rfl,I1.kept (t':=s1.toks) fun b o e=>Heap.get?_push_of_some _ e,Sw a _,⟨_,Heap.get?_push_size _ rfl,rfl,rfl⟩,fun b hb=>?_,q⟩
  have e:b = s1.heap.objs.size:=by simpa using hb
  subst e
  exact I1.fpOk (Nat.le_refl _) (I1.hok.fresh (Nat.le_refl _))
end
theorem D9 {fr : List Nat} {te : TE} {σ : St} {D : Addr} {H1 : Hp} {Q : Hp -> Prop} {lo : Int} {cnt : Nat} (Pv : Nat -> List V -> Hp -> Prop) (h0 : Pv 0 [] (upd H1 D (.lst [])))
  (hs:∀ i ys H,i < cnt -> Pv i ys H -> ∀ Qe:VK,(∀ y H5,H5 D = some (.lst ys) -> ys.length < sizeLine -> Pv (i + 1) (ys ++ [y]) (upd H5 D (.lst (ys ++ [y]))) -> Qe y H5) -> te (some (.int (lo + i)) :: Dh fr σ) H Qe)
  (hd:∀ ys H,Pv cnt ys H -> Q H):E3 1 fr (az lo cnt) (Ie 0) Oy te σ D H1 Q:=by
 refine ⟨fun i m ys H=>m = cnt - i /\ i <= cnt /\ Pv i ys H,⟨cnt,by simp,Nat.zero_le _,h0⟩,?_⟩
 rintro i m ys H' ⟨rfl,hi,p⟩
 by_cases hlt:i < cnt
 ·refine .inr ⟨hlt,fun x H2 y=>?_⟩
  obtain ⟨e,y⟩ := y
  subst e y
  refine ⟨⟨[some (.int (lo + i))],rfl,rfl⟩,?_⟩
  simp only [Oy,↓reduceIte]
  exact hs i ys _ hlt p _ fun y H5 hD hz pv=>⟨hD,hz,cnt - (i + 1),by omega,rfl,hlt,pv⟩
 ·have e:i = cnt:=by omega
  subst e
  exact .inl ⟨Nat.le_refl _,hd ys H' p⟩
theorem Ga {K : PySem.W.Frag} {a : Addr} {xs : List V} {fr : List Nat} {te : TE} {σ : St} {D : Addr} {H1 : Hp} {Q : Hp -> Prop} (Pv : Nat -> List V -> Hp -> Prop) (h0 : Pv 0 [] (upd H1 D (.lst [])))
  (hl:∀ i ys H,i <= xs.length -> Pv i ys H -> Bo K H a xs)
  (hs:∀ i x ys H,xs[i]? = some x -> Pv i ys H -> ∀ Qe:VK,(∀ y H5,H5 D = some (.lst ys) -> ys.length < sizeLine -> Pv (i + 1) (ys ++ [y]) (upd H5 D (.lst (ys ++ [y]))) -> Qe y H5) -> te (some x :: Dh fr σ) H Qe)
  (hd:∀ ys H,Pv xs.length ys H -> Q H):E3 1 fr (bp K a) (Ie 0) Oy te σ D H1 Q:=by
 refine ⟨fun i m ys H=>m = xs.length - i /\ i <= xs.length /\ Pv i ys H,⟨xs.length,by simp,Nat.zero_le _,h0⟩,?_⟩
 rintro i m ys H' ⟨rfl,hi,p⟩
 have q:=hl i ys H' hi p
 by_cases hlt:i < xs.length
 ·refine .inr ⟨⟨xs,xs[i],q,by simp [hlt]⟩,fun x H2 y=>?_⟩
  obtain ⟨e,y⟩ := y
  subst e
  refine ⟨⟨[some x],rfl,rfl⟩,?_⟩
  simp only [Oy,↓reduceIte]
  exact hs i x ys _ (y xs q) p _ fun y H5 hD hz pv=>⟨hD,hz,xs.length - (i + 1),by omega,rfl,hlt,pv⟩
 ·have e:i = xs.length:=by omega
  subst e
  exact .inl ⟨⟨xs,q,Nat.le_refl _⟩,hd ys H' p⟩
theorem Xn {K : PySem.W.Frag} {a : Addr} {xs : List V} {fr : List Nat} {te : TE} {σ : St} {D : Addr} {H1 : Hp} {Q : Hp -> Prop} (Pv : Nat -> List V -> Hp -> Prop) (h0 : Pv 0 [] (upd H1 D (.lst [])))
  (hl:∀ i ys H,i <= xs.length -> Pv i ys H -> Bx K H a xs)
  (hs:∀ i x ys H,xs[i]? = some x -> Pv i ys H -> ∀ Qe:VK,(∀ y H5,H5 D = some (.lst ys) -> ys.length < sizeLine -> Pv (i + 1) (ys ++ [y]) (upd H5 D (.lst (ys ++ [y]))) -> Qe y H5) -> te (some x :: Dh fr σ) H Qe)
  (hd:∀ ys H,Pv xs.length ys H -> Q H):E3 1 fr (gn K a) (Ie 0) Oy te σ D H1 Q:=by
 refine ⟨fun i m ys H=>m = xs.length - i /\ i <= xs.length /\ Pv i ys H,⟨xs.length,by simp,Nat.zero_le _,h0⟩,?_⟩
 rintro i m ys H' ⟨rfl,hi,p⟩
 have q:=hl i ys H' hi p
 by_cases hlt:i < xs.length
 ·refine .inr ⟨⟨xs,xs[i],q,by simp [hlt]⟩,fun x H2 y=>?_⟩
  obtain ⟨e,y⟩ := y
  subst e
  refine ⟨⟨[some x],rfl,rfl⟩,?_⟩
  simp only [Oy,↓reduceIte]
  exact hs i x ys _ (y xs q) p _ fun y H5 hD hz pv=>⟨hD,hz,xs.length - (i + 1),by omega,rfl,hlt,pv⟩
 ·have e:i = xs.length:=by omega
  subst e
  exact .inl ⟨⟨xs,q,Nat.le_refl _⟩,hd ys H' p⟩
noncomputable def Ds (ns:List Int) (k:Int):Int:=(ns[k.toNat]?).getD 0
theorem Zr {ns:List Int} {k:Int} (h0:0 <= k) (h:k < ns.length):Pe (ns.map V.int) k = some (.int (Ds ns k)):=by
 obtain ⟨j,rfl⟩ : ∃ j:Nat,k = j:=⟨k.toNat,by omega⟩
 have hj:j < ns.length:=by omega
 refine P3 ?_
 unfold Ds
 rw [List.getElem?_map,Int.toNat_natCast,List.getElem?_eq_getElem hj]
 rfl
theorem V8 {ns:List Int} {k:Int} (h0:0 <= k) (h:¬ k < ns.length):Ds ns k = 0:=by
 unfold Ds
 rw [List.getElem?_eq_none (by omega)]
 rfl
theorem Lw {c:Bool} {A B:Prop} (hc:c = true) (h:A):if c = true then A else B:=by rw [if_pos hc]; exact h
theorem Fd {c:Bool} {A B:Prop} (hc:c = false) (h:B):if c = true then A else B:=by rw [if_neg (by rw [hc]; exact Bool.false_ne_true)]; exact h
theorem Bk {xs:List V} (h:xs.length <= 1000:=by simp):xs.length <= sizeLine:=Nat.le_of_lt (B7 h)
theorem K7 {n:Nat} (h:n <= 1000):n <= sizeLine:=Nat.le_of_lt (B7 h)
noncomputable def dT (ws:List Int):PyData := .tuple (ws.map PyData.int)
noncomputable def dP (d e:PyData):PyData := .tuple [d,e]
noncomputable def vO:Option Int -> V
 | none=>.non
 | some i=>.int i
theorem Jf {H:Hp} (i:Int):Rp H (.int i) (.int i):=by unfold Rp; rfl
theorem Xi {H:Hp}:Rp H .none .non:=by unfold Rp; rfl
theorem jq {H:Hp} (b:Bool):Rp H (.bool b) (.bl b):=by unfold Rp; rfl
theorem ar {H:Hp} {t:Addr} {ws:List Int} (h:H t = some (.tup (ws.map V.int))):Rp H (dT ws) (.ref t):=by
 unfold dT Rp
 exact ⟨t,_,rfl,h,Ua ws⟩
theorem Xt {H:Hp} {p:Addr} {d e:PyData} {x y:V} (h:H p = some (.tup [x,y])) (hd:Rp H d x) (he:Rp H e y):Rp H (dP d e) (.ref p):=by
 unfold dP Rp
 refine ⟨p,_,rfl,h,?_⟩
 unfold RpAll
 refine ⟨x,_,rfl,hd,?_⟩
 unfold RpAll
 refine ⟨y,_,rfl,he,?_⟩
 unfold RpAll
 rfl
theorem Gr:∀ ws:List Int,PyData.depthAll (ws.map PyData.int) = 0
 | []=>rfl
 | w :: ws=>by
  show max (PyData.depth (.int w)) (PyData.depthAll (ws.map PyData.int)) = 0
  rw [Gr ws]
  rfl
theorem X7 (ws:List Int):(dT ws).depth = 1:=by
 show PyData.depthAll (ws.map PyData.int) + 1 = 1
 rw [Gr]
theorem R6 (d e:PyData):(dP d e).depth = max d.depth e.depth + 1:=by
 show max d.depth (max e.depth 0) + 1 = _
 rw [Nat.max_zero]
theorem Ek:∀ xs ys:List Int,PyData.eqvAll (xs.map PyData.int) (ys.map PyData.int) = decide (xs = ys)
 | [],[]=>rfl
 | x :: xs,y :: ys=>by
  show (PyData.eqv (.int x) (.int y) && PyData.eqvAll (xs.map PyData.int) (ys.map PyData.int)) = _
  rw [Ek xs ys]
  show ((x == y) && decide (xs = ys)) = _
  by_cases h1:x = y <;> by_cases h2:xs = ys <;> simp [h1,h2]
 | [],_ :: _=>rfl
 | _ :: _,[]=>rfl
theorem Xu (xs ys:List Int):PyData.eqv (dT xs) (dT ys) = decide (xs = ys):=Ek xs ys
theorem bg (a b c d:PyData):PyData.eqv (dP a b) (dP c d) = (PyData.eqv a c && PyData.eqv b d):=by
 show (PyData.eqv a c && (PyData.eqv b d && true)) = _
 rw [Bool.and_true]
section
variable {X:Cx} {pins:List (Addr × Obj)} {σ:St} {H:Hp} {s:Shared} {h':Heap}
theorem Ai.turnLaid {ch : List Addr} {T : Addr} {o : HO} {t' : Nat} (I : Ai X pins σ H s) (hch : ∀ b ∈ ch, Lx X pins H b) (k : ∀ b ob, b ∉ ch -> s.heap.get? b = some ob -> h'.get? b = some ob)
  (hT:s.heap.objs.size <= T) (new:Br X.prog X.w (upd H T o) h' T o):Ai X pins σ (upd H T o) { s with heap:=h',toks:=t' }:=by
 have hn:H T = none:=I.hok.fresh hT
 have off:∀ b u,H b = some u -> b ∉ ch:=fun b u e hb=>by
  have z:=(hch b hb).1
  rw [e] at z
  cases z
 refine I.call (g':=s.gens) (d':=s.drawn) (t':=t') (ch:=ch) ⟨fun b ob e _ _ hc=>k b ob hc e,fun b ob e _ _ hc=>⟨ob.slots,k b ob hc e⟩,fun b ob e n hc=>?_,fun b ob e hc=>⟨ob,k b ob hc e⟩,fun b xs e=>?_,fun b ob u e=>?_,fun b ps e=>⟨#[],?_⟩⟩ (fun b u e=>?_) I.bare
  (fun b hb=>⟨(hch b hb).2.2.2.1,(hch b hb).2.1,(hch b hb).2.2.2.2.1,(hch b hb).2.2.2.2.2⟩)
 ·rw [Ac (Nat.ne_of_lt (Nat.lt_of_lt_of_le (Heap.lt_size e) hT))]
  exact n
 ·rw [Ac (Ah e hn)]
  exact e
 ·rw [Ac (Ah e hn)]
  exact e
 ·rw [Ac (Ah e hn),e]
  simp
 ·by_cases hb:b = T
  ·subst hb
   rw [A5] at e
   cases e
   exact new
  ·rw [Ac hb] at e
   refine (I.hok b u e).stay (fun c v hc q=>k c v ?_ q) (fun c q=>?_) fun c xs q=>?_
   ·rcases hc with rfl | hc
    ·exact off _ _ e
    ·exact off _ _ hc
   ·rw [Ac (Ah q hn)]
    exact q
   ·rw [Ac (Ah q hn)]
    exact q
theorem Ai.turnMany {ch:List Addr} {t':Nat} (I:Ai X pins σ H s) (hch:∀ b ∈ ch,Lx X pins H b) (k:∀ b ob,b ∉ ch -> s.heap.get? b = some ob -> h'.get? b = some ob):Ai X pins σ H { s with heap:=h',toks:=t' }:=by
 have off:∀ b u,H b = some u -> b ∉ ch:=fun b u e hb=>by
  have z:=(hch b hb).1
  rw [e] at z
  cases z
 refine I.call (g':=s.gens) (d':=s.drawn) (t':=t') (ch:=ch) ⟨fun b ob e _ _ hc=>k b ob hc e,fun b ob e _ _ hc=>⟨ob.slots,k b ob hc e⟩,fun b ob e n hc=>n,fun b ob e hc=>⟨ob,k b ob hc e⟩,fun b xs e=>e,fun b ob u e=>e,fun b ps e=>⟨#[],by rw [e]; simp⟩⟩ (fun b u e=>?_) I.bare
  (fun b hb=>⟨(hch b hb).2.2.2.1,(hch b hb).2.1,(hch b hb).2.2.2.2.1,(hch b hb).2.2.2.2.2⟩)
 refine (I.hok b u e).stay (fun c v hc q=>k c v ?_ q) (fun c q=>q) fun c xs q=>q
 rcases hc with rfl | hc
 ·exact off _ _ e
 ·exact off _ _ hc
end
section
variable {X:Cx}
end
section
variable {X:Cx}
end
section
variable {X:Cx}
end
section
variable {X:Cx}
end
structure Zb (K:PySem.W.Frag) (x qual:Str) (st:Stmt) (f:Addr) (fd:FuncData):Prop where
 ex:∃ (oc:Value) (od:Option Addr) (dV kV doc pm:Value) (an:Option Addr) (cdv ct:Value) (osl:Array (Option Value)),
  fd = PySem.W.fnOf x qual (Ap st) (Am st) (A8 st) dV kV doc pm an cdv ct /\ K.lookup f = some ⟨oc,od,.func fd,osl⟩ /\ PySem.W.codeIn K cdv qual = true
section
variable {P:Program} {w:World} {K:PySem.W.Frag} {mg:Str -> Option Value} {base:Heap}
theorem Zb.ok {x qual : Str} {st : Stmt} {f : Addr} {fd : FuncData} {N ps : List Str} {k : Nat} {sp : Sp} (F : Zb K x qual st f fd) (S : As N ps (A8 st)) (len : ∀ vs H Q E, sp vs H Q E -> vs.length = ps.length)
  (hbody:∀ (cdv:Value) (A:Around) (outer:List Env) (s:Shared) (H:Hp) (vs:List V) (Q:VK) (E:XK),De k (A.deeper (envOfC qual (A8 st) s.heap.objs.size f cdv)) -> sp vs H Q E ->
   ∃ t,R8 (Sj Bp P w K mg base N qual (A8 st) f cdv A outer s H E).nox (Am st) t /\ t { nx:=fun _ H'=>Q .non H',rt:=Q } (start N vs) H):Aj P w K mg base Bp (k + 1) f fd ps sp:=by
 obtain ⟨oc,od,dV,kV,doc,pm,an,cdv,ct,osl,rfl,lk,hcd⟩ := F.ex
 refine ag lk hcd S len fun A outer s H vs Q E hr hsp=>?_
 obtain ⟨t,h,q⟩ := hbody cdv A outer s H vs Q E hr hsp
 exact ⟨t,h.nox,q⟩
end
section
variable {X:Cx} {a b c:Expr} {rest:List Expr} {ta tb:TE} {tA tB':TT} {t u:TS} {pos:Pos}
noncomputable def iw (ta tb:TE):TE:=fun σ H Q=>ta σ H fun x H1=>∃ c d:Bool,x = .bl c /\ (c = true -> ∀ Q':VK,Q' (.bl d) H1 -> tb σ H1 Q') /\ Q (.bl (c && d)) H1
theorem Uk (ha:PE X a ta) (hb:PE X (.BoolOp .And (b :: rest) pos) tb):PE X (.BoolOp .And (a :: b :: rest) pos) (iw ta tb):=by
 intro pins s σ H Q I h
 refine BoolOp_and (C7 (ha pins s σ H _ I h) fun v s1 hz0=>?_)
 obtain ⟨x,H1,I1,r1,q1⟩ := hz0
 obtain ⟨c,d,rfl,q0,q1⟩ := q1
 cases r1
 refine wpAny_truthy_bool ?_
 cases c with
 | true=>exact hb pins s1 σ H1 Q I1 (q0 rfl Q q1)
 | false=>exact ⟨.bl false,H1,I1,rfl,q1⟩
noncomputable def gw (t u:TT):TT:=fun σ H Q=>t σ H fun c H1=>∃ d:Bool,(c = true -> ∀ Q':Bool -> Hp -> Prop,Q' d H1 -> u σ H1 Q') /\ Q (c && d) H1
noncomputable def n9 (t u:TT):TT:=fun σ H Q=>t σ H fun c H1=>∃ d:Bool,(c = false -> ∀ Q':Bool -> Hp -> Prop,Q' d H1 -> u σ H1 Q') /\ Q (c || d) H1
theorem Ka (ha:PT X a tA) (hb:PW X (.BoolOp .And (b :: rest) pos) tB'):PW X (.BoolOp .And (a :: b :: rest) pos) (gw tA tB'):=by
 intro wh pins s σ H Q I h
 refine isTrue_and (C7 (ha pins s σ H _ I h) fun c s1 hz0=>?_)
 obtain ⟨H1,I1,d,q0,q1⟩ := hz0
 cases c with
 | true=>exact hb wh pins s1 σ H1 Q I1 (q0 rfl Q q1)
 | false=>exact ⟨H1,I1,q1⟩
theorem d4 (ha:PT X a tA) (hb:PW X (.BoolOp .Or (b :: rest) pos) tB'):PW X (.BoolOp .Or (a :: b :: rest) pos) (n9 tA tB'):=by
 intro wh pins s σ H Q I h
 refine isTrue_or (C7 (ha pins s σ H _ I h) fun c s1 hz0=>?_)
 obtain ⟨H1,I1,d,q0,q1⟩ := hz0
 cases c with
 | true=>exact ⟨H1,I1,q1⟩
 | false=>exact hb wh pins s1 σ H1 Q I1 (q0 rfl Q q1)
theorem SP.mono {pins:List (Addr × Obj)} {D D':Ju} {f:Flow} {s':Shared} (h:SP X pins D f s') (hn:∀ σ H,D.nx σ H -> D'.nx σ H) (hr:∀ v H,D.rt v H -> D'.rt v H) (hb:∀ σ H,D.bk σ H -> D'.bk σ H) (hc:∀ σ H,D.ct σ H -> D'.ct σ H):SP X pins D' f s':=by
 cases f with
 | next=>obtain ⟨σ',H',I,q⟩ := h; exact ⟨σ',H',I,hn _ _ q⟩
 | brk=>obtain ⟨σ',H',I,q⟩ := h; exact ⟨σ',H',I,hb _ _ q⟩
 | cont=>obtain ⟨σ',H',I,q⟩ := h; exact ⟨σ',H',I,hc _ _ q⟩
 | ret v=>obtain ⟨x,σ',H',I,r,q⟩ := h; exact ⟨x,σ',H',I,r,hr _ _ q⟩
noncomputable def mj (c:TT) (t u:TS):TS:=fun D σ H=>c σ H fun b H1=>∃ N:St -> Hp -> Prop,(b = true -> t { D with nx:=N } σ H1) /\ (b = false -> u { D with nx:=N } σ H1) /\ ∀ σ' H',N σ' H' -> D.nx σ' H'
theorem Dp {c:Expr} {a b:List Stmt} {tc:TT} (hc:PT X c tc) (ha:R8 X a t) (hb:R8 X b u):PS X (.If c a b pos) (mj tc t u):=by
 intro pins s σ H D I h
 refine wpAny_If (C7 (hc pins s σ H _ I h) fun d s1 hz0=>?_)
 obtain ⟨H1,I1,N,q1,q2,q3⟩ := hz0
 cases d with
 | true=>exact C7 (ha pins s1 σ H1 _ I1 (q1 rfl)) fun f s2 q=>q.mono q3 (fun _ _ z=>z) (fun _ _ z=>z) fun _ _ z=>z
 | false=>exact C7 (hb pins s1 σ H1 _ I1 (q2 rfl)) fun f s2 q=>q.mono q3 (fun _ _ z=>z) (fun _ _ z=>z) fun _ _ z=>z
end
section
variable {P:Program} {w:World} {A:Around} {E:Value -> Shared -> Prop} {s:Shared}
theorem Ta {I T : Addr} {k : Nat} {vs : Array Value} {v : Value} {Q : Value -> Shared -> Prop} (hI : s.heap.IsTupleIter I T k) (hT : s.heap.IsTuple T vs) (hv : vs[k]? = some v)
  (q:∀ h',h'.IsTupleIter I T (k + 1) -> Heap.SameBut I s.heap h' -> Q v { s with heap:=h' }):wpAny (model P w) A (Builtin.SmallTypes.nextOf (.ref I)) Q E s:=by
 obtain ⟨oI,eI,cI,dI⟩ := id hI
 obtain ⟨oT,eT,_,nT,dT'⟩ := hT
 unfold Builtin.SmallTypes.nextOf
 refine wpAny_bind (wpAny_callSpecial?_slot (name:=Str.ofString "__next__") hI.typeIs F.slot_tuple_iterator_next (wpAny_call_entry F.slot_tuple_iterator_next hI.typeIs F.entry_tuple_iterator_next ?_ (F.args_tuple_iterator_next_1 _)))
 show wpAny _ _ (field (.ref I) 0 >>= _) _ _ s
 refine wpAny_bind (wpAny_field eI dI (x := .ref T) rfl ?_)
 show wpAny _ _ (if (Value.ref T == Value.none) = true then _ else _) _ _ s
 rw [if_neg (show ¬ ((Value.ref T == Value.none) = true) from Bool.false_ne_true)]
 show wpAny _ _ (field (.ref I) 1 >>= _) _ _ s
 refine wpAny_bind (wpAny_field eI dI (x := .int k 0) rfl ?_)
 show wpAny _ _ (seqItems? (.ref T) >>= _) _ _ s
 refine wpAny_bind (wpAny_seqItems eT dT' ?_)
 simp only [Int.toNat_natCast,hv]
 refine wpAny_bind (wpAny_setField eI dI (by simp) (wpAny_pure ⟨v,rfl,wpAny_pure (q _ ⟨_,Heap.get?_update_self _ eI (Obj.isFreed_of_fields (Obj.data_mapFields dI _)),(Obj.cls_mapFields ..).trans cI,?_⟩ (Heap.SameBut.update ..))⟩))
 rw [Obj.data_mapFields dI]
 simp [rawInt]
theorem Vl {I T : Addr} {k : Nat} {vs : Array Value} {Q : Value -> Shared -> Prop} (no : A.handled = none) (hI : s.heap.IsTupleIter I T k) (hT : s.heap.IsTuple T vs) (hv : vs[k]? = none)
  (q:∀ h' e,Heap.ExtBut I s.heap h' -> (∃ o,h'.get? e = some o /\ o.cls = .type "StopIteration") -> E (.ref e) { s with heap:=h' }):wpAny (model P w) A (Builtin.SmallTypes.nextOf (.ref I)) Q E s:=by
 obtain ⟨oI,eI,cI,dI⟩ := id hI
 obtain ⟨oT,eT,_,nT,dT'⟩ := hT
 unfold Builtin.SmallTypes.nextOf
 refine wpAny_bind (wpAny_callSpecial?_slot (name:=Str.ofString "__next__") hI.typeIs F.slot_tuple_iterator_next (wpAny_call_entry F.slot_tuple_iterator_next hI.typeIs F.entry_tuple_iterator_next ?_ (F.args_tuple_iterator_next_1 _)))
 show wpAny _ _ (field (.ref I) 0 >>= _) _ _ s
 refine wpAny_bind (wpAny_field eI dI (x := .ref T) rfl ?_)
 show wpAny _ _ (if (Value.ref T == Value.none) = true then _ else _) _ _ s
 rw [if_neg (show ¬ ((Value.ref T == Value.none) = true) from Bool.false_ne_true)]
 show wpAny _ _ (field (.ref I) 1 >>= _) _ _ s
 refine wpAny_bind (wpAny_field eI dI (x := .int k 0) rfl ?_)
 show wpAny _ _ (seqItems? (.ref T) >>= _) _ _ s
 refine wpAny_bind (wpAny_seqItems eT dT' ?_)
 simp only [Int.toNat_natCast,hv]
 refine wpAny_bind (wpAny_rule (wpAny_bind (wpAny_setField eI dI (by simp) ?_)))
 show wpAny _ _ (newExc (.type "StopIteration") [] >>= fun _=>_) _ _ _
 refine wpAny_bind ?_
 simp only [newExc,newTuple]
 refine wpAny_bind (wpAny_newObj_type (wpAny_bind (m:=firstArgMember _ _) (wpAny_of_eq (a:=Value.none) (by first | rfl | (simp only [firstArgMember]; rfl)) (wpAny_newObj_type ?_ (by size_fits)))) (by size_fits))
 simp only [raiseNew]
 refine wpAny_bind (wpAny_handled ?_)
 first | rw [show A.in1.handled = none from no] | rw [no]
 refine wpAny_bind (wpAny_pure (wpAny_throw (q _ _ (((Heap.SameBut.update ..).extBut.push _).push _) ⟨_,Heap.get?_push_size _ rfl,rfl⟩)))
end
theorem gk {P:Program} {w:World} {A:Around} (no:A.handled = none) (I T:Addr) (ne:T ≠ I) (vs:Array Value):Draws P w A I [I,T] vs.size (fun i v=>vs[i]? = some v) (fun i h=>h.IsTupleIter I T i /\ h.IsTuple T vs) where
 live:=fun _ _ st=>let ⟨o,e,_⟩ := st.1; ⟨o,e⟩
 frame:=fun _ _ _ st k=>⟨st.1.at fun o e=>k I (by simp) o e,let ⟨o,e,r⟩ := st.2; ⟨o,k T (by simp) o e,r⟩⟩
 item:=fun i s Q E hi st q=>Ta st.1 st.2 (v:=vs[i]) (by simp [hi]) fun h' st' sb=>q _ h' s.toks (by simp [hi]) ⟨st',st.2.extBut sb.extBut ne⟩ sb
 done:=fun s Q E st q=>Vl no st.1 st.2 (by simp) q
noncomputable def Id:Bool -> Heap -> Addr -> Addr -> Nat -> Prop
 | true,h,I,T,i=>h.IsTupleIter I T i
 | false,h,I,T,i=>h.IsListIter I T i
noncomputable def Yd:Bool -> Heap -> Addr -> Array Value -> Prop
 | true,h,T,vs=>h.IsTuple T vs
 | false,h,T,vs=>h.IsList T vs
noncomputable def Z6:Bool -> String
 | true=>"tuple_iterator"
 | false=>"list_iterator"
noncomputable def Sq:Bool -> PySem.W.Frag -> Hp -> Addr -> List V -> Prop
 | true,K,H,a,xs=>Bx K H a xs
 | false,K,H,a,xs=>Bo K H a xs
theorem Qs {P:Program} {w:World} {A:Around} (no:A.handled = none) (b:Bool) (I T:Addr) (ne:T ≠ I) (vs:Array Value):Draws P w A I [I,T] vs.size (fun i v=>vs[i]? = some v) (fun i h=>Id b h I T i /\ Yd b h T vs):=by
 cases b
 ·exact Draws.list no I T ne vs
 ·exact gk no I T ne vs
theorem Id.data {b:Bool} {h:Heap} {I T:Addr} {i:Nat} (x:Id b h I T i):∃ o,h.get? I = some o /\ o.cls = .type (Z6 b) /\ o.data = .fields #[.ref T,.int i 0]:=by cases b <;> exact x
theorem Id.of {b:Bool} {h:Heap} {I T:Addr} {i:Nat} (x:∃ o,h.get? I = some o /\ o.cls = .type (Z6 b) /\ o.data = .fields #[.ref T,.int i 0]):Id b h I T i:=by cases b <;> exact x
theorem Id.at' {b:Bool} {h h':Heap} {I T:Addr} {i:Nat} (x:Id b h I T i) (k:∀ o,h.get? I = some o -> h'.get? I = some o):Id b h' I T i:=by
 obtain ⟨o,e,r⟩ := x.data
 exact .of ⟨o,k _ e,r⟩
theorem Yd.lt {b:Bool} {h:Heap} {T:Addr} {vs:Array Value} (x:Yd b h T vs):T < h.objs.size:=by
 cases b <;> exact let ⟨_,e,_⟩ := x; Heap.lt_size e
theorem Id.lt {b:Bool} {h:Heap} {I T:Addr} {i:Nat} (x:Id b h I T i):I < h.objs.size:=by
 obtain ⟨_,e,_⟩ := x.data
 exact Heap.lt_size e
theorem Id.ne {b c:Bool} {h:Heap} {I T:Addr} {i:Nat} {vs:Array Value} (x:Id b h I T i) (y:Yd c h T vs):T ≠ I:=by
 rintro rfl
 obtain ⟨o,e,k,_⟩ := x.data
 cases c <;> (obtain ⟨o',e',k',_⟩ := y; rw [e] at e'; cases e'; rw [k] at k'; cases b <;> simp [Z6] at k')
section
variable {X:Cx} {pins:List (Addr × Obj)} {σ:St} {H:Hp} {s:Shared}
theorem Ai.sq {b:Bool} {a:Addr} {xs:List V} (I:Ai X pins σ H s) (q:Sq b X.K H a xs):∃ us,B6 xs us /\ Yd b s.heap a us.toArray:=by
 cases b
 ·obtain ⟨us,r,p,_⟩ := I.list q
  exact ⟨us,r,p.isList⟩
 ·obtain ⟨us,r,p,_⟩ := I.tuple q
  exact ⟨us,r,p⟩
theorem Ai.sq_inj {b:Bool} {a:Addr} {xs ys:List V} (I:Ai X pins σ H s) (q:Sq b X.K H a xs) (r:Sq b X.K H a ys):xs = ys:=by
 cases b
 ·exact I.list_inj q r
 ·exact I.tuple_inj q r
end
open AutoSeq1 (wpAny_loadPart')
section
variable {P:Program} {w:World} {A:Around} {E:Value -> Shared -> Prop} {s:Shared}
noncomputable abbrev kn (b1:Bool) (h:Heap) (l1:Addr):Heap:=h.push { cls := .type (Z6 b1),data := .fields #[.ref l1,.int 0 0] }
end
open AutoSeq1 (wpAny_loadPart')
section
variable {P:Program} {w:World} {A:Around} {E:Value -> Shared -> Prop} {s:Shared}
end
section
variable {X:Cx}
end
noncomputable def gf (K:PySem.W.Frag) (b:Bool) (l:Addr):It :=
 ⟨fun i H=>∃ xs x,Sq b K H l xs /\ xs[i]? = some x,
  fun i H v H'=>∃ T x,v = .ref T /\ H T = none /\ H' = upd H T (.tup [.int i,x]) /\ ∀ xs,Sq b K H l xs -> xs[i]? = some x,
  fun i H=>∃ xs,Sq b K H l xs /\ xs.length = i⟩
theorem S5 {P : Program} {w : World} {K : PySem.W.Frag} {elts : List Expr} {kk : Nat} {pos : Pos} {b : Bool} {e it l : Addr} (hne : e ≠ it) (hel : e ≠ l) :
  Ss P w K (.Tuple elts kk pos) (gf K b l) [e,it] e (fun i h=>(∃ old,IsEnum h e it i old) /\ Id b h it l i) where
 mem:=List.mem_cons_self
 obj:=fun i h ⟨⟨old,he⟩,h1⟩ c hc=>by
  obtain ⟨o1,e1,c1,d1⟩ := h1.data
  simp only [List.mem_cons,List.not_mem_nil,or_false] at hc
  rcases hc with rfl | rfl
  ·exact ⟨_,he,fun v q=>by cases q⟩
  ·exact ⟨_,e1,fun v q=>by rw [d1] at q; cases q⟩
 keep:=fun i h h' ⟨⟨old,he⟩,h1⟩ hk=>⟨⟨old,hk e (by simp) _ he⟩,h1.at' fun o q=>hk it (by simp) o q⟩
 item:=by
  intro X hP hw hK hc i pins s σ H E I hfp ⟨⟨old,he⟩,h1⟩ ⟨xs,x,q1,ex⟩
  subst hP hw hK
  obtain ⟨its1,r1,p1⟩ := I.sq q1
  obtain ⟨u1,eu1,ru1⟩ := r1.get ex
  have lt1:i < its1.toArray.size:=by
   have:=(List.getElem?_eq_some_iff.mp eu1).1
   simpa using this
  refine wpAny_pyNext_enum_itemD (Qs (A:=X.A.in1) (I.ok.hd hc) b it l (h1.ne p1) its1.toArray) he ⟨h1,p1⟩ lt1 hne (by simp [hne,hel]) fun u h' tk eu a1 a2 a3 a4 hk=>⟨_,rfl,?_⟩
  have e2:u = u1:=Option.some.inj (eu.symm.trans (by simpa using eu1))
  subst e2
  refine wpAny_letOwnedTupleGo_enum a1 fun h'' hz'' hs''=>?_
  have hzlt:e < s.heap.objs.size:=Heap.lt_size he
  have hTp:h''.get? s.heap.objs.size = some { cls := .type "tuple",data := .seq #[.int i tk,u] }:=hs''.extBut _ _ (Nat.ne_of_gt hzlt) a3
  refine ⟨.ref s.heap.objs.size,upd H s.heap.objs.size (.tup [.int i,x]),I.turnLaid (t':=tk + 1) (ch:=[e,it]) hfp (fun c o hc ec=>?_) (Nat.le_refl _) ?_,rfl,⟨_,x,rfl,I.fresh,rfl,fun xs' q=>?_⟩,⟨⟨u,?_⟩,?_⟩,fun c hc=>?_⟩
  ·simp only [List.mem_cons,List.not_mem_nil,or_false,not_or] at hc
   exact hs''.extBut _ _ hc.1 (hk c o hc.1 hc.2 ec)
  ·exact ⟨⟨Nat.le_trans (by decide:2 <= 1000) (K7 (Nat.le_refl _)),_,hTp,rfl⟩,[.int i tk,u],.cons ⟨_,rfl⟩ (.cons ru1 .nil),⟨_,hTp,rfl,0,rfl⟩⟩
  ·rw [I.sq_inj q q1]
   exact ex
  ·have z:=hz''
   rw [show ((i:Int) + 1) = ((i + 1:Nat):Int) by omega] at z
   exact z
  ·exact a2.1.at' fun o eo=>hs''.extBut _ _ (Ne.symm hne) eo
  ·rw [Ac]
   ·exact (hfp c hc).1
   ·simp only [List.mem_cons,List.not_mem_nil,or_false] at hc
    rcases hc with rfl | rfl
    ·exact Nat.ne_of_lt hzlt
    ·exact Nat.ne_of_lt h1.lt
 done:=by
  intro X hP hw hK hc i pins s σ H E I hfp ⟨⟨old,he⟩,h1⟩ ⟨xs,q1,hl⟩
  subst hP hw hK
  obtain ⟨its1,r1,p1⟩ := I.sq q1
  have n1:=r1.length
  have n2:i = its1.toArray.size:=by simp only [List.size_toArray]; omega
  subst n2
  refine wpAny_pyNext_enum_endD (Qs (A:=X.A.in1) (I.ok.hd hc) b it l (h1.ne p1) its1.toArray) he ⟨h1,p1⟩ fun h' hk=>⟨rfl,I.turnMany (t':=s.toks) (ch:=[e,it]) hfp fun c o hc ec=>?_⟩
  simp only [List.mem_cons,List.not_mem_nil,or_false,not_or] at hc
  exact hk c o hc.2 ec
 self:=fun A i s Q E ⟨⟨old,he⟩,_⟩ hQ=>wpAny_pyIter_enum he hQ
theorem Qv (l : Addr) (items : Array Value) (n : Nat) (dct : Option Addr) (sl : Array (Option Value)) :
  Meets (Builtin.«enumerate.__new__» ⟨[.type "enumerate",.ref l],[]⟩) (fun _ R s=>s.heap.get? l = some { cls := .type "tuple",dict:=dct,data := .seq items n,slots:=sl } /\
   R (.ok (.ret (.ref (kn true s.heap l).objs.size))) { s with heap:=(kn true s.heap l).push { cls := .type "enumerate",data := .fields #[.none,.bool false,.ref s.heap.objs.size,rawInt 0,.none,.none] } }) :=
 .of_wp fun prog w A R s h=>by
  obtain ⟨hp,g,d,tk,os⟩ := s
  obtain ⟨hl,h⟩ := h
  have hsub:=sub_enumerate
  have hT:Heap.IsTuple (Shared.heap ⟨hp,g,d,tk,os⟩) l items:=⟨_,hl,rfl,n,rfl⟩
  wp_walk using wpAny_loadPart' hl
  refine wpAny_stack_any fun st=>wpAny_pure ?_
  split
  ·rename_i c _ _ _ _ _
   cases (c == Value.type "enumerate")
   ·wp_walk using wpAny_loadPart' hl,wpAny_pyIter_tuple hT
    exact ⟨_,rfl,h⟩
   ·wp_walk using wpAny_loadPart' hl,wpAny_pyIter_tuple hT
    exact ⟨_,rfl,h⟩
  ·wp_walk using wpAny_loadPart' hl,wpAny_pyIter_tuple hT
   exact ⟨_,rfl,h⟩
theorem Su {P : Program} {w : World} {A : Around} {E : Value -> Shared -> Prop} {s : Shared} {l : Addr} {items : Array Value} {Q : Value -> Shared -> Prop} (hT : s.heap.IsTuple l items)
  (h:∀ h',IsEnum h' (s.heap.objs.size + 1) s.heap.objs.size 0 .none -> h'.IsTupleIter s.heap.objs.size l 0 -> (∀ b o,s.heap.get? b = some o -> h'.get? b = some o) -> Q (.ref (s.heap.objs.size + 1)) { s with heap:=h' }) :
  wpAny (model P w) A (call (.type "enumerate") [.ref l]) Q E s:=by
 obtain ⟨⟨c,dct,dt,sl⟩,hl,hc,n,hd⟩ := hT
 have hc':c = .type "tuple" := hc
 have hd':dt = .seq items n:=hd
 subst hc' hd'
 refine callType_new F.called_enumerate (by decide) (F.typeCall_enumerate_1 _) (F.newCall_enumerate_1 _) (fun obj=>F.args_object_init_2 obj _) F.entry_enumerate_new (Qv l items n dct sl) ⟨hl,?_⟩
 have hz:(kn true s.heap l).objs.size = s.heap.objs.size + 1:=Heap.size_push ..
 show _ /\ _
 rw [hz]
 have he:=Heap.get?_push_size (kn true s.heap l) (o:={ cls := .type "enumerate",data := .fields #[.none,.bool false,.ref s.heap.objs.size,rawInt 0,.none,.none] }) rfl
 rw [hz] at he
 exact ⟨⟨_,he,rfl⟩,h _ he ⟨_,Heap.get?_push_of_some _ (Heap.get?_push_size _ rfl),rfl,rfl⟩ fun b o x=>Heap.get?_push_of_some _ (Heap.get?_push_of_some _ x)⟩
section
variable {X:Cx}
noncomputable def bo (K:PySem.W.Frag) (ta:TA):TI:=fun σ H R=>ta σ H fun vs H1=>∃ (b:Bool) (a:Addr),vs = [.ref a] /\ (∃ xs,Sq b K H1 a xs) /\ R (gf K b a) H1
theorem Y7 {elts : List Expr} {kk : Nat} {tpos : Pos} {a : Expr} {ta : TA} {p pos : Pos} (hg : Gl X "enumerate") (hm : X.mg "enumerate" = none) (ha : PA X [a] ta) (hs : starEach [a] X.env = [(false, eval a X.env)] := by rfl) :
  PI X (.Tuple elts kk tpos) (.Call (.Name "enumerate" p) [a] [] pos) (bo X.K ta):=by
 intro pins s σ H R I h
 refine Call_ (Iq I hg hm boot_enumerate (PyProof.Rows.callWith_type1 (C7 (ha pos pins s σ H _ I h) fun us s1 ⟨vs,H1,I1,r1,q1⟩=>?_) hs rfl))
 obtain ⟨b,l1,e,⟨xs,hx⟩,q⟩ := q1
 subst e
 obtain ⟨u1,rfl,ru1⟩ := Jn r1
 cases ru1
 obtain ⟨its1,rr1,p1⟩ := I1.sq hx
 have lt1:=p1.lt
 have fin : ∀ h', IsEnum h' (s1.heap.objs.size + 1) s1.heap.objs.size 0 .none -> Id b h' s1.heap.objs.size l1 0 -> (∀ b o, s1.heap.get? b = some o -> h'.get? b = some o) ->
   wpAny (model X.prog X.w) X.A (pyIter (.ref (s1.heap.objs.size + 1))) (mv X pins σ (.Tuple elts kk tpos) R) X.xe { s1 with heap:=h' }:=fun h' a1 a2 hk=>by
  refine wpAny_pyIter_enum a1 ?_
  have I2:Ai X pins σ H1 { s1 with heap:=h' }:=I1.kept (t':=s1.toks) hk
  refine ⟨s1.heap.objs.size + 1,[s1.heap.objs.size + 1,s1.heap.objs.size],_,_,H1,rfl,I2,S5 (Nat.ne_of_gt (Nat.lt_succ_self _)) (Nat.ne_of_gt (Nat.lt_succ_of_lt lt1)),⟨⟨_,a1⟩,a2⟩,fun c hc=>?_,q⟩
  have hle:s1.heap.objs.size <= c:=by
   simp only [List.mem_cons,List.not_mem_nil,or_false] at hc
   rcases hc with rfl | rfl <;> omega
  exact I1.fpOk hle (I1.hok.fresh hle)
 cases b with
 | false=>exact call_enumerate_list p1 fun h' a1 a2 a3 hk=>fin h' a1 a2 hk
 | true=>exact Su p1 fun h' a1 a2 hk=>fin h' a1 a2 hk
end
noncomputable abbrev kc (K:PySem.W.Frag):TG:=ba K 2 (Wk (Ie 0) (Wk (Ie 1) i8))
theorem Ti {K : PySem.W.Frag} {b1 : Bool} {c : Addr} {xs : List V} {fr : List Nat} {tt : TT} {te : TE} {σ : St} {D : Addr} {H1 : Hp} {Q : Hp -> Prop} (Pv : Nat -> List V -> Hp -> Prop) (h0 : Pv 0 [] (upd H1 D (.lst [])))
  (hl:∀ i zs H,i <= xs.length -> Pv i zs H -> Sq b1 K H c xs)
  (hs:∀ i x T zs H,xs[i]? = some x -> Pv i zs H -> H T = none -> tt (some (.int i) :: some x :: Dh fr σ) (upd H T (.tup [.int i,x])) fun b H4 =>
   if b = true then te (some (.int i) :: some x :: Dh fr σ) H4 fun v H5=>H5 D = some (.lst zs) /\ zs.length < sizeLine /\ Pv (i + 1) (zs ++ [v]) (upd H5 D (.lst (zs ++ [v]))) else Pv (i + 1) zs H4)
  (mt:∀ σ H Q Q',(∀ b H',Q b H' -> Q' b H') -> tt σ H Q -> tt σ H Q') (me:∀ σ H Q Q',(∀ v H',Q v H' -> Q' v H') -> te σ H Q -> te σ H Q')
  (hd:∀ zs H,Pv xs.length zs H -> Q H):E3 2 fr (gf K b1 c) (kc K) tt te σ D H1 Q:=by
 refine ⟨fun i m zs H=>m = xs.length - i /\ i <= xs.length /\ Pv i zs H,⟨xs.length,by simp,Nat.zero_le _,h0⟩,?_⟩
 rintro i m zs H' ⟨rfl,hi,p⟩
 have q1:=hl i zs H' hi p
 by_cases hlt:i < xs.length
 ·refine .inr ⟨⟨xs,xs[i],q1,by simp [hlt]⟩,fun v H2 y=>?_⟩
  obtain ⟨T,x,rfl,hT,rfl,e1⟩ := y
  refine ⟨T,_,rfl,Bx.of A5,rfl,_,_,rfl,x,_,rfl,rfl,⟨[some (.int i),some x],rfl,rfl⟩,?_⟩
  refine mt _ _ _ _ ?_ (hs i x T zs H' (e1 xs q1) p hT)
  intro b H4 q
  cases b with
  | false=>exact ⟨xs.length - (i + 1),by omega,rfl,hlt,q⟩
  | true=>exact me _ _ _ _ (fun v H5 ⟨r1,r2,r3⟩=>⟨r1,r2,xs.length - (i + 1),by omega,rfl,hlt,r3⟩) q
 ·have e:i = xs.length:=by omega
  subst e
  exact .inl ⟨⟨xs,q1,rfl⟩,hd zs H' p⟩
section
variable {X:Cx} {a b:Expr} {rest:List Expr} {ta tb:TE} {tA tB':TT} {pos:Pos}
noncomputable def jj (ta tb:TE):TE:=fun σ H Q=>ta σ H fun x H1=>∃ (c:Bool) (N:Bool -> Hp -> Prop),x = .bl c /\ (c = false -> N false H1) /\ (c = true -> tb σ H1 fun y H2=>∃ d:Bool,y = .bl d /\ N d H2) /\ ∀ d H2,N d H2 -> Q (.bl d) H2
theorem U3 (ha:PE X a ta) (hb:PE X (.BoolOp .And (b :: rest) pos) tb):PE X (.BoolOp .And (a :: b :: rest) pos) (jj ta tb):=by
 intro pins s σ H Q I h
 refine BoolOp_and (C7 (ha pins s σ H _ I h) fun v s1 hz0=>?_)
 obtain ⟨x,H1,I1,r1,q1⟩ := hz0
 obtain ⟨c,N,rfl,q0,q1,q2⟩ := q1
 cases r1
 refine wpAny_truthy_bool ?_
 cases c with
 | true=>exact C7 (hb pins s1 σ H1 _ I1 (q1 rfl)) fun v s2 ⟨y,H2,I2,r2,d,e,n⟩=>⟨y,H2,I2,r2,by rw [e]; exact q2 d H2 n⟩
 | false=>exact ⟨.bl false,H1,I1,rfl,q2 _ _ (q0 rfl)⟩
noncomputable def gr (t u:TT):TT:=fun σ H Q=>t σ H fun c H1=>∃ N:Bool -> Hp -> Prop,(c = false -> N false H1) /\ (c = true -> u σ H1 N) /\ ∀ d H2,N d H2 -> Q d H2
noncomputable def l6 (t u:TT):TT:=fun σ H Q=>t σ H fun c H1=>∃ N:Bool -> Hp -> Prop,(c = true -> N true H1) /\ (c = false -> u σ H1 N) /\ ∀ d H2,N d H2 -> Q d H2
theorem Yw (ha:PT X a tA) (hb:PW X (.BoolOp .And (b :: rest) pos) tB'):PW X (.BoolOp .And (a :: b :: rest) pos) (gr tA tB'):=by
 intro wh pins s σ H Q I h
 refine isTrue_and (C7 (ha pins s σ H _ I h) fun c s1 hz0=>?_)
 obtain ⟨H1,I1,N,q0,q1,q2⟩ := hz0
 cases c with
 | true=>exact C7 (hb wh pins s1 σ H1 _ I1 (q1 rfl)) fun d s2 ⟨H2,I2,n⟩=>⟨H2,I2,q2 d H2 n⟩
 | false=>exact ⟨H1,I1,q2 _ _ (q0 rfl)⟩
theorem cr (ha:PT X a tA) (hb:PW X (.BoolOp .Or (b :: rest) pos) tB'):PW X (.BoolOp .Or (a :: b :: rest) pos) (l6 tA tB'):=by
 intro wh pins s σ H Q I h
 refine isTrue_or (C7 (ha pins s σ H _ I h) fun c s1 hz0=>?_)
 obtain ⟨H1,I1,N,q0,q1,q2⟩ := hz0
 cases c with
 | true=>exact ⟨H1,I1,q2 _ _ (q0 rfl)⟩
 | false=>exact C7 (hb wh pins s1 σ H1 _ I1 (q1 rfl)) fun d s2 ⟨H2,I2,n⟩=>⟨H2,I2,q2 d H2 n⟩
end
section
variable {P:Program} {w:World} {A:Around} {E:Value -> Shared -> Prop} {s:Shared}
end
section
variable {X:Cx}
end
section
variable {X:Cx}
end
section
variable {X:Cx} {tg:Expr}
end
section
variable {X:Cx} {pins:List (Addr × Obj)} {σ:St} {H:Hp} {s:Shared}
end
section
variable {P:Program} {w:World} {K:PySem.W.Frag} {mg:Str -> Option Value} {base:Heap} {N:List Str} {qual:Str} {scope:Scope} {f:Addr} {cd:Value} {A:Around} {outer:List Env} {s₀:Shared} {H₀:Hp} {E:XK}
end
section
variable {X:Cx} {x:Str} {C:Addr} {p np cpos pos:Pos} {e:Expr} {es:List Expr} {t:TA} {E:XK}
variable {k:Nat} {f:Addr} {fd:FuncData} {ps:List Str} {sp:Sp} {dvs:List V} {ds:List Value} {R:St -> XK -> Prop}
end
section
variable {P:Program} {w:World} {K:PySem.W.Frag} {mg:Str -> Option Value} {base:Heap} {x qual:Str} {st:Stmt} {f:Addr} {fd:FuncData} {N ps:List Str} {k:Nat} {sp:Sp}
end
open PySem.W (Looks)
section
variable {X:Cx} {pins:List (Addr × Obj)} {σ:St} {H:Hp} {s:Shared} {C:Addr}
end
section
variable {X:Cx} {pins:List (Addr × Obj)} {σ:St} {H:Hp} {s:Shared}
end
section
variable {X:Cx}
end
section
variable {prog:Program} {w:World} {A:Around} {R:Result -> Shared -> Prop} {I S:Addr} {fp wr:List Addr} {n:Nat} {P:Nat -> Value -> Prop} {St:Nat -> Heap -> Prop} {val:Nat -> Int}
end
section
variable {prog:Program} {w:World} {A:Around} {E:Value -> Shared -> Prop} {s:Shared} {l:Addr}
theorem Nl {id : String} {b : Builtin} {args : Args} {Q : Value -> Shared -> Prop} (hk : builtinKind id = none) (hp : plainId id = true) (hb : entryFor table id = some b) (ha : argsOk id args)
  (hc:wpAny (model prog w) A.in1 (b args) (fun fin s'=>match fin with
   | .done f=>(match (Except.ok f:Result) with | .ok (.ret v)=>Q v s' | .ok _=>False | .error e=>E e s')
   | .again c'=>c'.quiet = true /\ codeAny (model prog w) A c' (fun r s'=>match r with | .ok (.ret v)=>Q v s' | .ok _=>False | .error e=>E e s') s') E s) :
  wpAny (model prog w) A (call (.builtin id) args.pos args.kw) Q E s:=by
 refine wpAny_call (codeAny_call_builtin hp hb ?_)
 simp only [checkBuiltinCall,hk]
 cases hs:Manifest.signature? id with
 | none=>exact wpAny_pure hc
 | some sg =>
  have h2:Bind.checkArgs id sg args = pure ():=by simpa only [argsOk,hs] using ha
  have h3:(⟨args.pos,args.kw⟩ : Args) = args:=rfl
  simp only [h3,h2]
  exact wpAny_pure hc
end
section
variable {X:Cx} {p pos kpos:Pos} {e d:Expr} {t:TA} {td:TE} {x:Str}
end
open PySem PySem.Spec PyProof.Rows PySem.SeqAt
noncomputable def cc (A:Around) (s:Shared) (x y:Value) (b:Bool):Prop := ∀ (prog:Program) (w:World) (E:Value -> Shared -> Prop) (Q:Value -> Shared -> Prop),Q (.bool b) s -> wpAny (model prog w) A (richCompare .Lt x y) Q E s
theorem cx (l b : Addr) (xs ys : Array Value) (n n2 : Nat) (dd dd2 : Option Addr) (sl sl2 : Array (Option Value)) (e : Nat -> Bool) (r : Bool) :
  Meets (Builtin.«tuple.__lt__» ⟨[.ref l,.ref b],[]⟩)
   (fun A R s=>s.heap.get? l = some { cls := .type "tuple",dict:=dd,data := .seq xs n,slots:=sl } /\ s.heap.get? b = some { cls := .type "tuple",dict:=dd2,data := .seq ys n2,slots:=sl2 } /\
    (∀ j (h1:j < xs.size) (h2:j < ys.size),EqAt A.in1 s xs[j] ys[j] (e j)) /\ (∀ j (h1:j < xs.size) (h2:j < ys.size),(∀ i,i < j -> e i = true) -> e j = false -> cc A.in1 s xs[j] ys[j] r) /\
    ((∀ j,j < min xs.size ys.size -> e j = true) -> r = decide (xs.size < ys.size)) /\ R (.ok (.ret (.bool r))) s) :=
 .of_wp fun prog w A R s h=>by
  obtain ⟨hp,g,d,tk,os⟩ := s
  obtain ⟨hl,hb,he,hf,hz,h⟩ := h
  have f2:=AutoSeq1.sub_tuple_tuple
  have hZ:(xs.toList.zip ys.toList).length = min xs.size ys.size:=by simp
  wp_walk using wpAny_loadPart' hl,wpAny_loadPart' hb,wpAny_forIn_list _ (fun rest b s'=>b.1 = none /\ s' = ⟨hp,g,d,tk,os⟩ /\ ∃ i,rest = (xs.toList.zip ys.toList).drop i /\ ∀ k,k < i -> k < min xs.size ys.size -> e k = true) _
  case turn =>
   rintro ⟨y,x⟩ rest b s' ⟨hb',rfl,i,hq,hR⟩
   have hlt:i < (xs.toList.zip ys.toList).length:=by
    apply Classical.byContradiction
    intro z
    rw [List.drop_of_length_le (by omega)] at hq
    cases hq
   have h1:i < xs.size:=by omega
   have h2:i < ys.size:=by omega
   rw [List.drop_eq_getElem_cons hlt] at hq
   injection hq with hyx hrest
   have hy:y = xs[i]:=by simpa using congrArg Prod.fst hyx
   have hx:x = ys[i]:=by simpa using congrArg Prod.snd hyx
   subst hy hx
   refine wpAny_bind (he i h1 h2 prog w _ _ ?_)
   cases hy:e i with
   | true =>
    wp_walk
    refine ⟨rfl,rfl,i + 1,hrest,fun k hk hk2=>?_⟩
    by_cases z:k = i
    ·rw [z]
     exact hy
    ·exact hR k (by omega) hk2
   | false =>
    have hl2:=hf i h1 h2 (fun k hk=>hR k hk (by omega)) hy prog w
    wp_walk using hl2 _ _
    exact ⟨_,rfl,h⟩
  case fin =>
   rintro ⟨b1,b2⟩ s' ⟨hb',rfl,i,hq,hR⟩
   simp only at hb'
   subst hb'
   have hge:min xs.size ys.size <= i:=by
    apply Classical.byContradiction
    intro z
    rw [List.drop_eq_getElem_cons (by omega)] at hq
    cases hq
   have hr:=hz fun j hj=>hR j (by omega) hj
   wp_walk
   refine ⟨_,rfl,?_⟩
   rw [hr] at h
   simpa [Builtin.Tuple.tupleCompareSizes] using h
  case h =>
   exact ⟨rfl,rfl,0,rfl,fun k hk=>absurd hk (Nat.not_lt_zero k)⟩
mutual
noncomputable def Io:PyData -> PyData -> Bool
 | .int a,.int b=>decide (a < b)
 | .tuple xs,.tuple ys=>ltvAll xs ys
 | _,_=>false
noncomputable def ltvAll:List PyData -> List PyData -> Bool
 | [],[]=>false
 | [],_ :: _=>true
 | _ :: _,[]=>false
 | x :: xs,y :: ys=>if PyData.eqv x y then ltvAll xs ys else Io x y
end
mutual
noncomputable def Hg:PyData -> PyData -> Prop
 | .int _,.int _=>True
 | .tuple xs,.tuple ys=>CmpbAll xs ys
 | _,_=>False
noncomputable def CmpbAll:List PyData -> List PyData -> Prop
 | x :: xs,y :: ys=>Hg x y /\ CmpbAll xs ys
 | _,_=>True
end
theorem O7:∀ (xs ys:List PyData),(∀ j,j < min xs.length ys.length -> pairEq xs ys j = true) -> ltvAll xs ys = decide (xs.length < ys.length)
 | [],[],_=>rfl
 | [],y :: ys,_=>by simp [ltvAll]
 | x :: xs,[],_=>by simp [ltvAll]
 | x :: xs,y :: ys,h=>by
  have h0:PyData.eqv x y = true:=h 0 (by simp only [List.length_cons]; omega)
  have ih:=O7 xs ys fun j hj=>h (j + 1) (by simp only [List.length_cons]; omega)
  rw [ltvAll,if_pos h0,ih]
  simp
mutual
theorem Hn : ∀ (da db : PyData) (A : Around) (s : Shared) (a b : Value) (as bs : List Addr), Reads s.heap a da as -> Reads s.heap b db bs -> da.canLay0 = true -> db.canLay0 = true -> Hg da db ->
  A.units + min da.depth db.depth < cLine -> cc A s a b (Io da db)
 | .int x,db,A,s,_,_,_,_,ra,rb,_,_,hc,hu=>by
  cases db with
  | int y =>
   cases ra with
   | int _ t =>
    cases rb with
    | int _ u =>
     intro prog w E Q h
     exact richCompare_gives (op := .Lt) (typeIs_int s _ t) (typeIs_int s _ u) F.slot_int_lt F.entry_int_lt (F.args_int_lt_2 _ _) (gives_int_lt _ _ t u) (fun z=>nomatch z) h
  | none=>exact hc.elim
  | bool _=>exact hc.elim
  | str _=>exact hc.elim
  | list _=>exact hc.elim
  | tuple _=>exact hc.elim
  | dict _=>exact hc.elim
 | .tuple xs,db,A,s,_,_,_,_,ra,rb,ha,hb,hc,hu=>by
  cases db with
  | tuple ys =>
   cases ra with
   | @tuple l o vs n _ as₁ h1 h2 h3 h4 =>
    cases rb with
    | @tuple l' o' vs' n' _ bs₁ k1 k2 k3 k4 =>
     obtain ⟨oc,od,odt,osl⟩ := o
     obtain ⟨oc',od',odt',osl'⟩ := o'
     simp only at h2 h3 k2 k3
     subst h2 h3 k2 k3
     have n1:vs.size = xs.length:=by simpa using ReadsAll.length _ _ _ h4
     have n2:vs'.size = ys.length:=by simpa using ReadsAll.length _ _ _ k4
     intro prog w E Q h
     refine richCompare_meets_room (op := .Lt) ⟨_,h1,rfl⟩ ⟨_,k1,rfl⟩ F.slot_tuple_lt F.entry_tuple_lt (F.args_tuple_lt_2 _ _) (cx l l' vs vs' n n' od od' osl osl' (pairEq xs ys) (ltvAll xs ys)) ⟨h1,k1,fun j j1 j2=>?_,fun j j1 j2 f1 f2=>?_,fun f=>?_,(fun z=>nomatch z),h⟩ (room_here hu)
     ·have:=eqAt_readsAll xs ys A.in1 s vs.toList vs'.toList _ _ h4 k4 ha hb (room_in hu) j (by simpa using j1) (by simpa using j2)
      simpa using this
     ·have:=lt_readsAll xs ys A.in1 s vs.toList vs'.toList _ _ h4 k4 ha hb hc (room_in hu) j (by simpa using j1) (by simpa using j2) f1 f2
      simpa using this
     ·rw [n1,n2] at f ⊢
      exact O7 xs ys f
  | none=>exact hc.elim
  | bool _=>exact hc.elim
  | str _=>exact hc.elim
  | list _=>exact hc.elim
  | int _=>exact hc.elim
  | dict _=>exact hc.elim
 | .none,_,_,_,_,_,_,_,_,_,_,_,hc,_=>hc.elim
 | .bool _,_,_,_,_,_,_,_,_,_,_,_,hc,_=>hc.elim
 | .str _,_,_,_,_,_,_,_,_,_,_,_,hc,_=>hc.elim
 | .list _,_,_,_,_,_,_,_,_,_,_,_,hc,_=>hc.elim
 | .dict _,_,_,_,_,_,_,_,_,_,_,_,hc,_=>hc.elim
theorem lt_readsAll : ∀ (xs ys : List PyData) (A : Around) (s : Shared) (vs ws : List Value) (as bs : List Addr), ReadsAll s.heap vs xs as -> ReadsAll s.heap ws ys bs -> PyData.canLayAll0 xs = true -> PyData.canLayAll0 ys = true -> CmpbAll xs ys ->
  A.units + min (PyData.depthAll xs) (PyData.depthAll ys) < cLine -> ∀ j (h1:j < vs.length) (h2:j < ws.length),(∀ i,i < j -> pairEq xs ys i = true) -> pairEq xs ys j = false -> cc A s vs[j] ws[j] (ltvAll xs ys)
 | [],_,_,_,_,_,_,_,ra,_,_,_,_,_,j,h1,_,_,_=>by cases ra; exact absurd h1 (Nat.not_lt_zero _)
 | _ :: _,[],_,_,_,_,_,_,_,rb,_,_,_,_,j,_,h2,_,_=>by cases rb; exact absurd h2 (Nat.not_lt_zero _)
 | x :: xs,y :: ys,A,s,_,_,_,_,ra,rb,ca,cb,hc,hu,j,h1,h2,f1,f2=>by
  cases ra with
  | cons r1 r2 =>
   cases rb with
   | cons q1 q2 =>
    have ca1:x.canLay0 = true /\ PyData.canLayAll0 xs = true:=by simpa [PyData.canLayAll0] using ca
    have cb1:y.canLay0 = true /\ PyData.canLayAll0 ys = true:=by simpa [PyData.canLayAll0] using cb
    have hd:A.units + min x.depth y.depth < cLine /\ A.units + min (PyData.depthAll xs) (PyData.depthAll ys) < cLine:=by
     simp only [PyData.depthAll] at hu
     omega
    cases j with
    | zero =>
     have e:ltvAll (x :: xs) (y :: ys) = Io x y:=by
      have f3:PyData.eqv x y = false:=f2
      rw [ltvAll,f3]
      rfl
     rw [e]
     exact Hn x y A s _ _ _ _ r1 q1 ca1.1 cb1.1 hc.1 hd.1
    | succ j =>
     have e:ltvAll (x :: xs) (y :: ys) = ltvAll xs ys:=by
      have f3:PyData.eqv x y = true:=f1 0 (Nat.succ_pos _)
      rw [ltvAll,f3]
      rfl
     rw [e]
     exact lt_readsAll xs ys A s _ _ _ _ r2 q2 ca1.2 cb1.2 hc.2 hd.2 j (Nat.lt_of_succ_lt_succ h1) (Nat.lt_of_succ_lt_succ h2) (fun i hi=>f1 (i + 1) (Nat.succ_lt_succ hi)) f2
end
section
variable {X:Cx} {k:Nat}
noncomputable def ll:R2:=fun x y H Q=>∃ d e:PyData,Rp H d x /\ Rp H e y /\ Hg d e /\ d.depth <= 60 /\ Q (.bl (Io d e)) H
theorem gi (hr:De k X.A):Ji X (compareOp .Lt) ll:=by
 intro pins s σ H x y v u Q I rx ry h
 obtain ⟨d,e,h1,h2,hc,hd,q⟩ := h
 obtain ⟨as,q1⟩ := Cw I d x v h1 rx
 obtain ⟨bs,q2⟩ := Cw I e y u h2 ry
 have hu:=hr.units
 exact Hn d e X.A s v u as bs q1 q2 (Cl d x h1) (Cl e y h2) hc (by omega) _ _ _ _ ⟨.bl (Io d e),H,I,rfl,q⟩
end
section
variable {X:Cx}
noncomputable def k9 (K:PySem.W.Frag):R2:=fun x y H Q=>∃ a b xs ys,x = .ref a /\ y = .ref b /\ Bx K H a xs /\ H b = some (.tup ys) /\ ys ≠ [] /\ xs.length + ys.length <= sizeLine /\
 ∀ p H',A9 H H' -> H' p = some (.tup (xs ++ ys)) -> Q (.ref p) H'
theorem Yp (K:PySem.W.Frag) (hK:X.K = K:=by rfl):Ji X (binaryOp .Add) (k9 K):=by
 subst hK
 intro pins s σ H x y v u Q I rx ry h
 obtain ⟨a,b,xs,ys,rfl,rfl,ha,hb,hy,hz,q⟩ := h
 by_cases hx:xs = []
 ·subst hx
  cases rx
  cases ry
  obtain ⟨its,r1,p1,_⟩ := I.tuple ha
  obtain ⟨its2,r2,p2,_⟩ := I.tuple (Bx.of hb)
  cases r1
  obtain ⟨⟨c1,d1,t1,l1⟩,ho,hc,n,hd⟩ := p1
  obtain ⟨⟨c2,d2,t2,l2⟩,ho2,hc2,n2,hd2⟩ := p2
  simp only at hc hd hc2 hd2
  subst hc hd hc2 hd2
  exact concat_meets ⟨_,ho,rfl⟩ ⟨_,ho2,rfl⟩ noFill_tuple_add seq_tuple_add PySem.F.slot_tuple_add PySem.F.entry_tuple_add (PySem.F.args_tuple_add_2 _ _) (tuple_addW0 a b _ _ n n2 d1 d2 l1 l2 rfl) ⟨ho,ho2,.ref b,H,I,rfl,q b H (A9.refl H) hb⟩
 ·exact Z8 pins s σ H _ _ v u Q I rx ry ⟨a,b,xs,ys,rfl,rfl,ha,Bx.of hb,hx,hz,fun e=>absurd e hy,fun _ p hp=>q p _ (A9.upd hp) A5⟩
end
section
variable {prog:Program} {w:World} {A:Around} {E:Value -> Shared -> Prop} {s:Shared}
end
section
variable {prog:Program} {w:World} {A:Around} {E:Value -> Shared -> Prop} {s:Shared}
end
section
variable {X:Cx} {tg:Expr}
end
section
variable {P:Program} {w:World} {A:Around} {E:Value -> Shared -> Prop} {s:Shared}
end
section
variable {X:Cx}
end
section
variable {X:Cx}
end
section
variable {prog:Program} {w:World} {A:Around} {E:Value -> Shared -> Prop} {I:Addr} {fp wr:List Addr} {St:Nat -> Heap -> Prop} {items:Array Value}
end
section
variable {X:Cx} {pos:Pos}
end
open PySem.W (Looks)
section
variable {prog:Program} {w:World} {A:Around} {E:Value -> Shared -> Prop} {K:PySem.W.Frag} {x C:Addr} {h:Heap} {g:Array GenState} {d:Drawn} {t:Nat} {os:OsState}
end
section
variable {X:Cx}
end
open PySem.W (Looks)
section
variable {X:Cx}
end
section
variable {X:Cx}
end
theorem Rb {K : PySem.W.Frag} {a : Addr} {xs : List V} {fr : List Nat} {tt : TT} {te : TE} {σ : St} {D : Addr} {H1 : Hp} {Q : Hp -> Prop} (Pv : Nat -> List V -> Hp -> Prop) (h0 : Pv 0 [] (upd H1 D (.lst [])))
  (hl:∀ i ys H,i <= xs.length -> Pv i ys H -> Bo K H a xs)
  (hs:∀ i x ys H,xs[i]? = some x -> Pv i ys H -> tt (some x :: Dh fr σ) H fun b H4 =>
   if b = true then te (some x :: Dh fr σ) H4 fun v H5=>H5 D = some (.lst ys) /\ ys.length < sizeLine /\ Pv (i + 1) (ys ++ [v]) (upd H5 D (.lst (ys ++ [v]))) else Pv (i + 1) ys H4)
  (mt:∀ σ H Q Q',(∀ b H',Q b H' -> Q' b H') -> tt σ H Q -> tt σ H Q') (me:∀ σ H Q Q',(∀ v H',Q v H' -> Q' v H') -> te σ H Q -> te σ H Q')
  (hd:∀ ys H,Pv xs.length ys H -> Q H):E3 1 fr (bp K a) (Ie 0) tt te σ D H1 Q:=by
 refine ⟨fun i m ys H=>m = xs.length - i /\ i <= xs.length /\ Pv i ys H,⟨xs.length,by simp,Nat.zero_le _,h0⟩,?_⟩
 rintro i m ys H' ⟨rfl,hi,p⟩
 have q1:=hl i ys H' hi p
 by_cases hlt:i < xs.length
 ·refine .inr ⟨⟨xs,xs[i],q1,by simp [hlt]⟩,fun x H2 y=>?_⟩
  obtain ⟨e,y⟩ := y
  subst e
  refine ⟨⟨[some x],rfl,rfl⟩,?_⟩
  refine mt _ _ _ _ ?_ (hs i x ys _ (y xs q1) p)
  intro b H4 q
  cases b with
  | false=>exact ⟨xs.length - (i + 1),by omega,rfl,hlt,q⟩
  | true=>exact me _ _ _ _ (fun v H5 ⟨r1,r2,r3⟩=>⟨r1,r2,xs.length - (i + 1),by omega,rfl,hlt,r3⟩) q
 ·have e:i = xs.length:=by omega
  subst e
  exact .inl ⟨⟨xs,q1,Nat.le_refl _⟩,hd ys H' p⟩
section
variable {prog:Program} {w:World} {A:Around} {E:Value -> Shared -> Prop} {s:Shared} {l:Addr} {xs:Array (Int × Tok)}
end
section
variable {X:Cx}
end
section
variable {X:Cx}
end
section
variable {X:Cx} {C:Addr} {x:Str} {p pos:Pos}
end
section
variable {K:PySem.W.Frag} {x C:Addr}
theorem Np:∀ (as:List Addr) (us:List Value),B6 (as.map V.ref) us -> us = as.map Value.ref
 | [],us,r=>by
  cases r
  rfl
 | a :: as,us,r=>by
  cases r with
  | cons h t =>
   cases (show _ = Value.ref a from h)
   rw [Np as _ t]
   rfl
end
section
variable {X:Cx}
end
section
variable {X:Cx}
end
section
variable {X:Cx}
end
section
variable {X:Cx} {tg:Expr}
end
section
variable {κ:Type} [DecidableEq κ]
noncomputable def Ae (kvs:List (κ × V)) (k:κ):Option V:=(kvs.find? fun kv=>decide (kv.1 = k)).map (·.2)
noncomputable def Bb (kvs:List (κ × V)) (k:κ) (v:V):List (κ × V) :=
 if (kvs.any fun kv=>decide (kv.1 = k)) = true then kvs.map (fun kv=>if kv.1 = k then (kv.1,v) else kv) else kvs ++ [(k,v)]
noncomputable def Bv (kvs:List (κ × V)) (k:κ):List (κ × V):=kvs.filter fun kv=>decide (kv.1 ≠ k)
theorem C4 {p:κ × V} {r:List (κ × V)} {k:κ} (e:p.1 = k):Ae (p :: r) k = some p.2:=by simp [Ae,List.find?_cons,e]
theorem C6 {p:κ × V} {r:List (κ × V)} {k:κ} (e:¬ p.1 = k):Ae (p :: r) k = Ae r k:=by simp [Ae,List.find?_cons,e]
theorem Dv (k:κ):∀ kvs:List (κ × V),(kvs.any fun kv=>decide (kv.1 = k)) = (Ae kvs k).isSome
 | []=>rfl
 | p :: r=>by
  rw [List.any_cons]
  by_cases e:p.1 = k
  ·simp only [C4 e,decide_eq_true e,Bool.true_or,Option.isSome_some]
  ·rw [C6 e,decide_eq_false e,Bool.false_or]; exact Dv k r
theorem Qu (k j:κ) (y:V):∀ kvs:List (κ × V),Ae (kvs.map fun kv=>if kv.1 = k then (kv.1,y) else kv) j = (Ae kvs j).map fun x=>if j = k then y else x
 | []=>rfl
 | p :: r=>by
  have ih:=Qu k j y r
  rw [List.map_cons]
  by_cases h:p.1 = k
  ·rw [if_pos h]
   by_cases e:p.1 = j
   ·rw [C4 (p:=(p.1,y)) e,C4 e,Option.map_some,if_pos (e.symm.trans h)]
   ·rw [C6 (p:=(p.1,y)) e,C6 e,ih]
  ·rw [if_neg h]
   by_cases e:p.1 = j
   ·rw [C4 (p:=p) e,C4 e,Option.map_some,if_neg (fun z=>h (e.trans z))]
   ·rw [C6 (p:=p) e,C6 e,ih]
theorem O1 (k j:κ) (y:V):∀ kvs:List (κ × V),Ae kvs k = none -> Ae (kvs ++ [(k,y)]) j = if j = k then some y else Ae kvs j
 | [],_=>by
  by_cases e:k = j
  ·rw [if_pos e.symm]; exact C4 (p:=(k,y)) e
  ·rw [if_neg (fun z=>e z.symm)]; exact C6 (p:=(k,y)) e
 | p :: r,hn=>by
  rw [List.cons_append]
  have hk:¬ p.1 = k:=fun z=>by rw [C4 z] at hn; cases hn
  rw [C6 hk] at hn
  have ih:=O1 k j y r hn
  by_cases e:p.1 = j
  ·rw [C4 e,C4 e,if_neg (fun z=>hk (e.trans z))]
  ·rw [C6 e,C6 e,ih]
theorem F5 (kvs:List (κ × V)) (k j:κ) (y:V):Ae (Bb kvs k y) j = if j = k then some y else Ae kvs j:=by
 unfold Bb
 by_cases a:(kvs.any fun kv=>decide (kv.1 = k)) = true
 ·rw [if_pos a,Qu]
  rw [Dv] at a
  by_cases e:j = k
  ·obtain ⟨x,hx⟩ := Option.isSome_iff_exists.mp a
   rw [if_pos e,e,hx,Option.map_some,if_pos rfl]
  ·rw [if_neg e]
   cases Ae kvs j with
   | none=>rfl
   | some x=>rw [Option.map_some,if_neg e]
 ·rw [if_neg a]
  refine O1 k j y kvs ?_
  rw [Dv] at a
  cases q:Ae kvs k with
  | none=>rfl
  | some x=>rw [q] at a; exact (a rfl).elim
theorem Dw (kvs:List (κ × V)) (k:κ) (v:V):(Bb kvs k v).length <= kvs.length + 1:=by
 unfold Bb
 split
 ·rw [List.length_map]; omega
 ·rw [List.length_append,List.length_cons,List.length_nil]; omega
theorem C5 {kvs:List (κ × V)} {k:κ} (v:V) (h:Ae kvs k = none):Bb kvs k v = kvs ++ [(k,v)]:=by
 unfold Bb
 rw [Dv,h]
 exact if_neg (by decide)
theorem Hl.isSome_eq {o:Option V} {u:Option Value} (r:Hl o u):o.isSome = u.isSome:=by
 cases o with
 | none=>cases u with
  | none=>rfl
  | some _=>exact (show False from r).elim
 | some _=>cases u with
  | none=>exact (show False from r).elim
  | some _=>rfl
theorem Hl.getD {o:Option V} {u:Option Value} {d:V} {d':Value} (r:Hl o u) (rd:Ax d d'):Ax (o.getD d) (u.getD d'):=by
 cases o with
 | none=>cases u with
  | none=>exact rd
  | some _=>exact (show False from r).elim
 | some _=>cases u with
  | none=>exact (show False from r).elim
  | some _=>exact r
theorem KV.val {kvs:List (κ × V)} {vs:List (κ × Value)} (r:KV kvs vs) (k:κ):Hl (Ae kvs k) (valueAt vs k):=by
 unfold KV at r
 induction r with
 | nil=>exact True.intro
 | @cons p q ps qs h t ih =>
  obtain ⟨h1,h2⟩ := h
  by_cases e:p.1 = k
  ·have e':q.1 = k:=h1.symm.trans e
   have b:valueAt (q :: qs) k = some q.2:=by simp [valueAt,List.find?_cons,e']
   rw [C4 e,b]; exact h2
  ·have e':¬ q.1 = k:=fun z=>e (h1.trans z)
   have b:valueAt (q :: qs) k = valueAt qs k:=by simp [valueAt,List.find?_cons,e']
   rw [C6 e,b]; exact ih
theorem KV.any {kvs:List (κ × V)} {vs:List (κ × Value)} (r:KV kvs vs) (k:κ):(kvs.any fun kv=>decide (kv.1 = k)) = vs.any fun kv=>decide (kv.1 = k):=by
 unfold KV at r
 induction r with
 | nil=>rfl
 | cons h t ih=>rw [List.any_cons,List.any_cons,ih,h.1]
theorem KV.repl {kvs : List (κ × V)} {vs : List (κ × Value)} (r : KV kvs vs) (k : κ) {y : V} {u : Value} (ry : Ax y u) :
  KV (kvs.map fun kv=>if kv.1 = k then (kv.1,y) else kv) (vs.map fun kv=>if kv.1 = k then (kv.1,u) else kv):=by
 unfold KV at r ⊢
 induction r with
 | nil=>exact .nil
 | @cons p q ps qs h t ih =>
  rw [List.map_cons,List.map_cons]
  refine .cons ?_ ih
  obtain ⟨h1,h2⟩ := h
  by_cases e:p.1 = k
  ·rw [if_pos e,if_pos (h1.symm.trans e)]; exact ⟨h1,ry⟩
  ·rw [if_neg e,if_neg (fun z=>e (h1.trans z))]; exact ⟨h1,h2⟩
theorem KV.put {kvs:List (κ × V)} {vs:List (κ × Value)} (r:KV kvs vs) (k:κ) {y:V} {u:Value} (ry:Ax y u):KV (Bb kvs k y) (stored vs k u):=by
 unfold Bb stored
 rw [r.any k]
 by_cases e:(vs.any fun kv=>decide (kv.1 = k)) = true
 ·rw [if_pos e,if_pos e]; exact r.repl k ry
 ·rw [if_neg e,if_neg e]; exact Paired.snoc r ⟨rfl,ry⟩
theorem KV.drop {kvs:List (κ × V)} {vs:List (κ × Value)} (r:KV kvs vs) (k:κ):KV (Bv kvs k) (without vs k):=by
 unfold KV at r ⊢
 unfold Bv without
 induction r with
 | nil=>exact .nil
 | @cons p q ps qs h t ih =>
  obtain ⟨h1,h2⟩ := h
  rw [List.filter_cons,List.filter_cons]
  by_cases e:p.1 = k
  ·have a:¬ decide (p.1 ≠ k) = true:=by simp [e]
   have b:¬ decide (q.1 ≠ k) = true:=by simp [h1.symm.trans e]
   rw [if_neg a,if_neg b]; exact ih
  ·have e':¬ q.1 = k:=fun z=>e (h1.trans z)
   have a:decide (p.1 ≠ k) = true:=by simp [e]
   have b:decide (q.1 ≠ k) = true:=by simp [e']
   rw [if_pos a,if_pos b]; exact .cons ⟨h1,h2⟩ ih
theorem KV.length {kvs:List (κ × V)} {vs:List (κ × Value)} (r:KV kvs vs):kvs.length = vs.length:=Paired.length r
theorem Pq (kvs:List (κ × V)) (k:κ):(Bv kvs k).length <= kvs.length:=List.length_filter_le _ _
end
theorem Le {P:Program} {w:World} {k:E4} {u:Value} (r:Ax (kV k) u):(D7 P w).is k u = true:=by
 cases k with
 | inl i=>obtain ⟨t,e⟩ := (show ∃ t,u = Value.int i t from r); subst e; exact Q8 P w i t
 | inr x=>obtain ⟨t,e⟩ := (show ∃ t,u = Value.str x t from r); subst e; exact Q3 P w x t
noncomputable abbrev KT (H:Hp):List ((List Int × Int) × V) -> List ((List Int × Int) × Addr × Value) -> Prop:=Paired fun p q=>p.1 = q.1 /\ E2 H q.2.1 p.1 /\ Ax p.2 q.2.2
theorem KT.val {H:Hp} {kvs:List ((List Int × Int) × V)} {xs:List ((List Int × Int) × Addr × Value)} (r:KT H kvs xs) (k:(List Int × Int)):Hl (Ae kvs k) ((atKey xs k).map (·.2)):=by
 induction r with
 | nil=>exact True.intro
 | @cons p q ps qs h t ih =>
  obtain ⟨h1,_,h2⟩ := h
  by_cases e:p.1 = k
  ·have e':q.1 = k:=h1.symm.trans e
   have b:atKey (q :: qs) k = some q.2:=by simp [atKey,List.find?_cons,e']
   rw [C4 e,b]; exact h2
  ·have e':¬ q.1 = k:=fun z=>e (h1.trans z)
   have b:atKey (q :: qs) k = atKey qs k:=by simp [atKey,List.find?_cons,e']
   rw [C6 e,b]; exact ih
theorem KT.repl {H : Hp} {kvs : List ((List Int × Int) × V)} {xs : List ((List Int × Int) × Addr × Value)} (r : KT H kvs xs) (k : (List Int × Int)) {y : V} {u : Value} (ry : Ax y u) :
  KT H (kvs.map fun kv=>if kv.1 = k then (kv.1,y) else kv) (xs.map (putAt k u)):=by
 induction r with
 | nil=>exact .nil
 | @cons p q ps qs h t ih =>
  rw [List.map_cons,List.map_cons]
  refine .cons ?_ ih
  obtain ⟨h1,h2,h3⟩ := h
  unfold putAt
  by_cases e:p.1 = k
  ·rw [if_pos e,if_pos (h1.symm.trans e)]; exact ⟨h1,h2,ry⟩
  ·rw [if_neg e,if_neg (fun z=>e (h1.trans z))]; exact ⟨h1,h2,h3⟩
theorem KT.put {H : Hp} {kvs : List ((List Int × Int) × V)} {xs : List ((List Int × Int) × Addr × Value)} (r : KT H kvs xs) (k : (List Int × Int)) {b : Addr} {y : V} {u : Value} (hb : E2 H b k) (ry : Ax y u) :
  KT H (Bb kvs k y) (storedH xs k b u):=by
 have e:(kvs.any fun kv=>decide (kv.1 = k)) = (atKey xs k).isSome:=by
  rw [Dv,(r.val k).isSome_eq,Option.isSome_map]
 unfold Bb storedH
 rw [e]
 by_cases q:(atKey xs k).isSome = true
 ·rw [if_pos q,if_pos q]; exact r.repl k ry
 ·rw [if_neg q,if_neg q]; exact Paired.snoc r ⟨rfl,hb,ry⟩
theorem KT.keeps {H H':Hp} {kvs:List ((List Int × Int) × V)} {xs:List ((List Int × Int) × Addr × Value)} (r:KT H kvs xs) (ht:∀ b ys,H b = some (.tup ys) -> H' b = some (.tup ys)):KT H' kvs xs :=
 Paired.mapP r fun _ _ z=>⟨z.1,z.2.1.up ht,z.2.2⟩
section
variable {P:Program} {w:World} {H:Hp} {h:Heap} {a:Addr}
theorem ah {u:HO} (ok:Hj P w H h) (e:Rd H a u):Br P w H h a u:=e.ok ok
theorem Hv {kvs:List (E4 × V)} (ok:Hj P w H h) (e:Rd H a (.dK kvs)):kvs.length <= sizeLine /\ (a == sysModules) = false /\ ∃ vs,KV kvs vs /\ h.DictOf (D7 P w) a vs :=
 show Br P w H h a (.dK kvs) from ah ok e
theorem av {kvs:List (E4 × V)} (ok:Hj P w H h) (e:H a = some (.dK kvs)):kvs.length <= sizeLine /\ (a == sysModules) = false /\ ∃ vs,KV kvs vs /\ h.DictOf (D7 P w) a vs:=Hv ok (.inl e)
theorem Qc {P:Program} {w:World}:∀ {ks:List Int} {us:List Value},B6 (ks.map V.int) us -> ItemsAre (intKind P w) ks us
 | [],us,r=>by
  cases r
  exact .nil
 | k :: ks,us,r=>by
  cases r with
  | cons h t =>
   obtain ⟨tk,rfl⟩ := h
   exact .cons (by simp [intKind,Value.isInt]) (Qc t)
theorem D8 {P:Program} {w:World} {A:Around} (hu:A.units + 20 < cLine):(C9 P w).room A.in1:=by
 first | (show A.units + 1 + 8 < cLine; omega) | (show A.units + 8 < cLine; omega)
theorem Fi {ks:List Int × Int} (ok:Hj P w H h) (e:E2 H a ks):(C9 P w).is h ks a:=by
 obtain ⟨u,e1,e2⟩ := e
 obtain ⟨_,its,r,o,h1,h2,n,h3⟩ := (show Br P w H h a (.tup [.ref u,.int ks.2]) from ok a _ e1)
 obtain ⟨_,its2,r2,o2,g1,g2,m,g3⟩ := (show Br P w H h u (.tup (ks.1.map V.int)) from ok u _ e2)
 cases r with
 | cons r1 rr =>
  cases rr with
  | cons r3 rr =>
   cases rr
   cases (show _ = Value.ref u from r1)
   obtain ⟨t,rfl⟩ := r3
   exact ⟨o,n,u,t,h1,h2,h3,o2,its2.toArray,m,g1,g2,g3,by simpa using Qc r2⟩
theorem Jr {kvs : List ((List Int × Int) × V)} (ok : Hj P w H h) (e : Rd H a (.dT kvs)) : kvs.length <= sizeLine /\ (a == sysModules) = false /\
  ∃ xs,KT H kvs xs /\ h.DictOfH (C9 P w) a xs:=by
 obtain ⟨z,y,xs,r,o,es,ep,h1,h2,h3,h4,h5⟩ := (show Br P w H h a (.dT kvs) from ah ok e)
 refine ⟨z,y,xs,r,o,es,ep,h1,h2,h3,h4,fun x hx=>?_,h5⟩
 have all:∀ {l:List ((List Int × Int) × V)} {m:List ((List Int × Int) × Addr × Value)},KT H l m -> ∀ x ∈ m,(C9 P w).is h x.1 x.2.1:=by
  intro l m q
  induction q with
  | nil=>intro x hx; exact nomatch hx
  | @cons p q ps qs hq t ih =>
   intro x hx
   rcases List.mem_cons.mp hx with e | hx
   ·subst e
    exact Fi ok (by rw [<- hq.1]; exact hq.2.1)
   ·exact ih x hx
 exact all r x hx
theorem U9 {kvs : List ((List Int × Int) × V)} (ok : Hj P w H h) (e : H a = some (.dT kvs)) : kvs.length <= sizeLine /\ (a == sysModules) = false /\
  ∃ xs,KT H kvs xs /\ h.DictOfH (C9 P w) a xs:=Jr ok (.inl e)
end
noncomputable def D1 (H:Hp) (a:Addr) (y:V) (r:Option V):Prop :=
 (∃ kvs k,Rd H a (.dK kvs) /\ y = kV k /\ r = Ae kvs k) \/ ∃ kvs k b,Rd H a (.dT kvs) /\ y = .ref b /\ E2 H b k /\ r = Ae kvs k
noncomputable def Mq (H:Hp) (a:Addr) (y v:V) (H':Hp):Prop :=
 (∃ kvs k,H a = some (.dK kvs) /\ y = kV k /\ kvs.length < sizeLine /\ H' = upd H a (.dK (Bb kvs k v))) \/
 ∃ kvs k b,H a = some (.dT kvs) /\ y = .ref b /\ E2 H b k /\ kvs.length < sizeLine /\ H' = upd H a (.dT (Bb kvs k v))
theorem D1.k {H:Hp} {a:Addr} {kvs:List (E4 × V)} {k:E4} (e:H a = some (.dK kvs)):D1 H a (kV k) (Ae kvs k) := .inl ⟨kvs,k,.inl e,rfl,rfl⟩
theorem D1.t {H:Hp} {a b:Addr} {kvs:List ((List Int × Int) × V)} {k:(List Int × Int)} (e:H a = some (.dT kvs)) (eb:E2 H b k):D1 H a (.ref b) (Ae kvs k) := .inr ⟨kvs,k,b,.inl e,rfl,eb,rfl⟩
theorem Mq.t {H : Hp} {a b : Addr} {kvs : List ((List Int × Int) × V)} {k : (List Int × Int)} {v : V} (e : H a = some (.dT kvs)) (eb : E2 H b k) (hl : kvs.length < sizeLine) :
  Mq H a (.ref b) v (upd H a (.dT (Bb kvs k v))) := .inr ⟨kvs,k,b,e,rfl,eb,hl,rfl⟩
section
variable {X:Cx} {pins:List (Addr × Obj)} {σ:St} {H:Hp} {s:Shared} {a:Addr} {y v:V} {u r:Value} {o:Option V} {A:Around} {E:Value -> Shared -> Prop}
theorem Ai.big (I:Ai X pins σ H s):sysModules < s.heap.objs.size:=by
 have h:mainGlobals < s.heap.objs.size:=(I.mod.glob.keeps I.bk).lt
 exact Nat.lt_trans (by decide) h
theorem Vq {Q : Value -> Shared -> Prop} (hu : A.units + 20 < cLine) (I : Ai X pins σ H s) (g : D1 H a y (some v)) (ry : Ax y u) (h : ∀ w' s', Ai X pins σ H s' -> Ax v w' -> Q w' s') :
  wpAny (model X.prog X.w) A (getItem (.ref a) u) Q E s:=by
 rcases g with ⟨kvs,k,e,ey,l⟩ | ⟨kvs,k,b,e,ey,eb,l⟩
 ·subst ey
  obtain ⟨z,hd,vs,rel,dd⟩ := Hv I.hok e
  obtain ⟨w',hw,rw'⟩ := Hl.some_of (v:=v) (o:=valueAt vs k) (by rw [l]; exact rel.val k)
  exact wpAny_getItem_of (Le ry) dd.mapOf hw (h w' _ (I.tok _) rw')
 ·subst ey
  cases (show u = Value.ref b from ry)
  obtain ⟨z,hd,xs,rel,dd⟩ := Jr I.hok e
  obtain ⟨w',hw,rw'⟩ := Hl.some_of (v:=v) (o:=(atKey xs k).map (·.2)) (by rw [l]; exact rel.val k)
  obtain ⟨p,hp,hp2⟩ := Option.map_eq_some_iff.mp hw
  refine wpAny_getItem_heap (D8 hu) (Fi I.hok eb) dd hp ?_
  rw [hp2]
  exact h w' _ (I.tok _) rw'
theorem n8 {Q : Value -> Shared -> Prop} (hu : A.units + 20 < cLine) (I : Ai X pins σ H s) (g : D1 H a y o) (ry : Ax y u) (h : ∀ s', Ai X pins σ H s' -> Q (.bool o.isSome) s') :
  wpAny (model X.prog X.w) A (compareOp .In u (.ref a)) Q E s:=by
 rcases g with ⟨kvs,k,e,ey,l⟩ | ⟨kvs,k,b,e,ey,eb,l⟩
 ·subst ey
  obtain ⟨z,hd,vs,rel,dd⟩ := Hv I.hok e
  refine wpAny_in_of (Le ry) hd dd.mapOf ?_
  rw [<- (rel.val k).isSome_eq,<- l]
  exact h _ (I.tok _)
 ·subst ey
  cases (show u = Value.ref b from ry)
  obtain ⟨z,hd,xs,rel,dd⟩ := Jr I.hok e
  refine wpAny_in_heap (D8 hu) (Fi I.hok eb) hd dd ?_
  have q:=(rel.val k).isSome_eq
  rw [Option.isSome_map] at q
  rw [<- q,<- l]
  exact h _ (I.tok _)
theorem Zo {Q : Value -> Shared -> Prop} (hu : A.units + 20 < cLine) (I : Ai X pins σ H s) (g : D1 H a y o) (ry : Ax y u) (h : ∀ s', Ai X pins σ H s' -> Q (.bool (!o.isSome)) s') :
  wpAny (model X.prog X.w) A (compareOp .NotIn u (.ref a)) Q E s:=by
 rcases g with ⟨kvs,k,e,ey,l⟩ | ⟨kvs,k,b,e,ey,eb,l⟩
 ·subst ey
  obtain ⟨z,hd,vs,rel,dd⟩ := Hv I.hok e
  refine wpAny_notIn_of (Le ry) hd dd.mapOf ?_
  rw [<- (rel.val k).isSome_eq,<- l]
  exact h _ (I.tok _)
 ·subst ey
  cases (show u = Value.ref b from ry)
  obtain ⟨z,hd,xs,rel,dd⟩ := Jr I.hok e
  refine wpAny_notIn_heap (D8 hu) (Fi I.hok eb) hd dd ?_
  have q:=(rel.val k).isSome_eq
  rw [Option.isSome_map] at q
  rw [<- q,<- l]
  exact h _ (I.tok _)
theorem Ht {h' : Heap} {t' : Nat} {ob : HO} (I : Ai X pins σ H s) (mu : kf (H a)) (hs : Heap.SameBut a s.heap h') (he : ∃ q, h'.get? a = some q) (new : Br X.prog X.w (upd H a ob) h' a ob) :
  Ai X pins σ (upd H a ob) { s with heap:=h',toks:=t' } :=
 I.write (x:=a) (e:=a) mu (.inl rfl) (fun b q hb z=>(hs.2 b hb).trans z) he new
theorem Yk {P : Program} {w : World} {H' : Hp} {h' : Heap} {kvs : List (E4 × V)} {vs : List (E4 × Value)} (z : kvs.length <= sizeLine) (hd : (a == sysModules) = false) (rel : KV kvs vs) (dd : h'.DictOf (D7 P w) a vs) :
  Br P w H' h' a (.dK kvs):=⟨z,hd,vs,rel,dd⟩
theorem Uz {H' : Hp} {Q : Unit -> Shared -> Prop} (hu : A.units + 20 < cLine) (I : Ai X pins σ H s) (g : Mq H a y v H') (ry : Ax y u) (rv : Ax v r) (h : ∀ s', Ai X pins σ H' s' -> Q () s') :
  wpAny (model X.prog X.w) A (setItem (.ref a) u r) Q E s:=by
 rcases g with ⟨kvs,k,e,ey,l,eH⟩ | ⟨kvs,k,b,e,ey,eb,l,eH⟩
 ·subst ey eH
  obtain ⟨z,hd,vs,rel,dd⟩ := av I.hok e
  have hz:vs.length <= sizeLine:=by rw [<- rel.length]; exact z
  have hl:(Bb kvs k v).length <= sizeLine:=by have:=Dw kvs k v; omega
  refine wpAny_setItem_pairs (hsz:=hz) (Le ry) dd fun h' dd' hs=>h _ ?_
  have he:∃ q,h'.get? a = some q:=let ⟨q,_,_,hq,_⟩ := dd'; ⟨q,hq⟩
  exact Ht I (by rw [e]; exact True.intro) hs he (Yk hl hd (rel.put k rv) dd')
 ·subst ey eH
  cases (show u = Value.ref b from ry)
  obtain ⟨z,hd,xs,rel,dd⟩ := U9 I.hok e
  have hz:xs.length <= sizeLine:=by rw [<- Paired.length rel]; exact z
  have hl:(Bb kvs k v).length <= sizeLine:=by have:=Dw kvs k v; omega
  refine wpAny_setItem_heap (hsz:=hz) (D8 hu) (Fi I.hok eb) dd fun h' dd' hs=>h _ ?_
  obtain ⟨q,es,ep,hq,h2,h3,h4,_,h5⟩ := dd'
  refine Ht I (by rw [e]; exact True.intro) hs ⟨q,hq⟩ ⟨hl,hd,_,(rel.put k eb rv).keeps fun c ys ec=>?_,q,es,ep,hq,h2,h3,h4,h5⟩
  rw [Ac (Bl ec e (fun z=>nomatch z))]
  exact ec
end
section
variable {X:Cx} {pins:List (Addr × Obj)} {σ:St} {H:Hp} {s:Shared} {a:Addr} {kvs:List (E4 × V)} {k:E4} {u:Value} {A:Around} {E:Value -> Shared -> Prop}
theorem iy {v : V} {more : List Value} {Q : Value -> Shared -> Prop} (I : Ai X pins σ H s) (e : H a = some (.dK kvs)) (ry : Ax (kV k) u) (l : Ae kvs k = some v) (hm : more = [] \/ ∃ x, more = [x])
  (h:∀ w' s',Ai X pins σ (upd H a (.dK (Bv kvs k))) s' -> Ax v w' -> Q w' s'):wpAny (model X.prog X.w) A (call (.builtin "dict.pop") (.ref a :: u :: more)) Q E s:=by
 obtain ⟨z,hd,vs,rel,dd⟩ := av I.hok e
 obtain ⟨w',hw,rw'⟩ := Hl.some_of (v:=v) (o:=valueAt vs k) (by rw [<- l]; exact rel.val k)
 have hp:(keyPart u).isSome = true:=by
  cases k with
  | inl i=>obtain ⟨t,q⟩ := (show ∃ t,u = Value.int i t from ry); subst q; rfl
  | inr x=>obtain ⟨t,q⟩ := (show ∃ t,u = Value.str x t from ry); subst q; rfl
 have ha:argsOk "dict.pop" ⟨.ref a :: u :: more,[]⟩ := by
  rcases hm with q | ⟨x,q⟩
  ·subst q; exact PySem.F.args_dict_pop_2 _ _
  ·subst q; exact PySem.F.args_dict_pop_3 _ _ _
 refine call_meetsIn PySem.F.slot_dict_pop dd.typeIs PySem.F.entry_dict_pop ha (meets_dict_pop_there (D7 X.prog X.w) a (Le ry) more hm hp)
  ⟨vs,w',dd,by rw [<- rel.length]; exact z,hw,fun h' dd' hs=>h w' _ ?_ rw'⟩
 have he:∃ q,h'.get? a = some q:=let ⟨q,_,_,hq,_⟩ := dd'; ⟨q,hq⟩
 exact Ht I (by rw [e]; exact True.intro) hs he (Yk (Nat.le_trans (Pq kvs k) z) hd (rel.drop k) dd')
end
noncomputable def ip (i:Expr):Prop := ∀ ov iv,subscripted i false ov iv = operate [ov,iv] (getItem ov iv)
theorem a9 {prog : Program} {w : World} {A : Around} {E : Value -> Shared -> Prop} {s : Shared} {env : Env} {value slice : Expr} {pos : Pos} {T id : String} {Q : Value -> Shared -> Prop}
  (hl:typeLookup (.type T) "__getitem__" = pure (some (.builtin id))) (hs:ip slice)
  (h:wpAny (model prog w) A (eval value env) (fun o s₁=>wpAny (model prog w) A (eval slice env) (fun i s₂=>s₂.TypeIs o T /\ wpAny (model prog w) A (getItem o i) Q E s₂) E s₁) E s) :
  wpAny (model prog w) A (eval (.Subscript value slice pos) env) Q E s:=by
 refine Subscript_ (wpAny_mono h (fun o s₁ h₁=>wpAny_mono h₁ (fun i s₂ h₂=>?_) fun _ _ x=>x) fun _ _ x=>x)
 obtain ⟨hT,h₂⟩ := h₂
 unfold subscriptTail
 refine wpAny_bind ?_
 rw [getitemInPython_of_ne hT.not_modules]
 refine wpAny_bind (wpAny_specialOf hT hl ?_)
 have fin:wpAny (model prog w) A (subscripted slice false o i) (fun r s₃=>wpAny (model prog w) A (letTemporaryGo value o r >>= fun _=>pure r) Q E s₃) E s₂:=by
  rw [hs o i]
  exact wpAny_operating (wpAny_mono h₂ (fun r s₃ h₃=>wpAny_bind (wpAny_letTemporaryGo (wpAny_pure h₃))) fun _ _ x=>x)
 first
  | exact wpAny_pure (wpAny_bind fin)
  | exact wpAny_bind (wpAny_pure (wpAny_bind fin))
  | exact wpAny_bind fin
theorem Qh {X:Cx} {pins:List (Addr × Obj)} {σ:St} {H:Hp} {s:Shared} {a:Addr} {y:V} {o:Option V} (I:Ai X pins σ H s) (g:D1 H a y o):s.TypeIs (.ref a) "dict" := by
 rcases g with ⟨kvs,k,e,_,_⟩ | ⟨kvs,k,b,e,_,_,_⟩
 ·obtain ⟨_,_,vs,_,dd⟩ := Hv I.hok e
  exact dd.typeIs
 ·obtain ⟨_,_,xs,_,dd⟩ := Jr I.hok e
  exact dd.typeIs
noncomputable def kd (td ty:TE):TE:=fun σ H Q=>td σ H fun x H1=>ty σ H1 fun y H2=>∃ a v,x = .ref a /\ D1 H2 a y (some v) /\ Q v H2
noncomputable def lm (ty td:TE):TE:=fun σ H Q=>ty σ H fun y H1=>td σ H1 fun x H2=>∃ a o,x = .ref a /\ D1 H2 a y o /\ Q (.bl o.isSome) H2
noncomputable def Z2 (ty td:TE):TE:=fun σ H Q=>ty σ H fun y H1=>td σ H1 fun x H2=>∃ a o,x = .ref a /\ D1 H2 a y o /\ Q (.bl (!o.isSome)) H2
noncomputable def jv (td ty tv:TE):TS:=fun D σ H=>tv σ H fun v H1=>td σ H1 fun x H2=>ty σ H2 fun y H3=>∃ a H4,x = .ref a /\ Mq H3 a y v H4 /\ D.nx σ H4
section
variable {X:Cx} {o i e value:Expr} {pos pos' tpos:Pos} {td ty tv:TE}
theorem Gn (hu:X.A.units + 20 < cLine) (ho:PE X o td) (hi:PE X i ty) (hs:ip i):PE X (.Subscript o i pos) (kd td ty):=by
 intro pins s σ H Q I h
 refine a9 PySem.F.slot_dict_getitem.lookup hs (C7 (ho pins s σ H _ I h) fun u s1 ⟨x,H1,I1,rx,q1⟩=>C7 (hi pins s1 σ H1 _ I1 q1) fun iv s2 hz0=>?_)
 obtain ⟨y,H2,I2,ry,a,v,ex,g,q2⟩ := hz0
 subst ex
 obtain rfl:u = Value.ref a:=rx
 exact ⟨Qh I2 g,Vq hu I2 g ry fun w' s3 I3 rw'=>⟨v,H2,I3,rw',q2⟩⟩
theorem Lz (hu:X.A.units + 20 < cLine) (hi:PE X i ty) (ho:PE X o td):PC X .In i o (lm ty td):=by
 intro pins s σ H Q I h
 refine C7 (hi pins s σ H _ I h) fun iv s1 ⟨y,H1,I1,ry,q1⟩=>C7 (ho pins s1 σ H1 _ I1 q1) fun u s2 hz0=>?_
 obtain ⟨x,H2,I2,rx,a,ov,ex,g,q2⟩ := hz0
 subst ex
 obtain rfl:u = Value.ref a:=rx
 exact n8 hu I2 g ry fun s3 I3=>⟨.bl ov.isSome,H2,I3,rfl,q2⟩
theorem Ev (hu:X.A.units + 20 < cLine) (hi:PE X i ty) (ho:PE X o td):PC X .NotIn i o (Z2 ty td):=by
 intro pins s σ H Q I h
 refine C7 (hi pins s σ H _ I h) fun iv s1 ⟨y,H1,I1,ry,q1⟩=>C7 (ho pins s1 σ H1 _ I1 q1) fun u s2 hz0=>?_
 obtain ⟨x,H2,I2,rx,a,ov,ex,g,q2⟩ := hz0
 subst ex
 obtain rfl:u = Value.ref a:=rx
 exact Zo hu I2 g ry fun s3 I3=>⟨.bl (!ov.isSome),H2,I3,rfl,q2⟩
theorem Fh (hu : X.A.units + 20 < cLine) (ho : PE X o td) (hi : PE X i ty) (hv : PE X value tv) (hs : swapsWith value (some (.Subscript o i pos')) pos.line X.env = pure false) :
  PS X (.Assign [.Subscript o i pos'] value pos) (jv td ty tv):=by
 intro pins s σ H D I h
 refine wpAny_Assign_Subscript (C7 (hv pins s σ H _ I h) fun r s1 ⟨v,H1,I1,rv,q1⟩=>C7 (ho pins s1 σ H1 _ I1 q1) fun u s2 ⟨x,H2,I2,rx,q2⟩=>C7 (hi pins s2 σ H2 _ I2 q2) fun iv s3 ⟨y,H3,I3,ry,a,H4,ex,g,q3⟩=>?_) hs
 subst ex
 obtain rfl:u = Value.ref a:=rx
 exact Uz hu I3 g ry rv fun s4 I4=>⟨σ,H4,I4,q3⟩
end
theorem Y9 {P:Program} {w:World} {H:Hp} (h:Heap) (hb:sysModules < h.objs.size):Br P w H (h.push { cls := .type "dict",data := .dict #[] }) h.objs.size (.dK []) :=
 ⟨Nat.zero_le _,beq_eq_false_iff_ne.mpr (Ne.symm (Nat.ne_of_lt hb)),[],.nil,Heap.DictOf.new h⟩
theorem Pl {P:Program} {w:World} {H:Hp} (h:Heap) (hb:sysModules < h.objs.size):Br P w H (h.push { cls := .type "dict",data := .dict #[] }) h.objs.size (.dT []) :=
 ⟨Nat.zero_le _,beq_eq_false_iff_ne.mpr (Ne.symm (Nat.ne_of_lt hb)),[],.nil,_,#[],0,Heap.get?_push_size _ rfl,⟨rfl,rfl,rfl⟩,rfl,rfl,List.nodup_nil⟩
noncomputable def ff:TE:=fun _ H Q=>∀ p,H p = none -> Q (.ref p) (upd H p (.dK []))
noncomputable def fj:TE:=fun _ H Q=>∀ p,H p = none -> Q (.ref p) (upd H p (.dT []))
section
variable {X:Cx} {pos:Pos}
theorem Xk:PE X (.Dict [] [] pos) ff:=fun pins s σ H Q I h =>
 wpAny_Dict_empty ⟨.ref s.heap.objs.size,_,I.laid (a:=s.heap.objs.size) (o := .dK []) (t':=s.toks) (fun _ _ q=>Heap.get?_push_of_some _ q) (Nat.le_refl _) (Y9 s.heap I.big),rfl,h _ (I.hok.fresh (Nat.le_refl _))⟩
theorem F6:PE X (.Dict [] [] pos) fj:=fun pins s σ H Q I h =>
 wpAny_Dict_empty ⟨.ref s.heap.objs.size,_,I.laid (a:=s.heap.objs.size) (o := .dT []) (t':=s.toks) (fun _ _ q=>Heap.get?_push_of_some _ q) (Nat.le_refl _) (Pl s.heap I.big),rfl,h _ (I.hok.fresh (Nat.le_refl _))⟩
end
noncomputable def S0:List (TE × TE) -> St -> Hp -> (List (V × V) -> Hp -> Prop) -> Prop
 | [],_,H,Q=>Q [] H
 | (tk,tv) :: r,σ,H,Q=>tk σ H fun x H1=>tv σ H1 fun y H2=>S0 r σ H2 fun ps H3=>Q ((x,y) :: ps) H3
noncomputable abbrev VV:List (V × V) -> List (Value × Value) -> Prop:=Paired fun p q=>Ax p.1 q.1 /\ Ax p.2 q.2
noncomputable def kz (X:Cx) (pos:Pos) (keys:List (Option Expr)) (values:List Expr) (trs:List (TE × TE)):Prop :=
 ∀ (pins:List (Addr × Obj)) (s:Shared) (σ:St) (H:Hp) (Q:List (V × V) -> Hp -> Prop),Ai X pins σ H s -> S0 trs σ H Q ->
  wpAny (model X.prog X.w) X.A (evalPairs (pairTrees keys values X.env pos)) (fun vs s'=>∃ ps H',Ai X pins σ H' s' /\ VV ps vs /\ Q ps H') X.xe s
theorem Yq {X:Cx} {pos:Pos}:kz X pos [] [] []:=fun pins s σ H Q I h=>pairTrees_nil_walk ⟨[],H,I,.nil,h⟩
theorem Wx {X : Cx} {pos : Pos} {k v : Expr} {ks : List (Option Expr)} {vs : List Expr} {tk tv : TE} {trs : List (TE × TE)} (hk : PE X k tk) (hv : PE X v tv) (hr : kz X pos ks vs trs) :
  kz X pos (some k :: ks) (v :: vs) ((tk,tv) :: trs):=fun pins s σ H Q I h =>
 pairTrees_cons_walk (C7 (hk pins s σ H _ I h) fun u s1 ⟨x,H1,I1,rx,q1⟩=>C7 (hv pins s1 σ H1 _ I1 q1) fun w2 s2 ⟨y,H2,I2,ry,q2⟩ =>
  C7 (hr pins s2 σ H2 _ I2 q2) fun ws s3 ⟨ps,H3,I3,rel,q3⟩=>⟨(x,y) :: ps,H3,I3,.cons ⟨rx,ry⟩ rel,q3⟩)
structure M1 (X:Cx) (o:Expr) (m:Str) (apos:Pos) (e:Expr) (cpos:Pos):Prop where
 base:attributeBase o m X.env (eval o X.env) = eval o X.env
 few:((backTo cpos (starEach [e] X.env)).all (fun x=>!x.1) && (backToKw cpos (keywordEach [] X.env)).all (fun x=>x.1.isSome)
  && decide (([e]:List Expr).length + ([]:List Keyword).length + (if ([]:List Keyword).isEmpty then 0 else 1) < 30)) = true
 line:(apos.endLine == cpos.line) = true
 trees:backTo cpos (starEach [e] X.env) = [(false,eval e X.env)]
structure M2 (X:Cx) (o:Expr) (m:Str) (apos:Pos) (e f:Expr) (cpos:Pos):Prop where
 base:attributeBase o m X.env (eval o X.env) = eval o X.env
 few:((backTo cpos (starEach [e,f] X.env)).all (fun x=>!x.1) && (backToKw cpos (keywordEach [] X.env)).all (fun x=>x.1.isSome)
  && decide (([e,f]:List Expr).length + ([]:List Keyword).length + (if ([]:List Keyword).isEmpty then 0 else 1) < 30)) = true
 line:(apos.endLine == cpos.line) = true
 trees:backTo cpos (starEach [e,f] X.env) = [(false,eval e X.env),(false,eval f X.env)]
noncomputable def jf (H:Hp) (a:Addr):Prop:=(∃ kvs,Rd H a (.dK kvs)) \/ ∃ kvs,Rd H a (.dT kvs)
theorem P2 {X : Cx} {pins : List (Addr × Obj)} {σ : St} {H : Hp} {s : Shared} {a : Addr} (I : Ai X pins σ H s) (d : jf H a) :
  s.TypeIs (.ref a) "dict" /\ (∀ b,Value.ref a = .ref b -> ∃ ob,s.heap.get? b = some ob /\ ob.dict = none) /\ (a == sysModules) = false:=by
 rcases d with ⟨kvs,e⟩ | ⟨kvs,e⟩
 ·obtain ⟨_,hd,vs,_,dd⟩ := Hv I.hok e
  refine ⟨dd.typeIs,fun b q=>?_,hd⟩
  cases q
  obtain ⟨ob,_,_,h1,h2,_⟩ := dd
  exact ⟨ob,h1,h2.2.1⟩
 ·obtain ⟨_,hd,xs,_,dd⟩ := Jr I.hok e
  refine ⟨dd.typeIs,fun b q=>?_,hd⟩
  cases q
  obtain ⟨ob,_,_,h1,h2,_⟩ := dd
  exact ⟨ob,h1,h2.2.1⟩
section
variable {X:Cx} {pins:List (Addr × Obj)} {σ:St} {H:Hp} {s:Shared} {a:Addr} {y d:V} {u r:Value} {o:Option V} {A:Around} {E:Value -> Shared -> Prop}
theorem cy {Q : Value -> Shared -> Prop} (hu : A.units + 20 < cLine) (I : Ai X pins σ H s) (g : D1 H a y o) (ry : Ax y u) (h : ∀ w' s', Ai X pins σ H s' -> Ax (o.getD .non) w' -> Q w' s') :
  wpAny (model X.prog X.w) A (call (.builtin "dict.get") [.ref a,u]) Q E s:=by
 rcases g with ⟨kvs,k,e,ey,l⟩ | ⟨kvs,k,b,e,ey,eb,l⟩
 ·subst ey
  obtain ⟨z,hd,vs,rel,dd⟩ := Hv I.hok e
  refine call_meetsIn PySem.F.slot_dict_get dd.typeIs PySem.F.entry_dict_get (PySem.F.args_dict_get_2 _ _) (meets_dict_get (D7 X.prog X.w) a (Le ry) hd) ⟨_,dd.mapOf,h _ _ (I.tok _) ?_⟩
  rw [l]
  exact (rel.val k).getD rfl
 ·subst ey
  cases (show u = Value.ref b from ry)
  obtain ⟨z,hd,xs,rel,dd⟩ := Jr I.hok e
  refine call_meetsIn PySem.F.slot_dict_get dd.typeIs PySem.F.entry_dict_get (PySem.F.args_dict_get_2 _ _) (meetsH_dict_get (C9 X.prog X.w) a b hd) ⟨D8 hu,k,xs,Fi I.hok eb,dd,h _ _ (I.tok _) ?_⟩
  rw [l]
  exact (rel.val k).getD rfl
theorem ge {Q : Value -> Shared -> Prop} (hu : A.units + 20 < cLine) (I : Ai X pins σ H s) (g : D1 H a y o) (ry : Ax y u) (rd : Ax d r) (h : ∀ w' s', Ai X pins σ H s' -> Ax (o.getD d) w' -> Q w' s') :
  wpAny (model X.prog X.w) A (call (.builtin "dict.get") [.ref a,u,r]) Q E s:=by
 rcases g with ⟨kvs,k,e,ey,l⟩ | ⟨kvs,k,b,e,ey,eb,l⟩
 ·subst ey
  obtain ⟨z,hd,vs,rel,dd⟩ := Hv I.hok e
  refine call_meetsIn PySem.F.slot_dict_get dd.typeIs PySem.F.entry_dict_get (PySem.F.args_dict_get_3 _ _ _) (meets_dict_get_default (D7 X.prog X.w) a (Le ry) hd r) ⟨_,dd.mapOf,h _ _ (I.tok _) ?_⟩
  rw [l]
  exact (rel.val k).getD rd
 ·subst ey
  cases (show u = Value.ref b from ry)
  obtain ⟨z,hd,xs,rel,dd⟩ := Jr I.hok e
  refine call_meetsIn PySem.F.slot_dict_get dd.typeIs PySem.F.entry_dict_get (PySem.F.args_dict_get_3 _ _ _) (meetsH_dict_get_default (C9 X.prog X.w) a b hd r) ⟨D8 hu,k,xs,Fi I.hok eb,dd,h _ _ (I.tok _) ?_⟩
  rw [l]
  exact (rel.val k).getD rd
end
noncomputable def fk (td ty:TE):TE:=fun σ H Q=>td σ H fun x H1=>∃ a,x = .ref a /\ jf H1 a /\ ty σ H1 fun y H2=>∃ o,D1 H2 a y o /\ Q (o.getD .non) H2
noncomputable def bz (td ty tx:TE):TE:=fun σ H Q=>td σ H fun x H1=>∃ a,x = .ref a /\ jf H1 a /\ ty σ H1 fun y H2=>tx σ H2 fun z H3=>∃ o,D1 H3 a y o /\ Q (o.getD z) H3
noncomputable def gh (td ty:TE):TE:=fun σ H Q=>td σ H fun x H1=>∃ a,x = .ref a /\ jf H1 a /\ ty σ H1 fun y H2=>∃ kvs k v,H2 a = some (.dK kvs) /\ y = kV k /\ Ae kvs k = some v /\ Q v (upd H2 a (.dK (Bv kvs k)))
section
variable {X:Cx} {o e f:Expr} {apos cpos:Pos} {td ty tx:TE}
theorem Yf (hu:X.A.units + 20 < cLine) (ho:PE X o td) (he:PE X e ty) (m:M1 X o "get" apos e cpos):PE X (.Call (.Attribute o "get" apos) [e] [] cpos) (fk td ty):=by
 intro pins s σ H Q I h
 refine wpAny_Call_method m.base m.few m.line PySem.F.plainAttrs_dict PySem.F.slot_dict_get PySem.F.type_dict_get (C7 (ho pins s σ H _ I h) fun u s1 hz0=>?_)
 obtain ⟨x,H1,I1,rx,a,ex,d,q1⟩ := hz0
 subst ex
 obtain rfl:u = Value.ref a:=rx
 obtain ⟨t1,t2,_⟩ := P2 I1 d
 refine ⟨t1,t2,?_⟩
 rw [m.trees]
 refine Calls.callWith_builtin rfl (Calls.evalArgs_plain (Calls.spliced_cons (C7 (he pins s1 σ H1 _ I1 q1) fun iv s2 ⟨y,H2,I2,ry,ov,g,q2⟩=>Calls.spliced_nil ?_)))
 exact cy hu I2 g ry fun w' s3 I3 rw'=>⟨_,H2,I3,rw',q2⟩
theorem Wo (hu:X.A.units + 20 < cLine) (ho:PE X o td) (he:PE X e ty) (hf:PE X f tx) (m:M2 X o "get" apos e f cpos):PE X (.Call (.Attribute o "get" apos) [e,f] [] cpos) (bz td ty tx):=by
 intro pins s σ H Q I h
 refine wpAny_Call_method m.base m.few m.line PySem.F.plainAttrs_dict PySem.F.slot_dict_get PySem.F.type_dict_get (C7 (ho pins s σ H _ I h) fun u s1 hz0=>?_)
 obtain ⟨x,H1,I1,rx,a,ex,d,q1⟩ := hz0
 subst ex
 obtain rfl:u = Value.ref a:=rx
 obtain ⟨t1,t2,_⟩ := P2 I1 d
 refine ⟨t1,t2,?_⟩
 rw [m.trees]
 refine Calls.callWith_builtin rfl (Calls.evalArgs_plain (Calls.spliced_cons (C7 (he pins s1 σ H1 _ I1 q1) fun iv s2 ⟨y,H2,I2,ry,q2⟩ =>
  Calls.spliced_cons (C7 (hf pins s2 σ H2 _ I2 q2) fun fv s3 ⟨z,H3,I3,rz,ov,g,q3⟩=>Calls.spliced_nil ?_))))
 exact ge hu I3 g ry rz fun w' s4 I4 rw'=>⟨_,H3,I4,rw',q3⟩
theorem Xo (ho:PE X o td) (he:PE X e ty) (m:M1 X o "pop" apos e cpos):PE X (.Call (.Attribute o "pop" apos) [e] [] cpos) (gh td ty):=by
 intro pins s σ H Q I h
 refine wpAny_Call_method m.base m.few m.line PySem.F.plainAttrs_dict PySem.F.slot_dict_pop PySem.F.type_dict_pop (C7 (ho pins s σ H _ I h) fun u s1 hz0=>?_)
 obtain ⟨x,H1,I1,rx,a,ex,d,q1⟩ := hz0
 subst ex
 obtain rfl:u = Value.ref a:=rx
 obtain ⟨t1,t2,_⟩ := P2 I1 d
 refine ⟨t1,t2,?_⟩
 rw [m.trees]
 refine Calls.callWith_builtin rfl (Calls.evalArgs_plain (Calls.spliced_cons (C7 (he pins s1 σ H1 _ I1 q1) fun iv s2 ⟨y,H2,I2,ry,kvs,k,v,ea,ey,l,q2⟩=>Calls.spliced_nil ?_)))
 subst ey
 exact iy I2 ea ry l (.inl rfl) fun w' s3 I3 rw'=>⟨v,_,I3,rw',q2⟩
end
section
variable {X:Cx} {pins:List (Addr × Obj)} {σ:St} {H:Hp} {s:Shared} {a:Addr} {kvs:List (E4 × V)} {A:Around} {E:Value -> Shared -> Prop}
end
section
variable {X:Cx} {pins:List (Addr × Obj)} {σ:St} {H:Hp} {s:Shared} {a:Addr} {y:V} {u:Value} {A:Around} {E:Value -> Shared -> Prop}
end
section
variable {κ:Type} [DecidableEq κ]
theorem L8 {kvs:List (κ × V)} {k:κ} (h:Ae kvs k = none):¬ k ∈ kvs.map (·.1):=by
 intro m
 obtain ⟨p,hp,e⟩ := List.mem_map.mp m
 have q:(kvs.any fun kv=>decide (kv.1 = k)) = true:=List.any_eq_true.mpr ⟨p,hp,decide_eq_true e⟩
 rw [Dv,h] at q
 exact absurd q (by simp)
theorem K2 {kvs:List (κ × V)} {k:κ} {v:V} (h:Ae kvs k = some v):k ∈ kvs.map (·.1):=by
 have q:(kvs.any fun kv=>decide (kv.1 = k)) = true:=by
  rw [Dv,h]
  all_goals rfl
 obtain ⟨p,hp,e⟩ := List.any_eq_true.mp q
 exact List.mem_map.mpr ⟨p,hp,of_decide_eq_true e⟩
theorem Ui:∀ {l:List κ} {k:κ},l.Nodup -> ¬ k ∈ l -> (l ++ [k]).Nodup
 | [],k,_,_=>by simp
 | a :: r,k,h,hk=>by
  obtain ⟨h1,h2⟩ := List.nodup_cons.mp h
  show (a :: (r ++ [k])).Nodup
  refine List.nodup_cons.mpr ⟨fun m=>?_,Ui h2 fun m=>hk (List.mem_cons.mpr (Or.inr m))⟩
  rcases List.mem_append.mp m with q | q
  ·exact h1 q
  ·exact hk (List.mem_cons.mpr (Or.inl (List.mem_singleton.mp q).symm))
theorem P5 {kvs:List (κ × V)} {k:κ} (v:V) (hn:(kvs.map (·.1)).Nodup) (h:Ae kvs k = none):((Bb kvs k v).map (·.1)).Nodup:=by
 rw [C5 v h,List.map_append]
 exact Ui hn (L8 h)
theorem Vk {p:κ × V} {r:List (κ × V)} {k:κ} (e:p.1 = k):Bv (p :: r) k = Bv r k:=by
 unfold Bv
 rw [List.filter_cons,if_neg (by simp [e])]
end
section
variable {P:Program} {w:World} {A:Around} {E:Value -> Shared -> Prop} {s:Shared}
theorem Wf {it d : Addr} {i n ep : Nat} {ok ov key val : Value} {Q : Value -> Shared -> Prop} (hit : IsItemIter s.heap it d i n ep ok ov)
  (hQ:∀ h',IsItemIterOut h' it d i n ep key val s.heap.objs.size -> h'.get? s.heap.objs.size = some { cls := .type "tuple",data := .seq #[key,val] } -> (∀ b o,b ≠ it -> s.heap.get? b = some o -> h'.get? b = some o) -> Q (.ref s.heap.objs.size) { s with heap:=h' }) :
  wpAny (model P w) A (Builtin.Dict_items.pairFromOwner (.ref it) 6 key val) Q E s:=by
 unfold Builtin.Dict_items.pairFromOwner; refine wpAny_bind (wpAny_newTuple ?_)
 have hlt:it < s.heap.objs.size:=Heap.lt_size hit
 have a1:IsItemIter (s.heap.push { cls := .type "tuple",data := .seq #[key,val] }) it d i n ep ok ov:=Heap.get?_push_of_some _ hit
 have a2:(s.heap.push { cls := .type "tuple",data := .seq #[key,val] }).get? s.heap.objs.size = some { cls := .type "tuple",data := .seq #[key,val] }:=Heap.get?_push_size _ rfl
 have a3:∀ b o,s.heap.get? b = some o -> (s.heap.push { cls := .type "tuple",data := .seq #[key,val] }).get? b = some o:=fun b o z=>Heap.get?_push_of_some _ z
 show wpAny (model P w) A (Builtin.Dict_items.ownedTupleIsFree (.ref it) >>= _) Q E { s with heap:=s.heap.push { cls := .type "tuple",data := .seq #[key,val] } }
 generalize s.heap.push { cls := .type "tuple",data := .seq #[key,val] } = h1 at a1 a2 a3 ⊢
 unfold Builtin.Dict_items.ownedTupleIsFree; refine wpAny_bind (wpAny_bind (wpAny_field a1 rfl (x := .none) rfl (wpAny_pure ?_))); simp only [if_true]
 refine wpAny_bind (wpAny_field a1 rfl (x:=ok) rfl (wpAny_bind (wpAny_field a1 rfl (x:=ov) rfl ?_)))
 refine wpAny_bind (wpAny_setField_rec a1 (by simp) fun h2 b2 c2=>wpAny_bind ?_)
 have b2':IsItemIter h2 it d i n ep key ov:=b2
 refine wpAny_setField_rec b2' (by simp) fun h3 b3 c3=>wpAny_bind ?_
 have b3':IsItemIter h3 it d i n ep key val:=b3
 refine wpAny_setField_rec b3' (by simp) fun h4 b4 c4=>wpAny_bind ?_
 have b4':IsItemIterOut h4 it d i n ep key val s.heap.objs.size:=b4
 refine wpAny_setField_rec b4' (by simp) fun h5 b5 c5=>wpAny_bind (wpAny_letGo (wpAny_pure ?_))
 have up:∀ b o,b ≠ it -> h1.get? b = some o -> h5.get? b = some o:=fun b o hb z=>c5.extBut b o hb (c4.extBut b o hb (c3.extBut b o hb (c2.extBut b o hb z)))
 exact hQ h5 b5 (up _ _ (Nat.ne_of_gt hlt) a2) fun b o hb z=>up b o hb (a3 b o z)
theorem Pt {it d : Addr} {i ep : Nat} {es : Array DictEntry} {ok ov : Value} {o : Obj} {Q : Option Value -> Shared -> Prop} (hit : IsItemIter s.heap it d i es.size ep ok ov) (hod : s.heap.get? d = some o) (hdd : o.data = .dict es ep)
  {en:DictEntry} (he:es[i]? = some en)
  (hQ:∀ h',IsItemIterOut h' it d (i + 1) es.size ep en.key en.val s.heap.objs.size -> h'.get? s.heap.objs.size = some { cls := .type "tuple",data := .seq #[en.key,en.val] } -> (∀ b o,b ≠ it -> s.heap.get? b = some o -> h'.get? b = some o) -> Q (some (.ref s.heap.objs.size)) { s with heap:=h' }) :
  wpAny (model P w) A (pyNext (.ref it)) Q E s:=by
 have hT:s.TypeIs (.ref it) "dict_itemiterator" := ⟨_,hit,rfl⟩
 have own:Builtin.Dict_items.ownsTuple "dict_itemiterator" = true:=by decide
 unfold pyNext; refine wpAny_bind (wpAny_attempt (wpAny_callSpecial?_slot (name:=Str.ofString "__next__") hT F.slot_dict_itemiterator_next (wpAny_call_entry F.slot_dict_itemiterator_next hT F.entry_dict_itemiterator_next ?_ (F.args_dict_itemiterator_next_1 _))))
 refine wpAny_bind (wpAny_pure (wpAny_bind (wpAny_bind (wpAny_bind (wpAny_typeNameOfWhole_itemiter hT (wpAny_pure (wpAny_bind (wpAny_fieldsOf hit rfl ?_))))))))
 simp only [own,if_true]; show wpAny _ _ (if (Value.ref d == Value.none) = true then _ else _) _ _ s
 rw [if_neg (show ¬ (Value.ref d == Value.none) = true from Bool.false_ne_true)]; refine wpAny_bind (wpAny_pure (wpAny_bind (wpAny_dictEntries hod hdd ?_)))
 rw [if_neg (show ¬ ((es.size:Int) != (es.size:Int)) = true by simp)]; refine wpAny_bind (wpAny_pure (wpAny_bind (wpAny_dictEpoch hod hdd ?_)))
 rw [if_neg (show ¬ ((ep:Int) != (ep:Int)) = true by simp)]; refine wpAny_pure ?_
 simp only [show ¬ ((i:Int) < 0) by omega,if_false,Int.toNat_natCast,he]
 refine wpAny_bind (wpAny_bind (wpAny_typeNameOfWhole_itemiter hT (wpAny_pure (wpAny_bind (wpAny_isOneOf_itemiter hT ?_)))))
 show wpAny _ _ (setField (.ref it) 3 (rawInt ((i:Int) + 1)) >>= _) _ _ s; refine wpAny_bind (wpAny_setField_rec hit (by simp) fun h1 b1 c1=>?_)
 have b1':IsItemIter h1 it d (i + 1) es.size ep ok ov:=by
  have e:((i + 1:Nat):Int) = (i:Int) + 1:=by omega
  unfold IsItemIter; rw [e]; simpa [rawInt] using b1
 have hT1:Shared.TypeIs { s with heap:=h1 } (.ref it) "dict_itemiterator" := ⟨_,b1',rfl⟩
 refine wpAny_bind (wpAny_holding (wpAny_bind (wpAny_isOneOf_itemiter hT1 (wpAny_bind (wpAny_isOneOf_itemiter hT1 ?_)))))
 have z1:h1.objs.size = s.heap.objs.size:=c1.1
 refine Wf (s:={ s with heap:=h1 }) b1' fun h2 e1 e2 e3=>?_
 rw [show (Shared.heap { s with heap:=h1 }).objs.size = s.heap.objs.size from z1] at e1 e2 ⊢
 exact wpAny_pure ⟨_,rfl,wpAny_pure (hQ h2 e1 e2 fun b o hb z=>e3 b o hb (c1.extBut b o hb z))⟩
end
section
variable {X:Cx}
end
section
variable {P:Program} {w:World} {A:Around} {R:Result -> Shared -> Prop} {K:Type} [DecidableEq K] {knd:HeapKind P w K}
end
section
variable {prog:Program} {w:World} {A:Around} {E:Value -> Shared -> Prop} {s:Shared}
end
section
variable {P:Program} {w:World} {A:Around} {E:Value -> Shared -> Prop} {s:Shared} {R:Result -> Shared -> Prop}
end
section
variable {X:Cx}
end
section
variable {X:Cx} {pins:List (Addr × Obj)} {σ:St} {H:Hp} {s:Shared} {k:Nat}
theorem Ge (I:Ai X pins σ H s) {d:PyData} {v:V} {u:Value} (h:Rp H d v) (r:Ax v u):∃ as,Reads s.heap u d as:=Cw I d v u h r
noncomputable def I8 (h:Heap) (d:PyData) (w:Value):Bool:=open Classical in if z:∃ e as,Reads h w e as /\ e.canLay0 = true then PyData.eqv z.choose d else false
theorem L6 {h:Heap} {d e:PyData} {w:Value} {as:List Addr} (r:Reads h w e as) (hc:e.canLay0 = true):I8 h d w = PyData.eqv e d:=by
 have z:∃ e as,Reads h w e as /\ e.canLay0 = true:=⟨e,as,r,hc⟩
 unfold I8
 rw [dif_pos z]
 obtain ⟨bs,r',hc'⟩ := z.choose_spec
 rw [(PySem.SeqAt.Reads.unique e _ w as bs hc r r')]
theorem Q7 (I:Ai X pins σ H s) {d:PyData}:∀ {ds:List PyData} {vs:List V} {us:List Value},RpAll H ds vs -> B6 vs us -> us.any (I8 s.heap d) = ds.any fun e=>PyData.eqv e d
 | [],vs,us,h,r=>by
  unfold RpAll at h
  subst h
  cases r
  rfl
 | e :: ds,vs,us,h,r=>by
  unfold RpAll at h
  obtain ⟨x,xs,rfl,h1,h2⟩ := h
  cases r with
  | cons r1 r2 =>
   obtain ⟨as,q⟩ := Ge I h1 r1
   rw [List.any_cons,List.any_cons,L6 q (Cl e x h1),Q7 I h2 r2]
theorem Kn (I:Ai X pins σ H s) {A:Around} {d:PyData} {x:V} {v:Value} (hx:Rp H d x) (rx:Ax x v) (hu:A.units + d.depth < cLine):∀ {ds:List PyData} {vs:List V} {us:List Value},RpAll H ds vs -> B6 vs us -> ∀ w ∈ us,SeqAt.EqAt A s w v (I8 s.heap d w)
 | [],vs,us,h,r,w,hw=>by
  unfold RpAll at h
  subst h
  cases r
  cases hw
 | e :: ds,vs,us,h,r,w,hw=>by
  unfold RpAll at h
  obtain ⟨y,ys,rfl,h1,h2⟩ := h
  cases r with
  | cons r1 r2 =>
   rcases List.mem_cons.mp hw with z | z
   ·subst z
    obtain ⟨as,q⟩ := Ge I h1 r1
    obtain ⟨bs,q2⟩ := Ge I hx rx
    rw [L6 q (Cl e y h1)]
    exact PySem.SeqAt.eqAt_reads e d A s _ _ _ _ q q2 (Cl e y h1) (Cl d x hx) (by omega)
   ·exact Kn I hx rx hu h2 r2 w z
end
section
variable {X:Cx} {k:Nat}
noncomputable def mi (K:PySem.W.Frag) (neg:Bool):R2:=fun x y H Q=>∃ (p:Addr) (us:List V) (d:PyData) (ds:List PyData),y = .ref p /\ Bo K H p us /\ Rp H d x /\ RpAll H ds us /\ d.depth <= 50 /\ Q (.bl (if neg then !(ds.any fun e=>PyData.eqv e d) else ds.any fun e=>PyData.eqv e d)) H
theorem Vy (K:PySem.W.Frag) (hr:De k X.A) (hK:X.K = K:=by rfl):Ji X (compareOp .NotIn) (mi K true):=by
 subst hK
 intro pins s σ H x y v u Q I rx ry h
 obtain ⟨p,us,d,ds,rfl,hq,hx,hall,hd,q⟩ := h
 cases ry
 obtain ⟨its,r,pl,hz⟩ := I.list hq
 have hu:=hr.units
 refine SeqAt.notIn_listAt (I8 s.heap d) pl.isList (fun w hw=>Kn I hx rx (by show X.A.units + 1 + d.depth < cLine; omega) hall r w (by simpa using hw)) ⟨.bl _,H,I,rfl,?_⟩
 rw [show its.toArray.any (I8 s.heap d) = its.any (I8 s.heap d) by simp,Q7 I hall r]
 exact q
end
theorem Dl {k:Nat} {A:Around} (hr:De k A):A.units + 20 < cLine:=by have:=hr.units; omega
section
variable {X:Cx}
theorem Rq {e:Expr} {t:TE} (h:PE X e t):PE X e (fun σ H Q=>∃ N:VK,t σ H N /\ ∀ v H',N v H' -> Q v H'):=by
 intro pins s σ H Q I z
 obtain ⟨N,z,m⟩ := z
 refine C7 (h pins s σ H N I z) fun v s1 z1=>?_
 obtain ⟨x,H1,I1,r1,q1⟩ := z1
 exact ⟨x,H1,I1,r1,m _ _ q1⟩
end
noncomputable def Kk:HO -> Prop
 | .dK _=>True
 | .dT _=>True
 | _=>False
section
variable {X:Cx} {pins:List (Addr × Obj)} {σ:St} {H:Hp} {s:Shared} {d:Addr}
theorem Ai.swap {v u:HO} (I:Ai X pins σ H s) (e:H d = some v) (n1:∀ xs,v ≠ .tup xs) (n2:∀ ps,v ≠ .tbl ps) (n3:∀ y,v ≠ .own y) (n4:∀ o u,X.H₀ d ≠ some (.frz o u)) (ok:Br X.prog X.w (upd H d u) s.heap d u):Ai X pins σ (upd H d u) s:=by
 have ht:∀ b xs,H b = some (.tup xs) -> (upd H d u) b = some (.tup xs):=fun b xs z=>by
  rw [Ac (fun y=>by rw [y,e] at z; exact n1 _ (Option.some.inj z))]
  exact z
 have hn:∀ b,H b = none -> (upd H d u) b = none:=fun b z=>by
  rw [Ac (fun y=>by rw [y,e] at z; cases z)]
  exact z
 refine ⟨I.ok,I.os,I.bare,⟨I.base.keep,I.base.slot,fun b o q n hx=>hn b (I.base.free b o q n hx),I.base.there,fun b xs q=>ht b xs (I.base.tups b xs q),fun b o x q=>?_,fun b ps q=>?_⟩,I.loc,I.cell,hn _ I.free,fun x c z=>hn c (I.freeC x c z),fun p hp=>?_,fun b o q=>?_,I.len⟩
 ·have hb : b ≠ d := fun y => by
   rw [y] at q
   exact n4 o x q
  rw [Ac hb]
  exact I.base.frzs b o x q
 ·obtain ⟨m,z⟩ := I.base.tbls b ps q
  refine ⟨m,?_⟩
  rw [Ac (fun y=>by rw [y,e] at z; exact n2 _ (Option.some.inj z))]
  exact z
 ·obtain ⟨a,b,c⟩ := I.pin p hp
  exact ⟨a,hn _ b,c⟩
 ·by_cases hb:b = d
  ·subst hb
   rw [A5] at q
   cases q
   exact ok
  ·rw [Ac hb] at q
   refine (I.hok b o q).stay (fun _ _ _ z=>z) (fun c z=>?_) ht
   rw [Ac (fun y=>by rw [y,e] at z; exact n3 _ (Option.some.inj z))]
   exact z
theorem Ai.nofz {v:HO} (I:Ai X pins σ H s) (e:H d = some v) (hv:Kk v):∀ o u,X.H₀ d ≠ some (.frz o u):=fun o u z=>by
 have y:=I.base.frzs d o u z
 rw [e] at y
 cases y
 exact hv
theorem Ai.frz {v:HO} (I:Ai X pins σ H s) (e:H d = some v) (hv:Kk v):∃ o,s.heap.get? d = some o /\ Ai X pins σ (upd H d (.frz o v)) s:=by
 have hok:=I.hok d v e
 obtain ⟨o,ho⟩ : ∃ o,s.heap.get? d = some o:=by
  cases v with
  | dK kvs=>obtain ⟨_,_,_,_,o,_,_,z,_⟩ := hok; exact ⟨o,z⟩
  | dT kvs=>obtain ⟨_,_,_,_,o,_,_,z,_⟩ := hok; exact ⟨o,z⟩
  | _=>exact hv.elim
 have n1:∀ xs,v ≠ .tup xs:=fun xs z=>by rw [z] at hv; exact hv
 have n2:∀ ps,v ≠ .tbl ps:=fun ps z=>by rw [z] at hv; exact hv
 have n3:∀ y,v ≠ .own y:=fun y z=>by rw [z] at hv; exact hv
 refine ⟨o,ho,I.swap e n1 n2 n3 (I.nofz e hv) ⟨ho,hok.stay (fun _ _ _ z=>z) (fun c z=>?_) (fun b xs z=>?_)⟩⟩
 ·rw [Ac (fun y=>by rw [y,e] at z; exact n3 _ (Option.some.inj z))]
  exact z
 ·rw [Ac (fun y=>by rw [y,e] at z; exact n1 _ (Option.some.inj z))]
  exact z
theorem Ai.thaw {v:HO} {o:Obj} (I:Ai X pins σ H s) (e:H d = some (.frz o v)) (n4:∀ o u,X.H₀ d ≠ some (.frz o u)):Ai X pins σ (upd H d v) s:=by
 refine I.swap e (fun _ z=>nomatch z) (fun _ z=>nomatch z) (fun _ z=>nomatch z) n4 ((I.hok d _ e).2.stay (fun _ _ _ z=>z) (fun c z=>?_) (fun b xs z=>?_))
 ·rw [Ac (fun y=>by rw [y,e] at z; cases z)]
  exact z
 ·rw [Ac (fun y=>by rw [y,e] at z; cases z)]
  exact z
end
noncomputable def i4 (t:TS):TS:=fun D σ H=>∃ d u,Kk u /\ H d = some u /\ t { D with nx:=fun σ' H'=>∃ o,H' d = some (.frz o u) /\ D.nx σ' (upd H' d u) } σ H
noncomputable def j9 (t:TE):TE:=fun σ H Q=>∃ d u,Kk u /\ H d = some u /\ t σ H fun v H'=>∃ o,H' d = some (.frz o u) /\ Q v (upd H' d u)
section
variable {X:Cx}
theorem Ob {st:Stmt} {t:TS} (h:PS X st t):PS X st (i4 t):=by
 intro pins s σ H D I z
 obtain ⟨d,u,hu,e,z⟩ := z
 have n4:=I.nofz e hu
 refine C7 (h pins s σ H _ I z) fun f s1 q=>?_
 cases f with
 | next =>
  obtain ⟨σ',H',I',o,e',q'⟩ := q
  exact ⟨σ',_,I'.thaw e' n4,q'⟩
 | brk=>exact q
 | cont=>exact q
 | ret v=>exact q
theorem Yn {e:Expr} {t:TE} (h:PE X e t):PE X e (j9 t):=by
 intro pins s σ H Q I z
 obtain ⟨d,u,hu,e0,z⟩ := z
 have n4:=I.nofz e0 hu
 refine C7 (h pins s σ H _ I z) fun v s1 q=>?_
 obtain ⟨x,H',I',r,o,e',q'⟩ := q
 exact ⟨x,_,I'.thaw e' n4,r,q'⟩
end
section
variable {P:Program} {w:World} {A:Around} {E:Value -> Shared -> Prop} {s:Shared}
theorem Qm {d : Addr} {o : Obj} {Q : Value -> Shared -> Prop} (hs : (d == sysModules) = false) (ho : s.heap.get? d = some o) (hx : o.ExactDict)
  (h:Q (.ref s.heap.objs.size) { s with heap:=s.heap.push { cls := .type "dict_items",data := .fields #[.ref d] } }):wpAny (model P w) A (call (.builtin "dict.items") [.ref d]) Q E s:=by
 have hT:s.TypeIs (.ref d) "dict" := ⟨o,ho,hx.1⟩
 refine wpAny_call_entry F.slot_dict_items hT F.entry_dict_items ?_ (F.args_dict_items_1 _)
 unfold Builtin.«dict.items» Builtin.Dict.noArgs
 refine wpAny_bind (wpAny_bind (wpAny_notOrdered_dict hT ?_))
 refine wpAny_bind (wpAny_of_eq (a:=()) rfl ?_)
 refine wpAny_bind (wpAny_of_eq (a:=Value.ref d) rfl ?_)
 refine wpAny_of_eq (a:=d) rfl ?_
 refine wpAny_bind ?_
 unfold Builtin.Dict.showsAll
 rw [hs,if_neg Bool.false_ne_true]
 refine wpAny_pure ?_
 refine wpAny_bind ?_
 unfold newFields
 exact wpAny_newObj_type (wpAny_pure ⟨_,rfl,h⟩)
theorem U7 {v d : Addr} {o : Obj} {es : Array DictEntry} {ep : Nat} {Q : Value -> Shared -> Prop} (hv : s.heap.IsItemsView v d) (ho : s.heap.get? d = some o) (hdd : o.data = .dict es ep)
  (h:Q (.ref s.heap.objs.size) { s with heap:=s.heap.push { cls := .type "dict_itemiterator",data := .fields #[.none,.bool false,.ref d,.int 0 0,.int es.size 0,.int ep 0,.none,.none] } }):wpAny (model P w) A (pyIter (.ref v)) Q E s:=by
 obtain ⟨ov,hov,hc,hd⟩ := hv
 have hT:s.TypeIs (.ref v) "dict_items" := ⟨ov,hov,hc⟩
 refine wpAny_pyIter_slot hT F.slot_dict_items_iter (wpAny_call_entry F.slot_dict_items_iter hT F.entry_dict_items_iter ?_ (F.args_dict_items_iter_1 _))
 unfold Builtin.«dict_items.__iter__» Builtin.Dict_items.slot0 Builtin.Dict_items.dictOf Builtin.Dict_items.newIterator
 refine wpAny_bind (wpAny_bind (wpAny_of_eq (a:=(Value.ref v,[])) rfl (wpAny_pure ?_)))
 refine wpAny_bind (wpAny_bind (wpAny_field hov hd (x := .ref d) rfl (wpAny_of_eq (a:=d) rfl ?_)))
 refine wpAny_bind (wpAny_bind (wpAny_dictEntries ho hdd (wpAny_bind (wpAny_dictEpoch ho hdd ?_))))
 show wpAny (model P w) _ (newObj (.type "dict_itemiterator") (.fields #[.none,.bool false,.ref d,.int 0 0,.int es.size 0,.int ep 0,.none,.none]) none) _ _ _
 refine wpAny_newObj_type (wpAny_pure ⟨_,rfl,"dict_itemiterator",_,⟨_,Heap.get?_push_size _ rfl,rfl⟩,F.slot_dict_itemiterator_next.lookup,h⟩)
theorem Y4 {it d : Addr} {i ep : Nat} {es : Array DictEntry} {ok ov : Value} {o : Obj} {Q : Option Value -> Shared -> Prop} (hh : A.handled = none) (hit : IsItemIter s.heap it d i es.size ep ok ov) (hod : s.heap.get? d = some o) (hdd : o.data = .dict es ep)
  (he:es[i]? = none) (hQ:∀ h',Heap.ExtBut it s.heap h' -> Q none { s with heap:=h' }):wpAny (model P w) A (pyNext (.ref it)) Q E s:=by
 have hT:s.TypeIs (.ref it) "dict_itemiterator" := ⟨_,hit,rfl⟩
 have own:Builtin.Dict_items.ownsTuple "dict_itemiterator" = true:=by decide
 unfold pyNext; refine wpAny_bind (wpAny_attempt (wpAny_callSpecial?_slot (name:=Str.ofString "__next__") hT F.slot_dict_itemiterator_next (wpAny_call_entry F.slot_dict_itemiterator_next hT F.entry_dict_itemiterator_next ?_ (F.args_dict_itemiterator_next_1 _))))
 refine wpAny_bind (wpAny_pure (wpAny_bind (wpAny_bind (wpAny_bind (wpAny_typeNameOfWhole_itemiter hT (wpAny_pure (wpAny_bind (wpAny_fieldsOf hit rfl ?_))))))))
 simp only [own,if_true]; show wpAny _ _ (if (Value.ref d == Value.none) = true then _ else _) _ _ s
 rw [if_neg (show ¬ (Value.ref d == Value.none) = true from Bool.false_ne_true)]; refine wpAny_bind (wpAny_pure (wpAny_bind (wpAny_dictEntries hod hdd ?_)))
 rw [if_neg (show ¬ ((es.size:Int) != (es.size:Int)) = true by simp)]; refine wpAny_bind (wpAny_pure (wpAny_bind (wpAny_dictEpoch hod hdd ?_)))
 rw [if_neg (show ¬ ((ep:Int) != (ep:Int)) = true by simp)]; refine wpAny_pure ?_
 simp only [show ¬ ((i:Int) < 0) by omega,if_false,Int.toNat_natCast,he]
 refine wpAny_bind (wpAny_bind (wpAny_typeNameOfWhole_itemiter hT (wpAny_pure ?_)))
 show wpAny _ _ (setField (.ref it) 2 Value.none >>= _) _ _ s
 refine wpAny_bind (wpAny_setField hit rfl (by simp) ?_)
 generalize hg:Heap.update s.heap it (Obj.mapFields (·.setIfInBounds 2 Value.none)) = h2
 have eb:Heap.ExtBut it s.heap h2:=by
  rw [<- hg]
  exact fun b ob hb e=>(Heap.get?_update_other _ _ (Ne.symm hb)).trans e
 show wpAny (model P w) _ (newExc (.type "StopIteration") [] >>= _) _ _ { s with heap:=h2 }
 refine wpAny_bind ?_; simp only [newExc,newTuple]
 refine wpAny_bind (wpAny_newObj_type (T := "tuple") ?_ (by size_fits))
 refine wpAny_bind (m:=firstArgMember _ _) (wpAny_of_eq (a:=Value.none) (by first | rfl | simp only [firstArgMember]) ?_)
 refine wpAny_newObj_type (T := "StopIteration") ?_ (by size_fits)
 simp only [raiseNew]; refine wpAny_bind (wpAny_handled ?_)
 first | rw [show A.in1.handled = Option.none from hh] | rw [hh]
 refine wpAny_bind (wpAny_pure (wpAny_throw ?_)); refine wpAny_bind (wpAny_isInstance (T := "StopIteration") (b:=true) ⟨_,Heap.get?_push_size _ rfl,rfl⟩ isSubtype_stop ?_)
 exact wpAny_pure (hQ _ ((eb.push _).push _))
end
theorem V3:entryFor table "dict_itemiterator.__iter__" = some Builtin.«dict_keyiterator.__iter__» :=
 entryFor_alias (id' := "dict_keyiterator.__iter__") (by kernel_rfl) (by first | rfl | decide +kernel | (unfold String.splitOn; simp +decide [String.splitOnAux])) (by decide +kernel) (by kernel_rfl)
noncomputable def kt:HO -> Hp -> Nat -> V -> V -> Prop
 | .dT kvs,H,i,x,y=>∃ k b,kvs[i]? = some (k,y) /\ x = .ref b /\ E2 H b k
 | .dK kvs,_,i,x,y=>∃ k,kvs[i]? = some (k,y) /\ x = kV k
 | _,_,_,_,_=>False
noncomputable def Dc:HO -> Nat
 | .dT kvs=>kvs.length
 | .dK kvs=>kvs.length
 | _=>0
noncomputable def fc (d:Addr) (o:Obj) (u:HO):It :=
 ⟨fun i H=>H d = some (.frz o u) /\ i < Dc u,fun i H v H'=>∃ T x y,v = .ref T /\ H T = none /\ H' = upd H T (.tup [x,y]) /\ kt u H i x y,fun i H=>H d = some (.frz o u) /\ Dc u <= i⟩
theorem Zd {P:Program} {w:World} {k:E4} {u:Value} (h:(D7 P w).is k u = true):Ax (kV k) u:=by
 have h':Ic k u = true:=h
 cases k with
 | inl i =>
  cases u <;> simp [Ic,Value.isInt] at h'
  subst h'
  exact ⟨_,rfl⟩
 | inr x =>
  cases u <;> simp [Ic,Value.isStrOf] at h'
  subst h'
  exact ⟨_,rfl⟩
theorem Fj {α β:Type} {F:α -> β -> Prop}:∀ {xs:List α} {ys:List β} {i:Nat},Paired F xs ys -> i < xs.length -> ∃ x y,xs[i]? = some x /\ ys[i]? = some y /\ F x y
 | _,_,i,.nil,h=>absurd h (by simp)
 | _,_,0,.cons r _,_=>⟨_,_,rfl,rfl,r⟩
 | _,_,i + 1,.cons _ t,h=>by
  obtain ⟨x,y,e1,e2,e3⟩ := Fj (i:=i) t (by simpa using h)
  exact ⟨x,y,by simpa using e1,by simpa using e2,e3⟩
theorem Se {α β:Type} {F:α -> β -> Prop} {xs:List α} {ys:List β} (h:Paired F xs ys):xs.length = ys.length:=by
 induction h with
 | nil=>rfl
 | cons r t ih=>rw [List.length_cons,List.length_cons,ih]
theorem Nj {P:Program} {w:World} {K:Type} [DecidableEq K] {knd:PySem.KeyKind P w K}:∀ {es:List DictEntry} {vs:List (K × Value)} {i:Nat} {kv:K × Value},Pairs knd es vs -> vs[i]? = some kv -> ∃ e,es[i]? = some e /\ knd.is kv.1 e.key = true /\ e.val = kv.2
 | _,_,i,kv,.nil,h=>by simp at h
 | _,_,0,kv,.cons h1 h2 _,h=>by
  cases (show some _ = some _ from h)
  exact ⟨_,rfl,h1,h2⟩
 | _,_,i + 1,kv,.cons _ _ t,h=>by
  obtain ⟨e,e1,e2⟩ := Nj t (i:=i) (by simpa using h)
  exact ⟨e,by simpa using e1,e2⟩
theorem Vs {P:Program} {w:World} {K:Type} [DecidableEq K] {knd:PySem.KeyKind P w K} {es:List DictEntry} {vs:List (K × Value)} (h:Pairs knd es vs):es.length = vs.length:=by
 induction h with
 | nil=>rfl
 | cons r q t ih=>rw [List.length_cons,List.length_cons,ih]
theorem Xs {P : Program} {w : World} {H : Hp} {h : Heap} {d : Addr} {o : Obj} {u : HO} {es : Array DictEntry} {ep : Nat} (ok : Br P w H h d u) (hu : Kk u) (ho : h.get? d = some o) (hd : o.data = .dict es ep) :
  es.size = Dc u /\ ∀ i,i < Dc u -> ∃ e x y,es[i]? = some e /\ Ax x e.key /\ Ax y e.val /\ kt u H i x y:=by
 cases u with
 | dT kvs =>
  obtain ⟨_,_,xs,r,o',es',ep',h1,h2,h3,h4,h5⟩ := ok
  rw [ho] at h1
  cases h1
  rw [hd] at h3
  cases h3
  have hl:=Se r
  refine ⟨?_,fun i hi=>?_⟩
  ·show es.size = kvs.length
   rw [<- Array.length_toList,h4,List.length_map,hl]
  ·obtain ⟨p,q,e1,e2,e3,e4,e5⟩ := Fj r hi
   refine ⟨entryOfKey (C9 P w) q,.ref q.2.1,p.2,?_,rfl,e5,p.1,q.2.1,e1,rfl,e4⟩
   rw [<- Array.getElem?_toList,h4,List.getElem?_map,e2]
   rfl
 | dK kvs =>
  obtain ⟨_,_,vs,r,o',es',ep',h1,h2,h3,h4,h5,h6⟩ := ok
  rw [ho] at h1
  cases h1
  rw [hd] at h3
  cases h3
  have hl:kvs.length = vs.length:=r.length
  refine ⟨?_,fun i hi=>?_⟩
  ·show es.size = kvs.length
   rw [<- Array.length_toList,Vs h5,hl]
  ·obtain ⟨p,q,e1,e2,e3⟩ := Fj r hi
   obtain ⟨e,f1,f2,f3⟩ := Nj h5 e2
   refine ⟨e,kV p.1,p.2,by rw [<- Array.getElem?_toList]; exact f1,?_,?_,p.1,e1,rfl⟩
   ·rw [e3.1]
    exact Zd f2
   ·rw [f3]
    exact e3.2
 | _=>exact hu.elim
theorem Rh {P : Program} {w : World} {K : PySem.W.Frag} {elts : List Expr} {kk : Nat} {pos : Pos} {it d : Addr} {o : Obj} {u : HO} {es : Array DictEntry} {ep : Nat} (hu : Kk u) (hd : o.data = .dict es ep) (hne : d ≠ it) :
  Ss P w K (.Tuple elts kk pos) (fc d o u) [it] it (fun i h=>∃ ok ov,IsItemIter h it d i es.size ep ok ov) where
 mem:=by simp
 obj:=fun i h ⟨ok,ov,st⟩ b hb=>by
  have e:b = it:=by simpa using hb
  subst e
  exact ⟨_,st,fun v z=>by cases z⟩
 keep:=fun i h h' ⟨ok,ov,st⟩ k=>⟨ok,ov,k it (by simp) _ st⟩
 item:=by
  intro X hP hw hK hc i pins s σ H E I hf ⟨ok,ov,st⟩ ⟨hg1,hg2⟩
  subst hP hw hK
  obtain ⟨ho,hok⟩ := I.hok d _ hg1
  obtain ⟨hsz,hat⟩ := Xs hok hu ho hd
  obtain ⟨e,x,y,e1,rx,ry,hi⟩ := hat i hg2
  have hlt:it < s.heap.objs.size:=Heap.lt_size st
  refine Pt st ho hd e1 fun h' a1 a2 a3=>⟨_,rfl,?_⟩
  refine wpAny_letOwnedTupleGo_items (s:={ s with heap:=h' }) a1 fun h'' b1 b2=>?_
  have hTp:h''.get? s.heap.objs.size = some { cls := .type "tuple",data := .seq #[e.key,e.val] }:=b2.extBut _ _ (Nat.ne_of_gt hlt) a2
  refine ⟨.ref s.heap.objs.size,upd H s.heap.objs.size (.tup [x,y]),I.turnLaid (t':=s.toks) (ch:=[it]) hf (fun c ob hc e=>?_) (Nat.le_refl _) ?_,rfl,⟨_,x,y,rfl,I.fresh,rfl,hi⟩,⟨_,_,b1⟩,fun c hc=>?_⟩
  ·have hc':c ≠ it:=by simpa using hc
   exact b2.extBut _ _ hc' (a3 c ob hc' e)
  ·exact ⟨⟨Nat.le_trans (by decide:2 <= 1000) (K7 (Nat.le_refl _)),_,hTp,rfl⟩,[e.key,e.val],.cons rx (.cons ry .nil),⟨_,hTp,rfl,0,rfl⟩⟩
  ·have hc':c = it:=by simpa using hc
   subst hc'
   rw [Ac (Nat.ne_of_lt hlt)]
   exact (hf c hc).1
 done:=by
  intro X hP hw hK hc i pins s σ H E I hf ⟨ok,ov,st⟩ ⟨hg1,hg2⟩
  subst hP hw hK
  obtain ⟨ho,hok⟩ := I.hok d _ hg1
  obtain ⟨hsz,hat⟩ := Xs hok hu ho hd
  refine Y4 (I.ok.hd hc) st ho hd (Array.getElem?_eq_none (by omega)) fun h' eb=>⟨rfl,I.turnMany (t':=s.toks) (ch:=[it]) hf fun c ob hc e=>?_⟩
  have hc':c ≠ it:=by simpa using hc
  exact eb c ob hc' e
 self:=fun A i s Q E ⟨ok,ov,st⟩ hQ=>by
  have hT:s.TypeIs (.ref it) "dict_itemiterator" := ⟨_,st,rfl⟩
  refine wpAny_pyIter_slot hT F.slot_dict_itemiterator_iter (wpAny_call_entry F.slot_dict_itemiterator_iter hT V3 ?_ (F.args_dict_itemiterator_iter_1 _))
  exact wpAny_pure ⟨_,rfl,"dict_itemiterator",_,hT,F.slot_dict_itemiterator_next.lookup,hQ⟩
section
variable {X:Cx}
noncomputable def bi (td:TE):TI:=fun σ H R=>td σ H fun x H1=>∃ d u,x = .ref d /\ Kk u /\ H1 d = some u /\ ∀ o,R (fc d o u) (upd H1 d (.frz o u))
theorem Hx {elts : List Expr} {kk : Nat} {tpos apos pos : Pos} {e : Expr} {td : TE} (he : PE X e td) (hbase : attributeBase e "items" X.env (eval e X.env) = eval e X.env := by rfl) (hline : (apos.endLine == pos.line) = true := by rfl) :
  PI X (.Tuple elts kk tpos) (.Call (.Attribute e "items" apos) [] [] pos) (bi td):=by
 intro pins s σ H R I h
 refine wpAny_Call_method0_late hbase hline (C7 (he pins s σ H _ I h) fun v s1 hz0=>?_)
 obtain ⟨x,H1,I1,r1,d,u,ex,hu,hd,q⟩ := hz0
 subst ex
 obtain rfl:v = Value.ref d:=r1
 obtain ⟨o,ho,I2⟩ := I1.frz hd hu
 obtain ⟨es,ep,hx,hdd,hsys⟩ : ∃ es ep,o.ExactDict /\ o.data = .dict es ep /\ (d == sysModules) = false:=by
  have hok:=I1.hok d u hd
  cases u with
  | dT kvs =>
   obtain ⟨_,y,xs,r,o',es',ep',h1,h2,h3,_⟩ := hok
   rw [ho] at h1
   cases h1
   exact ⟨es',ep',h2,h3,y⟩
  | dK kvs =>
   obtain ⟨_,y,vs,r,o',es',ep',h1,h2,h3,_⟩ := hok
   rw [ho] at h1
   cases h1
   exact ⟨es',ep',h2,h3,y⟩
  | _=>exact hu.elim
 have hT:s1.TypeIs (.ref d) "dict" := ⟨o,ho,hx.1⟩
 refine ⟨"dict","dict.items",PySem.F.plainAttrs_dict,PySem.F.slot_dict_items,PySem.F.type_dict_items,hT,?_,Calls.callWith_builtin rfl (PySem.evalArgs_none (Qm hsys ho hx ?_))⟩
 ·intro a z
  cases z
  exact ⟨o,ho,hx.2.1⟩
 have hov:(s1.heap.push { cls := .type "dict_items",data := .fields #[.ref d] }).get? d = some o:=Heap.get?_push_of_some _ ho
 refine U7 (s:={ s1 with heap:=s1.heap.push { cls := .type "dict_items",data := .fields #[.ref d] } }) ⟨_,Heap.get?_push_size _ rfl,rfl,rfl⟩ hov hdd ?_
 have hk:∀ b ob,s1.heap.get? b = some ob -> ((s1.heap.push { cls := .type "dict_items",data := .fields #[.ref d] }).push { cls := .type "dict_itemiterator",data := .fields #[.none,.bool false,.ref d,.int 0 0,.int es.size 0,.int ep 0,.none,.none] }).get? b = some ob:=fun b ob z=>Heap.get?_push_of_some _ (Heap.get?_push_of_some _ z)
 have hsz:(s1.heap.push { cls := .type "dict_items",data := .fields #[.ref d] }).objs.size = s1.heap.objs.size + 1:=by simp [Heap.push]
 have hdl:d < s1.heap.objs.size:=Heap.lt_size ho
 refine ⟨_,[_],_,fc d o u,upd H1 d (.frz o u),rfl,I2.kept (t':=s1.toks) hk,Rh (es:=es) (ep:=ep) hu hdd ?_,⟨.none,.none,Heap.get?_push_size _ rfl⟩,fun c hc=>?_,q o⟩
 ·rw [hsz]
  exact Nat.ne_of_lt (Nat.lt_succ_of_lt hdl)
 ·have hle : s1.heap.objs.size <= c := by
   have:c = (s1.heap.push { cls := .type "dict_items",data := .fields #[.ref d] }).objs.size:=by simpa using hc
   rw [this,hsz]
   omega
  exact I2.fpOk hle (I2.hok.fresh hle)
end
theorem Mx {o : Obj} {u : HO} {d : Addr} {g : TG} {tb : TS} {D : Ju} {σ : St} {H : Hp} (Pv : Nat -> St -> Hp -> Prop) (h0 : Pv 0 σ H) (hl : ∀ i σ H, i <= Dc u -> Pv i σ H -> H d = some (.frz o u))
  (hs:∀ i x y T σ H,i < Dc u -> kt u H i x y -> Pv i σ H -> H T = none -> g (.ref T) σ (upd H T (.tup [x,y])) fun σ2 H2=>tb { D with nx:=Pv (i + 1),ct:=Pv (i + 1),bk:=D.nx } σ2 H2) (hd:∀ σ H,Pv (Dc u) σ H -> D.nx σ H) :
  ∃ W:Nat -> Nat -> St -> Hp -> Prop,(∃ m,W 0 m σ H) /\ ∀ i m σ H,W i m σ H ->
   ((fc d o u).stop i H /\ D.nx σ H) \/ ((fc d o u).go i H /\ ∃ N:St -> Hp -> Prop,(∀ σ' H',N σ' H' -> ∃ m',m' < m /\ W (i + 1) m' σ' H') /\ ∀ x H',(fc d o u).yld i H x H' -> g x σ H' fun σ2 H2=>tb { D with nx:=N,ct:=N,bk:=D.nx } σ2 H2):=by
 refine ⟨fun i m σ H=>m = Dc u - i /\ i <= Dc u /\ Pv i σ H,⟨Dc u,by simp,Nat.zero_le _,h0⟩,?_⟩
 rintro i m σ H ⟨rfl,hi,p⟩
 have q1:=hl i σ H hi p
 by_cases hlt:i < Dc u
 ·refine .inr ⟨⟨q1,hlt⟩,Pv (i + 1),fun σ' H' p'=>⟨Dc u - (i + 1),by omega,rfl,hlt,p'⟩,fun v H' y=>?_⟩
  obtain ⟨T,x,z,rfl,hT,rfl,e1⟩ := y
  exact hs i x z T σ H hlt e1 p hT
 ·have e:i = Dc u:=by omega
  subst e
  exact .inl ⟨⟨q1,Nat.le_refl _⟩,hd σ H p⟩
theorem Lr {K : PySem.W.Frag} {o : Obj} {u : HO} {d : Addr} {fr : List Nat} {tt : TT} {te : TE} {σ : St} {D : Addr} {H1 : Hp} {Q : Hp -> Prop} (Pv : Nat -> List V -> Hp -> Prop) (h0 : Pv 0 [] (upd H1 D (.lst [])))
  (hl:∀ i zs H,i <= Dc u -> Pv i zs H -> H d = some (.frz o u))
  (hs:∀ i x y T zs H,i < Dc u -> kt u H i x y -> Pv i zs H -> H T = none -> tt (some x :: some y :: Dh fr σ) (upd H T (.tup [x,y])) fun b H4 =>
   if b = true then te (some x :: some y :: Dh fr σ) H4 fun v H5=>H5 D = some (.lst zs) /\ zs.length < sizeLine /\ Pv (i + 1) (zs ++ [v]) (upd H5 D (.lst (zs ++ [v]))) else Pv (i + 1) zs H4)
  (mt:∀ σ H Q Q',(∀ b H',Q b H' -> Q' b H') -> tt σ H Q -> tt σ H Q') (me:∀ σ H Q Q',(∀ v H',Q v H' -> Q' v H') -> te σ H Q -> te σ H Q')
  (hd:∀ zs H,Pv (Dc u) zs H -> Q H):E3 2 fr (fc d o u) (kc K) tt te σ D H1 Q:=by
 refine ⟨fun i m zs H=>m = Dc u - i /\ i <= Dc u /\ Pv i zs H,⟨Dc u,by simp,Nat.zero_le _,h0⟩,?_⟩
 rintro i m zs H' ⟨rfl,hi,p⟩
 have q1:=hl i zs H' hi p
 by_cases hlt:i < Dc u
 ·refine .inr ⟨⟨q1,hlt⟩,fun v H2 y=>?_⟩
  obtain ⟨T,x,z,rfl,hT,rfl,e1⟩ := y
  refine ⟨T,_,rfl,Bx.of A5,rfl,x,_,rfl,z,_,rfl,rfl,⟨[some x,some z],rfl,rfl⟩,?_⟩
  refine mt _ _ _ _ ?_ (hs i x z T zs H' hlt e1 p hT)
  intro b H4 q
  cases b with
  | false=>exact ⟨Dc u - (i + 1),by omega,rfl,hlt,q⟩
  | true=>exact me _ _ _ _ (fun v H5 ⟨r1,r2,r3⟩=>⟨r1,r2,Dc u - (i + 1),by omega,rfl,hlt,r3⟩) q
 ·have e:i = Dc u:=by omega
  subst e
  exact .inl ⟨⟨q1,Nat.le_refl _⟩,hd zs H' p⟩
section
variable {prog:Program} {w:World} {K:Type} [DecidableEq K] {knd:HeapKind prog w K} {A:Around} {E:Value -> Shared -> Prop} {s:Shared} {d a:Addr} {k:K} {xs:List (K × Addr × Value)}
theorem Vx {v:Value} (hn:(xs.map (·.1)).Nodup) (hnot:k ∉ xs.map (·.1)):((xs ++ [(k,a,v)]).map (·.1)).Nodup:=by
 rw [List.map_append,List.nodup_append]
 refine ⟨hn,by simp,fun x hx y hy=>?_⟩
 have e:y = k:=by simpa using hy
 rw [e]
 exact fun e=>hnot (e ▸ hx)
theorem Xq {dflt : Value} {Q : Value -> Shared -> Prop} (hu : knd.room A) (hkey : knd.is s.heap k a) (hm : s.heap.DictOfH knd d xs) (hsz : xs.length <= sizeLine)
  (h1:∀ p,atKey xs k = some p -> Q p.2 { s with toks:=s.toks + knd.draws k })
  (h2:atKey xs k = none -> ∀ h',h'.DictOfH knd d (xs ++ [(k,a,dflt)]) -> Heap.SameBut d s.heap h' -> Q dflt { s with heap:=h',toks:=s.toks + knd.draws k }) :
  wpAny (model prog w) A (dictSetDefault d (.ref a) dflt) Q E s:=by
 obtain ⟨o,es,ep,ho,hc,hd,he,his,hn⟩ := hm
 unfold dictSetDefault
 try with_reducible refine wpAny_holding ?_
 refine wpAny_bind (knd.pyHash hu hkey ?_)
 refine wpAny_bind (wpAny_dictFind_heap (s:={ s with toks:=s.toks + knd.draws k }) hu hkey ho hd he his hn ?_ ?_)
 ·intro hno
  have hnot:k ∉ xs.map (·.1):=not_mem_keys_of_get hno
  have hat:=atKey_none_of_get hno
  have hz:es.size <= sizeLine:=by
   have e:=size_of_entries he
   omega
  refine wpAny_bind (wpAny_rule (wpAny_bind (wpAny_updateDictKeys (hz:=hz) (s:={ s with toks:=s.toks + knd.draws k }) ho hd (wpAny_pure (h2 hat _
   ⟨_,_,ep + 1,Heap.get?_update_self _ ho (Obj.isFreed_of_dict (Obj.data_mapDictKeys hd _)),hc.mapDictKeys _,Obj.data_mapDictKeys hd _,?_,?_,Vx hn hnot⟩ (Heap.SameBut.update ..))))))
  ·simp [he,entryOfKey]
  ·intro x hx
   rcases List.mem_append.mp hx with hx | hx
   ·exact knd.keeps (his x hx) ho hd (Heap.SameBut.update ..)
   ·cases List.mem_singleton.mp hx
    exact knd.keeps hkey ho hd (Heap.SameBut.update ..)
 ·intro j p hj
  have hat:=atKey_of_get hn hj
  refine wpAny_bind (wpAny_dictEntries (s:={ s with toks:=s.toks + knd.draws k }) ho hd ?_)
  rw [entry_at he j,hj]
  exact wpAny_bind (wpAny_rule (wpAny_pure (h1 p hat)))
theorem Sg (hd : (d == sysModules) = false) (dflt : Value) :
  MeetsIn prog w (Builtin.«dict.setdefault» ⟨[.ref d,.ref a,dflt],[]⟩) (fun A R s=>knd.room A.in1 /\ ∃ k xs,knd.is s.heap k a /\ s.heap.DictOfH knd d xs /\ xs.length <= sizeLine /\
   (∀ p,atKey xs k = some p -> R (.ok (.ret p.2)) { s with toks:=s.toks + knd.draws k }) /\
   (atKey xs k = none -> ∀ h',h'.DictOfH knd d (xs ++ [(k,a,dflt)]) -> Heap.SameBut d s.heap h' -> R (.ok (.ret dflt)) { s with heap:=h',toks:=s.toks + knd.draws k })) :=
 .of_wp fun A R s ⟨hu,k,xs,hkey,hm,hz,h1,h2⟩=>by
  unfold Builtin.«dict.setdefault» Builtin.Dict.keyAndDefault
  refine wpAny_bind (wpAny_bind (wpAny_notOrdered_dict hm.typeIs ?_))
  show wpAny _ _ (pure (d,Value.ref a,some dflt)) _ _ s
  refine wpAny_pure ?_
  show wpAny _ _ (if (d == sysModules) = true then _ else (dictSetDefault d (.ref a) dflt >>= _)) _ _ s
  rw [if_neg (by rw [hd]; exact Bool.false_ne_true)]
  exact wpAny_bind (Xq hu hkey hm hz (fun p hp=>wpAny_pure ⟨p.2,rfl,h1 p hp⟩) fun hn h' hm' hs'=>wpAny_pure ⟨dflt,rfl,h2 hn h' hm' hs'⟩)
end
section
variable {X:Cx} {pins:List (Addr × Obj)} {σ:St} {H:Hp} {s:Shared} {a b:Addr} {kvs:List ((List Int × Int) × V)} {k:List Int × Int} {z:V} {r:Value} {A:Around} {E:Value -> Shared -> Prop}
theorem i9 {Q : Value -> Shared -> Prop} (hu : A.units + 20 < cLine) (I : Ai X pins σ H s) (e : H a = some (.dT kvs)) (eb : E2 H b k) (hl : kvs.length < sizeLine) (rz : Ax z r)
  (h1:∀ v w' s',Ae kvs k = some v -> Ai X pins σ H s' -> Ax v w' -> Q w' s') (h2:Ae kvs k = none -> ∀ s',Ai X pins σ (upd H a (.dT (Bb kvs k z))) s' -> Q r s') :
  wpAny (model X.prog X.w) A (call (.builtin "dict.setdefault") [.ref a,.ref b,r]) Q E s:=by
 obtain ⟨z0,hd,xs,rel,dd⟩ := U9 I.hok e
 have hz:xs.length <= sizeLine:=by rw [<- Paired.length rel]; exact z0
 have hv:=rel.val k
 refine call_meetsIn PySem.F.slot_dict_setdefault dd.typeIs PySem.F.entry_dict_setdefault (PySem.F.args_dict_setdefault_3 _ _ _) (Sg (knd:=C9 X.prog X.w) hd r) ⟨D8 hu,k,xs,Fi I.hok eb,dd,hz,fun p hp=>?_,fun hn h' dd' hs=>?_⟩
 ·rw [hp] at hv
  cases e2:Ae kvs k with
  | none=>rw [e2] at hv; exact hv.elim
  | some v =>
   rw [e2] at hv
   exact h1 v p.2 _ e2 (I.tok _) hv
 ·rw [hn] at hv
  cases e2:Ae kvs k with
  | some v=>rw [e2] at hv; exact hv.elim
  | none =>
   have hp:Bb kvs k z = kvs ++ [(k,z)]:=C5 z e2
   refine h2 e2 _ ?_
   rw [hp]
   obtain ⟨q,es,ep,hq,g2,g3,g4,_,g5⟩ := dd'
   refine Ht I (by rw [e]; exact True.intro) hs ⟨q,hq⟩ ⟨by rw [List.length_append,List.length_singleton]; omega,hd,_,KT.keeps (Paired.snoc rel ⟨rfl,eb,rz⟩) (fun c ys ec=>?_),q,es,ep,hq,g2,g3,g4,g5⟩
   rw [Ac (Bl ec e (fun z=>nomatch z))]
   exact ec
end
noncomputable def jb (td ty tx:TE):TE:=fun σ H Q=>td σ H fun x H1=>∃ a,x = .ref a /\ jf H1 a /\ ty σ H1 fun y H2=>tx σ H2 fun z H3=>∃ kvs k b,y = .ref b /\ E2 H3 b k /\ H3 a = some (.dT kvs) /\ kvs.length < sizeLine /\
 (∀ v,Ae kvs k = some v -> Q v H3) /\ (Ae kvs k = none -> Q z (upd H3 a (.dT (Bb kvs k z))))
section
variable {X:Cx} {o e f:Expr} {apos cpos:Pos} {td ty tx:TE}
theorem ae (hu:X.A.units + 20 < cLine) (ho:PE X o td) (he:PE X e ty) (hf:PE X f tx) (m:M2 X o "setdefault" apos e f cpos):PE X (.Call (.Attribute o "setdefault" apos) [e,f] [] cpos) (jb td ty tx):=by
 intro pins s σ H Q I h
 refine wpAny_Call_method m.base m.few m.line PySem.F.plainAttrs_dict PySem.F.slot_dict_setdefault PySem.F.type_dict_setdefault (C7 (ho pins s σ H _ I h) fun u s1 hz0=>?_)
 obtain ⟨x,H1,I1,rx,a,ex,d,q1⟩ := hz0
 subst ex
 obtain rfl:u = Value.ref a:=rx
 obtain ⟨t1,t2,_⟩ := P2 I1 d
 refine ⟨t1,t2,?_⟩
 rw [m.trees]
 refine Calls.callWith_builtin rfl (Calls.evalArgs_plain (Calls.spliced_cons (C7 (he pins s1 σ H1 _ I1 q1) fun iv s2 ⟨y,H2,I2,ry,q2⟩ =>
  Calls.spliced_cons (C7 (hf pins s2 σ H2 _ I2 q2) fun fv s3 ⟨z,H3,I3,rz,kvs,k,b,ey,eb,ea,hl,q3,q4⟩=>Calls.spliced_nil ?_))))
 subst ey
 obtain rfl:iv = Value.ref b:=ry
 exact i9 hu I3 ea eb hl rz (fun v w' s4 hv I4 rw'=>⟨v,H3,I4,rw',q3 v hv⟩) fun hn s4 I4=>⟨z,_,I4,rz,q4 hn⟩
theorem Tw {a : Expr} {ta : TE} (ha : PE X a ta) (he : ∀ whole, isTrue a X.env whole = (do let v <- whole; standAt a.pos; holding [v] (truthy v)) := by intro _; rfl) :
  PT X a (fun σ H Q=>ta σ H fun x H'=>∃ d kvs,x = .ref d /\ Rd H' d (.dK kvs) /\ Q (!kvs.isEmpty) H'):=by
 intro pins s σ H Q I h
 refine isTrue_plain (C7 (ha pins s σ H _ I h) fun v s1 ⟨x,H1,I1,r1,d,kvs,ex,hd,q1⟩=>?_) (he _)
 subst ex
 obtain rfl:v = Value.ref d:=r1
 obtain ⟨z,hs,vs,rel,dd⟩ := Hv I1.hok hd
 have hl:kvs.length = vs.length:=rel.length
 have h24:sizeLine < 2 ^ 30:=by decide
 refine wpAny_truthy_dict hs dd (by omega) ⟨H1,I1.tok _,?_⟩
 have e:kvs.isEmpty = vs.isEmpty:=by
  cases kvs <;> cases vs <;> simp at hl <;> rfl
 rw [<- e]
 exact q1
end
open PySem PySem.Spec PyProof.Rows PySem.SeqAt
noncomputable def dn (A:Around) (s:Shared) (x y:Value) (b:Bool):Prop := ∀ (prog:Program) (w:World) (E:Value -> Shared -> Prop) (Q:Value -> Shared -> Prop),Q (.bool b) s -> wpAny (model prog w) A (richCompare .Gt x y) Q E s
theorem bw (l b : Addr) (xs ys : Array Value) (n n2 : Nat) (dd dd2 : Option Addr) (sl sl2 : Array (Option Value)) (e : Nat -> Bool) (r : Bool) :
  Meets (Builtin.«tuple.__gt__» ⟨[.ref l,.ref b],[]⟩)
   (fun A R s=>s.heap.get? l = some { cls := .type "tuple",dict:=dd,data := .seq xs n,slots:=sl } /\ s.heap.get? b = some { cls := .type "tuple",dict:=dd2,data := .seq ys n2,slots:=sl2 } /\
    (∀ j (h1:j < xs.size) (h2:j < ys.size),EqAt A.in1 s xs[j] ys[j] (e j)) /\ (∀ j (h1:j < xs.size) (h2:j < ys.size),(∀ i,i < j -> e i = true) -> e j = false -> dn A.in1 s xs[j] ys[j] r) /\
    ((∀ j,j < min xs.size ys.size -> e j = true) -> r = decide (xs.size > ys.size)) /\ R (.ok (.ret (.bool r))) s) :=
 .of_wp fun prog w A R s h=>by
  obtain ⟨hp,g,d,tk,os⟩ := s
  obtain ⟨hl,hb,he,hf,hz,h⟩ := h
  have f2:=AutoSeq1.sub_tuple_tuple
  have hZ:(xs.toList.zip ys.toList).length = min xs.size ys.size:=by simp
  wp_walk using wpAny_loadPart' hl,wpAny_loadPart' hb,wpAny_forIn_list _ (fun rest b s'=>b.1 = none /\ s' = ⟨hp,g,d,tk,os⟩ /\ ∃ i,rest = (xs.toList.zip ys.toList).drop i /\ ∀ k,k < i -> k < min xs.size ys.size -> e k = true) _
  case turn =>
   rintro ⟨y,x⟩ rest b s' ⟨hb',rfl,i,hq,hR⟩
   have hlt:i < (xs.toList.zip ys.toList).length:=by
    apply Classical.byContradiction
    intro z
    rw [List.drop_of_length_le (by omega)] at hq
    cases hq
   have h1:i < xs.size:=by omega
   have h2:i < ys.size:=by omega
   rw [List.drop_eq_getElem_cons hlt] at hq
   injection hq with hyx hrest
   have hy:y = xs[i]:=by simpa using congrArg Prod.fst hyx
   have hx:x = ys[i]:=by simpa using congrArg Prod.snd hyx
   subst hy hx
   refine wpAny_bind (he i h1 h2 prog w _ _ ?_)
   cases hy:e i with
   | true =>
    wp_walk
    refine ⟨rfl,rfl,i + 1,hrest,fun k hk hk2=>?_⟩
    by_cases z:k = i
    ·rw [z]
     exact hy
    ·exact hR k (by omega) hk2
   | false =>
    have hl2:=hf i h1 h2 (fun k hk=>hR k hk (by omega)) hy prog w
    wp_walk using hl2 _ _
    exact ⟨_,rfl,h⟩
  case fin =>
   rintro ⟨b1,b2⟩ s' ⟨hb',rfl,i,hq,hR⟩
   simp only at hb'
   subst hb'
   have hge:min xs.size ys.size <= i:=by
    apply Classical.byContradiction
    intro z
    rw [List.drop_eq_getElem_cons (by omega)] at hq
    cases hq
   have hr:=hz fun j hj=>hR j (by omega) hj
   wp_walk
   refine ⟨_,rfl,?_⟩
   rw [hr] at h
   simpa [Builtin.Tuple.tupleCompareSizes] using h
  case h =>
   exact ⟨rfl,rfl,0,rfl,fun k hk=>absurd hk (Nat.not_lt_zero k)⟩
mutual
noncomputable def W4:PyData -> PyData -> Bool
 | .int a,.int b=>decide (a > b)
 | .tuple xs,.tuple ys=>gtvAll xs ys
 | _,_=>false
noncomputable def gtvAll:List PyData -> List PyData -> Bool
 | [],[]=>false
 | [],_ :: _=>false
 | _ :: _,[]=>true
 | x :: xs,y :: ys=>if PyData.eqv x y then gtvAll xs ys else W4 x y
end
theorem Nq:∀ (xs ys:List PyData),(∀ j,j < min xs.length ys.length -> pairEq xs ys j = true) -> gtvAll xs ys = decide (xs.length > ys.length)
 | [],[],_=>rfl
 | [],y :: ys,_=>by simp [gtvAll]
 | x :: xs,[],_=>by simp [gtvAll]
 | x :: xs,y :: ys,h=>by
  have h0:PyData.eqv x y = true:=h 0 (by simp only [List.length_cons]; omega)
  have ih:=Nq xs ys fun j hj=>h (j + 1) (by simp only [List.length_cons]; omega)
  rw [gtvAll,if_pos h0,ih]
  simp
mutual
theorem Qd : ∀ (da db : PyData) (A : Around) (s : Shared) (a b : Value) (as bs : List Addr), Reads s.heap a da as -> Reads s.heap b db bs -> da.canLay0 = true -> db.canLay0 = true -> Hg da db ->
  A.units + min da.depth db.depth < cLine -> dn A s a b (W4 da db)
 | .int x,db,A,s,_,_,_,_,ra,rb,_,_,hc,hu=>by
  cases db with
  | int y =>
   cases ra with
   | int _ t =>
    cases rb with
    | int _ u =>
     intro prog w E Q h
     exact richCompare_gives (op := .Gt) (typeIs_int s _ t) (typeIs_int s _ u) F.slot_int_gt F.entry_int_gt (F.args_int_gt_2 _ _) (gives_int_gt _ _ t u) (fun z=>nomatch z) h
  | none=>exact hc.elim
  | bool _=>exact hc.elim
  | str _=>exact hc.elim
  | list _=>exact hc.elim
  | tuple _=>exact hc.elim
  | dict _=>exact hc.elim
 | .tuple xs,db,A,s,_,_,_,_,ra,rb,ha,hb,hc,hu=>by
  cases db with
  | tuple ys =>
   cases ra with
   | @tuple l o vs n _ as₁ h1 h2 h3 h4 =>
    cases rb with
    | @tuple l' o' vs' n' _ bs₁ k1 k2 k3 k4 =>
     obtain ⟨oc,od,odt,osl⟩ := o
     obtain ⟨oc',od',odt',osl'⟩ := o'
     simp only at h2 h3 k2 k3
     subst h2 h3 k2 k3
     have n1:vs.size = xs.length:=by simpa using ReadsAll.length _ _ _ h4
     have n2:vs'.size = ys.length:=by simpa using ReadsAll.length _ _ _ k4
     intro prog w E Q h
     refine richCompare_meets_room (op := .Gt) ⟨_,h1,rfl⟩ ⟨_,k1,rfl⟩ F.slot_tuple_gt F.entry_tuple_gt (F.args_tuple_gt_2 _ _) (bw l l' vs vs' n n' od od' osl osl' (pairEq xs ys) (gtvAll xs ys)) ⟨h1,k1,fun j j1 j2=>?_,fun j j1 j2 f1 f2=>?_,fun f=>?_,(fun z=>nomatch z),h⟩ (room_here hu)
     ·have:=eqAt_readsAll xs ys A.in1 s vs.toList vs'.toList _ _ h4 k4 ha hb (room_in hu) j (by simpa using j1) (by simpa using j2)
      simpa using this
     ·have:=gt_readsAll xs ys A.in1 s vs.toList vs'.toList _ _ h4 k4 ha hb hc (room_in hu) j (by simpa using j1) (by simpa using j2) f1 f2
      simpa using this
     ·rw [n1,n2] at f ⊢
      exact Nq xs ys f
  | none=>exact hc.elim
  | bool _=>exact hc.elim
  | str _=>exact hc.elim
  | list _=>exact hc.elim
  | int _=>exact hc.elim
  | dict _=>exact hc.elim
 | .none,_,_,_,_,_,_,_,_,_,_,_,hc,_=>hc.elim
 | .bool _,_,_,_,_,_,_,_,_,_,_,_,hc,_=>hc.elim
 | .str _,_,_,_,_,_,_,_,_,_,_,_,hc,_=>hc.elim
 | .list _,_,_,_,_,_,_,_,_,_,_,_,hc,_=>hc.elim
 | .dict _,_,_,_,_,_,_,_,_,_,_,_,hc,_=>hc.elim
theorem gt_readsAll : ∀ (xs ys : List PyData) (A : Around) (s : Shared) (vs ws : List Value) (as bs : List Addr), ReadsAll s.heap vs xs as -> ReadsAll s.heap ws ys bs -> PyData.canLayAll0 xs = true -> PyData.canLayAll0 ys = true -> CmpbAll xs ys ->
  A.units + min (PyData.depthAll xs) (PyData.depthAll ys) < cLine -> ∀ j (h1:j < vs.length) (h2:j < ws.length),(∀ i,i < j -> pairEq xs ys i = true) -> pairEq xs ys j = false -> dn A s vs[j] ws[j] (gtvAll xs ys)
 | [],_,_,_,_,_,_,_,ra,_,_,_,_,_,j,h1,_,_,_=>by cases ra; exact absurd h1 (Nat.not_lt_zero _)
 | _ :: _,[],_,_,_,_,_,_,_,rb,_,_,_,_,j,_,h2,_,_=>by cases rb; exact absurd h2 (Nat.not_lt_zero _)
 | x :: xs,y :: ys,A,s,_,_,_,_,ra,rb,ca,cb,hc,hu,j,h1,h2,f1,f2=>by
  cases ra with
  | cons r1 r2 =>
   cases rb with
   | cons q1 q2 =>
    have ca1:x.canLay0 = true /\ PyData.canLayAll0 xs = true:=by simpa [PyData.canLayAll0] using ca
    have cb1:y.canLay0 = true /\ PyData.canLayAll0 ys = true:=by simpa [PyData.canLayAll0] using cb
    have hd:A.units + min x.depth y.depth < cLine /\ A.units + min (PyData.depthAll xs) (PyData.depthAll ys) < cLine:=by
     simp only [PyData.depthAll] at hu
     omega
    cases j with
    | zero =>
     have e:gtvAll (x :: xs) (y :: ys) = W4 x y:=by
      have f3:PyData.eqv x y = false:=f2
      rw [gtvAll,f3]
      rfl
     rw [e]
     exact Qd x y A s _ _ _ _ r1 q1 ca1.1 cb1.1 hc.1 hd.1
    | succ j =>
     have e:gtvAll (x :: xs) (y :: ys) = gtvAll xs ys:=by
      have f3:PyData.eqv x y = true:=f1 0 (Nat.succ_pos _)
      rw [gtvAll,f3]
      rfl
     rw [e]
     exact gt_readsAll xs ys A s _ _ _ _ r2 q2 ca1.2 cb1.2 hc.2 hd.2 j (Nat.lt_of_succ_lt_succ h1) (Nat.lt_of_succ_lt_succ h2) (fun i hi=>f1 (i + 1) (Nat.succ_lt_succ hi)) f2
end
section
variable {X:Cx} {k:Nat}
noncomputable def nu:R2:=fun x y H Q=>∃ d e:PyData,Rp H d x /\ Rp H e y /\ Hg d e /\ d.depth <= 60 /\ Q (.bl (W4 d e)) H
end
open PySem PySem.Spec PyProof.Rows PySem.SeqAt
theorem E6 (bt:Nat -> Nat -> Bool) (j:Nat):argBest bt (j + 1) = if bt (j + 1) (argBest bt j) = true then j + 1 else argBest bt j:=by
 first
  | rfl
  | (show (if bt (j + 1) (argBest bt j) then j + 1 else argBest bt j) = _; rfl)
section
variable {prog:Program} {w:World} {A:Around} {R:Result -> Shared -> Prop} {I S:Addr} {fp wr:List Addr} {St:Nat -> Heap -> Prop} {its:Array Value} {bt:Nat -> Nat -> Bool} {Good:Heap -> Prop}
theorem Ol {a : Args} {s : Shared} (h : wpAny (model prog w) A.in1 (Builtin.«min.loop» a) (fun fin s' => match fin with
   | .done f=>R (.ok f) s'
   | .again c'=>c'.quiet = true /\ codeAny (model prog w) A c' R s') (fun e s'=>R (.error e) s') s):codeAny (model prog w) A (.builtin "min.loop" a) R s:=by
 refine codeAny_builtin F.entry_min_loop ?_; rw [Around.under_plainId F.plain_min_loop _]
 exact h
theorem Zk (W : Walks prog w A.in1 I fp wr its.size (fun i v => its[i]? = some v) St) (hG : ∀ h h', Good h -> (∀ b o, b ∉ wr -> b ≠ S -> h.get? b = some o -> h'.get? b = some o) -> Good h')
  (hc:∀ i j vi vj (s:Shared),Good s.heap -> its[i]? = some vi -> its[j]? = some vj -> ∀ E Q,Q (.bool (bt i j)) s -> wpAny (model prog w) A.in1 (richCompare .Lt vi vj) Q E s) (hSf:S ∉ fp) :
  ∀ (k j:Nat) (s:Shared) (vb:Value) (c:Nat),its.size = j + 1 + k -> St (j + 1) s.heap -> Good s.heap -> its[argBest bt j]? = some vb ->
  s.heap.get? S = some { cls := .type "list",dict:=none,data := .seq #[vb,vb] c,slots := #[] } ->
  (∀ v h' tk,its[argBest bt (its.size - 1)]? = some v -> (∀ b o,b ∉ wr -> b ≠ S -> s.heap.get? b = some o -> h'.get? b = some o) -> R (.ok (.ret v)) { s with heap:=h',toks:=tk }) ->
  codeAny (model prog w) A (.builtin "min.loop" ⟨[.ref I,.none,.ref S],[]⟩) R s:=by
 have hSw:S ∉ wr:=fun z=>hSf (W.sub _ z)
 have nm:(toString "min" ++ toString ".loop" : String) = "min.loop" := by decide
 intro k
 induction k with
 | zero =>
  intro j s vb c hk hst hg hvb hS hR
  refine Ol ?_
  refine wpAny_bind ( wpAny_seqItems hS rfl ?_)
  show wpAny (model prog w) A.in1 (tryCatch (pyNext (.ref I)) _ >>= _) _ _ s
  have ej:j + 1 = its.size:=by omega
  refine wpAny_bind (wpAny_tryCatch (W.done s _ _ (ej ▸ hst) fun h1 tk1 k1=>?_))
  have hS1:=k1 S _ hSw hS
  show wpAny (model prog w) A.in1 (updateSeq S (fun _=>#[]) >>= _) _ _ _
  refine wpAny_bind ?_
  refine wpAny_updateSeq hS1 rfl (wpAny_bind (wpAny_letGo (wpAny_pure ?_)))
  have e2:its.size - 1 = j:=by omega
  exact hR vb _ tk1 (by rw [e2]; exact hvb) fun b o z1 z2 e=>(Heap.get?_update_other _ _ (Ne.symm z2)).trans (k1 b o z1 e)
 | succ k ih =>
  intro j s vb c hk hst hg hvb hS hR
  refine Ol ?_
  refine wpAny_bind ( wpAny_seqItems hS rfl ?_)
  show wpAny (model prog w) A.in1 (tryCatch (pyNext (.ref I)) _ >>= _) _ _ s
  refine wpAny_bind (wpAny_tryCatch (W.item (j + 1) s _ _ (by omega) hst fun v h1 tk1 hP st1 k1=>?_))
  have hS1:=k1 S _ hSw hS
  have hg1:Good h1:=hG _ _ hg fun b o z1 _ e=>k1 b o z1 e
  refine wpAny_bind (wpAny_pure ?_)
  refine wpAny_bind (wpAny_tryCatch (wpAny_holding (wpAny_bind ?_)))
  refine hc (j + 1) (argBest bt j) v vb { s with heap:=h1,toks:=tk1 } hg1 hP hvb _ _ ?_
  refine wpAny_bind (wpAny_holding (wpAny_truthy_bool ?_))
  refine wpAny_bind (wpAny_letGo (wpAny_pure ?_))
  have eb:=E6 bt j
  cases hb:bt (j + 1) (argBest bt j) with
  | true =>
   rw [hb,if_pos rfl] at eb
   simp only [if_true]
   refine wpAny_bind ?_
   refine wpAny_updateSeq hS1 rfl (wpAny_bind (wpAny_letGo ?_))
   rw [nm]
   refine wpAny_pure ⟨plainId_quiet F.plain_min_loop _,ih (j + 1) _ v _ (by omega) (W.frame _ _ _ st1 fun b z o e=>?_) (hG _ _ hg1 fun b o z1 z2 e=>(Heap.get?_update_other _ _ (Ne.symm z2)).trans e) (by rw [eb]; exact hP) (Heap.get?_update_self _ hS1 rfl) fun v2 h2 tk2 top2 k2=>?_⟩
   ·exact (Heap.get?_update_other _ _ (fun y:S = b=>hSf (by rw [y]; exact z))).trans e
   ·exact hR v2 h2 tk2 top2 fun b o z1 z2 e=>k2 b o z1 z2 ((Heap.get?_update_other _ _ (Ne.symm z2)).trans (k1 b o z1 e))
  | false =>
   rw [hb,if_neg Bool.false_ne_true] at eb
   simp only [Bool.false_eq_true,if_false]
   refine wpAny_bind (wpAny_letGo ?_)
   rw [nm]
   refine wpAny_pure ⟨plainId_quiet F.plain_min_loop _,ih (j + 1) _ vb c (by omega) st1 hg1 (by rw [eb]; exact hvb) hS1 fun v2 h2 tk2 top2 k2=>?_⟩
   exact hR v2 h2 tk2 top2 fun b o z1 z2 e=>k2 b o z1 z2 (k1 b o z1 e)
theorem Sc (W : Walks prog w A.in1 I fp wr its.size (fun i v => its[i]? = some v) St) (hG : ∀ h h', Good h -> (∀ b o, b ∉ wr -> b ≠ S -> h.get? b = some o -> h'.get? b = some o) -> Good h')
  (hc:∀ i j vi vj (s:Shared),Good s.heap -> its[i]? = some vi -> its[j]? = some vj -> ∀ E Q,Q (.bool (bt i j)) s -> wpAny (model prog w) A.in1 (richCompare .Lt vi vj) Q E s) (hSf:S ∉ fp) {s:Shared} {c:Nat} (hst:St 0 s.heap) (hg:Good s.heap)
  (hS:s.heap.get? S = some { cls := .type "list",dict:=none,data := .seq #[] c,slots := #[] }) (hn:0 < its.size)
  (hR:∀ v h' tk,its[argBest bt (its.size - 1)]? = some v -> (∀ b o,b ∉ wr -> b ≠ S -> s.heap.get? b = some o -> h'.get? b = some o) -> R (.ok (.ret v)) { s with heap:=h',toks:=tk }) :
  codeAny (model prog w) A (.builtin "min.loop" ⟨[.ref I,.none,.ref S],[]⟩) R s:=by
 have hSw:S ∉ wr:=fun z=>hSf (W.sub _ z)
 have nm:(toString "min" ++ toString ".loop" : String) = "min.loop" := by decide
 refine Ol ?_
 refine wpAny_bind ( wpAny_seqItems hS rfl ?_)
 show wpAny (model prog w) A.in1 (tryCatch (pyNext (.ref I)) _ >>= _) _ _ s
 refine wpAny_bind (wpAny_tryCatch (W.item 0 s _ _ hn hst fun v h1 tk1 hP st1 k1=>?_))
 have hS1:=k1 S _ hSw hS
 have hg1:Good h1:=hG _ _ hg fun b o z1 _ e=>k1 b o z1 e
 show wpAny (model prog w) A.in1 (updateSeq S (fun _=>#[v,v]) >>= _) _ _ _
 refine wpAny_bind ?_
 refine wpAny_updateSeq hS1 rfl ?_
 rw [nm]
 refine wpAny_pure ⟨plainId_quiet F.plain_min_loop _,Zk W hG hc hSf (its.size - 1) 0 _ v _ (by omega) (W.frame _ _ _ st1 fun b z o e=>?_) (hG _ _ hg1 fun b o z1 z2 e=>(Heap.get?_update_other _ _ (Ne.symm z2)).trans e) hP (Heap.get?_update_self _ hS1 rfl) fun v2 h2 tk2 top2 k2=>?_⟩
 ·exact (Heap.get?_update_other _ _ (fun y:S = b=>hSf (by rw [y]; exact z))).trans e
 ·exact hR v2 h2 tk2 top2 fun b o z1 z2 e=>k2 b o z1 z2 ((Heap.get?_update_other _ _ (Ne.symm z2)).trans (k1 b o z1 e))
end
section
variable {prog:Program} {w:World} {A:Around} {R:Result -> Shared -> Prop} {I S:Addr} {fp wr:List Addr} {St:Nat -> Heap -> Prop} {its:Array Value} {bt:Nat -> Nat -> Bool} {Good:Heap -> Prop}
theorem Pb {a : Args} {s : Shared} (h : wpAny (model prog w) A.in1 (Builtin.«max.loop» a) (fun fin s' => match fin with
   | .done f=>R (.ok f) s'
   | .again c'=>c'.quiet = true /\ codeAny (model prog w) A c' R s') (fun e s'=>R (.error e) s') s):codeAny (model prog w) A (.builtin "max.loop" a) R s:=by
 refine codeAny_builtin F.entry_max_loop ?_; rw [Around.under_plainId F.plain_max_loop _]
 exact h
theorem Z5 (W : Walks prog w A.in1 I fp wr its.size (fun i v => its[i]? = some v) St) (hG : ∀ h h', Good h -> (∀ b o, b ∉ wr -> b ≠ S -> h.get? b = some o -> h'.get? b = some o) -> Good h')
  (hc:∀ i j vi vj (s:Shared),Good s.heap -> its[i]? = some vi -> its[j]? = some vj -> ∀ E Q,Q (.bool (bt i j)) s -> wpAny (model prog w) A.in1 (richCompare .Gt vi vj) Q E s) (hSf:S ∉ fp) :
  ∀ (k j:Nat) (s:Shared) (vb:Value) (c:Nat),its.size = j + 1 + k -> St (j + 1) s.heap -> Good s.heap -> its[argBest bt j]? = some vb ->
  s.heap.get? S = some { cls := .type "list",dict:=none,data := .seq #[vb,vb] c,slots := #[] } ->
  (∀ v h' tk,its[argBest bt (its.size - 1)]? = some v -> (∀ b o,b ∉ wr -> b ≠ S -> s.heap.get? b = some o -> h'.get? b = some o) -> R (.ok (.ret v)) { s with heap:=h',toks:=tk }) ->
  codeAny (model prog w) A (.builtin "max.loop" ⟨[.ref I,.none,.ref S],[]⟩) R s:=by
 have hSw:S ∉ wr:=fun z=>hSf (W.sub _ z)
 have nm:(toString "max" ++ toString ".loop" : String) = "max.loop" := by decide
 intro k
 induction k with
 | zero =>
  intro j s vb c hk hst hg hvb hS hR
  refine Pb ?_
  refine wpAny_bind ( wpAny_seqItems hS rfl ?_)
  show wpAny (model prog w) A.in1 (tryCatch (pyNext (.ref I)) _ >>= _) _ _ s
  have ej:j + 1 = its.size:=by omega
  refine wpAny_bind (wpAny_tryCatch (W.done s _ _ (ej ▸ hst) fun h1 tk1 k1=>?_))
  have hS1:=k1 S _ hSw hS
  show wpAny (model prog w) A.in1 (updateSeq S (fun _=>#[]) >>= _) _ _ _
  refine wpAny_bind ?_
  refine wpAny_updateSeq hS1 rfl (wpAny_bind (wpAny_letGo (wpAny_pure ?_)))
  have e2:its.size - 1 = j:=by omega
  exact hR vb _ tk1 (by rw [e2]; exact hvb) fun b o z1 z2 e=>(Heap.get?_update_other _ _ (Ne.symm z2)).trans (k1 b o z1 e)
 | succ k ih =>
  intro j s vb c hk hst hg hvb hS hR
  refine Pb ?_
  refine wpAny_bind ( wpAny_seqItems hS rfl ?_)
  show wpAny (model prog w) A.in1 (tryCatch (pyNext (.ref I)) _ >>= _) _ _ s
  refine wpAny_bind (wpAny_tryCatch (W.item (j + 1) s _ _ (by omega) hst fun v h1 tk1 hP st1 k1=>?_))
  have hS1:=k1 S _ hSw hS
  have hg1:Good h1:=hG _ _ hg fun b o z1 _ e=>k1 b o z1 e
  refine wpAny_bind (wpAny_pure ?_)
  refine wpAny_bind (wpAny_tryCatch (wpAny_holding (wpAny_bind ?_)))
  refine hc (j + 1) (argBest bt j) v vb { s with heap:=h1,toks:=tk1 } hg1 hP hvb _ _ ?_
  refine wpAny_bind (wpAny_holding (wpAny_truthy_bool ?_))
  refine wpAny_bind (wpAny_letGo (wpAny_pure ?_))
  have eb:=E6 bt j
  cases hb:bt (j + 1) (argBest bt j) with
  | true =>
   rw [hb,if_pos rfl] at eb
   simp only [if_true]
   refine wpAny_bind ?_
   refine wpAny_updateSeq hS1 rfl (wpAny_bind (wpAny_letGo ?_))
   rw [nm]
   refine wpAny_pure ⟨plainId_quiet F.plain_max_loop _,ih (j + 1) _ v _ (by omega) (W.frame _ _ _ st1 fun b z o e=>?_) (hG _ _ hg1 fun b o z1 z2 e=>(Heap.get?_update_other _ _ (Ne.symm z2)).trans e) (by rw [eb]; exact hP) (Heap.get?_update_self _ hS1 rfl) fun v2 h2 tk2 top2 k2=>?_⟩
   ·exact (Heap.get?_update_other _ _ (fun y:S = b=>hSf (by rw [y]; exact z))).trans e
   ·exact hR v2 h2 tk2 top2 fun b o z1 z2 e=>k2 b o z1 z2 ((Heap.get?_update_other _ _ (Ne.symm z2)).trans (k1 b o z1 e))
  | false =>
   rw [hb,if_neg Bool.false_ne_true] at eb
   simp only [Bool.false_eq_true,if_false]
   refine wpAny_bind (wpAny_letGo ?_)
   rw [nm]
   refine wpAny_pure ⟨plainId_quiet F.plain_max_loop _,ih (j + 1) _ vb c (by omega) st1 hg1 (by rw [eb]; exact hvb) hS1 fun v2 h2 tk2 top2 k2=>?_⟩
   exact hR v2 h2 tk2 top2 fun b o z1 z2 e=>k2 b o z1 z2 (k1 b o z1 e)
theorem Sz (W : Walks prog w A.in1 I fp wr its.size (fun i v => its[i]? = some v) St) (hG : ∀ h h', Good h -> (∀ b o, b ∉ wr -> b ≠ S -> h.get? b = some o -> h'.get? b = some o) -> Good h')
  (hc:∀ i j vi vj (s:Shared),Good s.heap -> its[i]? = some vi -> its[j]? = some vj -> ∀ E Q,Q (.bool (bt i j)) s -> wpAny (model prog w) A.in1 (richCompare .Gt vi vj) Q E s) (hSf:S ∉ fp) {s:Shared} {c:Nat} (hst:St 0 s.heap) (hg:Good s.heap)
  (hS:s.heap.get? S = some { cls := .type "list",dict:=none,data := .seq #[] c,slots := #[] }) (hn:0 < its.size)
  (hR:∀ v h' tk,its[argBest bt (its.size - 1)]? = some v -> (∀ b o,b ∉ wr -> b ≠ S -> s.heap.get? b = some o -> h'.get? b = some o) -> R (.ok (.ret v)) { s with heap:=h',toks:=tk }) :
  codeAny (model prog w) A (.builtin "max.loop" ⟨[.ref I,.none,.ref S],[]⟩) R s:=by
 have hSw:S ∉ wr:=fun z=>hSf (W.sub _ z)
 have nm:(toString "max" ++ toString ".loop" : String) = "max.loop" := by decide
 refine Pb ?_
 refine wpAny_bind ( wpAny_seqItems hS rfl ?_)
 show wpAny (model prog w) A.in1 (tryCatch (pyNext (.ref I)) _ >>= _) _ _ s
 refine wpAny_bind (wpAny_tryCatch (W.item 0 s _ _ hn hst fun v h1 tk1 hP st1 k1=>?_))
 have hS1:=k1 S _ hSw hS
 have hg1:Good h1:=hG _ _ hg fun b o z1 _ e=>k1 b o z1 e
 show wpAny (model prog w) A.in1 (updateSeq S (fun _=>#[v,v]) >>= _) _ _ _
 refine wpAny_bind ?_
 refine wpAny_updateSeq hS1 rfl ?_
 rw [nm]
 refine wpAny_pure ⟨plainId_quiet F.plain_max_loop _,Z5 W hG hc hSf (its.size - 1) 0 _ v _ (by omega) (W.frame _ _ _ st1 fun b z o e=>?_) (hG _ _ hg1 fun b o z1 z2 e=>(Heap.get?_update_other _ _ (Ne.symm z2)).trans e) hP (Heap.get?_update_self _ hS1 rfl) fun v2 h2 tk2 top2 k2=>?_⟩
 ·exact (Heap.get?_update_other _ _ (fun y:S = b=>hSf (by rw [y]; exact z))).trans e
 ·exact hR v2 h2 tk2 top2 fun b o z1 z2 e=>k2 b o z1 z2 ((Heap.get?_update_other _ _ (Ne.symm z2)).trans (k1 b o z1 e))
end
open PySem PySem.Spec PyProof.Rows PySem.SeqAt
theorem Jb {H:Hp}:∀ {ds:List PyData} {us:List V} {i:Nat} {d:PyData},RpAll H ds us -> ds[i]? = some d -> ∃ u,us[i]? = some u /\ Rp H d u
 | [],_,i,d,_,e=>by simp at e
 | x :: ds,us,0,d,h,e=>by
  unfold RpAll at h
  obtain ⟨u,us',rfl,h1,_⟩ := h
  cases e
  exact ⟨u,rfl,h1⟩
 | x :: ds,us,i + 1,d,h,e=>by
  unfold RpAll at h
  obtain ⟨u,us',rfl,_,h2⟩ := h
  obtain ⟨u2,e1,e2⟩ := Jb (i:=i) h2 (by simpa using e)
  exact ⟨u2,by simpa using e1,e2⟩
theorem Eu {H:Hp}:∀ {ds:List PyData} {us:List V},RpAll H ds us -> us.length = ds.length
 | [],us,h=>by
  unfold RpAll at h
  rw [h]
  rfl
 | x :: ds,us,h=>by
  unfold RpAll at h
  obtain ⟨u,us',rfl,_,h2⟩ := h
  rw [List.length_cons,List.length_cons,Eu h2]
theorem I9 {xs:List V} {us:List Value} {i:Nat} {u:Value} (r:B6 xs us) (h:us[i]? = some u):∃ x,xs[i]? = some x /\ Ax x u:=by
 have hi:=(List.getElem?_eq_some_iff.mp h).1
 have hl:=r.length
 obtain ⟨u2,e1,e2⟩ := r.get (List.getElem?_eq_getElem (show i < xs.length by omega))
 rw [h] at e1
 cases e1
 exact ⟨_,List.getElem?_eq_getElem (by omega),e2⟩
section
variable {X:Cx} {k:Nat}
theorem Vg (a:Value):argsOk "min" ⟨[a],[]⟩ := by
 unfold argsOk
 kernel_rfl
noncomputable def Jy (ds:List PyData):Nat:=argBest (fun i j=>Io (ds.getD i .none) (ds.getD j .none)) (ds.length - 1)
theorem br {pins : List (Addr × Obj)} {s : Shared} {σ : St} {H : Hp} {us : List V} {its : List Value} {ds : List PyData} (hr : De k X.A) (I : Ai X pins σ H s) (rv : B6 us its) (hd : RpAll H ds us) (hcm : ∀ d ∈ ds, ∀ e ∈ ds, Hg d e) (hdp : ∀ d ∈ ds, d.depth <= 50) (i j : Nat) (vi vj : Value) (s' : Shared)
  (hk:∀ b o,s.heap.get? b = some o -> s'.heap.get? b = some o) (h1:its.toArray[i]? = some vi) (h2:its.toArray[j]? = some vj) (E Q:Value -> Shared -> Prop) (q:Q (.bool (Io (ds.getD i .none) (ds.getD j .none))) s'):wpAny (model X.prog X.w) X.A.in1 (richCompare .Lt vi vj) Q E s':=by
 have hl:=Eu hd
 have get:∀ (m:Nat) (vm:Value),its.toArray[m]? = some vm -> ∃ x,Ax x vm /\ Rp H (ds.getD m .none) x /\ ds.getD m .none ∈ ds:=fun m vm h=>by
  obtain ⟨x,e1,e2⟩ := I9 rv (by simpa using h)
  have hm:m < ds.length:=by
   have:=(List.getElem?_eq_some_iff.mp e1).1
   omega
  have e3:ds[m]? = some (ds.getD m .none):=by
   rw [List.getD_eq_getElem?_getD,List.getElem?_eq_getElem hm]
   rfl
  obtain ⟨x2,f1,f2⟩ := Jb hd e3
  rw [e1] at f1
  cases f1
  exact ⟨x,e2,f2,List.mem_of_getElem? e3⟩
 obtain ⟨x,rx,px,mx⟩ := get i vi h1
 obtain ⟨y,ry,py,my⟩ := get j vj h2
 have I':Ai X pins σ H { s with heap:=s'.heap,toks:=s'.toks }:=I.kept (t':=s'.toks) hk
 obtain ⟨as,q1⟩ := Cw I' _ x vi px rx
 obtain ⟨bs,q2⟩ := Cw I' _ y vj py ry
 have hu:=hr.units
 have d1:=hdp _ mx
 exact Hn _ _ X.A.in1 s' vi vj as bs q1 q2 (Cl _ x px) (Cl _ y py) (hcm _ mx _ my) (by show X.A.units + 1 + _ < _; omega) _ _ _ _ q
noncomputable def jp (K:PySem.W.Frag):List V -> Hp -> VK -> Prop:=fun xs H Q=>∃ (p:Addr) (us:List V) (ds:List PyData),xs = [.ref p] /\ Bo K H p us /\ RpAll H ds us /\ 0 < us.length /\ (∀ d ∈ ds,∀ e ∈ ds,Hg d e) /\ (∀ d ∈ ds,d.depth <= 50) /\ ∀ v,us[Jy ds]? = some v -> Q v H
theorem Ux (K:PySem.W.Frag) (hr:De k X.A) (hc:X.calm = true) (hK:X.K = K:=by rfl):E1 X (.builtin "min") (jp K):=by
 subst hK
 intro pins s σ H xs us0 Q I r h
 obtain ⟨p,us,ds,rfl,hq,hd,hne,hcm,hdp,q⟩ := h
 obtain ⟨u,rfl,rx⟩ := Jn r
 cases rx
 obtain ⟨its,rv,pl,hz⟩ := I.list hq
 have hl:=Eu hd
 have hil:=rv.length
 have nm:(toString "min" ++ toString ".loop" : String) = "min.loop" := by decide
 refine Nl (args:=⟨[.ref p],[]⟩) F.kind_min F.plain_min F.entry_min (Vg _) ?_
 show wpAny (model X.prog X.w) X.A.in1 (Builtin.Builtins.bindParams "min" ["key","default"] 0 ⟨[],[]⟩ >>= _) _ _ s
 refine wpAny_bind (wpAny_of_eq (show Builtin.Builtins.bindParams "min" ["key","default"] 0 ⟨[],[]⟩ = pure [none,none] from ?_) ?_)
 ·kernel_rfl
 refine wpAny_bind (wpAny_pure ?_)
 refine wpAny_bind (wpAny_pyIter_list pl.isList ?_)
 refine wpAny_bind (wpAny_newObj_type ?_)
 rw [nm]
 refine wpAny_pure ⟨plainId_quiet F.plain_min_loop _,?_⟩
 have hplt:p < s.heap.objs.size:=pl.lt
 have W:=Walks.list (prog:=X.prog) (w:=X.w) (A:=X.A.in1) (I.ok.hd hc) s.heap.objs.size p (Nat.ne_of_lt hplt) its.toArray
 have hsz:(s.heap.push { cls := .type "list_iterator",data := .fields #[.ref p,.int 0 0] }).objs.size = s.heap.objs.size + 1:=by simp [Heap.push]
 refine Sc (S:=(s.heap.push { cls := .type "list_iterator",data := .fields #[.ref p,.int 0 0] }).objs.size) (bt:=fun i j=>Io (ds.getD i .none) (ds.getD j .none)) (Good:=fun h=>∀ b o,s.heap.get? b = some o -> h.get? b = some o) W (fun h h' g kk b o e=>kk b o ?_ ?_ (g b o e)) (fun i j vi vj s' g h1 h2 E Q' q'=>br hr I rv hd hcm hdp i j vi vj s' g h1 h2 E Q' q') ?_ ⟨⟨_,Heap.get?_push_of_some _ (Heap.get?_push_size _ rfl),rfl,rfl⟩,?_⟩ (fun b o e=>Heap.get?_push_of_some _ (Heap.get?_push_of_some _ e)) (Heap.get?_push_size _ rfl) (by simp; omega) (fun v h' tk e kk=>?_)
 ·exact fun z=>Nat.ne_of_lt (Heap.lt_size e) (by simpa using z)
 ·rw [hsz]
  exact Nat.ne_of_lt (Nat.lt_succ_of_lt (Heap.lt_size e))
 ·rw [hsz]
  intro z
  have z':s.heap.objs.size + 1 = s.heap.objs.size \/ s.heap.objs.size + 1 = p:=by simpa using z
  rcases z' with z' | z'
  ·exact Nat.succ_ne_self _ z'
  ·exact Nat.lt_irrefl _ (Nat.lt_trans (Nat.lt_succ_self _) (z'.symm ▸ hplt:s.heap.objs.size + 1 < s.heap.objs.size))
 ·obtain ⟨o,ho,r1⟩ := pl.isList
  exact ⟨o,Heap.get?_push_of_some _ (Heap.get?_push_of_some _ ho),r1⟩
 ·have hsi : its.toArray.size - 1 = ds.length - 1 := by
   simp
   omega
  rw [hsi] at e
  obtain ⟨x,e1,e2⟩ := I9 rv (by simpa using e)
  refine ⟨x,H,I.kept (t':=tk) (fun b o z=>kk b o ?_ ?_ (Heap.get?_push_of_some _ (Heap.get?_push_of_some _ z))),e2,q x e1⟩
  ·exact fun y=>Nat.ne_of_lt (Heap.lt_size z) (by simpa using y)
  ·rw [hsz]
   exact Nat.ne_of_lt (Nat.lt_succ_of_lt (Heap.lt_size z))
end
section
variable {X:Cx} {k:Nat}
theorem Uv (a:Value):argsOk "max" ⟨[a],[]⟩ := by
 unfold argsOk
 kernel_rfl
noncomputable def Dq (ds:List PyData):Nat:=argBest (fun i j=>W4 (ds.getD i .none) (ds.getD j .none)) (ds.length - 1)
theorem cp {pins : List (Addr × Obj)} {s : Shared} {σ : St} {H : Hp} {us : List V} {its : List Value} {ds : List PyData} (hr : De k X.A) (I : Ai X pins σ H s) (rv : B6 us its) (hd : RpAll H ds us) (hcm : ∀ d ∈ ds, ∀ e ∈ ds, Hg d e) (hdp : ∀ d ∈ ds, d.depth <= 50) (i j : Nat) (vi vj : Value) (s' : Shared)
  (hk:∀ b o,s.heap.get? b = some o -> s'.heap.get? b = some o) (h1:its.toArray[i]? = some vi) (h2:its.toArray[j]? = some vj) (E Q:Value -> Shared -> Prop) (q:Q (.bool (W4 (ds.getD i .none) (ds.getD j .none))) s'):wpAny (model X.prog X.w) X.A.in1 (richCompare .Gt vi vj) Q E s':=by
 have hl:=Eu hd
 have get:∀ (m:Nat) (vm:Value),its.toArray[m]? = some vm -> ∃ x,Ax x vm /\ Rp H (ds.getD m .none) x /\ ds.getD m .none ∈ ds:=fun m vm h=>by
  obtain ⟨x,e1,e2⟩ := I9 rv (by simpa using h)
  have hm:m < ds.length:=by
   have:=(List.getElem?_eq_some_iff.mp e1).1
   omega
  have e3:ds[m]? = some (ds.getD m .none):=by
   rw [List.getD_eq_getElem?_getD,List.getElem?_eq_getElem hm]
   rfl
  obtain ⟨x2,f1,f2⟩ := Jb hd e3
  rw [e1] at f1
  cases f1
  exact ⟨x,e2,f2,List.mem_of_getElem? e3⟩
 obtain ⟨x,rx,px,mx⟩ := get i vi h1
 obtain ⟨y,ry,py,my⟩ := get j vj h2
 have I':Ai X pins σ H { s with heap:=s'.heap,toks:=s'.toks }:=I.kept (t':=s'.toks) hk
 obtain ⟨as,q1⟩ := Cw I' _ x vi px rx
 obtain ⟨bs,q2⟩ := Cw I' _ y vj py ry
 have hu:=hr.units
 have d1:=hdp _ mx
 exact Qd _ _ X.A.in1 s' vi vj as bs q1 q2 (Cl _ x px) (Cl _ y py) (hcm _ mx _ my) (by show X.A.units + 1 + _ < _; omega) _ _ _ _ q
noncomputable def gy (K:PySem.W.Frag):List V -> Hp -> VK -> Prop:=fun xs H Q=>∃ (p:Addr) (us:List V) (ds:List PyData),xs = [.ref p] /\ Bo K H p us /\ RpAll H ds us /\ 0 < us.length /\ (∀ d ∈ ds,∀ e ∈ ds,Hg d e) /\ (∀ d ∈ ds,d.depth <= 50) /\ ∀ v,us[Dq ds]? = some v -> Q v H
theorem V1 (K:PySem.W.Frag) (hr:De k X.A) (hc:X.calm = true) (hK:X.K = K:=by rfl):E1 X (.builtin "max") (gy K):=by
 subst hK
 intro pins s σ H xs us0 Q I r h
 obtain ⟨p,us,ds,rfl,hq,hd,hne,hcm,hdp,q⟩ := h
 obtain ⟨u,rfl,rx⟩ := Jn r
 cases rx
 obtain ⟨its,rv,pl,hz⟩ := I.list hq
 have hl:=Eu hd
 have hil:=rv.length
 have nm:(toString "max" ++ toString ".loop" : String) = "max.loop" := by decide
 refine Nl (args:=⟨[.ref p],[]⟩) F.kind_max F.plain_max F.entry_max (Uv _) ?_
 show wpAny (model X.prog X.w) X.A.in1 (Builtin.Builtins.bindParams "max" ["key","default"] 0 ⟨[],[]⟩ >>= _) _ _ s
 refine wpAny_bind (wpAny_of_eq (show Builtin.Builtins.bindParams "max" ["key","default"] 0 ⟨[],[]⟩ = pure [none,none] from ?_) ?_)
 ·kernel_rfl
 refine wpAny_bind (wpAny_pure ?_)
 refine wpAny_bind (wpAny_pyIter_list pl.isList ?_)
 refine wpAny_bind (wpAny_newObj_type ?_)
 rw [nm]
 refine wpAny_pure ⟨plainId_quiet F.plain_max_loop _,?_⟩
 have hplt:p < s.heap.objs.size:=pl.lt
 have W:=Walks.list (prog:=X.prog) (w:=X.w) (A:=X.A.in1) (I.ok.hd hc) s.heap.objs.size p (Nat.ne_of_lt hplt) its.toArray
 have hsz:(s.heap.push { cls := .type "list_iterator",data := .fields #[.ref p,.int 0 0] }).objs.size = s.heap.objs.size + 1:=by simp [Heap.push]
 refine Sz (S:=(s.heap.push { cls := .type "list_iterator",data := .fields #[.ref p,.int 0 0] }).objs.size) (bt:=fun i j=>W4 (ds.getD i .none) (ds.getD j .none)) (Good:=fun h=>∀ b o,s.heap.get? b = some o -> h.get? b = some o) W (fun h h' g kk b o e=>kk b o ?_ ?_ (g b o e)) (fun i j vi vj s' g h1 h2 E Q' q'=>cp hr I rv hd hcm hdp i j vi vj s' g h1 h2 E Q' q') ?_ ⟨⟨_,Heap.get?_push_of_some _ (Heap.get?_push_size _ rfl),rfl,rfl⟩,?_⟩ (fun b o e=>Heap.get?_push_of_some _ (Heap.get?_push_of_some _ e)) (Heap.get?_push_size _ rfl) (by simp; omega) (fun v h' tk e kk=>?_)
 ·exact fun z=>Nat.ne_of_lt (Heap.lt_size e) (by simpa using z)
 ·rw [hsz]
  exact Nat.ne_of_lt (Nat.lt_succ_of_lt (Heap.lt_size e))
 ·rw [hsz]
  intro z
  have z':s.heap.objs.size + 1 = s.heap.objs.size \/ s.heap.objs.size + 1 = p:=by simpa using z
  rcases z' with z' | z'
  ·exact Nat.succ_ne_self _ z'
  ·exact Nat.lt_irrefl _ (Nat.lt_trans (Nat.lt_succ_self _) (z'.symm ▸ hplt:s.heap.objs.size + 1 < s.heap.objs.size))
 ·obtain ⟨o,ho,r1⟩ := pl.isList
  exact ⟨o,Heap.get?_push_of_some _ (Heap.get?_push_of_some _ ho),r1⟩
 ·have hsi : its.toArray.size - 1 = ds.length - 1 := by
   simp
   omega
  rw [hsi] at e
  obtain ⟨x,e1,e2⟩ := I9 rv (by simpa using e)
  refine ⟨x,H,I.kept (t':=tk) (fun b o z=>kk b o ?_ ?_ (Heap.get?_push_of_some _ (Heap.get?_push_of_some _ z))),e2,q x e1⟩
  ·exact fun y=>Nat.ne_of_lt (Heap.lt_size z) (by simpa using y)
  ·rw [hsz]
   exact Nat.ne_of_lt (Nat.lt_succ_of_lt (Heap.lt_size z))
end
section
variable {prog:Program} {w:World} {K:Type} [DecidableEq K] {knd:HeapKind prog w K} {A:Around} {E:Value -> Shared -> Prop} {s:Shared} {d:Addr} {xs:List (K × Addr × Value)}
theorem S6 (knd : HeapKind prog w K) (hd : (d == sysModules) = false) :
  MeetsIn prog w (Builtin.«dict.__len__» ⟨[.ref d],[]⟩) (fun _ R s=>∃ xs,s.heap.DictOfH knd d xs /\ R (.ok (.ret (.int xs.length s.toks))) { s with toks:=s.toks + 1 }) :=
 .of_wp fun A R s ⟨xs,hm,h⟩=>by
  obtain ⟨o,es,ep,ho,hc,hdat,he,his,hn⟩ := hm
  show wpAny _ _ (dictSize d >>= _) _ _ s
  unfold dictSize
  refine wpAny_bind (wpAny_bind (wpAny_dictEntries ho hdat (wpAny_pure ?_)))
  show wpAny _ _ (Builtin.Dict.pendingCount d >>= _) _ _ s
  refine wpAny_bind (wpAny_pendingCount_other hd ?_)
  refine wpAny_ret_mkInt ?_
  have e:es.size = xs.length:=size_of_entries he
  rw [Nat.add_zero,e]
  exact h
theorem Vm {Q : Value -> Shared -> Prop} (hd : (d == sysModules) = false) (hm : s.heap.DictOfH knd d xs) (hfit : (xs.length : Int) < 2 ^ 63)
  (h:Q (.int xs.length (s.toks + 1)) { s with toks:=s.toks + 1 + 1 }):wpAny (model prog w) A (Builtin.«len» ⟨[.ref d],[]⟩) (fun fin s'=>∃ r,fin = .done (.ret r) /\ Q r s') E s:=by
 unfold Builtin.«len»
 refine wpAny_bind (m:=oneArg "len" _) (wpAny_pure ?_)
 refine wpAny_bind (m:=callSpecial? (.ref d) (Str.ofString "__len__")) (wpAny_callSpecial?_slot (name:=Str.ofString "__len__") hm.typeIs F.slot_dict_len
  (call_meetsIn F.slot_dict_len hm.typeIs F.entry_dict_len (F.args_dict_len_1 _) (S6 knd hd) ⟨xs,hm,?_⟩))
 show wpAny _ _ _ _ _ { s with toks:=s.toks + 1 }
 refine wpAny_bind (wpAny_holding (wpAny_pure ?_))
 refine wpAny_bind (wpAny_letGo ?_)
 show wpAny _ _ (if ((xs.length:Nat):Int) < 0 then _ else _) _ _ _
 rw [if_neg (by omega)]
 show wpAny _ _ (if ((xs.length:Nat):Int) >= 2 ^ 63 then _ else _) _ _ _
 rw [if_neg (by omega)]
 exact wpAny_bind (wpAny_mkInt (wpAny_pure ⟨_,rfl,h⟩))
theorem mz {Q : Value -> Shared -> Prop} (hd : (d == sysModules) = false) (hm : s.heap.DictOfH knd d xs) (hfit : (xs.length : Int) < 2 ^ 63)
  (h:Q (.int xs.length (s.toks + 1)) { s with toks:=s.toks + 1 + 1 }):wpAny (model prog w) A (call (.builtin "len") [.ref d]) Q E s :=
 Calls.call_function_entry kind_len plain_len entry_len (args_len1 _) (Vm hd hm hfit h)
end
section
variable {X:Cx}
theorem Jc:E1 X (.builtin "len") (fun xs H Q=>∃ d kvs,xs = [.ref d] /\ H d = some (.dT kvs) /\ Q (.int kvs.length) H):=by
 intro pins s σ H xs us Q I r h
 obtain ⟨d,kvs,rfl,hd,q⟩ := h
 obtain ⟨u,rfl,rx⟩ := Jn r
 cases rx
 obtain ⟨z0,hs,vs,rel,dd⟩ := U9 I.hok hd
 have hl:=Paired.length rel
 have h24:sizeLine < 2 ^ 30:=by decide
 refine mz hs dd (by omega) ⟨.int kvs.length,H,I.tok _,⟨_,by rw [hl]⟩,q⟩
end
section
variable {X:Cx} {pos:Pos} {ke ve:Expr} {tk tv:TE}
noncomputable def cw (tk tv:TE):TE:=fun σ H Q=>∀ p,H p = none -> S0 [(tk,tv)] σ (upd H p (.dT [])) fun ps H2=>H2 p = some (.dT []) /\ ∃ b k y,ps = [(.ref b,y)] /\ E2 H2 b k /\ Q (.ref p) (upd H2 p (.dT [(k,y)]))
theorem Y6 (hu:X.A.units + 20 < cLine) (hk:PE X ke tk) (hv:PE X ve tv):PE X (.Dict [some ke] [ve] pos) (cw tk tv):=by
 intro pins s σ H Q I q
 have hn:=I.hok.fresh (Nat.le_refl s.heap.objs.size)
 have I1:=I.laid (a:=s.heap.objs.size) (o := .dT []) (h':=s.heap.push { cls := .type "dict",data := .dict #[] }) (t':=s.toks) (fun _ _ q=>Heap.get?_push_of_some _ q) (Nat.le_refl _) (Pl s.heap I.big)
 have h:kz X pos [some ke] [ve] [(tk,tv)]:=Wx hk hv Yq
 rw [arm_eval_Dict,zip_pairTrees [some ke] [ve] X.env pos rfl rfl,dictDisplay_pairs _ (by intro e; cases e) (by show 1 < 17; decide)]
 refine wpAny_bind (wpAny_standAt (wpAny_bind ?_))
 unfold subDict
 refine wpAny_bind (wpAny_alloc ?_)
 refine wpAny_bind (wpAny_holding ?_)
 rw [if_pos (show (pairTrees [some ke] [ve] X.env pos).length <= 15 by show 1 <= 15; decide)]
 refine wpAny_bind (C7 (h pins _ σ _ _ I1 (q _ hn)) fun ws s2 hz0=>?_)
 obtain ⟨ps,H2,I2,rel,e,b,k,y,ep,hb,q2⟩ := hz0
 subst ep
 cases rel with
 | @cons pa qa as bs r0 rr =>
  cases rr
  obtain ⟨w1,w2⟩ := qa
  obtain ⟨ra,ry⟩ := r0
  obtain rfl:w1 = Value.ref b:=ra
  obtain ⟨z0,hd,xs,rel2,dd⟩ := U9 I2.hok e
  cases rel2
  refine wpAny_holding ?_
  rw [List.forIn_cons]
  refine wpAny_bind (wpAny_bind (wpAny_bind (wpAny_dictSet_heap (show (C9 X.prog X.w).room X.A from (show X.A.units + 8 < cLine by omega)) (Fi I2.hok hb) dd (fun h' dd' hs=>wpAny_pure ?_) (by show 0 <= _; exact Nat.zero_le _))))
  show wpAny _ _ (forIn ([]:List (Value × Value)) PUnit.unit _) _ _ _
  rw [List.forIn_nil]
  refine wpAny_pure (wpAny_pure (wpAny_pure (wpAny_pure ⟨.ref s.heap.objs.size,_,?_,rfl,q2⟩)))
  obtain ⟨qo,es,ep,hq,g2,g3,g4,_,g5⟩ := dd'
  have e0:storedH ([]:List ((List Int × Int) × Addr × Value)) k b w2 = [(k,b,w2)]:=rfl
  rw [e0] at g4 g5
  refine Ht I2 (by rw [e]; exact True.intro) hs ⟨qo,hq⟩ ⟨by show 1 <= sizeLine; decide,hd,_,KT.keeps (.cons ⟨rfl,hb,ry⟩ .nil) (fun c ys ec=>?_),qo,es,ep,hq,g2,g3,g4,g5⟩
  rw [Ac (Bl ec e (fun z=>nomatch z))]
  exact ec
end
section
variable {P:Program} {w:World} {A:Around} {E:Value -> Shared -> Prop} {s:Shared}
end
section
variable {X:Cx}
end
section
variable {X:Cx} {pins:List (Addr × Obj)} {σ:St} {H:Hp} {s:Shared} {k:Nat}
theorem Q0 (I:Ai X pins σ H s) {d:PyData}:∀ {ds:List PyData} {vs:List V} {us:List Value},RpAll H ds vs -> B6 vs us -> ds.length = us.length /\ ∀ (m:Nat) (w:Value) (e:PyData),us[m]? = some w -> ds[m]? = some e -> I8 s.heap d w = PyData.eqv e d
 | [],vs,us,h,r=>by
  unfold RpAll at h
  subst h
  cases r
  exact ⟨rfl,fun m w e z=>by simp at z⟩
 | e :: ds,vs,us,h,r=>by
  unfold RpAll at h
  obtain ⟨x,xs,rfl,h1,h2⟩ := h
  cases r with
  | cons r1 r2 =>
   obtain ⟨as,q⟩ := Ge I h1 r1
   obtain ⟨l,ih⟩ := Q0 I h2 r2
   refine ⟨by rw [List.length_cons,List.length_cons,l],fun m w e' z1 z2=>?_⟩
   cases m with
   | zero =>
    rw [List.getElem?_cons_zero] at z1 z2
    cases z1
    cases z2
    exact L6 q (Cl e x h1)
   | succ m =>
    rw [List.getElem?_cons_succ] at z1 z2
    exact ih m w e' z1 z2
noncomputable def Zw (K:PySem.W.Frag):V -> List V -> Hp -> VK -> Prop:=fun x vs H Q=>∃ (l:Addr) (us:List V) (y:V) (d:PyData) (ds:List PyData) (j:Nat),x = .ref l /\ vs = [y] /\ Bo K H l us /\ Rp H d y /\ RpAll H ds us /\ d.depth <= 50 /\ (∃ e,ds[j]? = some e /\ PyData.eqv e d = true) /\ (∀ m e,m < j -> ds[m]? = some e -> PyData.eqv e d = false) /\ Q (.int (j:Nat)) H
theorem Vu (hr:De k X.A):jd X "list.index" (Zw X.K):=by
 intro pins s σ H x vs v us Q I rx rv h
 obtain ⟨l,ys,y,d,ds,j,rfl,rfl,hq,hy,hall,hdep,⟨e0,hj,he0⟩,hno,q⟩ := h
 cases rx
 obtain ⟨u,rfl,ru⟩ := rv.one
 obtain ⟨its,r,pl,hz⟩ := I.list hq
 obtain ⟨⟨oc,od,odt,osl⟩,n,e,hc,hd,hs⟩ := pl
 obtain rfl:oc = .type "list" := hc
 obtain rfl:odt = .seq its.toArray n:=hs
 have hlen:=r.length
 have hu:=hr.units
 obtain ⟨hl2,hat⟩ := Q0 (d:=d) I hall r
 have hjn:j < ds.length:=(List.getElem?_eq_some_iff.mp hj).1
 have h63:=Gx
 refine call_meets F.slot_list_index ⟨_,e,rfl⟩ F.entry_list_index (F.args_list_index_2 _ _) (PySem.SeqAt.list_indexAt l its.toArray n od osl u (I8 s.heap d) j (by rw [List.size_toArray]; omega) ?_ ?_ ?_) ⟨e,fun z hz'=>?_,?_⟩
 ·omega
 ·have hj2:j < its.length:=by omega
  have e1:its.toArray[j]'(by rw [List.size_toArray]; omega) = its[j]:=by simp
  rw [e1,hat j its[j] e0 (List.getElem?_eq_getElem hj2) hj]
  exact he0
 ·intro m hm hmj
  rw [List.size_toArray] at hm
  have e1:its.toArray[m]'(by rw [List.size_toArray]; omega) = its[m]:=by simp
  rw [e1,hat m its[m] ds[m] (List.getElem?_eq_getElem hm) (List.getElem?_eq_getElem (by omega))]
  exact hno m _ hmj (List.getElem?_eq_getElem (by omega))
 ·exact Kn I hy ru (by show X.A.units + 1 + d.depth < cLine; omega) hall r z (by simpa using hz')
 ·exact ⟨.int (j:Nat),H,I.tok _,⟨_,rfl⟩,q⟩
end
section
variable {X:Cx} {e:Expr} {es:List Expr} {te:TE} {t:TA}
theorem Dz {u u':TE} (h:PE X e u) (hu:u = u':=by rfl):PE X e u':=hu ▸ h
theorem Dk {tg:Expr} {w w':TI} (h:PI X tg e w) (hw:w = w':=by rfl):PI X tg e w':=hw ▸ h
noncomputable def gt (K:PySem.W.Frag):List V -> Hp -> VK -> Prop:=fun xs H Q=>∃ p ys,xs = [.ref p] /\ ((Bo K H p ys /\ ∀ l,H l = none -> Q (.ref l) (upd H l (.tup ys))) \/ (Bx K H p ys /\ Q (.ref p) H))
theorem Ck (K:PySem.W.Frag) (hK:X.K = K:=by rfl):E1 X (.type "tuple") (gt K):=by
 subst hK
 exact Me
end
noncomputable def Hy:Bool -> Keyed -> Array Keyed -> Nat -> Nat -> Nat -> StateT SortSt Sem (Option Nat):=sortPriv% PySem.Builtin.gallop
noncomputable def W9:Array Keyed -> Array Keyed -> StateT SortSt Sem (Array Keyed):=sortPriv% PySem.Builtin.mergeLo
noncomputable def X5:Array Keyed -> Array Keyed -> StateT SortSt Sem (Array Keyed):=sortPriv% PySem.Builtin.mergeHi
noncomputable def fa (f:Keyed -> Nat) (a:Array Keyed) (i:Nat):Nat:=match a[i]? with
 | some p=>f p
 | none=>0
theorem Au {f:Keyed -> Nat} {a:Array Keyed} {i:Nat} {p:Keyed} (h:a[i]? = some p):fa f a i = f p:=by unfold fa; rw [h]
theorem E8 {f:Keyed -> Nat} {a b:Array Keyed} {i j:Nat} (h:a[i]? = b[j]?):fa f a i = fa f b j:=by unfold fa; rw [h]
noncomputable def Hi (f:Keyed -> Nat) (a:Array Keyed) (lo hi:Nat):Prop := ∀ i j,lo <= i -> i <= j -> j < hi -> fa f a i <= fa f a j
section
variable {prog:Program} {w:World} {A:Around} {E:Value -> Shared -> Prop} {s:Shared} {κ:SortKind} {f:Keyed -> Nat} {a₀:Array Keyed} {st:SortSt}
noncomputable def He (prog:Program) (w:World) (A:Around) (s:Shared) (κ:SortKind) (f:Keyed -> Nat) (a₀:Array Keyed):Prop := ∀ x y,x ∈ a₀ -> y ∈ a₀ -> ∀ (Q:Bool -> Shared -> Prop) (E:Value -> Shared -> Prop),Q (decide (f x < f y)) s -> wpAny (model prog w) A (keyLt' κ x.1 y.1) Q E s
structure Bs (κ:SortKind) (a₀:Array Keyed) (st:SortSt):Prop where
 perm:(arrOf st).Perm a₀
 kind:kindOf st = κ
 failed:failedOf st = none
theorem Bs.size (h:Bs κ a₀ st):(arrOf st).size = a₀.size:=h.perm.size_eq
theorem Bs.mem (h:Bs κ a₀ st) {i:Nat} {p:Keyed} (e:(arrOf st)[i]? = some p):p ∈ a₀:=h.perm.mem_iff.mp (Array.mem_of_getElem? e)
theorem Lc (hA:He prog w A s κ f a₀) (hk:kindOf st = κ) {x y:Keyed} (hx:x ∈ a₀) (hy:y ∈ a₀) {Q:Option Bool -> SortSt -> Prop} (h:Q (some (decide (f x < f y))) st):wpS (model prog w) A E s (lt' x y) Q st:=by
 rw [lt'_eq]
 refine wpS_bind (wpS_get ?_)
 rw [hk]
 refine wpS_bind (wpS_lift (wpAny_attempt (hA x y hx hy _ _ ⟨rfl,?_⟩)))
 exact wpS_pure h
theorem Bc {a:Array Keyed} {i:Nat} {p:Keyed} (e:a[i]? = some p) {Q:Keyed -> SortSt -> Prop} (h:Q p st):wpS (model prog w) A E s (elem' a i) Q st:=by
 rw [elem'_eq,e]
 exact wpS_pure h
theorem Bu {a:Array Keyed} {i:Nat} (h:i < a.size):∃ p,a[i]? = some p:=⟨a[i],getElem?_pos a i h⟩
theorem Gm (hA:He prog w A s κ f a₀) (hB:Bs κ a₀ st) {i j:Nat} (hi:i < a₀.size) (hj:j < a₀.size) {Q:Option Bool -> SortSt -> Prop} (h:Q (some (decide (fa f (arrOf st) i < fa f (arrOf st) j))) st):wpS (model prog w) A E s (ltAt' i j) Q st:=by
 obtain ⟨p,ep⟩ := Bu (a:=arrOf st) (i:=i) (by rw [hB.size]; exact hi)
 obtain ⟨q,eq⟩ := Bu (a:=arrOf st) (i:=j) (by rw [hB.size]; exact hj)
 rw [Au ep,Au eq] at h
 rw [ltAt'_eq]
 refine wpS_bind (wpS_get ?_)
 exact wpS_bind (Bc ep (wpS_bind (Bc eq (Lc hA hB.kind (hB.mem ep) (hB.mem eq) h))))
theorem Sv (hA : He prog w A s κ f a₀) (hk : kindOf st = κ) {left : Bool} {key : Keyed} {arr : Array Keyed} {i : Nat} (hkey : key ∈ a₀) (harr : ∀ p, p ∈ arr -> p ∈ a₀) (hi : i < arr.size) {Q : Option Bool -> SortSt -> Prop}
  (h:Q (some (if left = true then decide (fa f arr i < f key) else !decide (f key < fa f arr i))) st):wpS (model prog w) A E s (elem' arr i >>= fun x=>if left = true then lt' x key else lt' key x >>= fun r=>pure (r.map fun b=>!b)) Q st:=by
 obtain ⟨p,ep⟩ := Bu hi
 rw [Au ep] at h
 refine wpS_bind (Bc ep ?_)
 have hp:=harr p (Array.mem_of_getElem? ep)
 cases left with
 | true=>exact Lc hA hk hp hkey h
 | false=>exact wpS_bind (Lc hA hk hkey hp (wpS_pure h))
theorem Dm (hA : He prog w A s κ f a₀) (hk : kindOf st = κ) {left : Bool} {key : Keyed} {arr : Array Keyed} {base n hint : Nat} (hkey : key ∈ a₀) (harr : ∀ p, p ∈ arr -> p ∈ a₀) (hn : base + n <= arr.size) (hh : hint < n) (hs : Hi f arr base (base + n)) {Q : Option Nat -> SortSt -> Prop}
  (h:∀ k,k <= n -> (∀ i,i < k -> if left = true then fa f arr (base + i) < f key else fa f arr (base + i) <= f key) -> (∀ i,k <= i -> i < n -> if left = true then f key <= fa f arr (base + i) else f key < fa f arr (base + i)) -> Q (some k) st):wpS (model prog w) A E s (Hy left key arr base n hint) Q st:=by
 obtain ⟨P,hP⟩ : ∃ P:Nat -> Bool,∀ i,P i = if left = true then decide (fa f arr (base + i) < f key) else !decide (f key < fa f arr (base + i)):=⟨_,fun _=>rfl⟩
 have mono:∀ i j,i <= j -> j < n -> P j = true -> P i = true:=fun i j h1 h2 h3=>by
  have h4:=hs (base + i) (base + j) (by omega) (by omega) (by omega)
  rw [hP] at h3 ⊢
  cases left <;> simp at h3 ⊢ <;> omega
 have anti:∀ i j,i <= j -> j < n -> P i = false -> P j = false:=fun i j h1 h2 h3=>by
  cases e:P j with
  | false=>rfl
  | true=>rw [mono i j h1 h2 e] at h3; cases h3
 have ask:∀ i,i < n -> ∀ {Q':Option Bool -> SortSt -> Prop},Q' (some (P i)) st -> wpS (model prog w) A E s (elem' arr (base + i) >>= fun x=>if left = true then lt' x key else lt' key x >>= fun r=>pure (r.map fun b=>!b)) Q' st:=fun i hi Q' hq=>by
  rw [hP] at hq
  exact Sv hA hk hkey harr (by omega) hq
 have out:∀ k,k <= n -> (∀ i,i < k -> P i = true) -> (∀ i,k <= i -> i < n -> P i = false) -> Q (some k) st:=fun k h1 h2 h3=>by
  refine h k h1 (fun i hi=>?_) (fun i hi hi2=>?_)
  ·have:=h2 i hi
   rw [hP] at this
   cases left <;> simp at this ⊢ <;> omega
  ·have:=h3 i hi hi2
   rw [hP] at this
   cases left <;> simp at this ⊢ <;> omega
 refine wpS_bind (ask hint hh ?_)
 dsimp only
 cases hr:P hint with
 | true =>
  rw [if_pos rfl]
  refine wpS_bind (wpS_mono (wpS_forRange (I:=fun x c st'=>st' = st /\ ∃ l o,c = (none,l,o) /\ l < o /\ P (hint + l) = true /\ hint + l < n /\ x + 1 <= o) (Q:=fun c st'=>st' = st /\ ∃ l o,c = (none,l,o) /\ l < o /\ P (hint + l) = true /\ hint + l < n /\ (n - hint <= o \/ P (hint + o) = false)) ?_ ?_ ⟨rfl,0,1,rfl,by omega,hr,hh,by omega⟩) ?_)
  ·rintro x c st' _ hx ⟨rfl,l,o,rfl,h1,h2,h3,h4⟩
   dsimp only
   by_cases ho:o >= n - hint
   ·rw [if_pos ho]
    exact wpS_pure ⟨rfl,l,o,rfl,h1,h2,h3,.inl ho⟩
   ·rw [if_neg ho]
    refine wpS_bind (ask (hint + o) (by omega) ?_)
    dsimp only
    cases e:P (hint + o) with
    | false=>exact wpS_pure ⟨rfl,l,o,rfl,h1,h2,h3,.inr e⟩
    | true=>exact wpS_pure ⟨rfl,o,2 * o + 1,rfl,by omega,e,by omega,by omega⟩
  ·rintro c st' ⟨rfl,l,o,rfl,h1,h2,h3,h4⟩
   exact ⟨rfl,l,o,rfl,h1,h2,h3,.inl (by omega)⟩
  rintro c st' ⟨rfl,l,o,rfl,h1,h2,h3,h4⟩
  dsimp only
  refine wpS_bind (wpS_mono (wpS_forRange (I:=fun x c st2=>st2 = st' /\ ∃ lo hi,c = (none,lo,hi) /\ lo <= hi /\ hi <= n /\ (∀ i,i < lo -> P i = true) /\ (∀ i,hi <= i -> i < n -> P i = false) /\ hi + x <= lo + n) (Q:=fun c st2=>st2 = st' /\ ∃ k,c = (none,k,k) /\ k <= n /\ (∀ i,i < k -> P i = true) /\ (∀ i,k <= i -> i < n -> P i = false)) ?_ ?_ ⟨rfl,_,_,rfl,by omega,by omega,fun i hi=>?_,fun i hi hi2=>?_,by omega⟩) ?_)
  ·rintro x c st2 _ hx ⟨rfl,lo,hi,rfl,g1,g2,g3,g4,g5⟩
   dsimp only
   by_cases ho:lo >= hi
   ·rw [if_pos ho]
    obtain rfl:lo = hi:=by omega
    exact wpS_pure ⟨rfl,lo,rfl,g2,g3,g4⟩
   ·rw [if_neg ho]
    refine wpS_bind (ask (lo + (hi - lo) / 2) (by omega) ?_)
    dsimp only
    cases e:P (lo + (hi - lo) / 2) with
    | false =>
     refine wpS_pure ⟨rfl,lo,_,rfl,by omega,by omega,g3,fun i hi1 hi2=>anti _ i hi1 hi2 e,by omega⟩
    | true =>
     refine wpS_pure ⟨rfl,_,hi,rfl,by omega,g2,fun i hi1=>mono i _ (by omega) (by omega) e,g4,by omega⟩
  ·rintro c st2 ⟨rfl,lo,hi,rfl,g1,g2,g3,g4,g5⟩
   obtain rfl:lo = hi:=by omega
   exact ⟨rfl,lo,rfl,g2,g3,g4⟩
  ·exact mono i (hint + l) (by omega) h3 h2
  ·rcases h4 with h4 | h4
   ·omega
   ·by_cases z:n - hint <= o
    ·omega
    ·exact anti (hint + o) i (by omega) hi2 h4
  rintro c st2 ⟨rfl,k,rfl,g1,g2,g3⟩
  dsimp only
  exact wpS_pure (out k g1 g2 g3)
 | false =>
  rw [if_neg (by decide)]
  refine wpS_bind (wpS_mono (wpS_forRange (I:=fun x c st'=>st' = st /\ ∃ l o,c = (none,l,o) /\ l < o /\ P (hint - l) = false /\ l <= hint /\ x + 1 <= o) (Q:=fun c st'=>st' = st /\ ∃ l o,c = (none,l,o) /\ l < o /\ P (hint - l) = false /\ l <= hint /\ (hint + 1 <= o \/ P (hint - o) = true)) ?_ ?_ ⟨rfl,0,1,rfl,by omega,hr,by omega,by omega⟩) ?_)
  ·rintro x c st' _ hx ⟨rfl,l,o,rfl,h1,h2,h3,h4⟩
   dsimp only
   by_cases ho:o >= hint + 1
   ·rw [if_pos ho]
    exact wpS_pure ⟨rfl,l,o,rfl,h1,h2,h3,.inl ho⟩
   ·rw [if_neg ho]
    refine wpS_bind (ask (hint - o) (by omega) ?_)
    dsimp only
    cases e:P (hint - o) with
    | true=>exact wpS_pure ⟨rfl,l,o,rfl,h1,h2,h3,.inr e⟩
    | false=>exact wpS_pure ⟨rfl,o,2 * o + 1,rfl,by omega,e,by omega,by omega⟩
  ·rintro c st' ⟨rfl,l,o,rfl,h1,h2,h3,h4⟩
   exact ⟨rfl,l,o,rfl,h1,h2,h3,.inl (by omega)⟩
  rintro c st' ⟨rfl,l,o,rfl,h1,h2,h3,h4⟩
  dsimp only
  refine wpS_bind (wpS_mono (wpS_forRange (I:=fun x c st2=>st2 = st' /\ ∃ lo hi,c = (none,lo,hi) /\ lo <= hi /\ hi <= n /\ (∀ i,i < lo -> P i = true) /\ (∀ i,hi <= i -> i < n -> P i = false) /\ hi + x <= lo + n) (Q:=fun c st2=>st2 = st' /\ ∃ k,c = (none,k,k) /\ k <= n /\ (∀ i,i < k -> P i = true) /\ (∀ i,k <= i -> i < n -> P i = false)) ?_ ?_ ⟨rfl,_,_,rfl,by omega,by omega,fun i hi=>?_,fun i hi hi2=>?_,by omega⟩) ?_)
  ·rintro x c st2 _ hx ⟨rfl,lo,hi,rfl,g1,g2,g3,g4,g5⟩
   dsimp only
   by_cases ho:lo >= hi
   ·rw [if_pos ho]
    obtain rfl:lo = hi:=by omega
    exact wpS_pure ⟨rfl,lo,rfl,g2,g3,g4⟩
   ·rw [if_neg ho]
    refine wpS_bind (ask (lo + (hi - lo) / 2) (by omega) ?_)
    dsimp only
    cases e:P (lo + (hi - lo) / 2) with
    | false =>
     refine wpS_pure ⟨rfl,lo,_,rfl,by omega,by omega,g3,fun i hi1 hi2=>anti _ i hi1 hi2 e,by omega⟩
    | true =>
     refine wpS_pure ⟨rfl,_,hi,rfl,by omega,g2,fun i hi1=>mono i _ (by omega) (by omega) e,g4,by omega⟩
  ·rintro c st2 ⟨rfl,lo,hi,rfl,g1,g2,g3,g4,g5⟩
   obtain rfl:lo = hi:=by omega
   exact ⟨rfl,lo,rfl,g2,g3,g4⟩
  ·rcases h4 with h4 | h4
   ·omega
   ·by_cases z:hint + 1 <= o
    ·omega
    ·exact mono i (hint - o) (by omega) (by omega) h4
  ·exact anti (hint - l) i (by omega) hi2 h2
  rintro c st2 ⟨rfl,k,rfl,g1,g2,g3⟩
  dsimp only
  exact wpS_pure (out k g1 g2 g3)
end
section
variable {f:Keyed -> Nat}
noncomputable def Df (f:Keyed -> Nat) (l:List Keyed):Prop:=l.Pairwise fun p q=>f p <= f q
noncomputable def Gv (f:Keyed -> Nat) (l m:List Keyed):Prop := ∀ p ∈ l,∀ q ∈ m,f p <= f q
theorem Go {l m:List Keyed} (h1:Df f l) (h2:Df f m) (h3:Gv f l m):Df f (l ++ m):=List.pairwise_append.mpr ⟨h1,h2,h3⟩
theorem G9 {l:List Keyed} (h:Df f l) (n:Nat):Df f (l.drop n):=h.sublist (List.drop_sublist n l)
theorem G0 {l:List Keyed} (h:Df f l) (n:Nat):Df f (l.take n):=h.sublist (List.take_sublist n l)
theorem Lb {l:List Keyed} (h:Df f l) {i j:Nat} {p q:Keyed} (hi:l[i]? = some p) (hj:l[j]? = some q) (hij:i <= j):f p <= f q:=by
 obtain ⟨h1,e1⟩ := List.getElem?_eq_some_iff.mp hi
 obtain ⟨h2,e2⟩ := List.getElem?_eq_some_iff.mp hj
 rcases Nat.lt_or_ge i j with z | z
 ·have:=List.pairwise_iff_getElem.mp h i j h1 h2 z
  rw [e1,e2] at this
  exact this
 ·obtain rfl:i = j:=by omega
  rw [e1] at e2
  rw [e2]
  exact Nat.le_refl _
theorem Ee {l:List Keyed} {i:Nat} {p:Keyed} (h:p ∈ l.drop i):∃ j,l[i + j]? = some p:=by
 obtain ⟨j,hj⟩ := List.mem_iff_getElem?.mp h
 rw [List.getElem?_drop] at hj
 exact ⟨j,hj⟩
theorem Ea {l:List Keyed} {i k:Nat} {p:Keyed} (h:p ∈ (l.drop i).take k):∃ j,j < k /\ l[i + j]? = some p:=by
 obtain ⟨j,hj⟩ := List.mem_iff_getElem?.mp h
 have hjk:j < k:=by
  have:=(List.getElem?_eq_some_iff.mp hj).1
  rw [List.length_take] at this
  omega
 rw [List.getElem?_take_of_lt hjk,List.getElem?_drop] at hj
 exact ⟨j,hjk,hj⟩
noncomputable def MI (f:Keyed -> Nat) (x y:List Keyed) (i j:Nat) (o:List Keyed):Prop:=o.Perm (x.take i ++ y.take j) /\ Df f o /\ Gv f o (x.drop i ++ y.drop j)
theorem Nn (l:List Keyed) (i k:Nat):l.take (i + k) = l.take i ++ (l.drop i).take k:=by rw [List.take_add]
theorem Gz (l:List Keyed) (i k:Nat):l.drop i = (l.drop i).take k ++ l.drop (i + k):=by
 have:=(List.take_append_drop k (l.drop i)).symm
 rw [List.drop_drop] at this
 exact this
theorem MI.takeA {x y o:List Keyed} {i j k:Nat} (h:MI f x y i j o) (hx:Df f x) (hle:Gv f ((x.drop i).take k) (y.drop j)):MI f x y (i + k) j (o ++ (x.drop i).take k):=by
 obtain ⟨h1,h2,h3⟩ := h
 have hd:=Gz x i k
 refine ⟨?_,?_,?_⟩
 ·rw [Nn]
  refine (h1.append_right _).trans ?_
  rw [List.append_assoc,List.append_assoc]
  exact List.Perm.append_left _ List.perm_append_comm
 ·refine Go h2 (G0 (G9 hx i) k) fun p hp q hq=>h3 p hp q (List.mem_append_left _ (List.mem_of_mem_take hq))
 ·intro p hp q hq
  rcases List.mem_append.mp hp with z | z
  ·rcases List.mem_append.mp hq with y' | y'
   ·refine h3 p z q (List.mem_append_left _ ?_)
    rw [hd]
    exact List.mem_append_right _ y'
   ·exact h3 p z q (List.mem_append_right _ y')
  ·rcases List.mem_append.mp hq with y' | y'
   ·have hs:=G9 hx i
    rw [hd] at hs
    exact (List.pairwise_append.mp hs).2.2 p z q y'
   ·exact hle p z q y'
theorem MI.swap {x y o:List Keyed} {i j:Nat} (h:MI f x y i j o):MI f y x j i o:=⟨h.1.trans List.perm_append_comm,h.2.1,fun p hp q hq=>h.2.2 p hp q (List.perm_append_comm.mem_iff.mp hq)⟩
theorem MI.takeB {x y o:List Keyed} {i j k:Nat} (h:MI f x y i j o) (hy:Df f y) (hle:Gv f ((y.drop j).take k) (x.drop i)):MI f x y i (j + k) (o ++ (y.drop j).take k):=(h.swap.takeA hy hle).swap
noncomputable def Ct (f:Keyed -> Nat) (x y r:List Keyed):Prop:=r.Perm (x ++ y) /\ Df f r
theorem MI.done {x y o:List Keyed} {i j:Nat} (h:MI f x y i j o) (hx:Df f x) (hy:Df f y) (hle:Gv f (x.drop i) (y.drop j)):Ct f x y (o ++ x.drop i ++ y.drop j):=by
 obtain ⟨h1,h2,h3⟩ := h
 refine ⟨?_,?_⟩
 ·rw [List.append_assoc]
  refine (h1.append_right _).trans ?_
  have e:x ++ y = (x.take i ++ x.drop i) ++ (y.take j ++ y.drop j):=by rw [List.take_append_drop,List.take_append_drop]
  rw [e,List.append_assoc,List.append_assoc]
  refine List.Perm.append_left _ ?_
  rw [<- List.append_assoc,<- List.append_assoc]
  exact List.Perm.append_right _ List.perm_append_comm
 ·rw [List.append_assoc]
  exact Go h2 (Go (G9 hx i) (G9 hy j) hle) h3
theorem MI.doneB {x y o:List Keyed} {i j:Nat} (h:MI f x y i j o) (hx:Df f x) (hy:Df f y) (hle:Gv f (y.drop j) (x.drop i)):Ct f x y (o ++ y.drop j ++ x.drop i):=by
 obtain ⟨g1,g2⟩ := h.swap.done hy hx hle
 exact ⟨g1.trans List.perm_append_comm,g2⟩
theorem Oz {l:List Keyed} {i:Nat} {p:Keyed} (h:l[i]? = some p):(l.drop i).take 1 = [p]:=by
 obtain ⟨h1,e⟩ := List.getElem?_eq_some_iff.mp h
 rw [List.drop_eq_getElem_cons h1,e]
 rfl
theorem MI.stepA {x y o:List Keyed} {i j:Nat} {p q:Keyed} (h:MI f x y i j o) (hx:Df f x) (hy:Df f y) (hp:x[i]? = some p) (hq:y[j]? = some q) (hle:f p <= f q):MI f x y (i + 1) j (o ++ [p]):=by
 rw [<- Oz hp]
 refine h.takeA hx fun a ha b hb=>?_
 rw [Oz hp] at ha
 cases List.mem_singleton.mp ha
 obtain ⟨k,hk⟩ := Ee hb
 exact Nat.le_trans hle (Lb hy hq hk (by omega))
theorem MI.stepB {x y o:List Keyed} {i j:Nat} {p q:Keyed} (h:MI f x y i j o) (hx:Df f x) (hy:Df f y) (hp:x[i]? = some p) (hq:y[j]? = some q) (hle:f q <= f p):MI f x y i (j + 1) (o ++ [q]):=(h.swap.stepA hy hx hq hp hle).swap
end
section
variable {f:Keyed -> Nat} {a b o:Array Keyed} {i j k:Nat}
theorem Jz (a:Array Keyed) (i:Nat):(a.extract i).toList = a.toList.drop i:=by
 rw [Array.toList_extract]
 show (a.toList.drop i).take (a.size - i) = _
 rw [List.take_of_length_le (by rw [List.length_drop,Array.length_toList]; omega)]
theorem Gf (a:Array Keyed) (i k:Nat):(a.extract i (i + k)).toList = (a.toList.drop i).take k:=by
 simp [List.extract]
theorem P8 (a:Array Keyed) (k:Nat):(a.extract 0 k).toList = a.toList.take k:=by simp
theorem MI.retDone (h:MI f a.toList b.toList i j o.toList) (hx:Df f a.toList) (hy:Df f b.toList) (e:j = b.size \/ i = a.size):Ct f a.toList b.toList (o ++ a.extract i ++ b.extract j).toList:=by
 rw [Array.toList_append,Array.toList_append,Jz,Jz]
 refine h.done hx hy ?_
 rcases e with e | e
 ·rw [List.drop_of_length_le (l:=b.toList) (by rw [Array.length_toList]; omega)]
  intro p _ q hq
  cases hq
 ·rw [List.drop_of_length_le (l:=a.toList) (by rw [Array.length_toList]; omega)]
  intro p hp
  cases hp
theorem MI.retLast (h:MI f a.toList b.toList i j o.toList) (hx:Df f a.toList) (hy:Df f b.toList) (e:i + 1 = a.size) (hl:∀ q ∈ b.toList,f q <= fa f a i):Ct f a.toList b.toList (o ++ b.extract j ++ a.extract i).toList:=by
 rw [Array.toList_append,Array.toList_append,Jz,Jz]
 refine h.doneB hx hy fun p hp q hq=>?_
 obtain ⟨m,hm⟩ := Ee hq
 have hlt:=(List.getElem?_eq_some_iff.mp hm).1
 rw [Array.length_toList] at hlt
 obtain rfl:m = 0:=by omega
 have h1:=hl p (List.mem_of_mem_drop hp)
 rw [Nat.add_zero,Array.getElem?_toList] at hm
 rw [Au hm] at h1
 exact h1
theorem MI.pushA (h:MI f a.toList b.toList i j o.toList) (hx:Df f a.toList) (hy:Df f b.toList) {p:Keyed} (hp:a[i]? = some p) (hj:j < b.size) (hle:f p <= fa f b j):MI f a.toList b.toList (i + 1) j (o.push p).toList:=by
 obtain ⟨q,hq⟩ := Bu hj
 rw [Au hq] at hle
 rw [Array.toList_push]
 exact h.stepA hx hy (by rw [Array.getElem?_toList]; exact hp) (by rw [Array.getElem?_toList]; exact hq) hle
theorem MI.pushB (h:MI f a.toList b.toList i j o.toList) (hx:Df f a.toList) (hy:Df f b.toList) {q:Keyed} (hq:b[j]? = some q) (hi:i < a.size) (hle:f q <= fa f a i):MI f a.toList b.toList i (j + 1) (o.push q).toList:=by
 obtain ⟨p,hp⟩ := Bu hi
 rw [Au hp] at hle
 rw [Array.toList_push]
 exact h.stepB hx hy (by rw [Array.getElem?_toList]; exact hp) (by rw [Array.getElem?_toList]; exact hq) hle
theorem MI.appA (h:MI f a.toList b.toList i j o.toList) (hx:Df f a.toList) (hy:Df f b.toList) {q:Keyed} (hq:b[j]? = some q) (hle:∀ m,m < k -> fa f a (i + m) <= f q):MI f a.toList b.toList (i + k) j (o ++ a.extract i (i + k)).toList:=by
 rw [Array.toList_append,Gf]
 refine h.takeA hx fun x hx' y hy'=>?_
 obtain ⟨m,hm,e⟩ := Ea hx'
 obtain ⟨m2,e2⟩ := Ee hy'
 have h1:=hle m hm
 rw [Array.getElem?_toList] at e
 rw [Au e] at h1
 exact Nat.le_trans h1 (Lb hy (by rw [Array.getElem?_toList]; exact hq) e2 (by omega))
theorem MI.appB (h:MI f a.toList b.toList i j o.toList) (hx:Df f a.toList) (hy:Df f b.toList) {p:Keyed} (hp:a[i]? = some p) (hle:∀ m,m < k -> fa f b (j + m) <= f p):MI f a.toList b.toList i (j + k) (o ++ b.extract j (j + k)).toList:=by
 rw [Array.toList_append,Gf]
 refine h.takeB hy fun x hx' y hy'=>?_
 obtain ⟨m,hm,e⟩ := Ea hx'
 obtain ⟨m2,e2⟩ := Ee hy'
 have h1:=hle m hm
 rw [Array.getElem?_toList] at e
 rw [Au e] at h1
 exact Nat.le_trans h1 (Lb hx (by rw [Array.getElem?_toList]; exact hp) e2 (by omega))
theorem K9 (h:Df f a.toList) {lo hi:Nat} (hh:hi <= a.size):Hi f a lo hi:=fun i j h1 h2 h3=>by
 obtain ⟨p,hp⟩ := Bu (a:=a) (i:=i) (by omega)
 obtain ⟨q,hq⟩ := Bu (a:=a) (i:=j) (by omega)
 rw [Au hp,Au hq]
 exact Lb h (by rw [Array.getElem?_toList]; exact hp) (by rw [Array.getElem?_toList]; exact hq) h2
theorem Er {m n:Nat} (h:m = n):(m == n) = true:=by simp [h]
theorem Em {m n:Nat} (h:¬ m = n):¬ (m == n) = true:=by simp [h]
end
section
variable {prog:Program} {w:World} {A:Around} {E:Value -> Shared -> Prop} {s:Shared} {κ:SortKind} {f:Keyed -> Nat} {a₀:Array Keyed} {st:SortSt}
noncomputable def Gs (st st':SortSt):Prop := ∃ g,st' = SortSt.mk' (kindOf st) (arrOf st) (pendingOf st) g (failedOf st)
theorem Gs.refl:Gs st st:=⟨gallopOf st,rfl⟩
theorem Xj {σ β:Type} {M:Model} {c:Prop} [Decidable c] {Q:β -> σ -> Prop} {st:σ} {g:Nat -> StateT σ Sem β} {X Y:StateT σ Sem β} (y x:Nat) (ey:Y = g y) (ex:X = g x) (h:∀ z,wpS M A E s (g z) Q st):wpS M A E s (if c then X else Y) Q st:=by
 subst ey ex
 split
 ·exact h x
 ·exact h y
theorem K5 {σ β:Type} {M:Model} {c:Prop} [Decidable c] {Q:β -> σ -> Prop} {st:σ} {g:Array Keyed -> Nat -> StateT σ Sem β} {X Y:StateT σ Sem β} (P:Array Keyed -> Nat -> Prop) (o:Array Keyed) (i:Nat) (ey:Y = g o i) (hy:¬ c -> P o i) (hx:c -> (∀ o i,P o i -> wpS M A E s (g o i) Q st) -> wpS M A E s X Q st) (h:∀ o i,P o i -> wpS M A E s (g o i) Q st):wpS M A E s (if c then X else Y) Q st:=by
 subst ey
 split
 ·rename_i z
  exact hx z h
 ·rename_i z
  exact h o i (hy z)
theorem Qj (hA : He prog w A s κ f a₀) (hk : kindOf st = κ) {a b : Array Keyed} (ha : ∀ p, p ∈ a -> p ∈ a₀) (hb : ∀ p, p ∈ b -> p ∈ a₀) (hx : Df f a.toList) (hy : Df f b.toList) (ha0 : 0 < a.size) (hb0 : 0 < b.size)
  (hfirst:fa f b 0 <= fa f a 0) (hlast:∀ q ∈ b.toList,f q <= fa f a (a.size - 1)) {Q:Array Keyed -> SortSt -> Prop} (h:∀ r st',Gs st st' -> Ct f a.toList b.toList r.toList -> Q r st'):wpS (model prog w) A E s (W9 a b) Q st:=by
 have last:∀ i,i + 1 = a.size -> ∀ q ∈ b.toList,f q <= fa f a i:=fun i hi q hq=>by
  have:=hlast q hq
  rwa [show a.size - 1 = i by omega] at this
 have hk':∀ g,kindOf (SortSt.mk' (kindOf st) (arrOf st) (pendingOf st) g (failedOf st)) = κ:=fun g=>hk
 obtain ⟨q0,hq0⟩ := Bu hb0
 refine wpS_bind (wpS_lift (wpAny_rule ⟨rfl,?_⟩))
 refine wpS_bind (Bc hq0 ?_)
 have M0:MI f a.toList b.toList 0 0 (#[]:Array Keyed).toList:=⟨by simp,List.Pairwise.nil,fun p hp=>by cases hp⟩
 have M1:=M0.pushB hx hy hq0 ha0 (by rw [Au hq0] at hfirst; exact hfirst)
 rw [show (#[]:Array Keyed).push q0 = #[q0] from rfl] at M1
 dsimp -zeta only
 by_cases e1:0 + 1 = b.size
 ·rw [if_pos (Er e1)]
  exact wpS_pure (h _ _ Gs.refl (M1.retDone hx hy (.inl e1)))
 rw [if_neg (Em e1)]
 by_cases e2:0 + 1 = a.size
 ·rw [if_pos (Er e2)]
  exact wpS_pure (h _ _ Gs.refl (M1.retLast hx hy e2 (last 0 e2)))
 rw [if_neg (Em e2)]
 refine wpS_bind (wpS_get ?_)
 refine wpS_bind (wpS_mono (wpS_forRange (I:=fun x c st'=>Gs st st' /\ ∃ o ia ib g,c = (none,o,ia,ib,g) /\ MI f a.toList b.toList ia ib o.toList /\ ia + 1 < a.size /\ ib < b.size /\ x + 1 <= ia + ib)
  (Q:=fun c st'=>Gs st st' /\ ∃ r z,c = (some r,z) /\ Ct f a.toList b.toList r.toList) ?_ ?_ ⟨Gs.refl,_,_,_,_,rfl,M1,by omega,by omega,by omega⟩) ?_)
 ·rintro x c st1 _ hx' ⟨G1,o,ia,ib,g,rfl,M,h1,h2,h3⟩
  dsimp -zeta only
  refine wpS_bind (wpS_mono (wpS_forRange (I:=fun y c st'=>Gs st st' /\ ∃ o ia ib ac bc,c = (none,o,ia,ib,ac,bc) /\ MI f a.toList b.toList ia ib o.toList /\ ia + 1 < a.size /\ ib < b.size /\ x + 1 + y <= ia + ib)
   (Q:=fun c st'=>Gs st st' /\ ((∃ r z,c = (some r,z) /\ Ct f a.toList b.toList r.toList) \/ ∃ o ia ib ac bc,c = (none,o,ia,ib,ac,bc) /\ MI f a.toList b.toList ia ib o.toList /\ ia + 1 < a.size /\ ib < b.size /\ x + 2 <= ia + ib)) ?_ ?_ ⟨G1,_,_,_,_,_,rfl,M,h1,h2,by omega⟩) ?_)
  ·clear M h1 h2 h3 G1
   rintro y c st1 _ hy' ⟨G1,o,ia,ib,ac,bc,rfl,M,h1,h2,h3⟩
   obtain ⟨gx,rfl⟩ := G1
   obtain ⟨q,hq⟩ := Bu h2
   obtain ⟨p,hp⟩ := Bu (a:=a) (i:=ia) (by omega)
   dsimp -zeta only
   refine wpS_bind (Bc hq (wpS_bind (Bc hp (wpS_bind (Lc hA (hk' gx) (hb q (Array.mem_of_getElem? hq)) (ha p (Array.mem_of_getElem? hp)) ?_)))))
   dsimp -zeta only
   by_cases z:f q < f p
   ·rw [if_pos (decide_eq_true z)]
    have M2:=M.pushB hx hy hq (by omega) (by rw [Au hp]; omega)
    refine wpS_bind (Bc hq ?_)
    by_cases e:ib + 1 = b.size
    ·rw [if_pos (Er e)]
     exact wpS_pure ⟨⟨_,rfl⟩,.inl ⟨_,_,rfl,M2.retDone hx hy (.inl e)⟩⟩
    rw [if_neg (Em e)]
    split
    ·exact wpS_pure ⟨⟨_,rfl⟩,.inr ⟨_,_,_,_,_,rfl,M2,h1,by omega,by omega⟩⟩
    ·exact wpS_pure ⟨⟨_,rfl⟩,_,_,_,_,_,rfl,M2,h1,by omega,by omega⟩
   ·rw [if_neg (by rw [decide_eq_true_eq]; exact z)]
    have M2:=M.pushA hx hy hp h2 (by rw [Au hq]; omega)
    refine wpS_bind (Bc hp ?_)
    by_cases e:ia + 1 + 1 = a.size
    ·rw [if_pos (Er e)]
     exact wpS_pure ⟨⟨_,rfl⟩,.inl ⟨_,_,rfl,M2.retLast hx hy e (last _ e)⟩⟩
    rw [if_neg (Em e)]
    split
    ·exact wpS_pure ⟨⟨_,rfl⟩,.inr ⟨_,_,_,_,_,rfl,M2,by omega,h2,by omega⟩⟩
    ·exact wpS_pure ⟨⟨_,rfl⟩,_,_,_,_,_,rfl,M2,by omega,h2,by omega⟩
  ·rintro c st' ⟨G1,o,ia,ib,ac,bc,rfl,M,h1,h2,h3⟩
   exact ⟨G1,.inr ⟨o,ia,ib,ac,bc,rfl,M,h1,h2,by omega⟩⟩
  clear M h1 h2 h3 G1
  rintro c st2 ⟨G2,⟨r,z,rfl,J⟩ | ⟨o,ia,ib,ac,bc,rfl,M,h1,h2,h3⟩⟩
  ·dsimp -zeta only
   exact wpS_pure ⟨G2,r,_,rfl,J⟩
  dsimp -zeta only
  refine wpS_bind (wpS_lift (wpAny_rule ⟨rfl,?_⟩))
  refine wpS_bind (wpS_mono (wpS_forRange (I:=fun y c st'=>Gs st st' /\ ∃ o ia ib mg ac bc,c = (none,o,ia,ib,mg,ac,bc) /\ MI f a.toList b.toList ia ib o.toList /\ ia + 1 < a.size /\ ib < b.size /\ x + 2 <= ia + ib)
   (Q:=fun c st'=>Gs st st' /\ ((∃ r z,c = (some r,z) /\ Ct f a.toList b.toList r.toList) \/ ∃ o ia ib mg ac bc,c = (none,o,ia,ib,mg,ac,bc) /\ MI f a.toList b.toList ia ib o.toList /\ ia + 1 < a.size /\ ib < b.size /\ x + 2 <= ia + ib)) ?_ ?_ ⟨G2,_,_,_,_,_,_,rfl,M,h1,h2,h3⟩) ?_)
  ·clear M h1 h2 h3 G2
   rintro y c st1 _ hy' ⟨G1,o,ia,ib,mg,ac,bc,rfl,M,h1,h2,h3⟩
   obtain ⟨gx,rfl⟩ := G1
   obtain ⟨q,hq⟩ := Bu h2
   dsimp -zeta only
   have ga : ∀ {Q' : Option Nat -> SortSt -> Prop} {mg}, (∀ k, ia + k <= a.size -> (∀ m, m < k -> fa f a (ia + m) <= f q) -> (∀ m, k <= m -> ia + m < a.size -> f q < fa f a (ia + m)) -> Q' (some k) (SortSt.mk' (kindOf st) (arrOf st) (pendingOf st) mg (failedOf st))) ->
     wpS (model prog w) A E s (Hy false q a ia (a.size - ia) 0) Q' (SortSt.mk' (kindOf st) (arrOf st) (pendingOf st) mg (failedOf st)):=fun {Q'} {mg} hq'=>by
    refine Dm hA (hk' mg) (hb q (Array.mem_of_getElem? hq)) ha (by omega) (by omega) (K9 hx (by omega)) fun k g1 g2 g3=>hq' k (by omega) (fun m hm=>?_) (fun m hm1 hm2=>?_)
    ·have:=g2 m hm
     simpa using this
    ·have:=g3 m hm1 (by omega)
     simpa using this
   have gb : ∀ {Q' : Option Nat -> SortSt -> Prop} {mg i j p}, a[i]? = some p -> j < b.size -> (∀ k, j + k <= b.size -> (∀ m, m < k -> fa f b (j + m) <= f p) -> (∀ m, k <= m -> j + m < b.size -> f p <= fa f b (j + m)) -> Q' (some k) (SortSt.mk' (kindOf st) (arrOf st) (pendingOf st) mg (failedOf st))) ->
     wpS (model prog w) A E s (Hy true p b j (b.size - j) 0) Q' (SortSt.mk' (kindOf st) (arrOf st) (pendingOf st) mg (failedOf st)):=fun {Q'} {mg i j p} hp hj hq'=>by
    refine Dm hA (hk' mg) (ha p (Array.mem_of_getElem? hp)) hb (by omega) (by omega) (K9 hy (by omega)) fun k g1 g2 g3=>hq' k (by omega) (fun m hm=>?_) (fun m hm1 hm2=>?_)
    ·have:=g2 m hm
     simp at this
     omega
    ·have:=g3 m hm1 (by omega)
     simpa using this
   dsimp only
   apply Xj mg (mg - 1) (Eq.refl _) (Eq.refl _)
   intro mg
   refine wpS_bind (wpS_modify ?_)
   refine wpS_bind (Bc hq (wpS_bind (ga fun k g1 g2 g3=>?_)))
   dsimp only
   apply K5 (fun o2 i2=>MI f a.toList b.toList i2 ib o2.toList /\ i2 + 1 < a.size /\ f q < fa f a i2 /\ ia <= i2) o ia (Eq.refl _) (fun z=>⟨M,h1,g3 0 (by omega) (by omega),Nat.le_refl _⟩)
   ·intro z K
    have M2:=M.appA hx hy hq g2
    by_cases e:ia + k + 1 = a.size
    ·rw [if_pos (Er e)]
     exact wpS_pure ⟨⟨_,rfl⟩,.inl ⟨_,_,rfl,M2.retLast hx hy e (last _ e)⟩⟩
    rw [if_neg (Em e)]
    by_cases e':ia + k = a.size
    ·rw [if_pos (Er e')]
     exact wpS_pure ⟨⟨_,rfl⟩,.inl ⟨_,_,rfl,M2.retDone hx hy (.inr e')⟩⟩
    rw [if_neg (Em e')]
    exact K _ _ ⟨M2,by omega,g3 k (Nat.le_refl _) (by omega),by omega⟩
   rintro o2 i2 ⟨M2,hi2,g3',hle⟩
   clear g1 g2 g3 M h1
   refine wpS_bind (Bc hq ?_)
   have M3:=M2.pushB hx hy hq (by omega) (Nat.le_of_lt g3')
   generalize hib:ib + 1 = ib1 at M3 ⊢
   generalize o2.push q = o3 at M3 ⊢
   by_cases e:ib1 = b.size
   ·rw [if_pos (Er e)]
    exact wpS_pure ⟨⟨_,rfl⟩,.inl ⟨_,_,rfl,M3.retDone hx hy (.inl e)⟩⟩
   rw [if_neg (Em e)]
   obtain ⟨p,hp⟩ := Bu (a:=a) (i:=i2) (by omega)
   refine wpS_bind (Bc hp (wpS_bind (gb hp (by omega) fun k2 c1 c2 c3=>?_)))
   dsimp only
   apply K5 (fun o3 j3=>MI f a.toList b.toList i2 j3 o3.toList /\ j3 < b.size /\ f p <= fa f b j3 /\ ib < j3) o3 ib1 (Eq.refl _) (fun z=>⟨M3,by omega,c3 0 (by omega) (by omega),by omega⟩)
   ·intro z K
    have M4:=M3.appB hx hy hp c2
    by_cases e4:ib1 + k2 = b.size
    ·rw [if_pos (Er e4)]
     exact wpS_pure ⟨⟨_,rfl⟩,.inl ⟨_,_,rfl,M4.retDone hx hy (.inl e4)⟩⟩
    rw [if_neg (Em e4)]
    exact K _ _ ⟨M4,by omega,c3 k2 (Nat.le_refl _) (by omega),by omega⟩
   rintro o4 j3 ⟨M4,hj,c4,hlt⟩
   clear c1 c2 c3 M3 M2
   refine wpS_bind (Bc hp ?_)
   have M5:=M4.pushA hx hy hp hj c4
   by_cases e5:i2 + 1 + 1 = a.size
   ·rw [if_pos (Er e5)]
    exact wpS_pure ⟨⟨_,rfl⟩,.inl ⟨_,_,rfl,M5.retLast hx hy e5 (last _ e5)⟩⟩
   rw [if_neg (Em e5)]
   split
   ·exact wpS_pure ⟨⟨_,rfl⟩,.inr ⟨_,_,_,_,_,_,rfl,M5,by omega,hj,by omega⟩⟩
   ·exact wpS_pure ⟨⟨_,rfl⟩,_,_,_,_,_,_,rfl,M5,by omega,hj,by omega⟩
  ·rintro c st' ⟨G1,o,ia,ib,mg,ac,bc,rfl,M,h1,h2,h3⟩
   exact ⟨G1,.inr ⟨o,ia,ib,mg,ac,bc,rfl,M,h1,h2,h3⟩⟩
  clear M h1 h2 h3 G2
  rintro c st2 ⟨G2,⟨r,z,rfl,J⟩ | ⟨o,ia,ib,mg,ac,bc,rfl,M,h1,h2,h3⟩⟩
  ·dsimp -zeta only
   exact wpS_pure ⟨G2,r,_,rfl,J⟩
  dsimp -zeta only
  obtain ⟨gx,rfl⟩ := G2
  refine wpS_bind (wpS_modify ?_)
  exact wpS_pure ⟨⟨_,rfl⟩,_,_,_,_,rfl,M,h1,h2,by omega⟩
 ·rintro c st' ⟨G1,o,ia,ib,g,rfl,M,h1,h2,h3⟩
  exfalso
  omega
 rintro c st' ⟨G1,r,z,rfl,J⟩
 dsimp -zeta only
 exact wpS_pure (h _ _ G1 J)
end
section
variable {f:Keyed -> Nat}
noncomputable def MH (f:Keyed -> Nat) (x y:List Keyed) (i j:Nat) (o:List Keyed):Prop:=o.reverse.Perm (x.drop i ++ y.drop j) /\ Df f o.reverse /\ Gv f (x.take i ++ y.take j) o.reverse
theorem MH.swap {x y o:List Keyed} {i j:Nat} (h:MH f x y i j o):MH f y x j i o:=⟨h.1.trans List.perm_append_comm,h.2.1,fun p hp=>h.2.2 p (List.perm_append_comm.mem_iff.mp hp)⟩
theorem MH.takeA {x y o:List Keyed} {i j k:Nat} (h:MH f x y (i + k) j o) (hx:Df f x) (hle:Gv f (y.take j) ((x.drop i).take k)):MH f x y i j (o ++ ((x.drop i).take k).reverse):=by
 obtain ⟨h1,h2,h3⟩ := h
 have hd:=Gz x i k
 have ht:=Nn x i k
 have e:(o ++ ((x.drop i).take k).reverse).reverse = (x.drop i).take k ++ o.reverse:=by rw [List.reverse_append,List.reverse_reverse]
 have hsx:Df f (x.take (i + k)):=G0 hx _
 rw [ht] at hsx
 unfold MH
 rw [e]
 refine ⟨?_,?_,?_⟩
 ·refine (List.Perm.append_left _ h1).trans ?_
  rw [<- List.append_assoc,<- hd]
 ·refine Go (G0 (G9 hx i) k) h2 fun p hp q hq=>h3 p (List.mem_append_left _ ?_) q hq
  rw [ht]
  exact List.mem_append_right _ hp
 ·intro p hp q hq
  rcases List.mem_append.mp hp with z | z
  ·rcases List.mem_append.mp hq with y' | y'
   ·exact (List.pairwise_append.mp hsx).2.2 p z q y'
   ·refine h3 p (List.mem_append_left _ ?_) q y'
    rw [ht]
    exact List.mem_append_left _ z
  ·rcases List.mem_append.mp hq with y' | y'
   ·exact hle p z q y'
   ·exact h3 p (List.mem_append_right _ z) q y'
theorem MH.done {x y o:List Keyed} {i j:Nat} (h:MH f x y i j o) (hx:Df f x) (hy:Df f y) (hle:Gv f (x.take i) (y.take j)):Ct f x y (x.take i ++ y.take j ++ o.reverse):=by
 obtain ⟨h1,h2,h3⟩ := h
 refine ⟨?_,Go (Go (G0 hx i) (G0 hy j) hle) h2 h3⟩
 refine (List.Perm.append_left _ h1).trans ?_
 have e:x ++ y = (x.take i ++ x.drop i) ++ (y.take j ++ y.drop j):=by rw [List.take_append_drop,List.take_append_drop]
 rw [e,List.append_assoc,List.append_assoc]
 refine List.Perm.append_left _ ?_
 rw [<- List.append_assoc,<- List.append_assoc]
 exact List.Perm.append_right _ List.perm_append_comm
theorem MH.doneB {x y o:List Keyed} {i j:Nat} (h:MH f x y i j o) (hx:Df f x) (hy:Df f y) (hle:Gv f (y.take j) (x.take i)):Ct f x y (y.take j ++ x.take i ++ o.reverse):=by
 obtain ⟨g1,g2⟩ := h.swap.done hy hx hle
 exact ⟨g1.trans List.perm_append_comm,g2⟩
variable {a b o:Array Keyed} {i j k:Nat}
theorem Jo {l:List Keyed} {i:Nat} {p:Keyed} (h:p ∈ l.take i):∃ m,m < i /\ l[m]? = some p:=by
 have h':p ∈ (l.drop 0).take i:=h
 obtain ⟨m,h1,h2⟩ := Ea h'
 exact ⟨m,h1,by rw [Nat.zero_add] at h2; exact h2⟩
theorem MH.retDone (h:MH f a.toList b.toList i j o.toList) (hx:Df f a.toList) (hy:Df f b.toList) (e:i = 0 \/ j = 0):Ct f a.toList b.toList (a.extract 0 i ++ b.extract 0 j ++ o.reverse).toList:=by
 rw [Array.toList_append,Array.toList_append,P8,P8,Array.toList_reverse]
 refine h.done hx hy ?_
 rcases e with e | e <;> subst e
 ·intro p hp
  simp at hp
 ·intro p _ q hq
  simp at hq
theorem MH.retFirst (h:MH f a.toList b.toList i j o.toList) (hx:Df f a.toList) (hy:Df f b.toList) (e:j = 1) (hf:∀ p ∈ a.toList,fa f b 0 <= f p):Ct f a.toList b.toList (b.extract 0 j ++ a.extract 0 i ++ o.reverse).toList:=by
 rw [Array.toList_append,Array.toList_append,P8,P8,Array.toList_reverse]
 refine h.doneB hx hy fun p hp q hq=>?_
 obtain ⟨m,hm,e2⟩ := Jo hp
 obtain rfl:m = 0:=by omega
 rw [Array.getElem?_toList] at e2
 have:=hf q (List.mem_of_mem_take hq)
 rw [Au e2] at this
 exact this
theorem MH.appA (h:MH f a.toList b.toList i j o.toList) (hx:Df f a.toList) (hy:Df f b.toList) {m:Nat} (hm:m <= i) (hle:∀ n,m <= n -> n < i -> ∀ l,l < j -> fa f b l <= fa f a n):MH f a.toList b.toList m j (o ++ (a.extract m i).reverse).toList:=by
 obtain ⟨k,rfl⟩ : ∃ k,i = m + k:=⟨i - m,by omega⟩
 rw [Array.toList_append,Array.toList_reverse,Gf]
 refine h.takeA hx fun x hx' y hy'=>?_
 obtain ⟨l,hl,e⟩ := Jo hx'
 obtain ⟨n,hn,e2⟩ := Ea hy'
 rw [Array.getElem?_toList] at e e2
 have:=hle (m + n) (by omega) (by omega) l hl
 rw [Au e,Au e2] at this
 exact this
theorem MH.appB (h:MH f a.toList b.toList i j o.toList) (hx:Df f a.toList) (hy:Df f b.toList) {m:Nat} (hm:m <= j) (hle:∀ n,m <= n -> n < j -> ∀ l,l < i -> fa f a l <= fa f b n):MH f a.toList b.toList i m (o ++ (b.extract m j).reverse).toList:=(h.swap.appA hy hx hm hle).swap
theorem Yy {a:Array Keyed} {i:Nat} {p:Keyed} (hp:a[i]? = some p):(a.extract i (i + 1)).toList = [p]:=by
 rw [Gf]
 exact Oz (by rw [Array.getElem?_toList]; exact hp)
theorem MH.pushA (h:MH f a.toList b.toList (i + 1) j o.toList) (hx:Df f a.toList) (hy:Df f b.toList) {p:Keyed} (hp:a[i]? = some p) (hle:∀ l,l < j -> fa f b l <= f p):MH f a.toList b.toList i j (o.push p).toList:=by
 have:=h.appA hx hy (m:=i) (by omega) fun n h1 h2 l hl=>by
  obtain rfl:n = i:=by omega
  rw [Au hp]
  exact hle l hl
 rw [Array.toList_append,Array.toList_reverse,Yy hp] at this
 rw [Array.toList_push]
 exact this
theorem MH.pushB (h:MH f a.toList b.toList i (j + 1) o.toList) (hx:Df f a.toList) (hy:Df f b.toList) {q:Keyed} (hq:b[j]? = some q) (hle:∀ l,l < i -> fa f a l <= f q):MH f a.toList b.toList i j (o.push q).toList:=(h.swap.pushA hy hx hq hle).swap
end
section
variable {prog:Program} {w:World} {A:Around} {E:Value -> Shared -> Prop} {s:Shared} {κ:SortKind} {f:Keyed -> Nat} {a₀:Array Keyed} {st:SortSt}
theorem Q9 (hA : He prog w A s κ f a₀) (hk : kindOf st = κ) {a b : Array Keyed} (ha : ∀ p, p ∈ a -> p ∈ a₀) (hb : ∀ p, p ∈ b -> p ∈ a₀) (hx : Df f a.toList) (hy : Df f b.toList) (ha0 : 0 < a.size) (hb0 : 0 < b.size)
  (hfirst:∀ p ∈ a.toList,fa f b 0 <= f p) (hlast:∀ j,j < b.size -> fa f b j <= fa f a (a.size - 1)) {Q:Array Keyed -> SortSt -> Prop} (h:∀ r st',Gs st st' -> Ct f a.toList b.toList r.toList -> Q r st'):wpS (model prog w) A E s (X5 a b) Q st:=by
 have hk':∀ g,kindOf (SortSt.mk' (kindOf st) (arrOf st) (pendingOf st) g (failedOf st)) = κ:=fun g=>hk
 have hax:∀ {lo hi},hi <= a.size -> Hi f a lo hi:=fun h=>K9 hx h
 have hbx:∀ {lo hi},hi <= b.size -> Hi f b lo hi:=fun h=>K9 hy h
 obtain ⟨p0,hp0⟩ := Bu (a:=a) (i:=a.size - 1) (by omega)
 refine wpS_bind (wpS_lift (wpAny_rule ⟨rfl,?_⟩))
 refine wpS_bind (Bc hp0 ?_)
 have M0:MH f a.toList b.toList (a.size - 1 + 1) b.size (#[]:Array Keyed).toList:=by
  refine ⟨?_,List.Pairwise.nil,fun p _ q hq=>by cases hq⟩
  rw [List.drop_of_length_le (l:=a.toList) (by rw [Array.length_toList]; omega),List.drop_of_length_le (l:=b.toList) (by rw [Array.length_toList]; omega)]
  exact List.Perm.refl _
 have M1:=M0.pushA hx hy hp0 (fun l hl=>by have:=hlast l hl; rw [Au hp0] at this; exact this)
 rw [show (#[]:Array Keyed).push p0 = #[p0] from rfl] at M1
 dsimp -zeta only
 by_cases e1:a.size - 1 = 0
 ·rw [if_pos (Er e1)]
  exact wpS_pure (h _ _ Gs.refl (M1.retDone hx hy (.inl e1)))
 rw [if_neg (Em e1)]
 by_cases e2:b.size = 1
 ·rw [if_pos (Er e2)]
  exact wpS_pure (h _ _ Gs.refl (M1.retFirst hx hy e2 hfirst))
 rw [if_neg (Em e2)]
 refine wpS_bind (wpS_get ?_)
 refine wpS_bind (wpS_mono (wpS_forRange (I:=fun x c st'=>Gs st st' /\ ∃ o na nb g,c = (none,na,nb,o,g) /\ MH f a.toList b.toList na nb o.toList /\ 0 < na /\ na <= a.size /\ 1 < nb /\ nb <= b.size /\ na + nb + x + 1 <= a.size + b.size)
  (Q:=fun c st'=>Gs st st' /\ ∃ r z,c = (some r,z) /\ Ct f a.toList b.toList r.toList) ?_ ?_ ⟨Gs.refl,_,_,_,_,rfl,M1,by omega,by omega,by omega,by omega,by omega⟩) ?_)
 ·rintro x c st1 _ hx' ⟨G1,o,na,nb,g,rfl,M,h1,h1',h2,h2',h3⟩
  dsimp -zeta only
  refine wpS_bind (wpS_mono (wpS_forRange (I:=fun y c st'=>Gs st st' /\ ∃ o na nb ac bc,c = (none,na,nb,o,ac,bc) /\ MH f a.toList b.toList na nb o.toList /\ 0 < na /\ na <= a.size /\ 1 < nb /\ nb <= b.size /\ na + nb + x + 1 + y <= a.size + b.size)
   (Q:=fun c st'=>Gs st st' /\ ((∃ r z,c = (some r,z) /\ Ct f a.toList b.toList r.toList) \/ ∃ o na nb ac bc,c = (none,na,nb,o,ac,bc) /\ MH f a.toList b.toList na nb o.toList /\ 0 < na /\ na <= a.size /\ 1 < nb /\ nb <= b.size /\ na + nb + x + 2 <= a.size + b.size)) ?_ ?_ ⟨G1,_,_,_,_,_,rfl,M,h1,h1',h2,h2',by omega⟩) ?_)
  ·clear M h1 h2 h3 G1 h1' h2'
   rintro y c st1 _ hy' ⟨G1,o,na,nb,ac,bc,rfl,M,h1,h1',h2,h2',h3⟩
   obtain ⟨gx,rfl⟩ := G1
   obtain ⟨q,hq⟩ := Bu (a:=b) (i:=nb - 1) (by omega)
   obtain ⟨p,hp⟩ := Bu (a:=a) (i:=na - 1) (by omega)
   dsimp -zeta only
   refine wpS_bind (Bc hq (wpS_bind (Bc hp (wpS_bind (Lc hA (hk' gx) (hb q (Array.mem_of_getElem? hq)) (ha p (Array.mem_of_getElem? hp)) ?_)))))
   dsimp -zeta only
   by_cases z:f q < f p
   ·rw [if_pos (decide_eq_true z)]
    have M2:=MH.pushA (i:=na - 1) (by rw [show na - 1 + 1 = na by omega]; exact M) hx hy hp (fun l hl=>by have:=hbx (lo:=0) (hi:=b.size) (Nat.le_refl _) l (nb - 1) (by omega) (by omega) (by omega); rw [Au hq] at this; omega)
    refine wpS_bind (Bc hp ?_)
    by_cases e:na - 1 = 0
    ·rw [if_pos (Er e)]
     exact wpS_pure ⟨⟨_,rfl⟩,.inl ⟨_,_,rfl,M2.retDone hx hy (.inl e)⟩⟩
    rw [if_neg (Em e)]
    split
    ·exact wpS_pure ⟨⟨_,rfl⟩,.inr ⟨_,_,_,_,_,rfl,M2,by omega,by omega,h2,h2',by omega⟩⟩
    ·exact wpS_pure ⟨⟨_,rfl⟩,_,_,_,_,_,rfl,M2,by omega,by omega,h2,h2',by omega⟩
   ·rw [if_neg (by rw [decide_eq_true_eq]; exact z)]
    have M2:=MH.pushB (j:=nb - 1) (by rw [show nb - 1 + 1 = nb by omega]; exact M) hx hy hq (fun l hl=>by have:=hax (lo:=0) (hi:=a.size) (Nat.le_refl _) l (na - 1) (by omega) (by omega) (by omega); rw [Au hp] at this; omega)
    refine wpS_bind (Bc hq ?_)
    by_cases e:nb - 1 = 1
    ·rw [if_pos (Er e)]
     exact wpS_pure ⟨⟨_,rfl⟩,.inl ⟨_,_,rfl,M2.retFirst hx hy e hfirst⟩⟩
    rw [if_neg (Em e)]
    split
    ·exact wpS_pure ⟨⟨_,rfl⟩,.inr ⟨_,_,_,_,_,rfl,M2,h1,h1',by omega,by omega,by omega⟩⟩
    ·exact wpS_pure ⟨⟨_,rfl⟩,_,_,_,_,_,rfl,M2,h1,h1',by omega,by omega,by omega⟩
  ·rintro c st' ⟨G1,o,na,nb,ac,bc,rfl,M,h1,h1',h2,h2',h3⟩
   exact ⟨G1,.inr ⟨o,na,nb,ac,bc,rfl,M,h1,h1',h2,h2',by omega⟩⟩
  clear M h1 h2 h3 G1 h1' h2'
  rintro c st2 ⟨G2,⟨r,z,rfl,J⟩ | ⟨o,na,nb,ac,bc,rfl,M,h1,h1',h2,h2',h3⟩⟩
  ·dsimp -zeta only
   exact wpS_pure ⟨G2,r,_,rfl,J⟩
  dsimp -zeta only
  refine wpS_bind (wpS_lift (wpAny_rule ⟨rfl,?_⟩))
  refine wpS_bind (wpS_mono (wpS_forRange (I:=fun y c st'=>Gs st st' /\ ∃ o na nb mg ac bc,c = (none,na,nb,o,mg,ac,bc) /\ MH f a.toList b.toList na nb o.toList /\ 0 < na /\ na <= a.size /\ 1 < nb /\ nb <= b.size /\ na + nb + x + 2 <= a.size + b.size)
   (Q:=fun c st'=>Gs st st' /\ ((∃ r z,c = (some r,z) /\ Ct f a.toList b.toList r.toList) \/ ∃ o na nb mg ac bc,c = (none,na,nb,o,mg,ac,bc) /\ MH f a.toList b.toList na nb o.toList /\ 0 < na /\ na <= a.size /\ 1 < nb /\ nb <= b.size /\ na + nb + x + 2 <= a.size + b.size)) ?_ ?_ ⟨G2,_,_,_,_,_,_,rfl,M,h1,h1',h2,h2',h3⟩) ?_)
  ·clear M h1 h2 h3 G2 h1' h2'
   rintro y c st1 _ hy' ⟨G1,o,na,nb,mg,ac,bc,rfl,M,h1,h1',h2,h2',h3⟩
   obtain ⟨gx,rfl⟩ := G1
   obtain ⟨q,hq⟩ := Bu (a:=b) (i:=nb - 1) (by omega)
   dsimp -zeta only
   have ga : ∀ {Q' : Option Nat -> SortSt -> Prop} {mg}, (∀ k, k <= na -> (∀ m, m < k -> fa f a m <= f q) -> (∀ m, k <= m -> m < na -> f q <= fa f a m) -> Q' (some k) (SortSt.mk' (kindOf st) (arrOf st) (pendingOf st) mg (failedOf st))) ->
     wpS (model prog w) A E s (Hy false q a 0 na (na - 1)) Q' (SortSt.mk' (kindOf st) (arrOf st) (pendingOf st) mg (failedOf st)):=fun {Q'} {mg} hq'=>by
    refine Dm hA (hk' mg) (hb q (Array.mem_of_getElem? hq)) ha (by omega) (by omega) (hax (by omega)) fun k g1 g2 g3=>hq' k (by omega) (fun m hm=>?_) (fun m hm1 hm2=>?_)
    ·have:=g2 m hm
     simpa using this
    ·have:=g3 m hm1 (by omega)
     simp at this
     omega
   have gb : ∀ {Q' : Option Nat -> SortSt -> Prop} {mg i j p}, a[i]? = some p -> 0 < j -> j <= b.size -> (∀ k, k <= j -> (∀ m, m < k -> fa f b m <= f p) -> (∀ m, k <= m -> m < j -> f p <= fa f b m) -> Q' (some k) (SortSt.mk' (kindOf st) (arrOf st) (pendingOf st) mg (failedOf st))) ->
     wpS (model prog w) A E s (Hy true p b 0 j (j - 1)) Q' (SortSt.mk' (kindOf st) (arrOf st) (pendingOf st) mg (failedOf st)):=fun {Q'} {mg i j p} hp hj hj2 hq'=>by
    refine Dm hA (hk' mg) (ha p (Array.mem_of_getElem? hp)) hb (by omega) (by omega) (hbx (by omega)) fun k g1 g2 g3=>hq' k (by omega) (fun m hm=>?_) (fun m hm1 hm2=>?_)
    ·have:=g2 m hm
     simp at this
     omega
    ·have:=g3 m hm1 (by omega)
     simpa using this
   dsimp only
   apply Xj mg (mg - 1) (Eq.refl _) (Eq.refl _)
   intro mg
   refine wpS_bind (wpS_modify ?_)
   refine wpS_bind (Bc hq (wpS_bind (ga fun k g1 g2 g3=>?_)))
   dsimp only
   have hqb:∀ l,l < nb -> fa f b l <= f q:=fun l hl=>by
    have:=hbx (lo:=0) (hi:=b.size) (Nat.le_refl _) l (nb - 1) (by omega) (by omega) (by omega)
    rw [Au hq] at this
    exact this
   generalize hac:na - k = ac2
   apply K5 (fun o2 n2=>MH f a.toList b.toList n2 nb o2.toList /\ 0 < n2 /\ n2 <= na /\ ∀ l,l < n2 -> fa f a l <= f q) o na (Eq.refl _) (fun z=>⟨M,h1,Nat.le_refl _,fun l hl=>g2 l (by omega)⟩)
   ·intro z K
    have M2:=M.appA hx hy g1 (fun n hn1 hn2 l hl=>Nat.le_trans (hqb l hl) (g3 n hn1 hn2))
    by_cases e:k = 0
    ·rw [if_pos (Er e)]
     exact wpS_pure ⟨⟨_,rfl⟩,.inl ⟨_,_,rfl,M2.retDone hx hy (.inl e)⟩⟩
    rw [if_neg (Em e)]
    exact K _ _ ⟨M2,by omega,g1,g2⟩
   rintro o2 n2 ⟨M2,hn2,hn2',g2'⟩
   clear g2 g3 M hqb
   refine wpS_bind (Bc hq ?_)
   have M3:=MH.pushB (j:=nb - 1) (by rw [show nb - 1 + 1 = nb by omega]; exact M2) hx hy hq g2'
   generalize hnb:nb - 1 = nb1 at M3 hq ⊢
   generalize o2.push q = o3 at M3 ⊢
   by_cases e':nb1 = 1
   ·rw [if_pos (Er e')]
    exact wpS_pure ⟨⟨_,rfl⟩,.inl ⟨_,_,rfl,M3.retFirst hx hy e' hfirst⟩⟩
   rw [if_neg (Em e')]
   obtain ⟨p,hp⟩ := Bu (a:=a) (i:=n2 - 1) (by omega)
   refine wpS_bind (Bc hp (wpS_bind (gb hp (by omega) (by omega) fun k2 c1 c2 c3=>?_)))
   dsimp only
   generalize hbc:nb1 - k2 = bc2
   apply K5 (fun o4 j4=>MH f a.toList b.toList n2 j4 o4.toList /\ 1 < j4 /\ j4 <= nb1 /\ ∀ l,l < j4 -> fa f b l <= f p) o3 nb1 (Eq.refl _) (fun z=>⟨M3,by omega,Nat.le_refl _,fun l hl=>c2 l (by omega)⟩)
   ·intro z K
    have M4:=M3.appB hx hy c1 (fun n hn1 hn2 l hl=>Nat.le_trans (by
     have:=hax (lo:=0) (hi:=a.size) (Nat.le_refl _) l (n2 - 1) (by omega) (by omega) (by omega)
     rw [Au hp] at this
     exact this) (c3 n hn1 hn2))
    by_cases e4:k2 = 1
    ·rw [if_pos (Er e4)]
     exact wpS_pure ⟨⟨_,rfl⟩,.inl ⟨_,_,rfl,M4.retFirst hx hy e4 hfirst⟩⟩
    rw [if_neg (Em e4)]
    by_cases e5:k2 = 0
    ·rw [if_pos (Er e5)]
     exact wpS_pure ⟨⟨_,rfl⟩,.inl ⟨_,_,rfl,M4.retDone hx hy (.inr e5)⟩⟩
    rw [if_neg (Em e5)]
    exact K _ _ ⟨M4,by omega,c1,c2⟩
   rintro o4 j4 ⟨M4,hj4,hj4',c2'⟩
   clear c1 c2 c3 M3 M2
   refine wpS_bind (Bc hp ?_)
   have M5:=MH.pushA (i:=n2 - 1) (by rw [show n2 - 1 + 1 = n2 by omega]; exact M4) hx hy hp c2'
   by_cases e6:n2 - 1 = 0
   ·rw [if_pos (Er e6)]
    exact wpS_pure ⟨⟨_,rfl⟩,.inl ⟨_,_,rfl,M5.retDone hx hy (.inl e6)⟩⟩
   rw [if_neg (Em e6)]
   split
   ·exact wpS_pure ⟨⟨_,rfl⟩,.inr ⟨_,_,_,_,_,_,rfl,M5,by omega,by omega,hj4,by omega,by omega⟩⟩
   ·exact wpS_pure ⟨⟨_,rfl⟩,_,_,_,_,_,_,rfl,M5,by omega,by omega,hj4,by omega,by omega⟩
  ·rintro c st' ⟨G1,o,na,nb,mg,ac,bc,rfl,M,h1,h1',h2,h2',h3⟩
   exact ⟨G1,.inr ⟨o,na,nb,mg,ac,bc,rfl,M,h1,h1',h2,h2',h3⟩⟩
  clear M h1 h2 h3 G2 h1' h2'
  rintro c st2 ⟨G2,⟨r,z,rfl,J⟩ | ⟨o,na,nb,mg,ac,bc,rfl,M,h1,h1',h2,h2',h3⟩⟩
  ·dsimp -zeta only
   exact wpS_pure ⟨G2,r,_,rfl,J⟩
  dsimp -zeta only
  obtain ⟨gx,rfl⟩ := G2
  refine wpS_bind (wpS_modify ?_)
  exact wpS_pure ⟨⟨_,rfl⟩,_,_,_,_,rfl,M,h1,h1',h2,h2',by omega⟩
 ·rintro c st' ⟨G1,o,na,nb,g,rfl,M,h1,h1',h2,h2',h3⟩
  exfalso
  omega
 rintro c st' ⟨G1,r,z,rfl,J⟩
 dsimp -zeta only
 exact wpS_pure (h _ _ G1 J)
end
section
variable {f:Keyed -> Nat}
theorem Ey {xs:Array Keyed} {i j:Nat} (hj:j <= xs.size) (k:Nat):fa f (mirror xs i j ((j - i) / 2)) k = if i <= k /\ k < j then fa f xs (i + j - 1 - k) else fa f xs k:=by
 have e:=getElem?_mirror_all (i:=i) hj k
 by_cases h:i <= k /\ k < j
 ·rw [if_pos h] at e ⊢
  exact E8 e
 ·rw [if_neg h] at e ⊢
  exact E8 e
theorem Hr {xs:Array Keyed} {i j:Nat} (hj:j <= xs.size) (h:∀ k l,i <= k -> k < j -> i <= l -> l < j -> fa f xs k = fa f xs l) (k:Nat):fa f (mirror xs i j ((j - i) / 2)) k = fa f xs k:=by
 rw [Ey hj]
 split
 ·exact h _ _ (by omega) (by omega) (by omega) (by omega)
 ·rfl
theorem W2 {xs:Array Keyed} {src d:Nat} (hs:src < xs.size) (hd:d <= src) (k:Nat):fa f (bubble xs src d) k = if k = src - d then fa f xs src else if src - d < k /\ k <= src then fa f xs (k - 1) else fa f xs k:=by
 have e:=getElem?_bubble hs d hd k
 by_cases h1:k = src - d
 ·rw [if_pos h1] at e ⊢
  exact E8 e
 ·rw [if_neg h1] at e ⊢
  by_cases h2:src - d < k /\ k <= src
  ·rw [if_pos h2] at e ⊢
   exact E8 e
  ·rw [if_neg h2] at e ⊢
   exact E8 e
theorem Wc:∀ (m:List Keyed) (n base:Nat) (a:Array Keyed),base + n + m.length <= a.size -> ∀ k:Nat,(List.foldl (fun (a:Array Keyed) (x:Keyed × Nat)=>a.setIfInBounds (base + x.snd) x.fst) a (m.zipIdx n))[k]? = if base + n <= k /\ k < base + n + m.length then m[k - (base + n)]? else a[k]?
 | [],n,base,a,h,k=>by
  rw [if_neg (by rw [List.length_nil]; omega)]
  rfl
 | p :: m,n,base,a,h,k=>by
  rw [List.length_cons] at h
  rw [List.zipIdx_cons,List.foldl_cons,Wc m (n + 1) base _ (by rw [Array.size_setIfInBounds]; omega) k,List.length_cons]
  by_cases z:k = base + n
  ·subst z
   rw [if_neg (by omega),if_pos (by omega),Nat.sub_self,List.getElem?_cons_zero]
   show (a.setIfInBounds (base + n) p)[base + n]? = some p
   rw [Array.getElem?_setIfInBounds_self_of_lt (by omega)]
  ·by_cases y:base + n <= k /\ k < base + n + (m.length + 1)
   ·rw [if_pos (by omega),if_pos y,show k - (base + n) = (k - (base + (n + 1))) + 1 by omega,List.getElem?_cons_succ]
   ·rw [if_neg (by omega),if_neg y]
    show (a.setIfInBounds (base + n) p)[k]? = _
    rw [Array.getElem?_setIfInBounds_ne (by omega)]
theorem Zx {a:Array Keyed} {m:List Keyed} {base:Nat} (h:base + m.length <= a.size) (hp:m.Perm ((a.toList.drop base).take m.length)):(List.foldl (fun (a:Array Keyed) (x:Keyed × Nat)=>a.setIfInBounds (base + x.snd) x.fst) a m.zipIdx).Perm a:=by
 generalize hr:List.foldl (fun (a:Array Keyed) (x:Keyed × Nat)=>a.setIfInBounds (base + x.snd) x.fst) a m.zipIdx = r
 have e:∀ k:Nat,r[k]? = if base <= k /\ k < base + m.length then m[k - base]? else a[k]?:=fun k=>by
  rw [<- hr]
  exact Wc m 0 base a (by omega) k
 have el:r.toList = a.toList.take base ++ (m ++ a.toList.drop (base + m.length)):=by
  apply List.ext_getElem?
  intro k
  rw [Array.getElem?_toList,e k]
  have hlt:(a.toList.take base).length = base:=by rw [List.length_take,Array.length_toList]; omega
  by_cases z:k < base
  ·rw [if_neg (by omega),List.getElem?_append_left (by omega),List.getElem?_take_of_lt z,Array.getElem?_toList]
  ·rw [List.getElem?_append_right (by omega),hlt]
   by_cases y:k < base + m.length
   ·rw [if_pos (by omega),List.getElem?_append_left (by omega)]
   ·rw [if_neg (by omega),List.getElem?_append_right (by omega),List.getElem?_drop,Array.getElem?_toList]
    congr 1
    omega
 have ea:a.toList = a.toList.take base ++ ((a.toList.drop base).take m.length ++ a.toList.drop (base + m.length)):=by
  rw [<- Gz,List.take_append_drop]
 refine Array.perm_iff_toList_perm.mpr ?_
 rw [el]
 refine (List.Perm.append_left _ (hp.append_right _)).trans ?_
 rw [<- ea]
end
section
variable {prog:Program} {w:World} {A:Around} {E:Value -> Shared -> Prop} {s:Shared} {κ:SortKind} {f:Keyed -> Nat} {a₀:Array Keyed} {st:SortSt}
theorem Pu (a:Array Keyed) {i j:Nat} (h:i <= j):(a.extract i j).toList = (a.toList.drop i).take (j - i):=by
 obtain ⟨k,rfl⟩ : ∃ k,j = i + k:=⟨j - i,by omega⟩
 rw [Gf]
 congr 1
 omega
theorem Gb {a:Array Keyed} {i j:Nat} {p:Keyed} (h:p ∈ (a.extract i j).toList) (hij:i <= j):∃ k,i <= k /\ k < j /\ a[k]? = some p:=by
 rw [Pu a hij] at h
 obtain ⟨m,h1,h2⟩ := Ea h
 rw [Array.getElem?_toList] at h2
 exact ⟨i + m,by omega,by omega,h2⟩
theorem Tp {a:Array Keyed} {i j k:Nat} (hj:j <= a.size) (h:i + k < j):(a.extract i j)[k]? = a[i + k]?:=by
 rw [Array.getElem?_extract]
 split
 ·rfl
 ·omega
theorem Ty {a:Array Keyed} {i j:Nat} (h:Hi f a i j) (hj:j <= a.size) (hij:i <= j):Df f (a.extract i j).toList:=by
 refine List.pairwise_iff_getElem.mpr fun m n hm hn hmn=>?_
 have hl:(a.extract i j).toList.length = j - i:=by rw [Array.length_toList,Array.size_extract]; omega
 rw [hl] at hm hn
 have e1:(a.extract i j)[m]? = some (a.extract i j).toList[m]:=by rw [<- Array.getElem?_toList]; exact List.getElem?_eq_getElem _
 have e2:(a.extract i j)[n]? = some (a.extract i j).toList[n]:=by rw [<- Array.getElem?_toList]; exact List.getElem?_eq_getElem _
 rw [Tp hj (by omega)] at e1 e2
 have:=h (i + m) (i + n) (by omega) (by omega) (by omega)
 rw [Au e1,Au e2] at this
 exact this
theorem Wr {a:Array Keyed} {i j k:Nat} (hj:j <= a.size) (h:i + k < j):fa f (a.extract i j) k = fa f a (i + k):=E8 (Tp hj h)
theorem Zg {σ:Type} {s' st:σ} {Q:PUnit -> σ -> Prop} {M:Model} (h:Q ⟨⟩ s'):wpS M A E s (set s':StateT σ Sem PUnit) Q st:=by
 unfold wpS
 rw [StateT.run_set]
 exact wpAny_pure ⟨rfl,h⟩
theorem Q6 (hA : He prog w A s κ f a₀) (hB : Bs κ a₀ st) {i sa na pw sb nb pb : Nat} (hi : (pendingOf st)[i]? = some (sa, na, pw)) (hj : (pendingOf st)[i + 1]? = some (sb, nb, pb)) (hs : sb = sa + na) (hna : 0 < na) (hnb : 0 < nb) (hsz : sb + nb <= a₀.size)
  (hAs:Hi f (arrOf st) sa sb) (hBs:Hi f (arrOf st) sb (sb + nb)) {Q:Bool -> SortSt -> Prop}
  (h:∀ st',Bs κ a₀ st' -> pendingOf st' = ((pendingOf st).setIfInBounds i (sa,na + nb,pw)).eraseIdxIfInBounds (i + 1) -> Hi f (arrOf st') sa (sb + nb) -> (∀ k,k < sa \/ sb + nb <= k -> fa f (arrOf st') k = fa f (arrOf st) k) -> Q true st'):wpS (model prog w) A E s (mergeAt' i) Q st:=by
 have hsize:=hB.size
 have harr:∀ p,p ∈ arrOf st -> p ∈ a₀:=fun p hp=>hB.perm.mem_iff.mp hp
 refine wpS_bind (wpS_get ?_)
 dsimp only
 rw [hi,hj]
 dsimp only
 obtain ⟨q,hq⟩ := Bu (a:=arrOf st) (i:=sb) (by omega)
 have hk1:∀ P g,kindOf (SortSt.mk' (kindOf st) (arrOf st) P g (failedOf st)) = κ:=fun _ _=>hB.kind
 refine wpS_bind (Zg ?_)
 refine wpS_bind (Bc hq (wpS_bind (Dm hA (hk1 _ _) (hB.mem hq) harr (base:=sa) (n:=na) (by omega) (by omega) (by rw [<- hs]; exact hAs) fun k k1 k2 k3=>?_)))
 dsimp only
 have k2':∀ m,sa <= m -> m < sa + k -> fa f (arrOf st) m <= fa f (arrOf st) sb:=fun m m1 m2=>by
  have:=k2 (m - sa) (by omega)
  rw [show sa + (m - sa) = m by omega] at this
  rw [Au hq]
  simpa using this
 have k3':∀ m,sa + k <= m -> m < sb -> fa f (arrOf st) sb <= fa f (arrOf st) m:=fun m m1 m2=>by
  have:=k3 (m - sa) (by omega) (by omega)
  rw [show sa + (m - sa) = m by omega] at this
  rw [Au hq]
  simp at this
  omega
 by_cases e1:na - k = 0
 ·rw [if_pos (Er e1)]
  refine wpS_pure (h _ ⟨hB.perm,hB.kind,hB.failed⟩ rfl (fun m n h1 h2 h3=>?_) fun _ _=>rfl)
  by_cases z:n < sb
  ·exact hAs m n h1 h2 z
  ·by_cases y:m < sb
   ·exact Nat.le_trans (k2' m h1 (by omega)) (hBs sb n (Nat.le_refl _) (by omega) h3)
   ·exact hBs m n (by omega) h2 h3
 rw [if_neg (Em e1)]
 obtain ⟨p,hp⟩ := Bu (a:=arrOf st) (i:=sa + k + (na - k) - 1) (by omega)
 have hp':(arrOf st)[sb - 1]? = some p:=by rw [<- hp]; congr 1; omega
 refine wpS_bind (Bc hp (wpS_bind (Dm hA (hk1 _ _) (hB.mem hp) harr (base:=sb) (n:=nb) (by omega) (by omega) hBs fun l l1 l2 l3=>?_)))
 dsimp only
 have l2':∀ m,sb <= m -> m < sb + l -> fa f (arrOf st) m <= fa f (arrOf st) (sb - 1):=fun m m1 m2=>by
  have:=l2 (m - sb) (by omega)
  rw [show sb + (m - sb) = m by omega] at this
  rw [Au hp']
  simp at this
  omega
 have l3':∀ m,sb + l <= m -> m < sb + nb -> fa f (arrOf st) (sb - 1) <= fa f (arrOf st) m:=fun m m1 m2=>by
  have:=l3 (m - sb) (by omega) (by omega)
  rw [show sb + (m - sb) = m by omega] at this
  rw [Au hp']
  simpa using this
 by_cases e2:l = 0
 ·rw [if_pos (Er e2)]
  refine wpS_pure (h _ ⟨hB.perm,hB.kind,hB.failed⟩ rfl (fun m n h1 h2 h3=>?_) fun _ _=>rfl)
  by_cases z:n < sb
  ·exact hAs m n h1 h2 z
  ·by_cases y:m < sb
   ·exact Nat.le_trans (hAs m (sb - 1) h1 (by omega) (by omega)) (l3' n (by omega) h3)
   ·exact hBs m n (by omega) h2 h3
 rw [if_neg (Em e2)]
 have hx:Df f ((arrOf st).extract (sa + k) sb).toList:=Ty (fun m n h1 h2 h3=>hAs m n (by omega) h2 h3) (by omega) (by omega)
 have hy:Df f ((arrOf st).extract sb (sb + l)).toList:=Ty (fun m n h1 h2 h3=>hBs m n h1 h2 (by omega)) (by omega) (by omega)
 have ax:∀ p,p ∈ (arrOf st).extract (sa + k) sb -> p ∈ a₀:=fun p hp=>by
  obtain ⟨m,_,_,e⟩ := Gb (Array.mem_toList_iff.mpr hp) (by omega)
  exact hB.mem e
 have ay:∀ p,p ∈ (arrOf st).extract sb (sb + l) -> p ∈ a₀:=fun p hp=>by
  obtain ⟨m,_,_,e⟩ := Gb (Array.mem_toList_iff.mpr hp) (by omega)
  exact hB.mem e
 have sx:((arrOf st).extract (sa + k) sb).size = na - k:=by rw [Array.size_extract]; omega
 have sy:((arrOf st).extract sb (sb + l)).size = l:=by rw [Array.size_extract]; omega
 have fx:∀ m,m < na - k -> fa f ((arrOf st).extract (sa + k) sb) m = fa f (arrOf st) (sa + k + m):=fun m hm=>Wr (by omega) (by omega)
 have fy:∀ m,m < l -> fa f ((arrOf st).extract sb (sb + l)) m = fa f (arrOf st) (sb + m):=fun m hm=>Wr (by omega) (by omega)
 have fin : ∀ (r : Array Keyed) (st1 : SortSt), Ct f ((arrOf st).extract (sa + k) sb).toList ((arrOf st).extract sb (sb + l)).toList r.toList -> kindOf st1 = κ -> failedOf st1 = none -> arrOf st1 = arrOf st -> pendingOf st1 = ((pendingOf st).setIfInBounds i (sa, na + nb, pw)).eraseIdxIfInBounds (i + 1) ->
   Q true (setArr st1 (List.foldl (fun (a:Array Keyed) (x:Keyed × Nat)=>a.setIfInBounds (sa + k + x.snd) x.fst) (arrOf st1) r.toList.zipIdx)):=fun r st1 J g1 g2 g3 g4=>by
  have hlen:r.toList.length = na - k + l:=by
   rw [J.1.length_eq,List.length_append,Array.length_toList,Array.length_toList,sx,sy]
  have hseg:((arrOf st).extract (sa + k) sb).toList ++ ((arrOf st).extract sb (sb + l)).toList = ((arrOf st).toList.drop (sa + k)).take r.toList.length:=by
   rw [hlen,Pu _ (by omega),Gf,show sb - (sa + k) = na - k by omega,List.take_add,List.drop_drop,show sa + k + (na - k) = sb by omega]
  have hwb:∀ m:Nat,(List.foldl (fun (a:Array Keyed) (x:Keyed × Nat)=>a.setIfInBounds (sa + k + x.snd) x.fst) (arrOf st1) r.toList.zipIdx)[m]? = if sa + k <= m /\ m < sa + k + r.toList.length then r.toList[m - (sa + k)]? else (arrOf st)[m]?:=fun m=>by
   rw [g3]
   exact Wc r.toList 0 (sa + k) (arrOf st) (by omega) m
  have hperm:(List.foldl (fun (a:Array Keyed) (x:Keyed × Nat)=>a.setIfInBounds (sa + k + x.snd) x.fst) (arrOf st1) r.toList.zipIdx).Perm (arrOf st):=by
   rw [g3]
   refine Zx (by omega) ?_
   rw [<- hseg]
   exact J.1
  generalize List.foldl (fun (a:Array Keyed) (x:Keyed × Nat)=>a.setIfInBounds (sa + k + x.snd) x.fst) (arrOf st1) r.toList.zipIdx = a' at hwb hperm ⊢
  have fout:∀ m,m < sa + k \/ sb + l <= m -> fa f a' m = fa f (arrOf st) m:=fun m hm=>by
   refine E8 ?_
   rw [hwb m,if_neg (by omega)]
  have fin2:∀ m,sa + k <= m -> m < sb + l -> ∃ p,r.toList[m - (sa + k)]? = some p /\ fa f a' m = f p /\ ∃ n,sa + k <= n /\ n < sb + l /\ (arrOf st)[n]? = some p:=fun m h1 h2=>by
   have hm:m - (sa + k) < r.toList.length:=by omega
   refine ⟨r.toList[m - (sa + k)],List.getElem?_eq_getElem hm,?_,?_⟩
   ·refine Au ?_
    rw [hwb m,if_pos (by omega)]
    exact List.getElem?_eq_getElem hm
   ·have hmem:=J.1.mem_iff.mp (List.getElem_mem hm)
    rcases List.mem_append.mp hmem with z | z
    ·obtain ⟨n,n1,n2,n3⟩ := Gb z (by omega)
     exact ⟨n,n1,by omega,n3⟩
    ·obtain ⟨n,n1,n2,n3⟩ := Gb z (by omega)
     exact ⟨n,by omega,n2,n3⟩
  have lowP:∀ m,sa <= m -> m < sa + k -> ∀ n,sa + k <= n -> n < sb + l -> fa f (arrOf st) m <= fa f (arrOf st) n:=fun m m1 m2 n n1 n2=>by
   by_cases z:n < sb
   ·exact hAs m n m1 (by omega) z
   ·exact Nat.le_trans (k2' m m1 m2) (hBs sb n (Nat.le_refl _) (by omega) (by omega))
  have highP:∀ m,sb + l <= m -> m < sb + nb -> ∀ n,sa + k <= n -> n < sb + l -> fa f (arrOf st) n <= fa f (arrOf st) m:=fun m m1 m2 n n1 n2=>by
   by_cases z:n < sb
   ·exact Nat.le_trans (hAs n (sb - 1) (by omega) (by omega) (by omega)) (l3' m m1 m2)
   ·exact hBs n m (by omega) (by omega) m2
  refine h _ ⟨hperm.trans hB.perm,g1,g2⟩ g4 (fun m n h1 h2 h3=>?_) (fun m hm=>fout m (by omega))
  by_cases c1:m < sa + k
  ·rw [fout m (.inl c1)]
   by_cases c2:n < sa + k
   ·rw [fout n (.inl c2)]
    exact hAs m n h1 h2 (by omega)
   ·by_cases c3:n < sb + l
    ·obtain ⟨p,_,e,n',n1,n2,n3⟩ := fin2 n (by omega) c3
     rw [e,<- Au (f:=f) n3]
     exact lowP m h1 c1 n' n1 n2
    ·rw [fout n (.inr (by omega))]
     exact Nat.le_trans (lowP m h1 c1 (sb - 1) (by omega) (by omega)) (l3' n (by omega) h3)
  ·by_cases c3:n < sb + l
   ·obtain ⟨p,e1,e2,_⟩ := fin2 m (by omega) (by omega)
    obtain ⟨q,e3,e4,_⟩ := fin2 n (by omega) c3
    rw [e2,e4]
    exact Lb J.2 e1 e3 (by omega)
   ·rw [fout n (.inr (by omega))]
    by_cases c4:m < sb + l
    ·obtain ⟨p,_,e,n',n1,n2,n3⟩ := fin2 m (by omega) c4
     rw [e,<- Au (f:=f) n3]
     exact highP n (by omega) h3 n' n1 n2
    ·rw [fout m (.inr (by omega))]
     exact hBs m n (by omega) h2 h3
 by_cases e3:na - k <= l
 ·rw [if_pos e3]
  refine wpS_bind (Qj hA (hk1 _ _) ax ay hx hy (by omega) (by omega) ?_ ?_ fun r st1 G J=>?_)
  ·rw [fx 0 (by omega),fy 0 (by omega)]
   exact k3' _ (by omega) (by omega)
  ·intro q hq
   obtain ⟨m,m1,m2,m3⟩ := Gb hq (by omega)
   rw [sx,fx _ (by omega),show sa + k + (na - k - 1) = sb - 1 by omega,<- Au (f:=f) m3]
   exact l2' m m1 m2
  ·obtain ⟨g,rfl⟩ := G
   refine wpS_bind (wpS_modify ?_)
   refine wpS_bind (wpS_get (wpS_pure ?_))
   have e:(failedOf st).isNone = true:=by rw [hB.failed]; rfl
   have:=fin r (SortSt.mk' (kindOf st) (arrOf st) (((pendingOf st).setIfInBounds i (sa,na + nb,pw)).eraseIdxIfInBounds (i + 1)) g (failedOf st)) J hB.kind hB.failed rfl rfl
   rw [<- e] at this
   exact this
 ·rw [if_neg e3]
  refine wpS_bind (Q9 hA (hk1 _ _) ax ay hx hy (by omega) (by omega) ?_ ?_ fun r st1 G J=>?_)
  ·intro p hp
   obtain ⟨m,m1,m2,m3⟩ := Gb hp (by omega)
   rw [fy 0 (by omega),<- Au (f:=f) m3]
   exact k3' m m1 m2
  ·intro j hj
   rw [sx,fx _ (by omega),fy j (by omega),show sa + k + (na - k - 1) = sb - 1 by omega]
   exact l2' _ (by omega) (by omega)
  ·obtain ⟨g,rfl⟩ := G
   refine wpS_bind (wpS_modify ?_)
   refine wpS_bind (wpS_get (wpS_pure ?_))
   have e:(failedOf st).isNone = true:=by rw [hB.failed]; rfl
   have:=fin r (SortSt.mk' (kindOf st) (arrOf st) (((pendingOf st).setIfInBounds i (sa,na + nb,pw)).eraseIdxIfInBounds (i + 1)) g (failedOf st)) J hB.kind hB.failed rfl rfl
   rw [<- e] at this
   exact this
end
section
variable {prog:Program} {w:World} {A:Around} {E:Value -> Shared -> Prop} {s:Shared} {κ:SortKind} {f:Keyed -> Nat} {a₀:Array Keyed} {st:SortSt}
noncomputable def Ch (f:Keyed -> Nat) (lo:Nat) (st st':SortSt):Prop:=pendingOf st' = pendingOf st /\ ∀ k,k < lo -> fa f (arrOf st') k = fa f (arrOf st) k
theorem Ch.refl {lo:Nat}:Ch f lo st st:=⟨rfl,fun _ _=>rfl⟩
theorem Ch.trans {lo:Nat} {st1 st2 st3:SortSt} (h:Ch f lo st1 st2) (g:Ch f lo st2 st3):Ch f lo st1 st3:=⟨g.1.trans h.1,fun k hk=>(g.2 k hk).trans (h.2 k hk)⟩
theorem I0 {i j:Nat} {Q:Unit -> SortSt -> Prop} (h:Q () (setArr st (mirror (arrOf st) i j ((j - i) / 2)))):wpS (model prog w) A E s (reverseSlice' i j) Q st:=by
 rw [reverseSlice'_eq]
 exact wpS_modify h
theorem Bs.rev (hB:Bs κ a₀ st) (i j:Nat):Bs κ a₀ (setArr st (mirror (arrOf st) i j ((j - i) / 2))):=⟨(mirror_perm _ _ _ _).trans hB.perm,hB.kind,hB.failed⟩
theorem Z9 {a:Array Keyed} {lo:Nat}:Hi f a lo (lo + 1):=fun i j h1 h2 h3=>by
 obtain rfl:i = j:=by omega
 exact Nat.le_refl _
theorem Qi {a:Array Keyed} {lo n:Nat} (h:Hi f a lo (lo + n)) (hn:0 < n) (e:fa f a (lo + n - 1) <= fa f a (lo + n)):Hi f a lo (lo + (n + 1)):=fun i j h1 h2 h3=>by
 by_cases z:j < lo + n
 ·exact h i j h1 h2 z
 ·obtain rfl:j = lo + n:=by omega
  by_cases y:i < lo + n
  ·exact Nat.le_trans (h i (lo + n - 1) h1 (by omega) (by omega)) e
  ·obtain rfl:i = lo + n:=by omega
   exact Nat.le_refl _
noncomputable def am (f:Keyed -> Nat) (a:Array Keyed) (lo n q:Nat):Prop:=(∀ i j,lo <= i -> i <= j -> j < lo + n -> fa f a j <= fa f a i) /\ q < n /\ ∀ i,lo + n - (q + 1) <= i -> i < lo + n -> fa f a i = fa f a (lo + n - 1)
theorem am.flat {a:Array Keyed} {lo n q:Nat} (h:am f a lo n q) (hs:lo + n <= a.size) (k:Nat):fa f (mirror a (lo + n - (q + 1)) (lo + n) ((lo + n - (lo + n - (q + 1))) / 2)) k = fa f a k:=Hr hs (fun k l h1 h2 h3 h4=>(h.2.2 k h1 h2).trans (h.2.2 l h3 h4).symm) k
theorem am.asc {a b:Array Keyed} {lo n q:Nat} (h:am f a lo n q) (hs:lo + n <= b.size) (e:∀ k,fa f b k = fa f a k):Hi f (mirror b lo (lo + n) ((lo + n - lo) / 2)) lo (lo + n):=fun i j h1 h2 h3=>by
 rw [Ey hs,Ey hs,if_pos (by omega),if_pos (by omega),e,e]
 exact h.1 _ _ (by omega) (by omega) (by omega)
theorem Rm (hA : He prog w A s κ f a₀) (hB : Bs κ a₀ st) {lo nr : Nat} (hn0 : 0 < nr) (hsz : lo + nr <= a₀.size) {Q : Option Nat -> SortSt -> Prop}
  (h:∀ m st',0 < m -> m <= nr -> Bs κ a₀ st' -> Ch f lo st st' -> Hi f (arrOf st') lo (lo + m) -> Q (some m) st'):wpS (model prog w) A E s (countRun' lo nr) Q st:=by
 refine wpS_bind (wpS_mono (wpS_forRange (I:=fun x c st'=>st' = st /\ c = (none,x) /\ Hi f (arrOf st) lo (lo + x)) (Q:=fun c st'=>st' = st /\ ∃ n,c = (none,n) /\ 0 < n /\ n <= nr /\ Hi f (arrOf st) lo (lo + n) /\ (n < nr -> fa f (arrOf st) (lo + n) < fa f (arrOf st) (lo + n - 1))) ?_ ?_ ⟨rfl,rfl,Z9⟩) ?_)
 ·rintro x c st' h1 h2 ⟨rfl,rfl,h3⟩
  dsimp only
  refine wpS_bind (Gm hA hB (by omega) (by omega) ?_)
  dsimp only
  by_cases z:fa f (arrOf st') (lo + x) < fa f (arrOf st') (lo + x - 1)
  ·rw [if_pos (decide_eq_true z)]
   exact wpS_pure ⟨rfl,x,rfl,by omega,by omega,h3,fun _=>z⟩
  ·rw [if_neg (by rw [decide_eq_true_eq]; exact z)]
   exact wpS_pure ⟨rfl,rfl,Qi h3 (by omega) (by omega)⟩
 ·rintro c st' ⟨rfl,rfl,h3⟩
  have e:max 1 nr = nr:=by omega
  rw [e] at h3 ⊢
  exact ⟨rfl,nr,rfl,hn0,Nat.le_refl _,h3,fun z=>absurd z (Nat.lt_irrefl _)⟩
 rintro c st' ⟨rfl,n,rfl,h1,h2,h3,h4⟩
 dsimp only
 by_cases e1:n = nr
 ·rw [if_pos (Er e1)]
  exact wpS_pure (h _ _ h1 h2 hB Ch.refl h3)
 rw [if_neg (Em e1)]
 have h4':=h4 (by omega)
 have part:∀ st1,Bs κ a₀ st1 -> pendingOf st1 = pendingOf st' -> (∀ k,fa f (arrOf st1) k = fa f (arrOf st') k) -> (∀ i,lo <= i -> i < lo + n -> fa f (arrOf st') i = fa f (arrOf st') (lo + n - 1)) -> am f (arrOf st1) lo (n + 1) 0:=fun st1 B1 p1 f1 eq=>by
  refine ⟨fun i j i1 i2 i3=>?_,by omega,fun i i1 i2=>?_⟩
  ·rw [f1,f1]
   by_cases z:j < lo + n
   ·rw [eq i i1 (by omega),eq j (by omega) z]
    exact Nat.le_refl _
   ·obtain rfl:j = lo + n:=by omega
    by_cases y:i < lo + n
    ·rw [eq i i1 y]
     omega
    ·obtain rfl:i = lo + n:=by omega
     exact Nat.le_refl _
  ·obtain rfl:i = lo + n:=by omega
   rfl
 by_cases e2:n > 1
 case' pos =>
  rw [if_pos e2]
  refine wpS_bind (Gm hA hB (by omega) (by omega) ?_)
  dsimp only
  by_cases z:fa f (arrOf st') lo < fa f (arrOf st') (lo + n - 1)
  ·rw [if_pos (decide_eq_true z)]
   exact wpS_pure (h _ _ h1 h2 hB Ch.refl h3)
  rw [if_neg (by rw [decide_eq_true_eq]; exact z)]
  have eq:∀ i,lo <= i -> i < lo + n -> fa f (arrOf st') i = fa f (arrOf st') (lo + n - 1):=fun i i1 i2=>by
   have a1:=h3 lo i (Nat.le_refl _) i1 i2
   have a2:=h3 i (lo + n - 1) i1 (by omega) (by omega)
   omega
  refine wpS_bind (I0 ?_)
  have B1:=hB.rev lo (lo + n)
  have f1:∀ k,fa f (arrOf (setArr st' (mirror (arrOf st') lo (lo + n) ((lo + n - lo) / 2)))) k = fa f (arrOf st') k:=Hr (by rw [hB.size]; omega) fun k l k1 k2 l1 l2=>(eq k k1 k2).trans (eq l l1 l2).symm
  have F1:=part _ B1 rfl f1 eq
  have C1:Ch f lo st' (setArr st' (mirror (arrOf st') lo (lo + n) ((lo + n - lo) / 2))):=⟨rfl,fun k _=>f1 k⟩
  generalize setArr st' (mirror (arrOf st') lo (lo + n) ((lo + n - lo) / 2)) = st1 at B1 F1 C1 ⊢
 case' neg =>
  rw [if_neg e2]
  obtain rfl:n = 1:=by omega
  have F1:=part st' hB rfl (fun _=>rfl) fun i i1 i2=>by
   obtain rfl:i = lo:=by omega
   rfl
  have C1:Ch f lo st' st':=Ch.refl
  have B1:=hB
 all_goals
  refine wpS_bind (wpS_lift (wpAny_rule ⟨rfl,?_⟩))
  refine wpS_bind (wpS_mono (wpS_forRange (I:=fun x c st2=>∃ q,c = (none,x,q) /\ x <= nr /\ Bs κ a₀ st2 /\ Ch f lo st' st2 /\ am f (arrOf st2) lo x q) (Q:=fun c st2=>∃ n q,c = (none,n,q) /\ n <= nr /\ Bs κ a₀ st2 /\ Ch f lo st' st2 /\ am f (arrOf st2) lo n q) ?_ ?_ ⟨0,rfl,by omega,B1,C1,F1⟩) ?_)
  ·rintro x c st2 x1 x2 ⟨q,rfl,_,B2,C2,F2⟩
   dsimp only
   have sz:=B2.size
   refine wpS_bind (Gm hA B2 (by omega) (by omega) ?_)
   dsimp only
   by_cases z:fa f (arrOf st2) (lo + x) < fa f (arrOf st2) (lo + x - 1)
   ·rw [if_pos (decide_eq_true z)]
    have F3:∀ st3,(∀ k,fa f (arrOf st3) k = fa f (arrOf st2) k) -> am f (arrOf st3) lo (x + 1) 0:=fun st3 e3=>by
     have q1:=F2.2.1
     refine ⟨fun i j i1 i2 i3=>?_,by omega,fun i i1 i2=>?_⟩
     ·rw [e3,e3]
      by_cases y:j < lo + x
      ·exact F2.1 i j i1 i2 y
      ·obtain rfl:j = lo + x:=by omega
       by_cases v:i < lo + x
       ·exact Nat.le_trans (Nat.le_of_lt z) (F2.1 i (lo + x - 1) i1 (by omega) (by omega))
       ·obtain rfl:i = lo + x:=by omega
        exact Nat.le_refl _
     ·obtain rfl:i = lo + x:=by omega
      rfl
    by_cases e:q > 0
    ·rw [if_pos e]
     exact wpS_bind (I0 (wpS_pure ⟨0,rfl,by omega,B2.rev _ _,C2.trans ⟨rfl,fun k _=>F2.flat (by omega) k⟩,F3 _ fun k=>F2.flat (by omega) k⟩))
    ·rw [if_neg e]
     exact wpS_pure ⟨0,rfl,by omega,B2,C2,F3 _ fun _=>rfl⟩
   ·rw [if_neg (by rw [decide_eq_true_eq]; exact z)]
    refine wpS_bind (Gm hA B2 (by omega) (by omega) ?_)
    dsimp only
    by_cases y:fa f (arrOf st2) (lo + x - 1) < fa f (arrOf st2) (lo + x)
    ·rw [if_pos (decide_eq_true y)]
     exact wpS_pure ⟨x,q,rfl,by omega,B2,C2,F2⟩
    ·rw [if_neg (by rw [decide_eq_true_eq]; exact y)]
     have q1:=F2.2.1
     refine wpS_pure ⟨q + 1,rfl,by omega,B2,C2,fun i j i1 i2 i3=>?_,by omega,fun i i1 i2=>?_⟩
     ·by_cases v:j < lo + x
      ·exact F2.1 i j i1 i2 v
      ·obtain rfl:j = lo + x:=by omega
       by_cases u:i < lo + x
       ·have:=F2.1 i (lo + x - 1) i1 (by omega) (by omega)
        omega
       ·obtain rfl:i = lo + x:=by omega
        exact Nat.le_refl _
     ·rw [show lo + (x + 1) - 1 = lo + x by omega]
      by_cases v:i < lo + x
      ·have:=F2.2.2 i (by omega) v
       omega
      ·obtain rfl:i = lo + x:=by omega
       rfl
  ·rintro c st2 ⟨q,rfl,a1,B2,C2,F2⟩
   exact ⟨_,q,rfl,a1,B2,C2,F2⟩
  rintro c st2 ⟨m,q,rfl,a1,B2,C2,F2⟩
  dsimp only
  have sz:=B2.size
  have q1:=F2.2.1
  by_cases e:q > 0
  case' pos =>
   rw [if_pos e]
   refine wpS_bind (I0 (wpS_bind (I0 ?_)))
   have B3:=(B2.rev (lo + m - (q + 1)) (lo + m)).rev lo (lo + m)
   have A3:Hi f (arrOf (setArr (setArr st2 (mirror (arrOf st2) (lo + m - (q + 1)) (lo + m) ((lo + m - (lo + m - (q + 1))) / 2))) (mirror (mirror (arrOf st2) (lo + m - (q + 1)) (lo + m) ((lo + m - (lo + m - (q + 1))) / 2)) lo (lo + m) ((lo + m - lo) / 2)))) lo (lo + m):=F2.asc (b:=mirror (arrOf st2) (lo + m - (q + 1)) (lo + m) ((lo + m - (lo + m - (q + 1))) / 2)) (by rw [mirror_size]; omega) (fun k=>F2.flat (by omega) k)
   have C3:Ch f lo st' (setArr (setArr st2 (mirror (arrOf st2) (lo + m - (q + 1)) (lo + m) ((lo + m - (lo + m - (q + 1))) / 2))) (mirror (mirror (arrOf st2) (lo + m - (q + 1)) (lo + m) ((lo + m - (lo + m - (q + 1))) / 2)) lo (lo + m) ((lo + m - lo) / 2))):=C2.trans ⟨rfl,fun k hk=>by
    show fa f (mirror (mirror (arrOf st2) (lo + m - (q + 1)) (lo + m) ((lo + m - (lo + m - (q + 1))) / 2)) lo (lo + m) ((lo + m - lo) / 2)) k = _
    rw [Ey (by rw [mirror_size]; omega),if_neg (by omega)]
    exact F2.flat (by omega) k⟩
   generalize setArr (setArr st2 (mirror (arrOf st2) (lo + m - (q + 1)) (lo + m) ((lo + m - (lo + m - (q + 1))) / 2))) (mirror (mirror (arrOf st2) (lo + m - (q + 1)) (lo + m) ((lo + m - (lo + m - (q + 1))) / 2)) lo (lo + m) ((lo + m - lo) / 2)) = st3 at B3 C3 A3 ⊢
  case' neg =>
   rw [if_neg e]
   refine wpS_bind (I0 ?_)
   have B3:=B2.rev lo (lo + m)
   have A3:Hi f (arrOf (setArr st2 (mirror (arrOf st2) lo (lo + m) ((lo + m - lo) / 2)))) lo (lo + m):=F2.asc (b:=arrOf st2) (by omega) (fun k=>rfl)
   have C3:Ch f lo st' (setArr st2 (mirror (arrOf st2) lo (lo + m) ((lo + m - lo) / 2))):=C2.trans ⟨rfl,fun k hk=>by
    show fa f (mirror (arrOf st2) lo (lo + m) ((lo + m - lo) / 2)) k = _
    rw [Ey (by omega),if_neg (by omega)]⟩
   generalize setArr st2 (mirror (arrOf st2) lo (lo + m) ((lo + m - lo) / 2)) = st3 at B3 C3 A3 ⊢
  all_goals
   refine wpS_bind (wpS_mono (wpS_forRange (I:=fun x c st4=>st4 = st3 /\ c = (none,x) /\ Hi f (arrOf st3) lo (lo + x)) (Q:=fun c st4=>st4 = st3 /\ ∃ n,c = (none,n) /\ 0 < n /\ n <= nr /\ Hi f (arrOf st3) lo (lo + n)) ?_ ?_ ⟨rfl,rfl,A3⟩) ?_)
   ·rintro x c st4 y1 y2 ⟨rfl,rfl,y3⟩
    dsimp only
    refine wpS_bind (Gm hA B3 (by omega) (by omega) ?_)
    dsimp only
    by_cases z:fa f (arrOf st4) (lo + x) < fa f (arrOf st4) (lo + x - 1)
    ·rw [if_pos (decide_eq_true z)]
     exact wpS_pure ⟨rfl,x,rfl,by omega,by omega,y3⟩
    ·rw [if_neg (by rw [decide_eq_true_eq]; exact z)]
     exact wpS_pure ⟨rfl,rfl,Qi y3 (by omega) (by omega)⟩
   ·rintro c st4 ⟨rfl,rfl,y3⟩
    have e:max m nr = nr:=by omega
    rw [e] at y3 ⊢
    exact ⟨rfl,nr,rfl,hn0,Nat.le_refl _,y3⟩
   rintro c st4 ⟨rfl,n,rfl,n1,n2,n3⟩
   dsimp only
   exact wpS_pure (h _ _ n1 n2 B3 C3 n3)
end
section
variable {f:Keyed -> Nat}
noncomputable def Cu (f:Keyed -> Nat) (a:Array Keyed):Nat -> List (Nat × Nat × Nat) -> Nat -> Prop
 | s0,[],hi=>s0 = hi
 | s0,x :: r,hi=>x.1 = s0 /\ 0 < x.2.1 /\ Hi f a s0 (s0 + x.2.1) /\ Cu f a (s0 + x.2.1) r hi
theorem Cu.len {a:Array Keyed}:∀ {l:List (Nat × Nat × Nat)} {s0 hi:Nat},Cu f a s0 l hi -> s0 + l.length <= hi
 | [],s0,hi,h=>Nat.le_of_eq h
 | x :: r,s0,hi,h=>by
  have:=h.2.2.2.len
  have h2:=h.2.1
  rw [List.length_cons]
  omega
theorem Cu.congr {a a':Array Keyed}:∀ {l:List (Nat × Nat × Nat)} {s0 hi:Nat},Cu f a s0 l hi -> (∀ k,s0 <= k -> k < hi -> fa f a' k = fa f a k) -> Cu f a' s0 l hi
 | [],s0,hi,h,e=>h
 | x :: r,s0,hi,h,e=>by
  obtain ⟨h1,h2,h3,h4⟩ := h
  have hl:=h4.len
  refine ⟨h1,h2,fun i j i1 i2 i3=>?_,h4.congr fun k k1 k2=>e k (by omega) k2⟩
  rw [e i i1 (by omega),e j (by omega) (by omega)]
  exact h3 i j i1 i2 i3
theorem Cu.app {a:Array Keyed}:∀ {l m:List (Nat × Nat × Nat)} {s0 hi:Nat},Cu f a s0 (l ++ m) hi ↔ ∃ mid,Cu f a s0 l mid /\ Cu f a mid m hi
 | [],m,s0,hi=>⟨fun h=>⟨s0,rfl,h⟩,fun ⟨mid,h1,h2⟩=>by rw [show s0 = mid from h1]; exact h2⟩
 | x :: r,m,s0,hi=>by
  constructor
  ·rintro ⟨h1,h2,h3,h4⟩
   obtain ⟨mid,g1,g2⟩ := Cu.app.mp h4
   exact ⟨mid,⟨h1,h2,h3,g1⟩,g2⟩
  ·rintro ⟨mid,⟨h1,h2,h3,g1⟩,g2⟩
   exact ⟨h1,h2,h3,Cu.app.mpr ⟨mid,g1,g2⟩⟩
theorem Cu.mod {a:Array Keyed} {pw:Nat}:∀ {l:List (Nat × Nat × Nat)} {i s0 hi:Nat},Cu f a s0 l hi -> Cu f a s0 (l.modify i fun x=>(x.fst,x.2.fst,pw)) hi
 | [],i,s0,hi,h=>by rw [List.modify_nil]; exact h
 | x :: r,0,s0,hi,h=>by rw [List.modify_zero_cons]; exact h
 | x :: r,i + 1,s0,hi,h=>by
  rw [List.modify_succ_cons]
  exact ⟨h.1,h.2.1,h.2.2.1,Cu.mod h.2.2.2⟩
theorem Uc (p:Array (Nat × Nat × Nat)) (i:Nat) (x:Nat × Nat × Nat) (h:i + 1 < p.size):((p.setIfInBounds i x).eraseIdxIfInBounds (i + 1)).toList = p.toList.take i ++ x :: p.toList.drop (i + 2):=by
 have e:((p.setIfInBounds i x).eraseIdxIfInBounds (i + 1)).toList = (p.toList.set i x).eraseIdx (i + 1):=by
  unfold Array.eraseIdxIfInBounds
  rw [dif_pos (by rw [Array.size_setIfInBounds]; exact h),Array.toList_eraseIdx,Array.toList_setIfInBounds]
 rw [e,List.eraseIdx_eq_take_drop_succ]
 have hl:i < p.toList.length:=by rw [Array.length_toList]; omega
 rw [List.drop_set_of_lt (by omega),List.take_set,List.take_add_one,List.getElem?_eq_getElem hl]
 have ht:(p.toList.take i).length = i:=by rw [List.length_take]; omega
 rw [List.set_append_right _ _ (by omega),ht,Nat.sub_self,List.append_assoc]
 rfl
end
section
variable {prog:Program} {w:World} {A:Around} {E:Value -> Shared -> Prop} {s:Shared} {κ:SortKind} {f:Keyed -> Nat} {a₀:Array Keyed} {st:SortSt}
theorem X2 (hA : He prog w A s κ f a₀) (hB : Bs κ a₀ st) {lo n ok : Nat} (hok : 0 < ok) (hn : ok <= n) (hsz : lo + n <= a₀.size) (hs : Hi f (arrOf st) lo (lo + ok)) {Q : Bool -> SortSt -> Prop}
  (h:∀ st',Bs κ a₀ st' -> Ch f lo st st' -> Hi f (arrOf st') lo (lo + n) -> Q true st'):wpS (model prog w) A E s (binarySort' lo n ok) Q st:=by
 refine wpS_bind (wpS_mono (wpS_forRange (I:=fun k c st'=>c = (none,()) /\ Bs κ a₀ st' /\ Ch f lo st st' /\ Hi f (arrOf st') lo (lo + k)) (Q:=fun c st'=>c = (none,()) /\ Bs κ a₀ st' /\ Ch f lo st st' /\ Hi f (arrOf st') lo (lo + n)) ?_ ?_ ⟨rfl,hB,Ch.refl,by rw [show max ok 1 = ok by omega]; exact hs⟩) ?_)
 ·rintro k c st' k1 k2 ⟨rfl,B1,C1,A1⟩
  dsimp only
  have sz:=B1.size
  refine wpS_bind (wpS_mono (wpS_forRange (I:=fun x c st2=>st2 = st' /\ ∃ l r,c = (none,l,r) /\ l <= r /\ r <= k /\ r + x <= l + k /\ (∀ i,i < l -> fa f (arrOf st') (lo + i) <= fa f (arrOf st') (lo + k)) /\ (∀ i,r <= i -> i < k -> fa f (arrOf st') (lo + k) <= fa f (arrOf st') (lo + i)))
   (Q:=fun c st2=>st2 = st' /\ ∃ l,c = (none,l,l) /\ l <= k /\ (∀ i,i < l -> fa f (arrOf st') (lo + i) <= fa f (arrOf st') (lo + k)) /\ (∀ i,l <= i -> i < k -> fa f (arrOf st') (lo + k) <= fa f (arrOf st') (lo + i))) ?_ ?_ ⟨rfl,0,k,rfl,by omega,by omega,by omega,fun i hi=>by omega,fun i h1 h2=>by omega⟩) ?_)
  ·rintro x c st2 _ hx ⟨rfl,l,r,rfl,g1,g2,g3,g4,g5⟩
   dsimp only
   by_cases e:l >= r
   ·rw [if_pos e]
    obtain rfl:l = r:=by omega
    exact wpS_pure ⟨rfl,l,rfl,g2,g4,g5⟩
   ·rw [if_neg e]
    refine wpS_bind (Gm hA B1 (by omega) (by omega) ?_)
    dsimp only
    by_cases z:fa f (arrOf st2) (lo + k) < fa f (arrOf st2) (lo + (l + r) / 2)
    ·rw [if_pos (decide_eq_true z)]
     refine wpS_pure ⟨rfl,l,_,rfl,by omega,by omega,by omega,g4,fun i i1 i2=>?_⟩
     have:=A1 (lo + (l + r) / 2) (lo + i) (by omega) (by omega) (by omega)
     omega
    ·rw [if_neg (by rw [decide_eq_true_eq]; exact z)]
     refine wpS_pure ⟨rfl,_,r,rfl,by omega,by omega,by omega,fun i i1=>?_,g5⟩
     have:=A1 (lo + i) (lo + (l + r) / 2) (by omega) (by omega) (by omega)
     omega
  ·rintro c st2 ⟨rfl,l,r,rfl,g1,g2,g3,g4,g5⟩
   obtain rfl:l = r:=by omega
   exact ⟨rfl,l,rfl,g2,g4,g5⟩
  rintro c st2 ⟨rfl,l,rfl,g2,g4,g5⟩
  dsimp only
  have eb:∀ m,fa f (bubble (arrOf st2) (lo + k) (lo + k - (lo + l))) m = if m = lo + l then fa f (arrOf st2) (lo + k) else if lo + l < m /\ m <= lo + k then fa f (arrOf st2) (m - 1) else fa f (arrOf st2) m:=fun m=>by
   rw [W2 (by omega) (by omega),show lo + k - (lo + k - (lo + l)) = lo + l by omega]
  refine wpS_bind (m:=moveDown' (lo + k) (lo + l)) ?_
  rw [moveDown'_eq]
  refine wpS_modify (wpS_pure ⟨rfl,⟨(bubble_perm _ _ _).trans B1.perm,B1.kind,B1.failed⟩,C1.trans ⟨rfl,fun m hm=>?_⟩,fun i j i1 i2 i3=>?_⟩)
  ·show fa f (bubble (arrOf st2) (lo + k) (lo + k - (lo + l))) m = _
   rw [eb m,if_neg (by omega),if_neg (by omega)]
  ·show fa f (bubble (arrOf st2) (lo + k) (lo + k - (lo + l))) i <= fa f (bubble (arrOf st2) (lo + k) (lo + k - (lo + l))) j
   rw [eb i,eb j]
   have G4:∀ i,lo <= i -> i < lo + l -> fa f (arrOf st2) i <= fa f (arrOf st2) (lo + k):=fun i i1 i2=>by
    have:=g4 (i - lo) (by omega)
    rwa [show lo + (i - lo) = i by omega] at this
   have G5:∀ i,lo + l <= i -> i < lo + k -> fa f (arrOf st2) (lo + k) <= fa f (arrOf st2) i:=fun i i1 i2=>by
    have:=g5 (i - lo) (by omega) (by omega)
    rwa [show lo + (i - lo) = i by omega] at this
   by_cases c1:i = lo + l
   ·rw [if_pos c1]
    by_cases c2:j = lo + l
    ·rw [if_pos c2]
     exact Nat.le_refl _
    ·rw [if_neg c2,if_pos (by omega)]
     exact G5 (j - 1) (by omega) (by omega)
   ·rw [if_neg c1]
    by_cases c3:lo + l < i /\ i <= lo + k
    ·rw [if_pos c3,if_neg (by omega),if_pos (by omega)]
     exact A1 (i - 1) (j - 1) (by omega) (by omega) (by omega)
    ·rw [if_neg c3]
     by_cases c2:j = lo + l
     ·rw [if_pos c2]
      exact G4 i i1 (by omega)
     ·rw [if_neg c2]
      by_cases c4:lo + l < j /\ j <= lo + k
      ·rw [if_pos c4]
       exact Nat.le_trans (G4 i i1 (by omega)) (G5 (j - 1) (by omega) (by omega))
      ·rw [if_neg c4]
       exact A1 i j i1 i2 (by omega)
 ·rintro c st' ⟨rfl,B1,C1,A1⟩
  rw [show max (max ok 1) n = n by omega] at A1
  exact ⟨rfl,B1,C1,A1⟩
 rintro c st' ⟨rfl,B1,C1,A1⟩
 exact wpS_pure (h _ B1 C1 A1)
theorem Kh (hA : He prog w A s κ f a₀) (hB : Bs κ a₀ st) {i hi : Nat} (hR : Cu f (arrOf st) 0 (pendingOf st).toList hi) (hh : hi <= a₀.size) (hlt : i + 1 < (pendingOf st).size) {Q : Bool -> SortSt -> Prop}
  (h:∀ st',Bs κ a₀ st' -> Cu f (arrOf st') 0 (pendingOf st').toList hi -> (pendingOf st').size + 1 = (pendingOf st).size -> (∀ k,hi <= k -> fa f (arrOf st') k = fa f (arrOf st) k) -> Q true st'):wpS (model prog w) A E s (mergeAt' i) Q st:=by
 have hl:i + 1 < (pendingOf st).toList.length:=by rw [Array.length_toList]; exact hlt
 obtain ⟨sa,na,pw,ea⟩ : ∃ sa na pw,(pendingOf st).toList[i]? = some (sa,na,pw):=⟨_,_,_,List.getElem?_eq_getElem (by omega)⟩
 obtain ⟨sb,nb,pb,eb⟩ : ∃ sb nb pb,(pendingOf st).toList[i + 1]? = some (sb,nb,pb):=⟨_,_,_,List.getElem?_eq_getElem (by omega)⟩
 have ed:(pendingOf st).toList = (pendingOf st).toList.take i ++ (sa,na,pw) :: (sb,nb,pb) :: (pendingOf st).toList.drop (i + 2):=by
  have h1:=(List.take_append_drop i (pendingOf st).toList).symm
  rw [List.drop_eq_getElem_cons (by omega),(List.getElem?_eq_some_iff.mp ea).2,List.drop_eq_getElem_cons hl,(List.getElem?_eq_some_iff.mp eb).2] at h1
  exact h1
 have hR2:=hR
 rw [ed] at hR2
 obtain ⟨mid,r1,r2⟩ := Cu.app.mp hR2
 obtain ⟨a1,a2,a3,b1,b2,b3,r3⟩ := r2
 dsimp only at a1 a2 a3 b1 b2 b3 r3
 subst a1 b1
 have l1:=r1.len
 have l3:=r3.len
 refine Q6 hA hB (by rw [<- Array.getElem?_toList]; exact ea) (by rw [<- Array.getElem?_toList]; exact eb) rfl a2 b2 (by omega) a3 b3 fun st' B' p' A' f'=>?_
 refine h st' B' ?_ ?_ fun k hk=>f' k (by omega)
 ·rw [p',Uc _ _ _ hlt]
  refine Cu.app.mpr ⟨sa,r1.congr fun k k1 k2=>f' k (by omega),rfl,by show 0 < na + nb; omega,?_,?_⟩
  ·show Hi f (arrOf st') sa (sa + (na + nb))
   rw [<- Nat.add_assoc]
   exact A'
  ·show Cu f (arrOf st') (sa + (na + nb)) _ _
   rw [<- Nat.add_assoc]
   exact r3.congr fun k k1 k2=>f' k (by omega)
 ·rw [p',<- Array.length_toList,Uc _ _ _ hlt,<- Array.length_toList (xs:=pendingOf st)]
  rw [List.length_append,List.length_cons,List.length_take,List.length_drop]
  omega
end
section
variable {prog:Program} {w:World} {A:Around} {E:Value -> Shared -> Prop} {s:Shared} {κ:SortKind} {f:Keyed -> Nat} {a₀:Array Keyed} {st:SortSt}
theorem Cu.push {a a':Array Keyed} {p:Array (Nat × Nat × Nat)} {lo n pw:Nat} (h:Cu f a 0 p.toList lo) (e:∀ k,k < lo -> fa f a' k = fa f a k) (hn:0 < n) (hs:Hi f a' lo (lo + n)):Cu f a' 0 (p.push (lo,n,pw)).toList (lo + n):=by
 rw [Array.toList_push]
 exact Cu.app.mpr ⟨lo,h.congr fun k _ hk=>e k hk,rfl,hn,hs,rfl⟩
theorem Ps (hA:He prog w A s κ f a₀) (hB:Bs κ a₀ st) (hp:pendingOf st = #[]) {Q:Unit -> SortSt -> Prop} (h:∀ st',Bs κ a₀ st' -> Hi f (arrOf st') 0 a₀.size -> Q () st'):wpS (model prog w) A E s sortRuns' Q st:=by
 have sz0:=hB.size
 rw [sortRuns'_eq]
 refine wpS_bind (wpS_get ?_)
 refine wpS_bind (wpS_mono (wpS_forRange (I:=fun x c st'=>∃ lo,c = (none,lo) /\ Bs κ a₀ st' /\ Cu f (arrOf st') 0 (pendingOf st').toList lo /\ lo <= a₀.size /\ (lo < a₀.size -> x <= lo)) (Q:=fun c st'=>c = (none,a₀.size) /\ Bs κ a₀ st' /\ Cu f (arrOf st') 0 (pendingOf st').toList a₀.size) ?_ ?_ ⟨0,rfl,hB,by rw [hp]; rfl,by omega,fun _=>Nat.le_refl _⟩) ?_)
 ·rintro x c st1 _ x2 ⟨lo,rfl,B1,R1,l1,l2⟩
  dsimp only
  rw [show (arrOf st).size = a₀.size from sz0]
  by_cases e1:lo >= a₀.size
  ·rw [if_pos e1]
   obtain rfl:lo = a₀.size:=by omega
   exact wpS_pure ⟨rfl,B1,R1⟩
  rw [if_neg e1]
  refine wpS_bind (Rm hA B1 (by omega) (by omega) fun m st2 m1 m2 B2 C2 A2=>?_)
  dsimp only
  have R2:Cu f (arrOf st2) 0 (pendingOf st2).toList lo:=by
   rw [C2.1]
   exact R1.congr fun k _ hk=>C2.2 k hk
  by_cases e2:m < minRun' a₀.size a₀.size 0
  case' pos =>
   rw [if_pos e2]
   refine wpS_bind (wpS_lift (wpAny_rule ⟨rfl,?_⟩))
   generalize hn:min (a₀.size - lo) (minRun' a₀.size a₀.size 0) = n
   have hn1:0 < n /\ n <= a₀.size - lo /\ m <= n:=by omega
   refine wpS_bind (X2 hA B2 m1 hn1.2.2 (by omega) A2 fun st3 B3 C3 A3=>?_)
   rw [if_neg (by decide)]
   have R3:Cu f (arrOf st3) 0 (pendingOf st3).toList lo:=by
    rw [C3.1]
    exact R2.congr fun k _ hk=>C3.2 k hk
  case' neg =>
   rw [if_neg e2]
   obtain ⟨n,rfl⟩ : ∃ n,n = m:=⟨m,rfl⟩
   have hn1:0 < n /\ n <= a₀.size - lo:=⟨m1,m2⟩
   have B3:=B2
   have A3:=A2
   have R3:=R2
   obtain ⟨st3,rfl⟩ : ∃ st3,st3 = st2:=⟨st2,rfl⟩
  all_goals
   refine wpS_bind (wpS_get ?_)
   cases hb:(pendingOf st3).back? with
   | none =>
    dsimp only
    refine wpS_bind (wpS_modify (wpS_pure ⟨lo + n,rfl,⟨B3.perm,B3.kind,B3.failed⟩,R3.push (fun _ _=>rfl) hn1.1 A3,by omega,fun _=>by omega⟩))
   | some v =>
    obtain ⟨s1,n1,v1⟩ := v
    dsimp only
    refine wpS_bind (wpS_mono (wpS_forRange (I:=fun y c st4=>c = (none,()) /\ Bs κ a₀ st4 /\ Cu f (arrOf st4) 0 (pendingOf st4).toList lo /\ Hi f (arrOf st4) lo (lo + n)) (Q:=fun c st4=>c = (none,()) /\ Bs κ a₀ st4 /\ Cu f (arrOf st4) 0 (pendingOf st4).toList lo /\ Hi f (arrOf st4) lo (lo + n)) ?_ (fun c st4 h4=>h4) ⟨rfl,B3,R3,A3⟩) ?_)
    ·rintro y c st4 _ y2 ⟨rfl,B4,R4,A4⟩
     refine wpS_bind (wpS_get ?_)
     by_cases e3:(pendingOf st4).size > 1
     ·rw [if_pos e3]
      obtain ⟨⟨u1,u2,u3⟩,hu⟩ : ∃ u,(pendingOf st4)[(pendingOf st4).size - 2]? = some u:=⟨_,getElem?_pos (pendingOf st4) _ (by omega)⟩
      rw [hu]
      dsimp only
      split
      ·exact wpS_pure ⟨rfl,B4,R4,A4⟩
      ·refine wpS_bind (Kh hA B4 R4 l1 (by omega) fun st5 B5 R5 _ f5=>?_)
       rw [if_neg (by decide)]
       refine wpS_pure ⟨rfl,B5,R5,fun i j i1 i2 i3=>?_⟩
       rw [f5 i i1,f5 j (by omega)]
       exact A4 i j i1 i2 i3
     ·rw [if_neg e3]
      exact wpS_pure ⟨rfl,B4,R4,A4⟩
    ·rintro c st4 ⟨rfl,B4,R4,A4⟩
     dsimp only
     refine wpS_bind (wpS_modify (wpS_bind (wpS_modify (wpS_pure ⟨lo + n,rfl,⟨B4.perm,B4.kind,B4.failed⟩,?_,by omega,fun _=>by omega⟩))))
     refine Cu.push (a:=arrOf st4) ?_ (fun _ _=>rfl) hn1.1 A4
     show Cu f (arrOf st4) 0 ((pendingOf st4).modify ((pendingOf st4).size - 1) _).toList lo
     rw [Array.toList_modify]
     exact R4.mod
 ·rintro c st1 ⟨lo,rfl,B1,R1,l1,l2⟩
  obtain rfl:lo = a₀.size:=by omega
  exact ⟨rfl,B1,R1⟩
 rintro c st1 ⟨rfl,B1,R1⟩
 dsimp only
 have n1:(pendingOf st1).size <= a₀.size:=by
  have:=R1.len
  rw [Array.length_toList] at this
  omega
 refine wpS_bind (wpS_mono (wpS_forRange (I:=fun y c st4=>c = (none,()) /\ Bs κ a₀ st4 /\ Cu f (arrOf st4) 0 (pendingOf st4).toList a₀.size /\ (pendingOf st4).size + y <= a₀.size + 1) (Q:=fun c st4=>c = (none,()) /\ Bs κ a₀ st4 /\ Cu f (arrOf st4) 0 (pendingOf st4).toList a₀.size /\ (pendingOf st4).size <= 1) ?_ ?_ ⟨rfl,B1,R1,by omega⟩) ?_)
 ·rintro y c st4 _ y2 ⟨rfl,B4,R4,n4⟩
  refine wpS_bind (wpS_get ?_)
  by_cases e3:(pendingOf st4).size <= 1
  ·rw [if_pos e3]
   exact wpS_pure ⟨rfl,B4,R4,e3⟩
  rw [if_neg e3]
  refine wpS_bind (Kh hA B4 R4 (Nat.le_refl _) ?_ fun st5 B5 R5 n5 f5=>?_)
  ·(repeat' split) <;> omega
  rw [if_neg (by decide)]
  exact wpS_pure ⟨rfl,B5,R5,by omega⟩
 ·rintro c st4 ⟨rfl,B4,R4,n4⟩
  exact ⟨rfl,B4,R4,by omega⟩
 rintro c st4 ⟨rfl,B4,R4,n4⟩
 dsimp only
 refine wpS_pure (h _ B4 ?_)
 rw [<- Array.length_toList] at n4
 match hl:(pendingOf st4).toList with
 | [] =>
  rw [hl] at R4
  have e:0 = a₀.size:=R4
  rw [<- e]
  exact fun i j _ _ h3=>absurd h3 (Nat.not_lt_zero _)
 | [x] =>
  rw [hl] at R4
  obtain ⟨_,_,r3,r4⟩ := R4
  rw [show 0 + x.2.1 = a₀.size from r4] at r3
  exact r3
 | x :: y :: r =>
  rw [hl,List.length_cons,List.length_cons] at n4
  omega
end
open PySem PySem.Spec PySem.SeqAt PyProof.Rows
section
variable {prog:Program} {w:World} {E:Value -> Shared -> Prop}
noncomputable def Ha:List PyData -> List PyData -> Prop
 | x :: xs,y :: ys=>if PyData.eqv x y = true then Ha xs ys else Hg x y
 | _,_=>True
noncomputable def Wt:PyData -> PyData -> Prop
 | .tuple xs,.tuple ys=>Ha xs ys
 | _,_=>False
theorem Tx:∀ {xs ys:List PyData},CmpbAll xs ys -> Ha xs ys
 | [],_,_=>by unfold Ha; trivial
 | _ :: _,[],_=>by unfold Ha; trivial
 | x :: xs,y :: ys,h=>by
  unfold Ha
  split
  ·exact Tx h.2
  ·exact h.1
theorem Qo {A : Around} {s : Shared} {b : Bool} {Q : Bool -> Shared -> Prop} : ∀ (xs ys : List PyData) (vs ws : List Value) (as bs : List Addr) (i : Nat), ReadsAll s.heap vs xs as -> ReadsAll s.heap ws ys bs -> PyData.canLayAll0 xs = true -> PyData.canLayAll0 ys = true -> Ha xs ys ->
  A.units + min (PyData.depthAll xs) (PyData.depthAll ys) < cLine -> (b = true -> i = 0 -> ∀ x xs' y ys',xs = x :: xs' -> ys = y :: ys' -> ∃ m n,x = .int m /\ y = .int n) -> Q (ltvAll xs ys) s -> PySem.W.KatLex prog w A b (decide (xs.length < ys.length)) Q (vs.zip ws) i s
 | [],ys,_,ws,_,_,i,ra,rb,_,_,_,_,_,h=>by
  cases ra
  rw [List.zip_nil_left]
  refine PySem.W.kat_nil ?_
  cases ys <;> exact h
 | x :: xs,[],_,_,_,_,i,ra,rb,_,_,_,_,_,h=>by
  cases rb
  rw [List.zip_nil_right]
  exact PySem.W.kat_nil h
 | x :: xs,y :: ys,_,_,_,_,i,ra,rb,ca,cb,hc,hu,hb,h=>by
  have e0:=eqAt_readsAll (x :: xs) (y :: ys) A s _ _ _ _ ra rb ca cb hu 0
  cases ra with
  | @cons v vs _ _ a1 a2 r1 r2 =>
   cases rb with
   | @cons u us _ _ b1 b2 q1 q2 =>
    have ca1:x.canLay0 = true /\ PyData.canLayAll0 xs = true:=by simpa [PyData.canLayAll0] using ca
    have cb1:y.canLay0 = true /\ PyData.canLayAll0 ys = true:=by simpa [PyData.canLayAll0] using cb
    have hd:A.units + min x.depth y.depth < cLine /\ A.units + min (PyData.depthAll xs) (PyData.depthAll ys) < cLine:=by
     simp only [PyData.depthAll] at hu
     omega
    have e1:SeqAt.EqAt A s v u (PyData.eqv x y):=e0 (by simp) (by simp)
    have el:decide ((x :: xs).length < (y :: ys).length) = decide (xs.length < ys.length):=by simp
    rw [List.zip_cons_cons,el]
    refine PySem.W.kat_cons (e1 prog w _ _ ?_)
    cases e:PyData.eqv x y with
    | true =>
     unfold Ha at hc
     rw [if_pos e] at hc
     refine PySem.W.kat_yes (Qo xs ys _ _ _ _ (i + 1) r2 q2 ca1.2 cb1.2 hc hd.2 (fun _ z=>by omega) ?_)
     rw [ltvAll,if_pos e] at h
     exact h
    | false =>
     unfold Ha at hc
     rw [if_neg (by rw [e]; decide)] at hc
     rw [ltvAll,if_neg (by rw [e]; decide)] at h
     refine PySem.W.kat_no ?_
     by_cases z:(b && i == 0) = true
     ·have z2:b = true /\ i = 0:=by simpa using z
      obtain ⟨m,n,rfl,rfl⟩ := hb z2.1 z2.2 x xs y ys rfl rfl
      cases r1
      cases q1
      rw [z]
      exact oneLt_int h
     ·rw [show (b && i == 0) = false from Bool.eq_false_iff.mpr z]
      refine PySem.W.kat_one _ _ ?_
      exact Hn x y A s _ _ _ _ r1 q1 ca1.1 cb1.1 hc hd.1 prog w _ _ (show PySem.W.BoolBack Q (.bool (Io x y)) s from h)
noncomputable def Iu (b:Bool) (d:PyData):Prop := ∃ x r,d = .tuple (x :: r) /\ if b = true then ∃ m,x = .int m else ∃ l,x = .tuple l
theorem Xe {A : Around} {s : Shared} {b : Bool} {Q : Bool -> Shared -> Prop} {v u : Value} {d e : PyData} {as bs : List Addr} (rv : Reads s.heap v d as) (ru : Reads s.heap u e bs) (fd : Iu b d) (fe : Iu b e) (cd : d.canLay0 = true) (ce : e.canLay0 = true) (hc : Wt d e) (hu : A.units + d.depth < cLine) (h : Q (Io d e) s) :
  wpAny (model prog w) A (keyLt' (PyProof.Rows.tuples' b) v u) Q E s:=by
 obtain ⟨x,r,rfl,hx⟩ := fd
 obtain ⟨y,r2,rfl,hy⟩ := fe
 cases rv with
 | @tuple l1 o1 vs n1 _ as1 h1 h2 h3 h4 =>
  cases ru with
  | @tuple l2 o2 ws n2 _ as2 k1 k2 k3 k4 =>
   have n1':vs.size = (x :: r).length:=by simpa using ReadsAll.length _ _ _ h4
   have n2':ws.size = (y :: r2).length:=by simpa using ReadsAll.length _ _ _ k4
   refine PySem.W.kat_lt h1 h3 k1 k3 ?_
   rw [n1',n2']
   refine Qo (x :: r) (y :: r2) _ _ _ _ 0 h4 k4 cd ce hc ?_ (fun hb _ x' _ y' _ e1 e2=>?_) h
   ·have e:(PyData.tuple (x :: r)).depth = PyData.depthAll (x :: r) + 1:=by simp [PyData.depth]
    omega
   ·cases e1
    cases e2
    rw [if_pos hb] at hx hy
    obtain ⟨m,rfl⟩ := hx
    obtain ⟨n,rfl⟩ := hy
    exact ⟨m,n,rfl,rfl⟩
theorem V7 {A:Around} {s:Shared} {b:Bool} {Q:SortKind -> Shared -> Prop}:∀ {vs:List Value} ,vs ≠ [] -> (∀ v ∈ vs,∃ d as,Reads s.heap v d as /\ Iu b d) -> Q (PyProof.Rows.tuples' b) s -> wpAny (model prog w) A (keyKind' vs.toArray) Q E s:=by
 intro vs hne hall h
 have key:∀ vs:List Value,(∀ v ∈ vs,∃ d as,Reads s.heap v d as /\ Iu b d) -> ∃ fs,PySem.W.KatTups s.heap vs fs /\ fs.length = vs.length /\ ∀ f ∈ fs,PySem.W.Looks (model prog w) s.heap (typeOf f) (.type (if b = true then "int" else "tuple")):=by
  intro vs
  induction vs with
  | nil=>exact fun _=>⟨[],PySem.W.KatTups.nil,rfl,fun f hf=>by cases hf⟩
  | cons v vs ih =>
   intro hall
   obtain ⟨fs,t1,t2,t3⟩ := ih fun v hv=>hall v (List.mem_cons_of_mem _ hv)
   obtain ⟨d,as,rv,x,r,rfl,hx⟩ := hall v List.mem_cons_self
   cases rv with
   | tuple h1 h2 h3 h4 =>
    rename_i a o us n
    obtain ⟨u,ur,eu⟩ : ∃ u ur,us.toList = u :: ur:=by
     cases hus:us.toList with
     | nil=>rw [hus] at h4; cases h4
     | cons u ur=>exact ⟨u,ur,rfl⟩
    have e0:us[0]? = some u:=by rw [<- Array.getElem?_toList,eu]; rfl
    refine ⟨u :: fs,PySem.W.KatTups.cons h1 h2 h3 e0 t1,by simp [t2],fun f hf=>?_⟩
    rcases List.mem_cons.mp hf with z | z
    ·subst z
     rw [eu] at h4
     cases h4 with
     | cons r1 r2 =>
      cases b with
      | true =>
       obtain ⟨m,rfl⟩ := hx
       cases r1
       exact PySem.W.Looks.now
      | false =>
       obtain ⟨l,rfl⟩ := hx
       cases r1 with
       | tuple g1 g2 g3 g4 =>
        show PySem.W.Looks (model prog w) s.heap _ (Value.type "tuple")
        rw [<- g2]
        exact (PySem.W.Looks.ld g1).andThen .now
    ·exact t3 f z
 obtain ⟨fs,t1,t2,t3⟩ := key vs hall
 refine PySem.W.kat_kind t1 ?_ t3 (by cases b <;> rfl) ?_
 ·rw [t2]
  exact List.length_pos_iff.mpr hne
 ·have e:(Value.type (if b = true then "int" else "tuple") != Value.type "tuple") = b:=by cases b <;> decide
  rw [e]
  exact h
theorem Fx (vs:List Value):vs.toArray.zip vs.toArray = (vs.map fun v=>(v,v)).toArray:=by
 apply Array.toList_inj.mp
 rw [Array.toList_zip,List.toList_toArray]
 induction vs with
 | nil=>rfl
 | cons v r ih=>rw [List.zip_cons_cons,ih,List.map_cons]
theorem U6 (vs:List Value):(vs.map fun v=>(v,v)).map (fun x:Value × Value=>x.2) = vs:=by
 rw [List.map_map]
 exact List.map_id'' (fun _=>rfl) vs
theorem Qw {A : Around} {s : Shared} {a : Addr} {vs : List Value} {n : Nat} {κ : SortKind} {g : Value -> Nat} {P : PySem.Fin -> Shared -> Prop} (ho : s.heap.get? a = some (seqObj "list" vs.toArray n)) (hsz : vs.length <= sizeLine)
  (hkk:∀ h6:Heap,(∀ b o,b ≠ a -> s.heap.get? b = some o -> h6.get? b = some o) -> 2 <= vs.length -> (∀ Q,Q κ { s with heap:=h6 } -> wpAny (model prog w) A (keyKind' vs.toArray) Q E { s with heap:=h6 }) /\ He prog w A { s with heap:=h6 } κ (fun p=>g p.1) (vs.toArray.zip vs.toArray))
  (h:∀ out:Array Value,out.toList.Perm vs -> out.toList.Pairwise (fun x y=>g x <= g y) -> P (.done (.ret .none)) { s with heap:=sortedHeap s.heap a vs out }) :
  wpAny (model prog w) A (Builtin.«list.sort» ⟨[.ref a],[]⟩) P E s:=by
 rw [list_sort_plain]
 have ha:a < s.heap.objs.size:=Heap.lt_size ho
 refine wpAny_bind (listItems_at ho rfl (wpAny_bind (listUpdate_at ho rfl ?_ (by rw [List.size_toArray]; exact hsz) (Nat.zero_le _))))
 obtain ⟨e1,ho1⟩ : ∃ e1,(s.heap.update a (Obj.mapSeq fun _=>(#[]:Array Value))).get? a = some (seqObj "list" #[] e1):=⟨_,get?_update_seq ho (fun _=>#[])⟩
 refine wpAny_bind (seqEpoch_at ho1 rfl (wpAny_bind (wpAny_newTuple (wpAny_bind (wpAny_newList (wpAny_holding ?_))))))
 have ho6:(((s.heap.update a (Obj.mapSeq fun _=>(#[]:Array Value))).push (seqObj "tuple" vs.toArray 0)).push (seqObj "list" #[] 0)).get? a = some (seqObj "list" #[] e1):=Heap.get?_push_of_some _ (Heap.get?_push_of_some _ ho1)
 have kp:∀ b o,b ≠ a -> s.heap.get? b = some o -> (((s.heap.update a (Obj.mapSeq fun _=>(#[]:Array Value))).push (seqObj "tuple" vs.toArray 0)).push (seqObj "list" #[] 0)).get? b = some o:=fun b o hb e=>Heap.get?_push_of_some _ (Heap.get?_push_of_some _ ((Heap.get?_update_other _ _ (Ne.symm hb)).trans e))
 have hk:=hkk _ kp
 have fin:=h
 unfold sortedHeap at fin
 generalize ((s.heap.update a (Obj.mapSeq fun _=>(#[]:Array Value))).push (seqObj "tuple" vs.toArray 0)).push (seqObj "list" #[] 0) = h6 at ho6 kp hk fin
 show wpAny (model prog w) A _ P E { s with heap:=h6 }
 dsimp only
 have hs2:vs.toArray.size = vs.length:=by simp
 by_cases h2:vs.toArray.size < 2
 ·rw [if_pos h2,if_pos h2]
  refine wpAny_bind (wpAny_pure ?_)
  rw [StateT.run_pure]
  refine wpAny_bind (wpAny_pure ?_)
  dsimp only
  have eo:Array.map (fun x=>x.snd) (vs.toArray.zip vs.toArray) = vs.toArray:=by
   rw [Fx]
   apply Array.toList_inj.mp
   rw [Array.toList_map]
   exact U6 vs
  refine wpAny_bind (seqEpoch_at ho6 rfl (wpAny_bind (listUpdate_at ho6 rfl ?_ (Nat.zero_le _) (by rw [eo,hs2]; omega))))
  simp only [bne_self_eq_false,Bool.false_eq_true,if_false]
  rw [show Array.map (fun x=>x.snd) (arrOf (SortSt.mk' general' (vs.toArray.zip vs.toArray) #[] 7 none)) = vs.toArray from eo]
  refine wpAny_pure (fin vs.toArray (by simp) ?_)
  match vs,hs2,h2 with
  | [],_,_=>exact List.Pairwise.nil
  | [x],_,_=>exact List.pairwise_singleton _ _
  | x :: y :: r,hs2,h2=>exact absurd h2 (by rw [hs2,List.length_cons,List.length_cons]; omega)
 ·rw [if_neg h2,if_neg h2]
  obtain ⟨hk1,hk2⟩ := hk (by omega)
  refine wpAny_bind (hk1 _ ?_)
  have hz:(vs.toArray.zip vs.toArray).size = vs.length:=by rw [Fx]; simp
  refine wpAny_bind (wpAny_mono (Ps (st:=SortSt.mk' κ (vs.toArray.zip vs.toArray) #[] 7 none) hk2 ⟨Array.Perm.refl _,rfl,rfl⟩ rfl (Q:=fun _ st'=>Bs κ (vs.toArray.zip vs.toArray) st' /\ Hi (fun p=>g p.1) (arrOf st') 0 (vs.toArray.zip vs.toArray).size) fun st' b1 b2=>⟨b1,b2⟩) ?_ fun _ _ e=>e)
  rintro ⟨⟨⟩,st'⟩ s' ⟨rfl,hB,hS⟩
  dsimp only at hB hS ⊢
  have hmem:∀ p ∈ arrOf st',p.1 = p.2 /\ p.1 ∈ vs:=fun p hp=>by
   have:=hB.perm.mem_iff.mp hp
   rw [Fx] at this
   have h3:p ∈ vs.map fun v=>(v,v):=by simpa using this
   obtain ⟨v,hv,rfl⟩ := List.mem_map.mp h3
   exact ⟨rfl,hv⟩
  have hperm:((arrOf st').map (·.2)).toList.Perm vs:=by
   rw [Array.toList_map]
   have:=(Array.perm_iff_toList_perm.mp hB.perm).map (·.2)
   rw [Fx,U6] at this
   exact this
  have hsort:((arrOf st').map (·.2)).toList.Pairwise (fun x y=>g x <= g y):=by
   rw [Array.toList_map]
   refine List.pairwise_iff_getElem.mpr fun i j hi hj hij=>?_
   rw [List.length_map,Array.length_toList] at hi hj
   have ei:(arrOf st')[i]? = some (arrOf st')[i]:=getElem?_pos (arrOf st') i hi
   have ej:(arrOf st')[j]? = some (arrOf st')[j]:=getElem?_pos (arrOf st') j hj
   have h4:=hS i j (Nat.zero_le _) (Nat.le_of_lt hij) (by rw [<- hB.size]; exact hj)
   rw [Au ei,Au ej] at h4
   have e1:=(hmem _ (Array.mem_of_getElem? ei)).1
   have e2:=(hmem _ (Array.mem_of_getElem? ej)).1
   rw [e1,e2] at h4
   simpa using h4
  refine wpAny_bind (seqEpoch_at ho6 rfl (wpAny_bind (listUpdate_at ho6 rfl ?_ (Nat.zero_le _) (by
   have:=hperm.length_eq
   rw [Array.length_toList] at this
   rw [this]
   omega))))
  rw [show failedOf st' = none from hB.failed]
  simp only [bne_self_eq_false,Bool.false_eq_true,if_false]
  exact wpAny_pure (fin _ hperm hsort)
end
open PySem PySem.Spec PySem.SeqAt PyProof.Rows
section
variable {prog:Program} {w:World} {E:Value -> Shared -> Prop}
theorem Uo {A : Around} {s : Shared} {vs : List Value} {κ : SortKind} {g : Value -> Nat} {r : Value} {Q : Value -> Shared -> Prop} {h1 : Heap} {t1 : Nat} (hsz : vs.length <= sizeLine) (hcol : ∀ R : List Value -> Shared -> Prop, R vs { s with heap := h1, toks := t1 } -> wpAny (model prog w) A.in1 (collect r) R E s)
  (hkk:∀ (h6:Heap) (A':Around),A'.units <= A.units + 4 -> (∀ b o,h1.get? b = some o -> h6.get? b = some o) -> 2 <= vs.length -> (∀ Q E,Q κ { s with heap:=h6,toks:=t1 } -> wpAny (model prog w) A' (keyKind' vs.toArray) Q E { s with heap:=h6,toks:=t1 }) /\ He prog w A' { s with heap:=h6,toks:=t1 } κ (fun p=>g p.1) (vs.toArray.zip vs.toArray))
  (h:∀ (out:Array Value) (h':Heap) (c:Nat),out.toList.Perm vs -> out.toList.Pairwise (fun x y=>g x <= g y) -> (∀ b o,h1.get? b = some o -> h'.get? b = some o) -> h'.get? h1.objs.size = some (seqObj "list" out c) -> Q (.ref h1.objs.size) { s with heap:=h',toks:=t1 }) :
  wpAny (model prog w) A (call (.builtin "sorted") [r]) Q E s:=by
 refine Calls.call_function_entry kind_sorted plain_sorted entry_sorted (args_sorted1 _) ?_
 unfold Builtin.«sorted»
 refine wpAny_bind (m:=checkCount "sorted" 1 1 _) (wpAny_pure ?_)
 refine wpAny_bind (hcol _ (wpAny_bind (wpAny_newList ?_ )))
 have hoL:(h1.push (seqObj "list" vs.toArray 0)).get? h1.objs.size = some (seqObj "list" vs.toArray 0):=Heap.get?_push_size _ rfl
 show wpAny _ _ _ _ _ { s with heap:=h1.push (seqObj "list" vs.toArray 0),toks:=t1 }
 refine wpAny_bind (wpAny_holding (wpAny_call_entry slot_list_sort ⟨_,hoL,rfl⟩ entry_list_sort (Qw (κ:=κ) (g:=g) (s:={ s with heap:=h1.push (seqObj "list" vs.toArray 0),toks:=t1 }) hoL hsz (fun h6 kp h2=>?_) fun out p1 p2=>⟨_,rfl,?_⟩) (args_list_sort _)))
 ·obtain ⟨k1,k2⟩ := hkk h6 A.in1.in1 (show A.units + 1 + 1 <= A.units + 4 by omega) (fun b o e=>kp b o (Nat.ne_of_lt (Heap.lt_size e)) (Heap.get?_push_of_some _ e)) h2
  exact ⟨fun Q hq=>k1 Q _ hq,k2⟩
 ·obtain ⟨c,hc⟩ : ∃ c,(sortedHeap (h1.push (seqObj "list" vs.toArray 0)) h1.objs.size vs out).get? h1.objs.size = some (seqObj "list" out c):=sortedHeap_at hoL
  refine wpAny_pure ⟨_,rfl,h out _ c p1 p2 (fun b o e=>?_) hc⟩
  rw [sortedHeap_old (Nat.ne_of_lt (Heap.lt_size e)) (by rw [size_push']; exact Nat.lt_succ_of_lt (Heap.lt_size e))]
  exact Heap.get?_push_of_some _ e
end
section
variable {X:Cx} {k:Nat}
noncomputable def Mf:Value -> Addr
 | .ref a=>a
 | _=>0
noncomputable def O0 (H:Hp) (b:Bool) (D:V -> PyData) (g:V -> Nat) (us:List V):Prop:=(∀ u ∈ us,Rp H (D u) u /\ Iu b (D u) /\ (D u).depth <= 50) /\ ∀ u ∈ us,∀ v ∈ us,Wt (D u) (D v) /\ Io (D u) (D v) = decide (g u < g v)
theorem O0.ref {H:Hp} {b:Bool} {D:V -> PyData} {g:V -> Nat} {us:List V} (h:O0 H b D g us):∃ as:List Addr,us = as.map V.ref:=by
 have key:∀ us:List V,(∀ u ∈ us,Rp H (D u) u /\ Iu b (D u)) -> ∃ as:List Addr,us = as.map V.ref:=by
  intro us
  induction us with
  | nil=>exact fun _=>⟨[],rfl⟩
  | cons u us ih =>
   intro hall
   obtain ⟨as,rfl⟩ := ih fun v hv=>hall v (List.mem_cons_of_mem _ hv)
   obtain ⟨h1,x,r,e,_⟩ := hall u List.mem_cons_self
   rw [e] at h1
   unfold Rp at h1
   obtain ⟨a,us0,ea,_⟩ := h1
   exact ⟨a :: as,by rw [ea]; rfl⟩
 exact key us fun u hu=>⟨(h.1 u hu).1,(h.1 u hu).2.1⟩
theorem O0.asks {P : Program} {w : World} {pins : List (Addr × Obj)} {σ : St} {H : Hp} {s : Shared} {b : Bool} {D : V -> PyData} {g : V -> Nat} {as : List Addr} {A' : Around} {E : Value -> Shared -> Prop} (I : Ai X pins σ H s) (hP : X.prog = P) (hw : X.w = w) (h : O0 H b D g (as.map V.ref)) (hu : A'.units + 50 < cLine) (h2 : 2 <= as.length) :
  (∀ Q E,Q (PyProof.Rows.tuples' b) s -> wpAny (model P w) A' (keyKind' (as.map Value.ref).toArray) Q E s) /\ He P w A' s (PyProof.Rows.tuples' b) (fun p=>g (.ref (Mf p.1))) ((as.map Value.ref).toArray.zip (as.map Value.ref).toArray):=by
 subst hP hw
 have rd:∀ a ∈ as,∃ xs,Reads s.heap (.ref a) (D (.ref a)) xs:=fun a ha=>Cw I _ _ _ (h.1 _ (List.mem_map_of_mem ha)).1 rfl
 refine ⟨fun Q E hq=>V7 (b:=b) ?_ (fun v hv=>?_) hq,fun x y hx hy Q E hq=>?_⟩
 ·intro e
  have:=congrArg List.length e
  rw [List.length_map,List.length_nil] at this
  omega
 ·obtain ⟨a,ha,rfl⟩ := List.mem_map.mp hv
  obtain ⟨xs,r⟩ := rd a ha
  exact ⟨_,xs,r,(h.1 _ (List.mem_map_of_mem ha)).2.1⟩
 ·have mem : ∀ z, z ∈ (as.map Value.ref).toArray.zip (as.map Value.ref).toArray -> ∃ a ∈ as, z.1 = Value.ref a := fun z hz => by
   rw [Fx] at hz
   have h3:z ∈ (as.map Value.ref).map fun v=>(v,v):=by simpa using hz
   obtain ⟨v,hv,rfl⟩ := List.mem_map.mp h3
   obtain ⟨a,ha,rfl⟩ := List.mem_map.mp hv
   exact ⟨a,ha,rfl⟩
  obtain ⟨a,ha,ea⟩ := mem x hx
  obtain ⟨c,hc,ec⟩ := mem y hy
  have ha':=List.mem_map_of_mem (f:=V.ref) ha
  have hc':=List.mem_map_of_mem (f:=V.ref) hc
  obtain ⟨xs,r1⟩ := rd a ha
  obtain ⟨ys,r2⟩ := rd c hc
  obtain ⟨c1,c2⟩ := h.2 _ ha' _ hc'
  obtain ⟨x1,x2⟩ := x
  obtain ⟨y1,y2⟩ := y
  obtain rfl:x1 = Value.ref a:=ea
  obtain rfl:y1 = Value.ref c:=ec
  refine Xe r1 r2 (h.1 _ ha').2.1 (h.1 _ hc').2.1 (Cl _ _ (h.1 _ ha').1) (Cl _ _ (h.1 _ hc').1) c1 ?_ ?_
  ·have:=(h.1 _ ha').2.2
   omega
  ·rw [c2]
   exact hq
theorem Nz {g:V -> Nat} {as:List Addr} {out:List Value} (hp:out.Perm (as.map Value.ref)) (hs:out.Pairwise (fun x y=>g (.ref (Mf x)) <= g (.ref (Mf y)))):∃ us':List V,B6 us' out /\ us'.Perm (as.map V.ref) /\ us'.Pairwise (fun x y=>g x <= g y):=by
 have hr:∀ v ∈ out,v = .ref (Mf v):=fun v hv=>by
  obtain ⟨a,_,rfl⟩ := List.mem_map.mp (hp.mem_iff.mp hv)
  rfl
 refine ⟨out.map fun v=>.ref (Mf v),?_,?_,?_⟩
 ·have key : ∀ l : List Value, (∀ v ∈ l, v = .ref (Mf v)) -> B6 (l.map fun v => V.ref (Mf v)) l := by
   intro l
   induction l with
   | nil=>exact fun _=>.nil
   | cons v l ih=>exact fun h=>.cons (h v List.mem_cons_self) (ih fun v hv=>h v (List.mem_cons_of_mem _ hv))
  exact key out hr
 ·have:=hp.map fun v=>V.ref (Mf v)
  rw [List.map_map] at this
  exact this
 ·rw [List.pairwise_map]
  exact hs
noncomputable def X9 (K:PySem.W.Frag):List V -> Hp -> VK -> Prop:=fun xs H Q=>∃ (l:Addr) (us:List V) (b:Bool) (D:V -> PyData) (g:V -> Nat),xs = [.ref l] /\ Bo K H l us /\ us.length <= 20000 /\ O0 H b D g us /\ ∀ (p:Addr) (us':List V),H p = none -> us'.Perm us -> us'.Pairwise (fun x y=>g x <= g y) -> Q (.ref p) (upd H p (.lst us'))
theorem Ow (hr:De k X.A):E1 X (.builtin "sorted") (X9 X.K):=by
 intro pins s σ H xs us Q I r h
 obtain ⟨l,vs,b,D,g,rfl,hq,hl,hD,q⟩ := h
 obtain ⟨u,rfl,ru⟩ := r.one
 cases ru
 obtain ⟨its,rv,pl,hz⟩ := I.list hq
 obtain ⟨as,rfl⟩ := hD.ref
 obtain rfl:=Np as its rv
 have hu:=hr.units
 have h63:=Gx
 have hlen:(as.map Value.ref).length <= sizeLine:=by
  rw [List.length_map]
  rw [List.length_map] at hl
  exact Nat.le_trans hl (by rw [sizeLine_eq]; decide)
 have kp:∀ b o,s.heap.get? b = some o -> ((s.heap.push (seqObj "list" #[] 0)).update s.heap.objs.size (Obj.mapSeq (· ++ (as.map Value.ref).toArray))).get? b = some o:=fun b o e=>(Heap.get?_update_other _ _ (Ne.symm (Nat.ne_of_lt (Heap.lt_size e)))).trans (Heap.get?_push_of_some _ e)
 refine Uo (h1:=(s.heap.push (seqObj "list" #[] 0)).update s.heap.objs.size (Obj.mapSeq (· ++ (as.map Value.ref).toArray))) (t1:=s.toks) (κ:=PyProof.Rows.tuples' b) (g:=fun v=>g (.ref (Mf v))) hlen (fun R hR=>collect_list pl.isList hR hlen) (fun h6 A' hA' k6 h2=>?_) fun out h' c p1 p2 k' e'=>?_
 ·have I6:Ai X pins σ H { s with heap:=h6 }:=I.kept (t':=s.toks) fun b o e=>k6 b o (kp b o e)
  rw [List.length_map] at h2
  exact hD.asks (E:=fun _ _=>True) I6 rfl rfl (by have:=hr.un; omega) h2
 ·obtain ⟨us',v1,v2,v3⟩ := Nz p1 p2
  refine ⟨.ref _,upd H _ (.lst us'),I.laid (t':=s.toks) (fun b o e=>k' b o (kp b o e)) ?_ ?_,rfl,q _ us' (I.hok.fresh ?_) v2 v3⟩
  ·rw [Heap.size_update,size_push']
   exact Nat.le_succ _
  ·exact ⟨by rw [v2.length_eq]; exact hz,out.toList,c,v1,e'⟩
  ·rw [Heap.size_update,size_push']
   exact Nat.le_succ _
end
open PySem.W (KdxIt)
section
variable {P:Program} {w:World} {A:Around} {E:Value -> Shared -> Prop} {s:Shared}
theorem cq {it d a : Addr} {f : Bool} {oa od : Obj} {i ep : Nat} {es : Array DictEntry} {en : DictEntry} {ok ov : Value} {Q : Option Value -> Shared -> Prop} (hit : KdxIt s.heap it d i es.size ep ok ov a f) (ha : s.heap.get? a = some oa) (hai : a ≠ it) (hod : s.heap.get? d = some od) (hdd : od.data = .dict es ep) (he : es[i]? = some en)
  (hQ:∀ h',KdxIt h' it d (i + 1) es.size ep ok ov a true -> h'.get? s.heap.objs.size = some { cls := .type "tuple",data := .seq #[en.key,en.val] } -> (∀ b o,b ≠ it -> s.heap.get? b = some o -> h'.get? b = some o) -> Q (some (.ref s.heap.objs.size)) { s with heap:=h' }):wpAny (model P w) A (pyNext (.ref it)) Q E s:=by
 have hT:s.TypeIs (.ref it) "dict_itemiterator" := ⟨_,hit,rfl⟩
 have own:Builtin.Dict_items.ownsTuple "dict_itemiterator" = true:=by decide
 unfold pyNext; refine wpAny_bind (wpAny_attempt (wpAny_callSpecial?_slot (name:=Str.ofString "__next__") hT F.slot_dict_itemiterator_next (wpAny_call_entry F.slot_dict_itemiterator_next hT F.entry_dict_itemiterator_next ?_ (F.args_dict_itemiterator_next_1 _))))
 refine wpAny_bind (wpAny_pure (wpAny_bind (wpAny_bind (wpAny_bind (wpAny_typeNameOfWhole_itemiter hT (wpAny_pure (wpAny_bind (wpAny_fieldsOf hit rfl ?_))))))))
 simp only [own,if_true]; show wpAny _ _ (if (Value.ref d == Value.none) = true then _ else _) _ _ s
 rw [if_neg (show ¬ (Value.ref d == Value.none) = true from Bool.false_ne_true)]; refine wpAny_bind (wpAny_pure (wpAny_bind (wpAny_dictEntries hod hdd ?_)))
 rw [if_neg (show ¬ ((es.size:Int) != (es.size:Int)) = true by simp)]; refine wpAny_bind (wpAny_pure (wpAny_bind (wpAny_dictEpoch hod hdd ?_)))
 rw [if_neg (show ¬ ((ep:Int) != (ep:Int)) = true by simp)]; refine wpAny_pure ?_
 simp only [show ¬ ((i:Int) < 0) by omega,if_false,Int.toNat_natCast,he]
 refine wpAny_bind (wpAny_bind (wpAny_typeNameOfWhole_itemiter hT (wpAny_pure (wpAny_bind (wpAny_isOneOf_itemiter hT ?_)))))
 show wpAny _ _ (setField (.ref it) 3 (rawInt ((i:Int) + 1)) >>= _) _ _ s; refine wpAny_bind (wpAny_setField_rec hit (by simp) fun h1 b1 c1=>?_)
 have b1':KdxIt h1 it d (i + 1) es.size ep ok ov a f:=by
  have e:((i + 1:Nat):Int) = (i:Int) + 1:=by omega
  unfold KdxIt; rw [e]; simpa [rawInt] using b1
 have hT1:Shared.TypeIs { s with heap:=h1 } (.ref it) "dict_itemiterator" := ⟨_,b1',rfl⟩
 refine wpAny_bind (wpAny_holding (wpAny_bind (wpAny_isOneOf_itemiter hT1 (wpAny_bind (wpAny_isOneOf_itemiter hT1 ?_)))))
 have z1:h1.objs.size = s.heap.objs.size:=c1.1
 show wpAny _ _ (Builtin.Dict_items.pairFromOwner (.ref it) 6 en.key en.val) _ _ { s with heap:=h1 }
 unfold Builtin.Dict_items.pairFromOwner; refine wpAny_bind (wpAny_newTuple ?_)
 have il:it < s.heap.objs.size:=Heap.lt_size hit
 have e2:KdxIt (h1.push { cls := .type "tuple",data := .seq #[en.key,en.val] }) it d (i + 1) es.size ep ok ov a f:=Heap.get?_push_of_some _ b1'
 have t2:(h1.push { cls := .type "tuple",data := .seq #[en.key,en.val] }).get? s.heap.objs.size = some { cls := .type "tuple",data := .seq #[en.key,en.val] }:=by rw [<- z1]; exact Heap.get?_push_size _ rfl
 have k2:∀ b o,b ≠ it -> s.heap.get? b = some o -> (h1.push { cls := .type "tuple",data := .seq #[en.key,en.val] }).get? b = some o:=fun b o hb e=>Heap.get?_push_of_some _ (c1.extBut b o hb e)
 show wpAny _ _ (Builtin.Dict_items.ownedTupleIsFree (.ref it) >>= _) _ _ { s with heap:=h1.push { cls := .type "tuple",data := .seq #[en.key,en.val] } }
 rw [show (Shared.heap { s with heap:=h1 }).objs.size = s.heap.objs.size from z1]
 generalize h1.push { cls := .type "tuple",data := .seq #[en.key,en.val] } = h2 at e2 t2 k2
 unfold Builtin.Dict_items.ownedTupleIsFree; refine wpAny_bind (wpAny_bind (wpAny_field e2 rfl (x:=rawInt a) rfl ?_))
 show wpAny _ _ (loadIfAlive ((a:Int).toNat) >>= _) _ _ _; rw [Int.toNat_natCast]
 refine wpAny_bind (PySem.W.kdx_alive (k2 a oa hai ha) ?_)
 simp only [Option.isNone_some,Bool.false_eq_true,if_false]; refine wpAny_bind (wpAny_field e2 rfl (x := .bool f) rfl ?_)
 cases f with
 | true =>
  rw [if_neg (show ¬ (Value.bool true != Value.bool true) = true from Bool.false_ne_true)]; refine wpAny_pure ?_
  simp only [Bool.false_eq_true,if_false]; exact wpAny_pure (wpAny_pure ⟨_,rfl,wpAny_pure (hQ h2 e2 t2 k2)⟩)
 | false =>
  rw [if_pos (show (Value.bool false != Value.bool true) = true from rfl)]; refine wpAny_bind (wpAny_setField_rec e2 (by simp) fun h3 e3 s3=>wpAny_pure ?_)
  simp only [Bool.false_eq_true,if_false]; exact wpAny_pure (wpAny_pure ⟨_,rfl,wpAny_pure (hQ h3 e3 (s3.extBut _ _ (Nat.ne_of_gt il) t2) fun b o hb e=>s3.extBut b o hb (k2 b o hb e))⟩)
theorem eg {it d a : Addr} {f : Bool} {od : Obj} {i ep : Nat} {es : Array DictEntry} {ok ov : Value} {Q : Option Value -> Shared -> Prop} (hh : A.handled = none) (hit : KdxIt s.heap it d i es.size ep ok ov a f) (hod : s.heap.get? d = some od) (hdd : od.data = .dict es ep) (he : es[i]? = none)
  (hQ:∀ h',Heap.ExtBut it s.heap h' -> Q none { s with heap:=h' }):wpAny (model P w) A (pyNext (.ref it)) Q E s:=by
 have hT:s.TypeIs (.ref it) "dict_itemiterator" := ⟨_,hit,rfl⟩
 have own:Builtin.Dict_items.ownsTuple "dict_itemiterator" = true:=by decide
 unfold pyNext; refine wpAny_bind (wpAny_attempt (wpAny_callSpecial?_slot (name:=Str.ofString "__next__") hT F.slot_dict_itemiterator_next (wpAny_call_entry F.slot_dict_itemiterator_next hT F.entry_dict_itemiterator_next ?_ (F.args_dict_itemiterator_next_1 _))))
 refine wpAny_bind (wpAny_pure (wpAny_bind (wpAny_bind (wpAny_bind (wpAny_typeNameOfWhole_itemiter hT (wpAny_pure (wpAny_bind (wpAny_fieldsOf hit rfl ?_))))))))
 simp only [own,if_true]; show wpAny _ _ (if (Value.ref d == Value.none) = true then _ else _) _ _ s
 rw [if_neg (show ¬ (Value.ref d == Value.none) = true from Bool.false_ne_true)]; refine wpAny_bind (wpAny_pure (wpAny_bind (wpAny_dictEntries hod hdd ?_)))
 rw [if_neg (show ¬ ((es.size:Int) != (es.size:Int)) = true by simp)]; refine wpAny_bind (wpAny_pure (wpAny_bind (wpAny_dictEpoch hod hdd ?_)))
 rw [if_neg (show ¬ ((ep:Int) != (ep:Int)) = true by simp)]; refine wpAny_pure ?_
 simp only [show ¬ ((i:Int) < 0) by omega,if_false,Int.toNat_natCast,he]
 refine wpAny_bind (wpAny_bind (wpAny_typeNameOfWhole_itemiter hT (wpAny_pure ?_)))
 show wpAny _ _ (setField (.ref it) 2 Value.none >>= _) _ _ s
 refine wpAny_bind (wpAny_setField hit rfl (by simp) ?_)
 generalize hg:Heap.update s.heap it (Obj.mapFields (·.setIfInBounds 2 Value.none)) = h2
 have eb:Heap.ExtBut it s.heap h2:=by
  rw [<- hg]
  exact fun b ob hb e=>(Heap.get?_update_other _ _ (Ne.symm hb)).trans e
 show wpAny (model P w) _ (newExc (.type "StopIteration") [] >>= _) _ _ { s with heap:=h2 }
 refine wpAny_bind ?_; simp only [newExc,newTuple]
 refine wpAny_bind (wpAny_newObj_type (T := "tuple") ?_ (by size_fits))
 refine wpAny_bind (m:=firstArgMember _ _) (wpAny_of_eq (a:=Value.none) (by first | rfl | simp only [firstArgMember]) ?_)
 refine wpAny_newObj_type (T := "StopIteration") ?_ (by size_fits)
 simp only [raiseNew]; refine wpAny_bind (wpAny_handled ?_)
 first | rw [show A.in1.handled = Option.none from hh] | rw [hh]
 refine wpAny_bind (wpAny_pure (wpAny_throw ?_)); refine wpAny_bind (wpAny_isInstance (T := "StopIteration") (b:=true) ⟨_,Heap.get?_push_size _ rfl,rfl⟩ isSubtype_stop ?_)
 exact wpAny_pure (hQ _ ((eb.push _).push _))
noncomputable def Rt (h:Heap) (it d S:Addr) (i n ep:Nat):Prop:=(i = 0 /\ ∃ ok ov,IsItemIter h it d 0 n ep ok ov) \/ ∃ ok ov a f oa,KdxIt h it d i n ep ok ov a f /\ h.get? a = some oa /\ a ≠ it /\ a ≠ S
structure aq (es:Array DictEntry) (lo:Addr) (h:Heap) (as:List Addr):Prop where
 rise:as.Pairwise (· < ·)
 above:∀ a ∈ as,lo < a
 at_:∀ (j:Nat) (a:Addr),as[j]? = some a -> ∃ en,es[j]? = some en /\ h.get? a = some { cls := .type "tuple",data := .seq #[en.key,en.val] }
theorem aq.lt {es:Array DictEntry} {lo:Addr} {h:Heap} {as:List Addr} (g:aq es lo h as) {a:Addr} (ha:a ∈ as):a < h.objs.size:=by
 obtain ⟨j,hj⟩ := List.mem_iff_getElem?.mp ha
 obtain ⟨_,_,e⟩ := g.at_ j a hj
 exact Heap.lt_size e
theorem Ym {it d S : Addr} {od : Obj} {i ep : Nat} {es : Array DictEntry} {en : DictEntry} {Q : Option Value -> Shared -> Prop} (st : Rt s.heap it d S i es.size ep) (hS : S < s.heap.objs.size) (hod : s.heap.get? d = some od) (hdd : od.data = .dict es ep) (he : es[i]? = some en)
  (hQ:∀ h',Rt h' it d S (i + 1) es.size ep -> h'.get? s.heap.objs.size = some { cls := .type "tuple",data := .seq #[en.key,en.val] } -> (∀ b o,b ≠ it -> s.heap.get? b = some o -> h'.get? b = some o) -> Q (some (.ref s.heap.objs.size)) { s with heap:=h' }):wpAny (model P w) A (pyNext (.ref it)) Q E s:=by
 rcases st with ⟨rfl,ok,ov,hit⟩ | ⟨ok,ov,a,f,oa,hit,ha,hai,haS⟩
 ·exact Pt hit hod hdd he fun h' a1 a2 a3=>hQ h' (.inr ⟨en.key,en.val,_,false,_,a1,a2,Nat.ne_of_gt (Heap.lt_size hit),Nat.ne_of_gt hS⟩) a2 a3
 ·exact cq hit ha hai hod hdd he fun h' a1 a2 a3=>hQ h' (.inr ⟨ok,ov,a,true,oa,a1,a3 a oa hai ha,hai,haS⟩) a2 a3
theorem Yu {it d S : Addr} {od : Obj} {i ep : Nat} {es : Array DictEntry} {Q : Option Value -> Shared -> Prop} (hh : A.handled = none) (st : Rt s.heap it d S i es.size ep) (hod : s.heap.get? d = some od) (hdd : od.data = .dict es ep) (he : es[i]? = none)
  (hQ:∀ h',Heap.ExtBut it s.heap h' -> Q none { s with heap:=h' }):wpAny (model P w) A (pyNext (.ref it)) Q E s:=by
 rcases st with ⟨rfl,ok,ov,hit⟩ | ⟨ok,ov,a,f,oa,hit,_,_,_⟩
 ·exact Y4 hh hit hod hdd he hQ
 ·exact eg hh hit hod hdd he hQ
theorem Rt.keep {h h':Heap} {it d S:Addr} {i n ep:Nat} (x:Rt h it d S i n ep) (hk:∀ b o,b ≠ S -> h.get? b = some o -> h'.get? b = some o) (hI:it ≠ S):Rt h' it d S i n ep:=by
 rcases x with ⟨e,ok,ov,hit⟩ | ⟨ok,ov,a,f,oa,hit,ha,hai,haS⟩
 ·exact .inl ⟨e,ok,ov,hk it _ hI hit⟩
 ·exact .inr ⟨ok,ov,a,f,oa,hk it _ hI hit,hk a _ haS ha,hai,haS⟩
theorem Z1 {S I d : Addr} {es : Array DictEntry} {ep : Nat} {od : Obj} {R : Result -> Shared -> Prop} (hh : A.handled = none) (hSI : S < I) (hSd : d ≠ S) (hId : d ≠ I) (hn : es.size <= sizeLine) (res : Value) (hdd : od.data = .dict es ep) {h0 : Heap}
  (hR:∀ h' tk acc c as,(∀ b o,b ≠ S -> b ≠ I -> h0.get? b = some o -> h'.get? b = some o) -> h'.get? S = some { cls := .type "list",dict:=none,data := .seq acc c,slots := #[] } -> as.length = es.size -> aq es I h' as -> acc.toList = as.map Value.ref -> R (.ok (.ret res)) { s with heap:=h',toks:=tk }) :
  ∀ (k i:Nat) (h:Heap) (tk c:Nat) (acc:Array Value) (as:List Addr),es.size - i = k -> i <= es.size -> Rt h I d S i es.size ep -> h.get? d = some od -> (∀ b o,b ≠ S -> b ≠ I -> h0.get? b = some o -> h.get? b = some o) ->
   h.get? S = some { cls := .type "list",dict:=none,data := .seq acc c,slots := #[] } -> acc.toList = as.map Value.ref -> as.length = i -> aq es I h as -> I < h.objs.size ->
   codeAny (model P w) A (.builtin "list.extend.loop" ⟨[.ref S,.ref I,res],[]⟩) R { s with heap:=h,toks:=tk }:=by
 have hne:S ≠ I:=Nat.ne_of_lt hSI
 intro k
 induction k with
 | zero =>
  intro i h tk c acc as hk hi st hD kp hS hacc hal hG hIs
  refine codeAny_builtin F.entry_extend_loop ?_; rw [Around.under_plainId F.plain_extend_loop _]
  show wpAny _ A.in1 (pyNext (.ref I) >>= _) _ _ _
  refine wpAny_bind (Yu (s:={ s with heap:=h,toks:=tk }) (A:=A.in1) hh st hD hdd (Array.getElem?_eq_none (by omega)) fun h' he=>wpAny_pure (hR h' tk acc c as (fun b o h1 h2 e=>he b o h2 (kp b o h1 h2 e)) (he S _ hne hS) (by omega) ⟨hG.rise,hG.above,fun j a hj=>?_⟩ hacc))
  obtain ⟨en,e1,e2⟩ := hG.at_ j a hj
  exact ⟨en,e1,he a _ (Nat.ne_of_gt (hG.above a (List.mem_of_getElem? hj))) e2⟩
 | succ k ih =>
  intro i h tk c acc as hk hi st hD kp hS hacc hal hG hIs
  have hlt:i < es.size:=by omega
  have hx:es[i]? = some es[i]:=getElem?_pos es i hlt
  have hsz:acc.size = i:=by rw [<- Array.length_toList,hacc,List.length_map,hal]
  refine codeAny_builtin F.entry_extend_loop ?_; rw [Around.under_plainId F.plain_extend_loop _]
  show wpAny _ A.in1 (pyNext (.ref I) >>= _) _ _ _
  refine wpAny_bind (Ym (s:={ s with heap:=h,toks:=tk }) (S:=S) st (Heap.lt_size hS) hD hdd hx fun h' st' ht hkp=>?_)
  dsimp only at ht hkp ⊢
  have hS':=hkp S _ hne hS
  have up:∀ b o,b ≠ S -> h'.get? b = some o -> (h'.update S (Obj.mapSeq (·.push (Value.ref h.objs.size)))).get? b = some o:=fun b o hb e=>(Heap.get?_update_other _ _ (Ne.symm hb)).trans e
  have hSl:S < h.objs.size:=Heap.lt_size hS
  have hI':h'.get? I ≠ none:=by
   rcases st' with ⟨_,_,_,z⟩ | ⟨_,_,_,_,_,z,_⟩ <;> rw [z] <;> exact Option.some_ne_none _
  show wpAny _ A.in1 (updateSeq S (·.push (Value.ref h.objs.size)) >>= _) _ _ _
  refine wpAny_bind (wpAny_updateSeq hS' rfl (wpAny_pure ⟨plainId_quiet F.plain_extend_loop _,ih (i + 1) _ tk _ (acc.push (Value.ref h.objs.size)) (as ++ [h.objs.size]) (by omega) hlt (st'.keep up (Ne.symm hne)) (up d _ hSd (hkp d _ hId hD))
   (fun b o h1 h2 e=>up b o h1 (hkp b o h2 (kp b o h1 h2 e))) (Heap.get?_update_self _ hS' rfl) (by rw [Array.toList_push,hacc,List.map_append]; rfl) (by rw [List.length_append,hal]; rfl) ⟨?_,fun a ha=>?_,fun j b hj=>?_⟩ ?_⟩) (by rw [hsz]; omega) (by show (acc.push (Value.ref h.objs.size)).size <= sizeLine + 1; rw [Array.size_push,hsz]; omega))
  ·exact List.pairwise_append.mpr ⟨hG.rise,List.pairwise_singleton _ _,fun a ha b hb=>by rw [List.mem_singleton.mp hb]; exact hG.lt ha⟩
  ·rcases List.mem_append.mp ha with z | z
   ·exact hG.above a z
   ·rw [List.mem_singleton.mp z]
    exact hIs
  ·by_cases z:j < as.length
   ·rw [List.getElem?_append_left z] at hj
    obtain ⟨en,e1,e2⟩ := hG.at_ j b hj
    have hb:=hG.above b (List.mem_of_getElem? hj)
    exact ⟨en,e1,up b _ (Nat.ne_of_gt (Nat.lt_trans hSI hb)) (hkp b _ (Nat.ne_of_gt hb) e2)⟩
   ·rw [List.getElem?_append_right (by omega)] at hj
    have hj0:j = i:=by
     have:=(List.getElem?_eq_some_iff.mp hj).1
     rw [List.length_singleton] at this
     omega
    subst hj0
    rw [hal,Nat.sub_self] at hj
    cases hj
    exact ⟨_,hx,up _ _ (Nat.ne_of_gt hSl) ht⟩
  ·exact Nat.lt_trans hIs (Heap.lt_size (up _ _ (Nat.ne_of_gt hSl) ht))
theorem Sd {r d : Addr} {od : Obj} {es : Array DictEntry} {ep : Nat} {R : List Value -> Shared -> Prop} (hh : A.handled = none) (hv : s.heap.IsItemsView r d) (hod : s.heap.get? d = some od) (hdd : od.data = .dict es ep) (hn : es.size <= sizeLine)
  (h:∀ (h':Heap) (tk:Nat) (as:List Addr),(∀ b o,s.heap.get? b = some o -> h'.get? b = some o) -> as.length = es.size -> aq es s.heap.objs.size h' as -> R (as.map Value.ref) { s with heap:=h',toks:=tk }):wpAny (model P w) A (collect (.ref r)) R E s:=by
 have hr:r < s.heap.objs.size:=let ⟨_,ho,_⟩ := hv; Heap.lt_size ho
 have hd:d < s.heap.objs.size:=Heap.lt_size hod
 unfold collect; refine wpAny_bind (wpAny_runValue (codeAny_builtin entry_proto_collect' ?_)); rw [Around.under_plainId F.plain_proto_collect _]
 show wpAny _ A.in1 (newList [] >>= fun l=>again (.builtin "list.__iadd__" ⟨[l,.ref r],[]⟩)) _ _ s
 refine wpAny_bind (wpAny_newObj_type (wpAny_pure ⟨plainId_quiet F.plain_list_iadd _,codeAny_builtin entry_list_iadd' ?_⟩)); rw [Around.under_plainId F.plain_list_iadd _]
 generalize hs1:({ s with heap:=s.heap.push { cls := .type "list",data := .seq ([]:List Value).toArray } }:Shared) = s1
 have z1:s1.heap.objs.size = s.heap.objs.size + 1:=by rw [<- hs1]; exact Heap.size_push ..
 have hlt:s.heap.objs.size < s1.heap.objs.size:=by rw [z1]; exact Nat.lt_succ_self _
 have kp1:∀ b o,s.heap.get? b = some o -> s1.heap.get? b = some o:=fun b o e=>by rw [<- hs1]; exact Heap.get?_push_of_some _ e
 have hS:s1.heap.get? s.heap.objs.size = some { cls := .type "list",data := .seq #[] }:=by rw [<- hs1]; exact Heap.get?_push_size _ rfl
 have hv1:s1.heap.IsItemsView r d:=let ⟨o,ho,x⟩ := hv; ⟨o,kp1 _ _ ho,x⟩
 have es1:∀ (h':Heap) (tk:Nat),({ s1 with heap:=h',toks:=tk }:Shared) = { s with heap:=h',toks:=tk }:=fun _ _=>by rw [<- hs1]
 show wpAny _ A.in1 (Builtin.List.listExtendWith (.ref s.heap.objs.size) (.ref r) (.ref s.heap.objs.size)) _ _ s1
 have fin : ∀ (h' : Heap) (tk : Nat) (acc : Array Value) (c : Nat) (as : List Addr), (∀ b o, s.heap.get? b = some o -> h'.get? b = some o) -> h'.get? s.heap.objs.size = some { cls := .type "list", dict := none, data := .seq acc c, slots := #[] } -> as.length = es.size -> aq es s.heap.objs.size h' as -> acc.toList = as.map Value.ref ->
   wpAny (model P w) A (load s.heap.objs.size >>= fun o=>match o.data with | .seq xs _=>pure xs.toList | _=>unsupported "internal:collect") R E { s with heap:=h',toks:=tk }:=fun h' tk acc c as k1 k2 k3 k4 k5=>by
  refine wpAny_bind (wpAny_load k2 (wpAny_pure ?_))
  show R acc.toList _
  rw [k5]
  exact h h' tk as k1 k3 k4
 have key : ∀ (h : Heap) (c₁ tk : Nat) (R' : Result -> Shared -> Prop), (∀ b o, b ≠ s.heap.objs.size -> (s1.heap.push { cls := .type "dict_itemiterator", data := .fields #[.none, .bool false, .ref d, .int 0 0, .int es.size 0, .int ep 0, .none, .none] }).get? b = some o -> h.get? b = some o) ->
   h.get? s.heap.objs.size = some { cls := .type "list",data := .seq #[] c₁ } ->
   (∀ (h':Heap) (tk:Nat) (acc:Array Value) (c:Nat) (as:List Addr),(∀ b o,s.heap.get? b = some o -> h'.get? b = some o) -> h'.get? s.heap.objs.size = some { cls := .type "list",dict:=none,data := .seq acc c,slots := #[] } -> as.length = es.size -> aq es s.heap.objs.size h' as -> acc.toList = as.map Value.ref -> R' (.ok (.ret (.ref s.heap.objs.size))) { s1 with heap:=h',toks:=tk }) ->
   codeAny (model P w) A (.builtin "list.extend.loop" ⟨[.ref s.heap.objs.size,.ref s1.heap.objs.size,.ref s.heap.objs.size],[]⟩) R' { s1 with heap:=h,toks:=tk }:=fun h c₁ tk R' hk hS1 hR'=>by
  have hI:=hk s1.heap.objs.size _ (by omega) (Heap.get?_push_size _ rfl)
  refine Z1 (s:=s1) (S:=s.heap.objs.size) (I:=s1.heap.objs.size) (h0:=s1.heap) hh hlt (Nat.ne_of_lt hd) (Nat.ne_of_lt (Nat.lt_trans hd hlt)) hn (.ref s.heap.objs.size) hdd (fun h' tk' acc c as k1 k2 k3 k4 k5=>hR' h' tk' acc c as (fun b o e=>?_) k2 k3 ⟨k4.rise,fun a ha=>?_,k4.at_⟩ k5)
   es.size 0 h tk c₁ #[] [] (Nat.sub_zero _) (Nat.zero_le _) (.inl ⟨rfl,.none,.none,hI⟩) (hk d od (Nat.ne_of_lt hd) (Heap.get?_push_of_some _ (kp1 d od hod))) (fun b o h1 _ e=>hk b o h1 (Heap.get?_push_of_some _ e)) hS1 rfl rfl ⟨List.Pairwise.nil,(fun _ ha=>nomatch ha),(fun j a hj=>by simp at hj)⟩ (Heap.lt_size hI)
  ·have hb:=Heap.lt_size e
   exact k1 b o (Nat.ne_of_lt hb) (Nat.ne_of_lt (Nat.lt_trans hb hlt)) (kp1 b o e)
  ·exact Nat.lt_trans hlt (k4.above a ha)
 unfold Builtin.List.listExtendWith
 refine wpAny_bind (wpAny_typeOf (T := "dict_items") hv1.typeIs ?_)
 have q1:Builtin.List.listSameRef (.ref s.heap.objs.size) (.ref r) = false:=by simp [Builtin.List.listSameRef,Nat.ne_of_gt hr]
 have q2:(Value.type "dict_items" == Value.type "list") = false:=by decide
 have q3:(Value.type "dict_items" == Value.type "tuple") = false:=by decide
 simp only [q1,q2,q3,Bool.or_false,Bool.false_eq_true,if_false]
 refine wpAny_bind (U7 hv1 (kp1 d od hod) hdd ?_)
 have hS2:=Heap.get?_push_of_some { cls := .type "dict_itemiterator",data := .fields #[.none,.bool false,.ref d,.int 0 0,.int es.size 0,.int ep 0,.none,.none] } hS
 refine wpAny_bind (wpAny_holding (PySem.W.kdx_hint (let ⟨o,ho,hc,_⟩ := hv1; ⟨o,Heap.get?_push_of_some _ ho,hc⟩) ?_))
 refine wpAny_ite_split (fun _=>?_) (fun _=>wpAny_pure ⟨plainId_quiet F.plain_extend_loop _,key _ 0 s1.toks _ (fun b o _ e=>e) hS2 fun h' tk acc c as k1 k2 k3 k4 k5=>?_⟩)
 ·refine wpAny_bind (wpAny_rule (wpAny_bind ?_))
  show wpAny _ _ (updateSeq s.heap.objs.size (·.push .none) >>= fun _=>updateSeq s.heap.objs.size (·.pop)) _ _ _
  refine wpAny_bind (wpAny_updateSeq hS2 rfl ?_)
  have hS3:=Heap.get?_update_self (Obj.mapSeq (·.push Value.none)) hS2 rfl
  refine wpAny_updateSeq (hz:=by seq_fits) hS3 rfl ?_
  have hS4:=Heap.get?_update_self (Obj.mapSeq (·.pop)) hS3 rfl
  refine wpAny_pure ⟨plainId_quiet F.plain_extend_loop _,key _ _ s1.toks _ (fun b o hb e=>(Heap.get?_update_other _ _ (Ne.symm hb)).trans ((Heap.get?_update_other _ _ (Ne.symm hb)).trans e)) hS4 fun h' tk acc c as k1 k2 k3 k4 k5=>?_⟩
  rw [es1]
  exact fin h' tk acc c as k1 k2 k3 k4 k5
 ·rw [es1]
  exact fin h' tk acc c as k1 k2 k3 k4 k5
end
section
variable {prog:Program} {w:World} {E:Value -> Shared -> Prop}
theorem Rr {A : Around} {s : Shared} {r : Value} {Q : Value -> Shared -> Prop} {C : List Value -> Heap -> Nat -> Prop} (hcol : ∀ R : List Value -> Shared -> Prop, (∀ vs h1 t1, C vs h1 t1 -> R vs { s with heap := h1, toks := t1 }) -> wpAny (model prog w) A.in1 (collect r) R E s)
  (hC:∀ vs h1 t1,C vs h1 t1 -> vs.length <= sizeLine /\ ∃ (κ:SortKind) (g:Value -> Nat),
   (∀ (h6:Heap) (A':Around),A'.units <= A.units + 4 -> (∀ b o,h1.get? b = some o -> h6.get? b = some o) -> 2 <= vs.length -> (∀ Q E,Q κ { s with heap:=h6,toks:=t1 } -> wpAny (model prog w) A' (keyKind' vs.toArray) Q E { s with heap:=h6,toks:=t1 }) /\ He prog w A' { s with heap:=h6,toks:=t1 } κ (fun p=>g p.1) (vs.toArray.zip vs.toArray)) /\
   (∀ (out:Array Value) (h':Heap) (c:Nat),out.toList.Perm vs -> out.toList.Pairwise (fun x y=>g x <= g y) -> (∀ b o,h1.get? b = some o -> h'.get? b = some o) -> h'.get? h1.objs.size = some (seqObj "list" out c) -> Q (.ref h1.objs.size) { s with heap:=h',toks:=t1 })) :
  wpAny (model prog w) A (call (.builtin "sorted") [r]) Q E s:=by
 refine Calls.call_function_entry kind_sorted plain_sorted entry_sorted (args_sorted1 _) ?_
 unfold Builtin.«sorted»
 refine wpAny_bind (m:=checkCount "sorted" 1 1 _) (wpAny_pure (wpAny_bind (hcol _ fun vs h1 t1 hc=>wpAny_bind (wpAny_newList ?_ (hC vs h1 t1 hc).1))))
 obtain ⟨hsz,κ,g,hkk,h⟩ := hC vs h1 t1 hc
 have hoL:(h1.push (seqObj "list" vs.toArray 0)).get? h1.objs.size = some (seqObj "list" vs.toArray 0):=Heap.get?_push_size _ rfl
 show wpAny _ _ _ _ _ { s with heap:=h1.push (seqObj "list" vs.toArray 0),toks:=t1 }
 refine wpAny_bind (wpAny_holding (wpAny_call_entry slot_list_sort ⟨_,hoL,rfl⟩ entry_list_sort (Qw (κ:=κ) (g:=g) (s:={ s with heap:=h1.push (seqObj "list" vs.toArray 0),toks:=t1 }) hoL hsz (fun h6 kp h2=>?_) fun out p1 p2=>⟨_,rfl,?_⟩) (args_list_sort _)))
 ·obtain ⟨k1,k2⟩ := hkk h6 A.in1.in1 (show A.units + 1 + 1 <= A.units + 4 by omega) (fun b o e=>kp b o (Nat.ne_of_lt (Heap.lt_size e)) (Heap.get?_push_of_some _ e)) h2
  exact ⟨fun Q hq=>k1 Q _ hq,k2⟩
 ·obtain ⟨c,hc⟩ : ∃ c,(sortedHeap (h1.push (seqObj "list" vs.toArray 0)) h1.objs.size vs out).get? h1.objs.size = some (seqObj "list" out c):=sortedHeap_at hoL
  refine wpAny_pure ⟨_,rfl,h out _ c p1 p2 (fun b o e=>?_) hc⟩
  rw [sortedHeap_old (Nat.ne_of_lt (Heap.lt_size e)) (by rw [size_push']; exact Nat.lt_succ_of_lt (Heap.lt_size e))]
  exact Heap.get?_push_of_some _ e
end
section
variable {X:Cx} {k:Nat} {pins:List (Addr × Obj)} {σ:St} {H H':Hp} {s:Shared} {h':Heap}
theorem Ai.laidMany {t':Nat} (I:Ai X pins σ H s) (kp:∀ b u,s.heap.get? b = some u -> h'.get? b = some u) (old:∀ b,b < s.heap.objs.size -> H' b = H b) (new:∀ b o,s.heap.objs.size <= b -> H' b = some o -> Br X.prog X.w H' h' b o):Ai X pins σ H' { s with heap:=h',toks:=t' }:=by
 have up:∀ b o,H b = some o -> H' b = some o:=fun b o e=>by rw [old b (I.hok.lt e)]; exact e
 refine I.un ⟨fun b u q _ _ _=>kp b u q,fun b u q _ _ _=>⟨u.slots,kp b u q⟩,fun b u q n _=>by rw [old b (Heap.lt_size q)]; exact n,fun b u q _=>⟨u,kp b u q⟩,fun b xs q=>up b _ q,fun b u xs q=>up b _ q,fun b ps q=>⟨#[],by rw [up b _ q]; simp⟩⟩ fun b u e=>?_
 by_cases hb:b < s.heap.objs.size
 ·rw [old b hb] at e
  exact (I.hok b u e).stay (fun c v _ q=>kp c v q) (fun c q=>up c _ q) fun c xs q=>up c _ q
 ·exact new b u (Nat.le_of_not_lt hb) e
noncomputable def Qt (v D:Addr):HO := .ext fun h=>h.IsItemsView v D
noncomputable def Yt:V -> List V -> Hp -> VK -> Prop:=fun x vs H Q=>∃ D kvs,x = .ref D /\ vs = [] /\ H D = some (.dT kvs) /\ ∀ v,H v = none -> Q (.ref v) (upd H v (Qt v D))
theorem Vr:jd X "dict.items" Yt:=by
 intro pins s σ H x vs v us Q I rx rv h
 obtain ⟨D,kvs,rfl,rfl,hD,q⟩ := h
 cases rx
 have hus:=rv.zero
 subst hus
 obtain ⟨hz,hsm,ys,pr,o,es,ep,ho,hex,hd,he,hnd⟩ := (show Br X.prog X.w H s.heap D (.dT kvs) from I.hok D _ hD)
 have hfr:H s.heap.objs.size = none:=I.hok.fresh (Nat.le_refl _)
 have hv:(s.heap.push { cls := .type "dict_items",data := .fields #[.ref D] }).get? s.heap.objs.size = some { cls := .type "dict_items",data := .fields #[.ref D] }:=Heap.get?_push_size _ rfl
 have new:Br X.prog X.w (upd H s.heap.objs.size (Qt s.heap.objs.size D)) (s.heap.push { cls := .type "dict_items",data := .fields #[.ref D] }) s.heap.objs.size (Qt s.heap.objs.size D):=⟨⟨_,hv,rfl,rfl⟩,⟨_,hv⟩,fun h1 h2 ⟨o,a1,a2⟩ k=>⟨o,k _ a1,a2⟩⟩
 exact Qm hsm ho hex ⟨.ref s.heap.objs.size,_,I.laid (t':=s.toks) (fun b u z=>Heap.get?_push_of_some _ z) (Nat.le_refl _) new,rfl,q _ hfr⟩
noncomputable def gp (k:(List Int × Int)):PyData := .tuple [.tuple (k.1.map PyData.int),.int k.2]
mutual
theorem al {H H':Hp} (sm:A9 H H'):∀ (d:PyData) (v:V),Rp H d v -> Rp H' d v
 | .none,v,h=>h
 | .bool _,v,h=>h
 | .int _,v,h=>h
 | .str _,v,h=>h
 | .dict _,v,h=>h
 | .tuple ds,v,h=>by
  unfold Rp at h ⊢
  obtain ⟨a,xs,e,h1,h2⟩ := h
  exact ⟨a,xs,e,sm _ _ h1,rpa_sm sm ds xs h2⟩
 | .list ds,v,h=>by
  unfold Rp at h ⊢
  obtain ⟨a,xs,e,h1,h2⟩ := h
  exact ⟨a,xs,e,sm _ _ h1,rpa_sm sm ds xs h2⟩
theorem rpa_sm {H H':Hp} (sm:A9 H H'):∀ (ds:List PyData) (vs:List V),RpAll H ds vs -> RpAll H' ds vs
 | [],vs,h=>by
  unfold RpAll at h ⊢
  exact h
 | d :: ds,vs,h=>by
  unfold RpAll at h ⊢
  obtain ⟨x,xs,e,h1,h2⟩ := h
  exact ⟨x,xs,e,al sm d x h1,rpa_sm sm ds xs h2⟩
end
theorem Nw {H:Hp}:∀ xs:List Int,RpAll H (xs.map PyData.int) (xs.map V.int)
 | []=>by unfold RpAll; rfl
 | x :: xs=>by
  show RpAll H (PyData.int x :: xs.map PyData.int) (V.int x :: xs.map V.int)
  unfold RpAll
  exact ⟨_,_,rfl,by unfold Rp; rfl,Nw xs⟩
theorem g9 {H:Hp} {b:Addr} {k:(List Int × Int)} (h:E2 H b k):Rp H (gp k) (.ref b):=by
 obtain ⟨u,h1,h2⟩ := h
 unfold gp Rp
 refine ⟨b,_,rfl,h1,?_⟩
 unfold RpAll
 refine ⟨_,_,rfl,?_,?_⟩
 ·unfold Rp
  exact ⟨u,_,rfl,h2,Nw _⟩
 ·unfold RpAll
  refine ⟨_,_,rfl,by unfold Rp; rfl,?_⟩
  unfold RpAll
  rfl
noncomputable def Yc (H:Hp) (kv:(List Int × Int) × V) (u:V):Prop := ∃ a b,u = .ref a /\ H a = some (.tup [.ref b,kv.2]) /\ E2 H b kv.1
noncomputable def Gu (dv:(List Int × Int) × V -> PyData) (kv:(List Int × Int) × V):PyData := .tuple [gp kv.1,dv kv]
noncomputable def cn:List V -> Hp -> VK -> Prop:=fun xs H Q=>∃ (v D:Addr) (kvs:List ((List Int × Int) × V)) (dv:(List Int × Int) × V -> PyData) (g:(List Int × Int) × V -> Nat),xs = [.ref v] /\ H v = some (Qt v D) /\ H D = some (.dT kvs) /\ (∀ kv ∈ kvs,Rp H (dv kv) kv.2 /\ (dv kv).depth <= 40) /\
 (∀ a ∈ kvs,∀ b ∈ kvs,Wt (Gu dv a) (Gu dv b) /\ Io (Gu dv a) (Gu dv b) = decide (g a < g b)) /\
 ∀ (p:Addr) (us:List V) (ps:List ((List Int × Int) × V)) (H':Hp),A9 H H' -> H p = none -> H' p = some (.lst us) -> ps.Perm kvs -> ps.Pairwise (fun x y=>g x <= g y) -> Paired (Yc H') ps us -> Q (.ref p) H'
theorem Yj {as:List Addr} (h:as.Nodup) {j:Nat} {a:Addr} (e:as[j]? = some a):as.idxOf a = j:=by
 obtain ⟨h1,e1⟩ := List.getElem?_eq_some_iff.mp e
 rw [<- e1]
 exact List.Nodup.idxOf_getElem h j h1
theorem Sh (hr:De k X.A) (hc:X.calm = true):E1 X (.builtin "sorted") cn:=by
 intro pins s σ H xs us Q I r h
 obtain ⟨v,D,kvs,dv,g,rfl,hv,hD,hdv,hord,q⟩ := h
 obtain ⟨u,rfl,ru⟩ := r.one
 cases ru
 obtain ⟨hview,_⟩ := I.hok v _ hv
 obtain ⟨hz,hsm,ys,pr,o,es,ep,ho,hex,hd,hes,hnd⟩ := (show Br X.prog X.w H s.heap D (.dT kvs) from I.hok D _ hD)
 have hl1:kvs.length = ys.length:=pr.length
 have hl2:es.size = ys.length:=size_of_entries hes
 have hu:=hr.un
 refine Rr (C:=fun vs h1 t1=>∃ as:List Addr,vs = as.map Value.ref /\ (∀ b o,s.heap.get? b = some o -> h1.get? b = some o) /\ as.length = es.size /\ aq es s.heap.objs.size h1 as) (fun R hR=>Sd (I.ok.hd hc) hview ho hd (by omega) fun h1 t1 as k1 k2 k3=>hR _ h1 t1 ⟨as,rfl,k1,k2,k3⟩) ?_
 rintro vs h1 t1 ⟨as,rfl,k1,k2,k3⟩
 have hnd2:as.Nodup:=k3.rise.imp fun h=>Nat.ne_of_lt h
 have hab:∀ a ∈ as,s.heap.objs.size <= a:=fun a ha=>Nat.le_of_lt (k3.above a ha)
 have hat:∀ a ∈ as,∃ (j:Nat) (kv:(List Int × Int) × V) (y:(List Int × Int) × Addr × Value),as.idxOf a = j /\ kvs[j]? = some kv /\ ys[j]? = some y /\ kv.1 = y.1 /\ E2 H y.2.1 kv.1 /\ Ax kv.2 y.2.2 /\ h1.get? a = some { cls := .type "tuple",data := .seq #[.ref y.2.1,y.2.2] }:=fun a ha=>by
  obtain ⟨j,hj⟩ := List.mem_iff_getElem?.mp ha
  obtain ⟨en,e1,e2⟩ := k3.at_ j a hj
  have hjl:=(List.getElem?_eq_some_iff.mp hj).1
  obtain ⟨kv,y,f1,f2,f3,f4,f5⟩ := Fj pr (i:=j) (by omega)
  have e3:=entry_at hes j
  rw [f2,e1] at e3
  have e4:en = entryOfKey (C9 X.prog X.w) y:=Option.some.inj e3
  rw [e4] at e2
  exact ⟨j,kv,y,Yj hnd2 hj,f1,f2,f3,f4,f5,e2⟩
 let kvO:V -> (List Int × Int) × V:=fun u=>match u with
  | .ref a=>kvs.getD (as.idxOf a) (([],0),.non)
  | _=>(([],0),.non)
 let kyO:Addr -> Addr:=fun a=>match ys[as.idxOf a]? with
  | some y=>y.2.1
  | none=>0
 have hkv:∀ a ∈ as,∃ y:(List Int × Int) × Addr × Value,kvO (.ref a) ∈ kvs /\ kyO a = y.2.1 /\ E2 H y.2.1 (kvO (.ref a)).1 /\ Ax (kvO (.ref a)).2 y.2.2 /\ h1.get? a = some { cls := .type "tuple",data := .seq #[.ref y.2.1,y.2.2] }:=fun a ha=>by
  obtain ⟨j,kv,y,f0,f1,f2,f3,f4,f5,f6⟩ := hat a ha
  have e1:kvO (.ref a) = kv:=by
   show kvs.getD (as.idxOf a) _ = kv
   rw [f0,List.getD_eq_getElem?_getD,f1]
   rfl
  have e2:kyO a = y.2.1:=by
   show (match ys[as.idxOf a]? with | some y=>y.2.1 | none=>0) = _
   rw [f0,f2]
  rw [e1]
  exact ⟨y,List.mem_of_getElem? f1,e2,f4,f5,f6⟩
 let H1:Hp:=fun b=>if b ∈ as then some (.tup [.ref (kyO b),(kvO (.ref b)).2]) else H b
 have H1n:∀ b,b ∉ as -> H1 b = H b:=fun b hb=>by show (if b ∈ as then _ else H b) = _; rw [if_neg hb]
 have H1s:∀ a,a ∈ as -> H1 a = some (.tup [.ref (kyO a),(kvO (.ref a)).2]):=fun a ha=>by show (if a ∈ as then _ else H a) = _; rw [if_pos ha]
 have old:∀ b,b < s.heap.objs.size -> H1 b = H b:=fun b hb=>H1n b fun z=>Nat.lt_irrefl _ (Nat.lt_of_lt_of_le hb (hab b z))
 have sm:A9 H H1:=fun b o e=>by rw [old b (I.hok.lt e)]; exact e
 have I1:Ai X pins σ H1 { s with heap:=h1,toks:=t1 }:=I.laidMany k1 old fun b o hb e=>by
  by_cases z:b ∈ as
  ·rw [H1s b z] at e
   cases e
   obtain ⟨y,y1,y2,y3,y4,y5⟩ := hkv b z
   rw [y2]
   exact ⟨⟨Nat.le_trans (by decide:2 <= 1000) (K7 (Nat.le_refl _)),_,y5,rfl⟩,[.ref y.2.1,y.2.2],.cons rfl (.cons y4 .nil),⟨_,y5,rfl,0,rfl⟩⟩
  ·rw [H1n b z,I.hok.fresh hb] at e
   cases e
 have hus:(as.map V.ref).map kvO = kvs:=by
  apply List.ext_getElem?
  intro j
  rw [List.map_map,List.getElem?_map]
  cases hj:as[j]? with
  | none =>
   have:=List.getElem?_eq_none_iff.mp hj
   rw [List.getElem?_eq_none (by omega)]
   rfl
  | some a =>
   have hjl:=(List.getElem?_eq_some_iff.mp hj).1
   show some (kvs.getD (as.idxOf a) _) = _
   rw [Yj hnd2 hj,List.getD_eq_getElem?_getD,List.getElem?_eq_getElem (by omega)]
   rfl
 have sD:O0 H1 false (fun u=>Gu dv (kvO u)) (fun u=>g (kvO u)) (as.map V.ref):=by
  refine ⟨fun u hu=>?_,fun u hu u' hu'=>?_⟩
  ·obtain ⟨a,ha,rfl⟩ := List.mem_map.mp hu
   obtain ⟨y,y1,y2,y3,y4,y5⟩ := hkv a ha
   obtain ⟨d1,d2⟩ := hdv _ y1
   refine ⟨?_,⟨gp (kvO (.ref a)).1,[dv (kvO (.ref a))],rfl,by rw [if_neg (by decide)]; exact ⟨_,rfl⟩⟩,?_⟩
   ·unfold Gu Rp
    refine ⟨a,_,rfl,H1s a ha,?_⟩
    unfold RpAll
    refine ⟨_,_,rfl,g9 (by rw [y2]; exact y3.up fun b xs e=>sm b _ e),?_⟩
    unfold RpAll
    refine ⟨_,_,rfl,al sm _ _ d1,?_⟩
    unfold RpAll
    rfl
   ·show (PyData.tuple [gp (kvO (.ref a)).1,dv (kvO (.ref a))]).depth <= 50
    simp only [PyData.depth,PyData.depthAll,gp]
    have hints:∀ l:List Int,PyData.depthAll (l.map PyData.int) = 0:=by
     intro l
     induction l with
     | nil=>rfl
     | cons x l ih=>simp only [List.map_cons,PyData.depthAll,PyData.depth,ih]; rfl
    rw [hints]
    omega
  ·obtain ⟨a,ha,rfl⟩ := List.mem_map.mp hu
   obtain ⟨a',ha',rfl⟩ := List.mem_map.mp hu'
   obtain ⟨_,y1,_⟩ := hkv a ha
   obtain ⟨_,z1,_⟩ := hkv a' ha'
   exact hord _ y1 _ z1
 refine ⟨by rw [List.length_map]; omega,PyProof.Rows.tuples' false,fun v=>g (kvO (.ref (Mf v))),fun h6 A' hA' k6 h2=>?_,fun out h' c p1 p2 k' e'=>?_⟩
 ·have I6:Ai X pins σ H1 { s with heap:=h6,toks:=t1 }:=I1.kept (t':=t1) k6
  rw [List.length_map] at h2
  exact sD.asks (E:=fun _ _=>True) I6 rfl rfl (by omega) h2
 ·obtain ⟨us',v1,v2,v3⟩ := Nz (g:=fun u=>g (kvO u)) p1 p2
  have hfr:H1 h1.objs.size = none:=I1.hok.fresh (Nat.le_refl _)
  refine ⟨.ref _,upd H1 _ (.lst us'),I1.laid (t':=t1) k' (Nat.le_refl _) ⟨by rw [v2.length_eq,List.length_map]; omega,out.toList,c,v1,e'⟩,rfl,q _ us' (us'.map kvO) _ (fun b o e=>?_) ?_ A5 ?_ ?_ ?_⟩
  ·rw [Ac (Ah (sm b o e) hfr)]
   exact sm b o e
  ·cases e:H h1.objs.size with
   | none=>rfl
   | some o=>rw [sm _ _ e] at hfr; cases hfr
  ·have:=v2.map kvO
   rw [hus] at this
   exact this
  ·rw [List.pairwise_map]
   exact v3
  ·have key : ∀ l : List V, (∀ u ∈ l, ∃ a ∈ as, u = .ref a) -> Paired (Yc (upd H1 h1.objs.size (.lst us'))) (l.map kvO) l := by
    intro l
    induction l with
    | nil=>exact fun _=>.nil
    | cons u l ih =>
     intro hl
     refine .cons ?_ (ih fun u hu=>hl u (List.mem_cons_of_mem _ hu))
     obtain ⟨a,ha,rfl⟩ := hl u List.mem_cons_self
     obtain ⟨y,y1,y2,y3,y4,y5⟩ := hkv a ha
     have up:∀ b xs,H1 b = some (.tup xs) -> upd H1 h1.objs.size (.lst us') b = some (.tup xs):=fun b xs e=>by rw [Ac (Ah e hfr)]; exact e
     exact ⟨a,kyO a,rfl,up _ _ (H1s a ha),(y2 ▸ y3.up fun b xs e=>sm b _ e:E2 H1 (kyO a) _).up up⟩
   refine key us' fun u hu=>?_
   obtain ⟨a,ha,e⟩ := List.mem_map.mp (v2.mem_iff.mp hu)
   exact ⟨a,ha,e.symm⟩
end
end L2
namespace Law
local macro_rules | `(tactic| omega) => `(tactic| lia)
open PySem L2 PyProof.Rows
open PySem.Builtin.Int (intBits)
noncomputable def top (i:Nat):Stmt:=PySem.Challenge.pw_roundcall_k34_all_that_is_come_to.main.body.getD i (.Pass ⟨0,0,0,0⟩)
noncomputable abbrev Nd:Stmt:=top 7
noncomputable abbrev N6:Stmt:=top 8
noncomputable abbrev Uu:Stmt:=top 9
noncomputable abbrev Vt:Stmt:=top 10
noncomputable abbrev Rn:Stmt:=top 11
noncomputable abbrev W3:Stmt:=top 12
noncomputable abbrev Fo:Stmt:=top 13
noncomputable abbrev No:Stmt:=top 14
noncomputable abbrev Va:Stmt:=top 15
noncomputable abbrev My:Stmt:=top 16
noncomputable abbrev Lv:Stmt:=top 17
noncomputable abbrev Ku:Stmt:=top 18
noncomputable abbrev Vp:Stmt:=top 20
noncomputable abbrev O3:Stmt:=top 21
noncomputable abbrev V9:Stmt:=top 22
noncomputable abbrev Ko:Stmt:=top 23
noncomputable abbrev O5:Stmt:=top 24
noncomputable abbrev Ls:Stmt:=top 25
noncomputable abbrev Kw:Stmt:=top 26
noncomputable abbrev Ut:Stmt:=top 27
noncomputable abbrev Nv:Stmt:=top 29
noncomputable abbrev Kz:Stmt:=top 30
noncomputable abbrev Px:Stmt:=top 31
noncomputable abbrev Sl:Stmt:=top 32
noncomputable abbrev Mw:Stmt:=top 34
noncomputable abbrev N2:Stmt:=top 35
noncomputable abbrev Gw:Stmt:=top 36
noncomputable abbrev Nf:Stmt:=top 37
noncomputable abbrev L3:Stmt:=top 38
noncomputable abbrev Mz:Stmt:=top 39
noncomputable abbrev Kc:Stmt:=top 40
noncomputable abbrev Im:Stmt:=top 41
theorem bf:As (["hall"]:List Str) ["hall"] (A8 Nd):=⟨rfl,rfl,rfl,by decide +kernel,rfl,by decide +kernel,by decide +kernel⟩
theorem c0:As (["hall","standing"]:List Str) ["hall","standing"] (A8 N6):=⟨rfl,rfl,rfl,by decide +kernel,rfl,by decide +kernel,by decide +kernel⟩
theorem jk:As (["hall","who"]:List Str) ["hall","who"] (A8 Uu):=⟨rfl,rfl,rfl,by decide +kernel,rfl,by decide +kernel,by decide +kernel⟩
theorem iq:As (["hall","standing","who","lost"]:List Str) ["hall","standing","who","lost"] (A8 Vt):=⟨rfl,rfl,rfl,by decide +kernel,rfl,by decide +kernel,by decide +kernel⟩
theorem aw:As (["hall","standing","who","lost","left"]:List Str) ["hall","standing","who","lost"] (A8 Rn):=⟨rfl,rfl,rfl,by decide +kernel,rfl,by decide +kernel,by decide +kernel⟩
noncomputable def J5:Scope:={ kind := .function,names:=[(PySem.Str.ofString ".0",NameKind.local),(PySem.Str.ofString "turns",NameKind.local)],isGenerator:=false,isCoroutine:=false,more:=[] }
theorem Jd:Cf (A8 Rn) J5 (["hall","standing","who","lost","left"]:List Str) (["turns"]:List Str) []:=⟨rfl,by decide +kernel,by decide +kernel,by decide +kernel,by decide +kernel⟩
theorem Ix:(Bn (["hall","standing","who","lost","left"]:List Str) (["turns"]:List Str) []).Nodup:=by decide +kernel
theorem jl:As (["hall","standing","lost"]:List Str) ["hall","standing","lost"] (A8 W3):=⟨rfl,rfl,rfl,by decide +kernel,rfl,by decide +kernel,by decide +kernel⟩
theorem Xw:As (["hall","standing","who","lost","left"]:List Str) ["hall","standing","who","lost"] (A8 Fo):=⟨rfl,rfl,rfl,by decide +kernel,rfl,by decide +kernel,by decide +kernel⟩
theorem Xr:As (["hall","standing","who","behind"]:List Str) ["hall","standing","who"] (A8 No):=⟨rfl,rfl,rfl,by decide +kernel,rfl,by decide +kernel,by decide +kernel⟩
theorem j7:As (["hall"]:List Str) ["hall"] (A8 Va):=⟨rfl,rfl,rfl,by decide +kernel,rfl,by decide +kernel,by decide +kernel⟩
theorem On:As (["hall","product","wait"]:List Str) ["hall"] (A8 My):=⟨rfl,rfl,rfl,by decide +kernel,rfl,by decide +kernel,by decide +kernel⟩
theorem Ir:As (["waits","rows","wait","longer","row"]:List Str) ["waits"] (A8 Lv):=⟨rfl,rfl,rfl,by decide +kernel,rfl,by decide +kernel,by decide +kernel⟩
noncomputable def Mc:Scope:={ kind := .function,names:=[(PySem.Str.ofString ".0",NameKind.local),(PySem.Str.ofString "turns",NameKind.local),(PySem.Str.ofString "row",NameKind.free)],isGenerator:=false,isCoroutine:=false,more:=[] }
theorem Mj:Cf (A8 Lv) Mc (["waits","rows","wait","longer","row"]:List Str) (["turns"]:List Str) [4]:=⟨rfl,by decide +kernel,by decide +kernel,by decide +kernel,by decide +kernel⟩
theorem Mt:(Bn (["waits","rows","wait","longer","row"]:List Str) (["turns"]:List Str) [4]).Nodup:=by decide +kernel
theorem Tb:As (["hall","told","left"]:List Str) ["hall"] (A8 Ku):=⟨rfl,rfl,rfl,by decide +kernel,rfl,by decide +kernel,by decide +kernel⟩
noncomputable def Ld:Scope:={ kind := .function,names:=[(PySem.Str.ofString ".0",NameKind.local),(PySem.Str.ofString "quiet",NameKind.local),(PySem.Str.ofString "left",NameKind.free)],isGenerator:=false,isCoroutine:=false,more:=[] }
theorem Kj:Cf (A8 Ku) Ld (["hall","told","left"]:List Str) (["quiet"]:List Str) [2]:=⟨rfl,by decide +kernel,by decide +kernel,by decide +kernel,by decide +kernel⟩
theorem La:(Bn (["hall","told","left"]:List Str) (["quiet"]:List Str) [2]).Nodup:=by decide +kernel
theorem N0:As (["hall","pending","standing","calls","who","behind"]:List Str) ["hall"] (A8 Vp):=⟨rfl,rfl,rfl,by decide +kernel,rfl,by decide +kernel,by decide +kernel⟩
theorem Hc:As (["pending","ways","standing","calls","who","behind","later"]:List Str) ["pending"] (A8 O3):=⟨rfl,rfl,rfl,by decide +kernel,rfl,by decide +kernel,by decide +kernel⟩
theorem Nh:As (["pending","ways","ranked","bare","later","standing","who","calls"]:List Str) ["pending","ways","ranked"] (A8 V9):=⟨rfl,rfl,rfl,by decide +kernel,rfl,by decide +kernel,by decide +kernel⟩
theorem Fg:As (["hall","pending","ways","table","rank","ranked","standing"]:List Str) ["hall"] (A8 Ko):=⟨rfl,rfl,rfl,by decide +kernel,rfl,by decide +kernel,by decide +kernel⟩
noncomputable def Te:Scope:={ kind := .function,names:=[(PySem.Str.ofString ".0",NameKind.local),(PySem.Str.ofString "standing",NameKind.local),(PySem.Str.ofString "calls",NameKind.local)],isGenerator:=false,isCoroutine:=false,more:=[] }
theorem Sa:Cf (A8 Ko) Te (["hall","pending","ways","table","rank","ranked","standing"]:List Str) (["standing","calls"]:List Str) []:=⟨rfl,by decide +kernel,by decide +kernel,by decide +kernel,by decide +kernel⟩
theorem Lh:(Bn (["hall","pending","ways","table","rank","ranked","standing"]:List Str) (["standing","calls"]:List Str) []).Nodup:=by decide +kernel
theorem dc:As (["table","behind"]:List Str) ["table","behind"] (A8 O5):=⟨rfl,rfl,rfl,by decide +kernel,rfl,by decide +kernel,by decide +kernel⟩
theorem ef:As (["hall","table","standing","who"]:List Str) ["hall","table","standing","who"] (A8 Ls):=⟨rfl,rfl,rfl,by decide +kernel,rfl,by decide +kernel,by decide +kernel⟩
noncomputable def Jx:Scope:={ kind := .function,names:=[(PySem.Str.ofString ".0",NameKind.local),(PySem.Str.ofString "behind",NameKind.local),(PySem.Str.ofString "worth",NameKind.globalImplicit),(PySem.Str.ofString "table",NameKind.free)],isGenerator:=false,isCoroutine:=false,more:=[] }
theorem Jv:Cf (A8 Ls) Jx (["hall","table","standing","who"]:List Str) (["behind"]:List Str) [1]:=⟨rfl,by decide +kernel,by decide +kernel,by decide +kernel,by decide +kernel⟩
theorem Jt:(Bn (["hall","table","standing","who"]:List Str) (["behind"]:List Str) [1]).Nodup:=by decide +kernel
theorem Y0:As (["hall","table","standing","worths"]:List Str) ["hall","table","standing"] (A8 Kw):=⟨rfl,rfl,rfl,by decide +kernel,rfl,by decide +kernel,by decide +kernel⟩
noncomputable def Km:Scope:={ kind := .function,names:=[(PySem.Str.ofString ".0",NameKind.local),(PySem.Str.ofString "who",NameKind.local),(PySem.Str.ofString "call_worth",NameKind.globalImplicit),(PySem.Str.ofString "hall",NameKind.free),(PySem.Str.ofString "standing",NameKind.free),(PySem.Str.ofString "table",NameKind.free)],isGenerator:=false,isCoroutine:=false,more:=[] }
theorem Kl:Cf (A8 Kw) Km (["hall","table","standing","worths"]:List Str) (["who"]:List Str) [0,1,2]:=⟨rfl,by decide +kernel,by decide +kernel,by decide +kernel,by decide +kernel⟩
theorem Ky:(Bn (["hall","table","standing","worths"]:List Str) (["who"]:List Str) [0,1,2]).Nodup:=by decide +kernel
theorem ak:As (["hall","table","standing","who","reached"]:List Str) ["hall","table","standing","who"] (A8 Ut):=⟨rfl,rfl,rfl,by decide +kernel,rfl,by decide +kernel,by decide +kernel⟩
theorem M6:As (["hall","table","calls","coming","standing"]:List Str) ["hall"] (A8 Nv):=⟨rfl,rfl,rfl,by decide +kernel,rfl,by decide +kernel,by decide +kernel⟩
theorem dj:As (["hall","table","standing"]:List Str) ["hall","table","standing"] (A8 Kz):=⟨rfl,rfl,rfl,by decide +kernel,rfl,by decide +kernel,by decide +kernel⟩
noncomputable def J1:Scope:={ kind := .function,names:=[(PySem.Str.ofString ".0",NameKind.local),(PySem.Str.ofString "who",NameKind.local),(PySem.Str.ofString "worst_answer",NameKind.globalImplicit),(PySem.Str.ofString "hall",NameKind.free),(PySem.Str.ofString "standing",NameKind.free),(PySem.Str.ofString "table",NameKind.free)],isGenerator:=false,isCoroutine:=false,more:=[] }
theorem J2:Cf (A8 Kz) J1 (["hall","table","standing"]:List Str) (["who"]:List Str) [0,1,2]:=⟨rfl,by decide +kernel,by decide +kernel,by decide +kernel,by decide +kernel⟩
theorem J0:(Bn (["hall","table","standing"]:List Str) (["who"]:List Str) [0,1,2]).Nodup:=by decide +kernel
theorem af:As (["hall","standing","answers","behind"]:List Str) ["hall","standing","answers"] (A8 Px):=⟨rfl,rfl,rfl,by decide +kernel,rfl,by decide +kernel,by decide +kernel⟩
noncomputable def Fu:Scope:={ kind := .function,names:=[(PySem.Str.ofString ".0",NameKind.local),(PySem.Str.ofString "who",NameKind.local),(PySem.Str.ofString "lost",NameKind.local),(PySem.Str.ofString "after",NameKind.globalImplicit),(PySem.Str.ofString "hall",NameKind.free),(PySem.Str.ofString "standing",NameKind.free)],isGenerator:=false,isCoroutine:=false,more:=[] }
theorem G7:Cf (A8 Px) Fu (["hall","standing","answers","behind"]:List Str) (["who","lost"]:List Str) [0,1]:=⟨rfl,by decide +kernel,by decide +kernel,by decide +kernel,by decide +kernel⟩
theorem Dt:(Bn (["hall","standing","answers","behind"]:List Str) (["who","lost"]:List Str) [0,1]).Nodup:=by decide +kernel
noncomputable def Fr:Scope:={ kind := .function,names:=[(PySem.Str.ofString ".0",NameKind.local),(PySem.Str.ofString "later",NameKind.local)],isGenerator:=false,isCoroutine:=false,more:=[] }
theorem Fy:Cf (A8 Px) Fr (["hall","standing","answers","behind"]:List Str) (["later"]:List Str) []:=⟨rfl,by decide +kernel,by decide +kernel,by decide +kernel,by decide +kernel⟩
theorem Fv:(Bn (["hall","standing","answers","behind"]:List Str) (["later"]:List Str) []).Nodup:=by decide +kernel
theorem Qa:As (["hall","table","told","coming","standing"]:List Str) ["hall"] (A8 Sl):=⟨rfl,rfl,rfl,by decide +kernel,rfl,by decide +kernel,by decide +kernel⟩
noncomputable def Hk:Scope:={ kind := .function,names:=[(PySem.Str.ofString ".0",NameKind.local),(PySem.Str.ofString "standing",NameKind.local),(PySem.Str.ofString "answers",NameKind.local),(PySem.Str.ofString "table",NameKind.free)],isGenerator:=false,isCoroutine:=false,more:=[] }
theorem Hu:Cf (A8 Sl) Hk (["hall","table","told","coming","standing"]:List Str) (["standing","answers"]:List Str) [1]:=⟨rfl,by decide +kernel,by decide +kernel,by decide +kernel,by decide +kernel⟩
theorem Eg:(Bn (["hall","table","told","coming","standing"]:List Str) (["standing","answers"]:List Str) [1]).Nodup:=by decide +kernel
theorem di:As (["script","k"]:List Str) ["script","k"] (A8 Mw):=⟨rfl,rfl,rfl,by decide +kernel,rfl,by decide +kernel,by decide +kernel⟩
theorem Ll:As (["cells","room","waits","one"]:List Str) ["cells"] (A8 N2):=⟨rfl,rfl,rfl,by decide +kernel,rfl,by decide +kernel,by decide +kernel⟩
theorem Dn:As (["script","kind","cell","cells","waits","most","k"]:List Str) ["script"] (A8 Gw):=⟨rfl,rfl,rfl,by decide +kernel,rfl,by decide +kernel,by decide +kernel⟩
noncomputable def Mh:Scope:={ kind := .function,names:=[(PySem.Str.ofString ".0",NameKind.local),(PySem.Str.ofString "k",NameKind.local),(PySem.Str.ofString "_law_cell",NameKind.globalImplicit),(PySem.Str.ofString "script",NameKind.free)],isGenerator:=false,isCoroutine:=false,more:=[] }
theorem Mm:Cf (A8 Gw) Mh (["script","kind","cell","cells","waits","most","k"]:List Str) (["k"]:List Str) [0]:=⟨rfl,by decide +kernel,by decide +kernel,by decide +kernel,by decide +kernel⟩
theorem Md:(Bn (["script","kind","cell","cells","waits","most","k"]:List Str) (["k"]:List Str) [0]).Nodup:=by decide +kernel
noncomputable def Mo:Scope:={ kind := .function,names:=[(PySem.Str.ofString ".0",NameKind.local),(PySem.Str.ofString "one",NameKind.local),(PySem.Str.ofString "max",NameKind.globalImplicit)],isGenerator:=false,isCoroutine:=false,more:=[] }
theorem Mk:Cf (A8 Gw) Mo (["script","kind","cell","cells","waits","most","k"]:List Str) (["one"]:List Str) []:=⟨rfl,by decide +kernel,by decide +kernel,by decide +kernel,by decide +kernel⟩
theorem M9:(Bn (["script","kind","cell","cells","waits","most","k"]:List Str) (["one"]:List Str) []).Nodup:=by decide +kernel
noncomputable def Mp:Scope:={ kind := .function,names:=[(PySem.Str.ofString ".0",NameKind.local),(PySem.Str.ofString "one",NameKind.local),(PySem.Str.ofString "max",NameKind.globalImplicit)],isGenerator:=false,isCoroutine:=false,more:=[] }
theorem Mn:Cf (A8 Gw) Mp (["script","kind","cell","cells","waits","most","k"]:List Str) (["one"]:List Str) []:=⟨rfl,by decide +kernel,by decide +kernel,by decide +kernel,by decide +kernel⟩
theorem Mr:(Bn (["script","kind","cell","cells","waits","most","k"]:List Str) (["one"]:List Str) []).Nodup:=by decide +kernel
noncomputable def Mi:Scope:={ kind := .function,names:=[(PySem.Str.ofString ".0",NameKind.local),(PySem.Str.ofString "one",NameKind.local),(PySem.Str.ofString "max",NameKind.globalImplicit)],isGenerator:=false,isCoroutine:=false,more:=[] }
theorem Mg:Cf (A8 Gw) Mi (["script","kind","cell","cells","waits","most","k"]:List Str) (["one"]:List Str) []:=⟨rfl,by decide +kernel,by decide +kernel,by decide +kernel,by decide +kernel⟩
theorem Mb:(Bn (["script","kind","cell","cells","waits","most","k"]:List Str) (["one"]:List Str) []).Nodup:=by decide +kernel
theorem Sb:As (["hall","standing","who","lost","left","k"]:List Str) ["hall","standing","who","lost"] (A8 Nf):=⟨rfl,rfl,rfl,by decide +kernel,rfl,by decide +kernel,by decide +kernel⟩
theorem Sn:As (["hall","entry","standing","found"]:List Str) ["hall","entry"] (A8 L3):=⟨rfl,rfl,rfl,by decide +kernel,rfl,by decide +kernel,by decide +kernel⟩
noncomputable def Ms:Scope:={ kind := .function,names:=[(PySem.Str.ofString ".0",NameKind.local),(PySem.Str.ofString "who",NameKind.local),(PySem.Str.ofString "_law_behind",NameKind.globalImplicit),(PySem.Str.ofString "entry",NameKind.free),(PySem.Str.ofString "hall",NameKind.free),(PySem.Str.ofString "standing",NameKind.free)],isGenerator:=false,isCoroutine:=false,more:=[] }
theorem M7:Cf (A8 L3) Ms (["hall","entry","standing","found"]:List Str) (["who"]:List Str) [0,2,1]:=⟨rfl,by decide +kernel,by decide +kernel,by decide +kernel,by decide +kernel⟩
theorem Ma:(Bn (["hall","entry","standing","found"]:List Str) (["who"]:List Str) [0,2,1]).Nodup:=by decide +kernel
theorem Lj:As (["hall","entries","seen","row","standing","behind"]:List Str) ["hall","entries"] (A8 Mz):=⟨rfl,rfl,rfl,by decide +kernel,rfl,by decide +kernel,by decide +kernel⟩
theorem S2:As (["hall","table","entry","standing","answers"]:List Str) ["hall","table","entry"] (A8 Kc):=⟨rfl,rfl,rfl,by decide +kernel,rfl,by decide +kernel,by decide +kernel⟩
noncomputable def O8:Scope:={ kind := .function,names:=[(PySem.Str.ofString ".0",NameKind.local),(PySem.Str.ofString "who",NameKind.local),(PySem.Str.ofString "worst_answer",NameKind.globalImplicit),(PySem.Str.ofString "hall",NameKind.free),(PySem.Str.ofString "standing",NameKind.free),(PySem.Str.ofString "table",NameKind.free)],isGenerator:=false,isCoroutine:=false,more:=[] }
theorem Oc:Cf (A8 Kc) O8 (["hall","table","entry","standing","answers"]:List Str) (["who"]:List Str) [0,1,3]:=⟨rfl,by decide +kernel,by decide +kernel,by decide +kernel,by decide +kernel⟩
theorem Pa:(Bn (["hall","table","entry","standing","answers"]:List Str) (["who"]:List Str) [0,1,3]).Nodup:=by decide +kernel
theorem G6:As (["script","hall","table","paper","entries","entry","seen"]:List Str) ["script"] (A8 Im):=⟨rfl,rfl,rfl,by decide +kernel,rfl,by decide +kernel,by decide +kernel⟩
set_option genInjectivity false in
set_option genSizeOf false in
structure ni where
 f_x16:Addr
 f_x19:Addr
 f_x8:Addr
 f_x1:Addr
 f_x9:Addr
 f_x4:Addr
 f_x28:Addr
 f_x12:Addr
 f_x5:Addr
 f_x20:Addr
 f_x21:Addr
 f_x17:Addr
 f_x2:Addr
 f_x26:Addr
 f_x0:Addr
 f_x29:Addr
 f_x30:Addr
 f_x13:Addr
 f_x18:Addr
 f_x6:Addr
 f_x14:Addr
 f_x10:Addr
 f_x3:Addr
 f_x7:Addr
 f_x22:Addr
 f_x23:Addr
 f_x24:Addr
 f_x15:Addr
 f_x25:Addr
 f_x11:Addr
 f_x27:Addr
 f_law:Addr
structure Gq (K:PySem.W.Frag) (mg:Str -> Option Value) (ad:ni):Prop where
 m_x16:mg "beginning" = some (.ref ad.f_x16)
 k_x16:PySem.W.keepIn K (.ref ad.f_x16) = true
 m_x19:mg "may_lose" = some (.ref ad.f_x19)
 k_x19:PySem.W.keepIn K (.ref ad.f_x19) = true
 m_x8:mg "is_listener" = some (.ref ad.f_x8)
 k_x8:PySem.W.keepIn K (.ref ad.f_x8) = true
 m_x1:mg "refuse_wrong_turn" = some (.ref ad.f_x1)
 k_x1:PySem.W.keepIn K (.ref ad.f_x1) = true
 m_x9:mg "left_behind" = some (.ref ad.f_x9)
 k_x9:PySem.W.keepIn K (.ref ad.f_x9) = true
 m_x4:mg "quiet_behind" = some (.ref ad.f_x4)
 k_x4:PySem.W.keepIn K (.ref ad.f_x4) = true
 m_x28:mg "after" = some (.ref ad.f_x28)
 k_x28:PySem.W.keepIn K (.ref ad.f_x28) = true
 m_x12:mg "all_behind" = some (.ref ad.f_x12)
 k_x12:PySem.W.keepIn K (.ref ad.f_x12) = true
 m_x5:mg "quiet_values" = some (.ref ad.f_x5)
 k_x5:PySem.W.keepIn K (.ref ad.f_x5) = true
 m_x20:mg "how_many" = some (.ref ad.f_x20)
 k_x20:PySem.W.keepIn K (.ref ad.f_x20) = true
 m_x21:mg "all_left" = some (.ref ad.f_x21)
 k_x21:PySem.W.keepIn K (.ref ad.f_x21) = true
 m_x17:mg "standings" = some (.ref ad.f_x17)
 k_x17:PySem.W.keepIn K (.ref ad.f_x17) = true
 m_x2:mg "calls_by_standing" = some (.ref ad.f_x2)
 k_x2:PySem.W.keepIn K (.ref ad.f_x2) = true
 m_x26:mg "ways_to" = some (.ref ad.f_x26)
 k_x26:PySem.W.keepIn K (.ref ad.f_x26) = true
 m_x0:mg "without_calls_left" = some (.ref ad.f_x0)
 k_x0:PySem.W.keepIn K (.ref ad.f_x0) = true
 m_x29:mg "ranks" = some (.ref ad.f_x29)
 k_x29:PySem.W.keepIn K (.ref ad.f_x29) = true
 m_x30:mg "worth" = some (.ref ad.f_x30)
 k_x30:PySem.W.keepIn K (.ref ad.f_x30) = true
 m_x13:mg "call_worth" = some (.ref ad.f_x13)
 k_x13:PySem.W.keepIn K (.ref ad.f_x13) = true
 m_x18:mg "best_call" = some (.ref ad.f_x18)
 k_x18:PySem.W.keepIn K (.ref ad.f_x18) = true
 m_x6:mg "worst_answer" = some (.ref ad.f_x6)
 k_x6:PySem.W.keepIn K (.ref ad.f_x6) = true
 m_x14:mg "kept_paper" = some (.ref ad.f_x14)
 k_x14:PySem.W.keepIn K (.ref ad.f_x14) = true
 m_x10:mg "all_answers" = some (.ref ad.f_x10)
 k_x10:PySem.W.keepIn K (.ref ad.f_x10) = true
 m_x3:mg "unbroken_behind" = some (.ref ad.f_x3)
 k_x3:PySem.W.keepIn K (.ref ad.f_x3) = true
 m_x7:mg "broken_paper" = some (.ref ad.f_x7)
 k_x7:PySem.W.keepIn K (.ref ad.f_x7) = true
 m_x22:mg "_law_cell" = some (.ref ad.f_x22)
 k_x22:PySem.W.keepIn K (.ref ad.f_x22) = true
 m_x23:mg "_law_wide" = some (.ref ad.f_x23)
 k_x23:PySem.W.keepIn K (.ref ad.f_x23) = true
 m_x24:mg "_law_hall" = some (.ref ad.f_x24)
 k_x24:PySem.W.keepIn K (.ref ad.f_x24) = true
 m_x15:mg "_law_behind" = some (.ref ad.f_x15)
 k_x15:PySem.W.keepIn K (.ref ad.f_x15) = true
 m_x25:mg "_law_next" = some (.ref ad.f_x25)
 k_x25:PySem.W.keepIn K (.ref ad.f_x25) = true
 m_x11:mg "_law_come_to" = some (.ref ad.f_x11)
 k_x11:PySem.W.keepIn K (.ref ad.f_x11) = true
 m_x27:mg "_law_due" = some (.ref ad.f_x27)
 k_x27:PySem.W.keepIn K (.ref ad.f_x27) = true
 m_law:mg "law" = some (.ref ad.f_law)
 k_law:PySem.W.keepIn K (.ref ad.f_law) = true
 n_len:mg "len" = none
 n_max:mg "max" = none
 n_tuple:mg "tuple" = none
 n_range:mg "range" = none
 n_min:mg "min" = none
 n_sorted:mg "sorted" = none
 n_enumerate:mg "enumerate" = none
 n_isinstance:mg "isinstance" = none
 n_list:mg "list" = none
 n_int:mg "int" = none
 g_MOST_STANDINGS:∃ t,mg "MOST_STANDINGS" = some (.int 3000 t)
inductive Vo (p0 p1 p2:Prop):Prop where
 | mk (h0:p0) (h1:p1) (h2:p2):Vo p0 p1 p2
inductive Kq (p0 p1 p2 p3:Prop):Prop where
 | mk (h0:p0) (h1:p1) (h2:p2) (h3:p3):Kq p0 p1 p2 p3
inductive Hw (p0 p1 p2 p3 p4:Prop):Prop where
 | mk (h0:p0) (h1:p1) (h2:p2) (h3:p3) (h4:p4):Hw p0 p1 p2 p3 p4
inductive Qz (p0 p1 p2 p3 p4 p5:Prop):Prop where
 | mk (h0:p0) (h1:p1) (h2:p2) (h3:p3) (h4:p4) (h5:p5):Qz p0 p1 p2 p3 p4 p5
inductive Rj (p0 p1 p2 p3 p4 p5 p6:Prop):Prop where
 | mk (h0:p0) (h1:p1) (h2:p2) (h3:p3) (h4:p4) (h5:p5) (h6:p6):Rj p0 p1 p2 p3 p4 p5 p6
inductive Rf (p0 p1 p2 p3 p4 p5 p6 p7:Prop):Prop where
 | mk (h0:p0) (h1:p1) (h2:p2) (h3:p3) (h4:p4) (h5:p5) (h6:p6) (h7:p7):Rf p0 p1 p2 p3 p4 p5 p6 p7
inductive Sy (p0 p1 p2 p3 p4 p5 p6 p7 p8:Prop):Prop where
 | mk (h0:p0) (h1:p1) (h2:p2) (h3:p3) (h4:p4) (h5:p5) (h6:p6) (h7:p7) (h8:p8):Sy p0 p1 p2 p3 p4 p5 p6 p7 p8
inductive L7 (p0 p1 p2 p3 p4 p5 p6 p7 p8 p9:Prop):Prop where
 | mk (h0:p0) (h1:p1) (h2:p2) (h3:p3) (h4:p4) (h5:p5) (h6:p6) (h7:p7) (h8:p8) (h9:p9):L7 p0 p1 p2 p3 p4 p5 p6 p7 p8 p9
inductive Ke (p0 p1 p2 p3 p4 p5 p6 p7 p8 p9 p10:Prop):Prop where
 | mk (h0:p0) (h1:p1) (h2:p2) (h3:p3) (h4:p4) (h5:p5) (h6:p6) (h7:p7) (h8:p8) (h9:p9) (h10:p10):Ke p0 p1 p2 p3 p4 p5 p6 p7 p8 p9 p10
inductive ai (p0 p1 p2 p3 p4 p5 p6 p7 p8 p9 p10 p11:Prop):Prop where
 | mk (h0:p0) (h1:p1) (h2:p2) (h3:p3) (h4:p4) (h5:p5) (h6:p6) (h7:p7) (h8:p8) (h9:p9) (h10:p10) (h11:p11):ai p0 p1 p2 p3 p4 p5 p6 p7 p8 p9 p10 p11
inductive ap (p0 p1 p2 p3 p4 p5 p6 p7 p8 p9 p10 p11 p12 p13 p14:Prop):Prop where
 | mk (h0:p0) (h1:p1) (h2:p2) (h3:p3) (h4:p4) (h5:p5) (h6:p6) (h7:p7) (h8:p8) (h9:p9) (h10:p10) (h11:p11) (h12:p12) (h13:p13) (h14:p14):ap p0 p1 p2 p3 p4 p5 p6 p7 p8 p9 p10 p11 p12 p13 p14
inductive au (p0 p1 p2 p3 p4 p5 p6 p7 p8 p9 p10 p11 p12 p13 p14 p15:Prop):Prop where
 | mk (h0:p0) (h1:p1) (h2:p2) (h3:p3) (h4:p4) (h5:p5) (h6:p6) (h7:p7) (h8:p8) (h9:p9) (h10:p10) (h11:p11) (h12:p12) (h13:p13) (h14:p14) (h15:p15):au p0 p1 p2 p3 p4 p5 p6 p7 p8 p9 p10 p11 p12 p13 p14 p15
inductive Yh {T0 T1:Type} (p:T0 -> T1 -> Prop):Prop where
 | mk (x0:T0) (x1:T1) (h:p x0 x1):Yh p
inductive Vd {T0 T1 T2:Type} (p:T0 -> T1 -> T2 -> Prop):Prop where
 | mk (x0:T0) (x1:T1) (x2:T2) (h:p x0 x1 x2):Vd p
inductive Ud {T0 T1 T2 T3:Type} (p:T0 -> T1 -> T2 -> T3 -> Prop):Prop where
 | mk (x0:T0) (x1:T1) (x2:T2) (x3:T3) (h:p x0 x1 x2 x3):Ud p
inductive gm {T0 T1 T2 T3 T4:Type} (p:T0 -> T1 -> T2 -> T3 -> T4 -> Prop):Prop where
 | mk (x0:T0) (x1:T1) (x2:T2) (x3:T3) (x4:T4) (h:p x0 x1 x2 x3 x4):gm p
inductive iz {T0 T1 T2 T3 T4 T5:Type} (p:T0 -> T1 -> T2 -> T3 -> T4 -> T5 -> Prop):Prop where
 | mk (x0:T0) (x1:T1) (x2:T2) (x3:T3) (x4:T4) (x5:T5) (h:p x0 x1 x2 x3 x4 x5):iz p
inductive kr {T0 T1 T2 T3 T4 T5 T6:Type} (p:T0 -> T1 -> T2 -> T3 -> T4 -> T5 -> T6 -> Prop):Prop where
 | mk (x0:T0) (x1:T1) (x2:T2) (x3:T3) (x4:T4) (x5:T5) (x6:T6) (h:p x0 x1 x2 x3 x4 x5 x6):kr p
inductive bd {T0 T1 T2 T3 T4 T5 T6 T7:Type} (p:T0 -> T1 -> T2 -> T3 -> T4 -> T5 -> T6 -> T7 -> Prop):Prop where
 | mk (x0:T0) (x1:T1) (x2:T2) (x3:T3) (x4:T4) (x5:T5) (x6:T6) (x7:T7) (h:p x0 x1 x2 x3 x4 x5 x6 x7):bd p
inductive mq {T0 T1 T2 T3 T4 T5 T6 T7 T8:Type} (p:T0 -> T1 -> T2 -> T3 -> T4 -> T5 -> T6 -> T7 -> T8 -> Prop):Prop where
 | mk (x0:T0) (x1:T1) (x2:T2) (x3:T3) (x4:T4) (x5:T5) (x6:T6) (x7:T7) (x8:T8) (h:p x0 x1 x2 x3 x4 x5 x6 x7 x8):mq p
inductive Zp {T0 T1 T2 T3 T4 T5 T6 T7 T8 T9:Type} (p:T0 -> T1 -> T2 -> T3 -> T4 -> T5 -> T6 -> T7 -> T8 -> T9 -> Prop):Prop where
 | mk (x0:T0) (x1:T1) (x2:T2) (x3:T3) (x4:T4) (x5:T5) (x6:T6) (x7:T7) (x8:T8) (x9:T9) (h:p x0 x1 x2 x3 x4 x5 x6 x7 x8 x9):Zp p
inductive i5 {T0 T1 T2 T3 T4 T5 T6 T7 T8 T9 T10:Type} (p:T0 -> T1 -> T2 -> T3 -> T4 -> T5 -> T6 -> T7 -> T8 -> T9 -> T10 -> Prop):Prop where
 | mk (x0:T0) (x1:T1) (x2:T2) (x3:T3) (x4:T4) (x5:T5) (x6:T6) (x7:T7) (x8:T8) (x9:T9) (x10:T10) (h:p x0 x1 x2 x3 x4 x5 x6 x7 x8 x9 x10):i5 p
noncomputable def Bm (H:Hp) (a:Addr) (ws:List Int) (calm:Option Int):Prop := ∃ t,H a = some (.tup [.ref t,vO calm]) /\ H t = some (.tup (ws.map V.int))
noncomputable def Db (H:Hp) (b:Addr) (ls:List Int) (q:Int):Prop := ∃ u,H b = some (.tup [.ref u,.int q]) /\ H u = some (.tup (ls.map V.int))
theorem Bm.same {H H':Hp} {a:Addr} {ws:List Int} {calm:Option Int} (s:A9 H H') (h:Bm H a ws calm):Bm H' a ws calm:=by
 obtain ⟨t,h1,h2⟩ := h
 exact ⟨t,s _ _ h1,s _ _ h2⟩
theorem Db.same {H H':Hp} {a:Addr} {ls:List Int} {q:Int} (s:A9 H H') (h:Db H a ls q):Db H' a ls q:=by
 obtain ⟨t,h1,h2⟩ := h
 exact ⟨t,s _ _ h1,s _ _ h2⟩
theorem dh (c:Option Int):decide (vO c = V.non) = decide (c = none):=by cases c <;> simp [vO]
noncomputable def Bj (ws ls:List Int) (who:Nat) (lost:Bool):List Int:=if lost = true then ls.map (fun x=>x - 1) else (ls.map (fun x=>x - 1)).set who (ws.getD who 0)
noncomputable def Dd (calm:Option Int) (q:Int) (lost:Bool):Int:=if lost = true then calm.getD 0 else max (q - 1) 0
noncomputable def S9 (calm:Option Int) (q:Int) (lost:Bool):Prop:=lost = true -> calm ≠ none /\ q = 0
theorem Hm (ws ls:List Int) (who:Nat) (lost:Bool):(Bj ws ls who lost).length = ls.length:=by
 unfold Bj
 split <;> simp
theorem Q5 (x:Int):∀ ns:List Int,l5 (.int x) (ns.map V.int) = decide (x ∈ ns)
 | []=>rfl
 | n :: ns=>by
  show (Za (V.int n) (V.int x) || l5 (.int x) (ns.map V.int)) = _
  rw [Q5 x ns]
  show ((n == x) || decide (x ∈ ns)) = _
  by_cases h:n = x
  ·simp [h]
  ·have h':¬ x = n:=fun e=>h e.symm
   simp [h,h']
theorem Nx:∀ ns:List Int,(ns.map V.int).all Ft = true
 | []=>rfl
 | n :: ns=>by
  show (Ft (V.int n) && (ns.map V.int).all Ft) = true
  rw [Nx ns]
  rfl
theorem Tt {ws:List Int} {k:Nat} (h:k < ws.length):Pe (ws.map V.int) (k:Int) = some (.int (ws.getD k 0)):=by
 refine P3 ?_
 rw [List.getElem?_map,List.getElem?_eq_getElem h,List.getD_eq_getElem?_getD,List.getElem?_eq_getElem h]
 rfl
theorem Tn {n k:Nat} (h:k < n):Vw n (k:Int) = some k:=by
 unfold Vw
 rw [if_pos (by omega),if_pos (by omega)]
 simp
theorem Zm {a:Int} {n:Nat} (h:a.natAbs < 2 ^ n):intBits a <= n:=intBits_le h
theorem Bh (x:Int) {m:Int} (h:0 < m):0 <= x % m /\ x % m < m:=⟨Int.emod_nonneg x (by omega),Int.emod_lt_of_pos x h⟩
theorem K8 {xs:List V} {c:Int} (h0:0 <= c) (h:c <= xs.length):Vb xs none (some c) = xs.take c.toNat:=by
 obtain ⟨n,rfl⟩ : ∃ n:Nat,c = n:=⟨c.toNat,by omega⟩
 unfold Vb
 rw [HT.sIx_none,HT.sIx_nat]
 have e:min n xs.length = n:=by omega
 rw [e]
 simp
theorem Ve {a b:Int} {m n:Nat} (ha:intBits a <= m) (hb:intBits b <= n):intBits (a * b) <= m + n:=by
 apply intBits_le
 rw [Int.natAbs_mul,Nat.pow_add]
 have h1:=Nat.lt_of_lt_of_le (natAbs_lt_pow_bits a) (Nat.pow_le_pow_right (by decide) ha)
 have h2:=Nat.lt_of_lt_of_le (natAbs_lt_pow_bits b) (Nat.pow_le_pow_right (by decide) hb)
 exact Nat.mul_lt_mul'' h1 h2
theorem Fb {n:Nat} (h:n <= 10000):n < sizeLine:=Nat.lt_of_le_of_lt h (by decide)
noncomputable def Af (H H':Hp):Prop := ∀ b xs,H b = some (.tup xs) -> H' b = some (.tup xs)
theorem Af.of {H H':Hp} (s:A9 H H'):Af H H':=fun b xs e=>s b _ e
theorem Af.trans {H H1 H2:Hp} (a:Af H H1) (b:Af H1 H2):Af H H2:=fun c xs e=>b c xs (a c xs e)
theorem Af.lst {H:Hp} {D:Addr} {zs:List V} {o:HO} (h:H D = some (.lst zs)):Af H (upd H D o):=fun b xs e=>by
 rw [Ac (Bl e h (by intro z; cases z))]
 exact e
noncomputable def El (H:Hp) (r:List Int) (v:V):Prop := ∃ p,v = .ref p /\ H p = some (.tup (r.map V.int))
noncomputable def Dr (H:Hp) (z:List Int × Int) (v:V):Prop := ∃ p u,v = .ref p /\ H p = some (.tup [.ref u,.int z.2]) /\ H u = some (.tup (z.1.map V.int))
theorem El.up {H H':Hp} {r:List Int} {v:V} (t:Af H H') (h:El H r v):El H' r v:=by
 obtain ⟨p,e,h1⟩ := h
 exact ⟨p,e,t _ _ h1⟩
theorem Dr.up {H H':Hp} {z:List Int × Int} {v:V} (t:Af H H') (h:Dr H z v):Dr H' z v:=by
 obtain ⟨p,u,e,h1,h2⟩ := h
 exact ⟨p,u,e,t _ _ h1,t _ _ h2⟩
noncomputable def Ad {α:Type} (P:α -> V -> Prop) (rs:List α) (vs:List V):Prop:=vs.length = rs.length /\ ∀ (i:Nat) (r:α) (v:V),rs[i]? = some r -> vs[i]? = some v -> P r v
theorem Ad.nil {α:Type} {P:α -> V -> Prop}:Ad P [] []:=⟨rfl,fun i r v e=>by cases e⟩
theorem Ad.imp {α:Type} {P P':α -> V -> Prop} {rs:List α} {vs:List V} (f:∀ r v,P r v -> P' r v) (h:Ad P rs vs):Ad P' rs vs:=⟨h.1,fun i r v e1 e2=>f _ _ (h.2 i r v e1 e2)⟩
theorem Ad.append {α:Type} {P:α -> V -> Prop} {rs ss:List α} {vs us:List V} (h:Ad P rs vs) (g:Ad P ss us):Ad P (rs ++ ss) (vs ++ us):=by
 refine ⟨by rw [List.length_append,List.length_append,h.1,g.1],fun i r v e1 e2=>?_⟩
 rcases Nat.lt_or_ge i rs.length with z | z
 ·rw [List.getElem?_append_left z] at e1
  rw [List.getElem?_append_left (by rw [h.1]; exact z)] at e2
  exact h.2 i r v e1 e2
 ·rw [List.getElem?_append_right z] at e1
  rw [List.getElem?_append_right (by rw [h.1]; exact z),h.1] at e2
  exact g.2 _ r v e1 e2
theorem Ad.one {α:Type} {P:α -> V -> Prop} {r:α} {v:V} (h:P r v):Ad P [r] [v]:=by
 refine ⟨rfl,fun i r' v' e1 e2=>?_⟩
 cases i with
 | zero=>cases e1; cases e2; exact h
 | succ i=>cases e1
theorem Ad.get {α:Type} {P:α -> V -> Prop} {rs:List α} {vs:List V} (h:Ad P rs vs) {i:Nat} {v:V} (e:vs[i]? = some v):∃ r,rs[i]? = some r /\ P r v:=by
 have hi:=(List.getElem?_eq_some_iff.mp e).1
 have hi2:i < rs.length:=by
  rw [<- h.1]
  exact hi
 have h2:rs[i]? = some rs[i]:=List.getElem?_eq_getElem hi2
 exact ⟨_,h2,h.2 i _ v h2 e⟩
noncomputable def qv:Option Int -> Int
 | none=>1
 | some c=>c + 1
noncomputable def Ak (q:Int) (ws:List Int):Int:=ws.foldl (· * ·) q
noncomputable def Pd (r:List Int) (w:Int):List (List Int):=(List.range w.toNat).map fun t=>r ++ [1 + ((t:Nat):Int)]
noncomputable def C0 (rows:List (List Int)) (w:Int):List (List Int):=rows.flatMap fun r=>Pd r w
noncomputable def C8 (ws:List Int):List (List Int):=ws.foldl C0 [[]]
noncomputable def F0 (r:List Int) (q:Int):List (List Int × Int):=(List.range q.toNat).map fun k=>(r,0 + ((k:Nat):Int))
noncomputable def Ar (ws:List Int) (q:Int):List (List Int × Int):=(C8 ws).flatMap fun r=>F0 r q
theorem Ew {α β:Type} (f:β -> α -> β) (b:β) (xs:List α) {i:Nat} {x:α} (h:xs[i]? = some x):(xs.take (i + 1)).foldl f b = f ((xs.take i).foldl f b) x:=by
 rw [List.take_add_one,h,List.foldl_append]
 rfl
theorem O2 {α β:Type} (f:α -> List β) (xs:List α) {i:Nat} {x:α} (h:xs[i]? = some x):(xs.take (i + 1)).flatMap f = (xs.take i).flatMap f ++ f x:=by
 rw [List.take_add_one,h,List.flatMap_append]
 simp
theorem N1 {q:Int} (hq:intBits q <= 256):∀ {ws:List Int},(∀ w ∈ ws,intBits w <= 256) -> ∀ i,i <= ws.length -> intBits (Ak q (ws.take i)) <= 256 * (i + 1)
 | ws,h,0,_=>by simpa [Ak] using hq
 | ws,h,i + 1,hi=>by
  have hx:ws[i]? = some ws[i]:=List.getElem?_eq_getElem (by omega)
  have ih:=N1 hq h i (by omega)
  unfold Ak at ih ⊢
  rw [Ew _ _ _ hx]
  exact Nat.le_trans (Ve ih (h _ (List.getElem_mem _))) (by omega)
theorem Ip (q:Int):∀ (ws:List Int) (a:Int),Ak (q * a) ws = q * Ak a ws
 | [],a=>rfl
 | w :: ws,a=>by
  show Ak (q * a * w) ws = q * Ak (a * w) ws
  rw [Int.mul_assoc,Ip q ws (a * w)]
theorem Kd {α β:Type} {f:α -> List β} {n:Nat}:∀ {xs:List α},(∀ x ∈ xs,(f x).length = n) -> (xs.flatMap f).length = xs.length * n
 | [],_=>by simp
 | x :: xs,h=>by
  rw [List.flatMap_cons,List.length_append,h x (List.mem_cons_self ..),Kd fun y hy=>h y (List.mem_cons_of_mem _ hy),List.length_cons,Nat.succ_mul]
  omega
theorem Po (r:List Int) (w:Int):(Pd r w).length = w.toNat:=by simp [Pd]
theorem Nu (r:List Int) (q:Int):(F0 r q).length = q.toNat:=by simp [F0]
theorem Kg (rows:List (List Int)) (w:Int):(C0 rows w).length = rows.length * w.toNat:=Kd fun r _=>Po r w
theorem Kx:∀ (ws:List Int) (rows:List (List Int)),(∀ w ∈ ws,1 <= w) -> ((ws.foldl C0 rows).length:Int) = Ak (rows.length:Int) ws
 | [],rows,_=>rfl
 | w :: ws,rows,h=>by
  have hw:=h w (List.mem_cons_self ..)
  show ((ws.foldl C0 (C0 rows w)).length:Int) = Ak ((rows.length:Int) * w) ws
  rw [Kx ws _ (fun x hx=>h x (List.mem_cons_of_mem _ hx)),Kg]
  congr 1
  rw [Int.natCast_mul]
  congr 1
  omega
theorem E5:∀ (ws:List Int) (a:Int),0 <= a -> (∀ w ∈ ws,1 <= w) -> a <= Ak a ws
 | [],a,_,_=>Int.le_refl _
 | w :: ws,a,ha,h=>by
  have hw:=h w (List.mem_cons_self ..)
  have h1:a <= a * w:=by
   have:=Int.mul_le_mul_of_nonneg_left hw ha
   rw [Int.mul_one] at this
   exact this
  exact Int.le_trans h1 (E5 ws (a * w) (Int.le_trans ha h1) fun x hx=>h x (List.mem_cons_of_mem _ hx))
theorem Vn {ws:List Int} {a:Int} (ha:0 <= a) (h:∀ w ∈ ws,1 <= w) (i:Nat):Ak a (ws.take i) <= Ak a ws:=by
 have e:Ak a ws = Ak (Ak a (ws.take i)) (ws.drop i):=by
  unfold Ak
  rw [<- List.foldl_append,List.take_append_drop]
 rw [e]
 refine E5 _ _ (Int.le_trans ha (E5 _ _ ha fun w hw=>h w (List.mem_of_mem_take hw))) fun w hw=>h w (List.mem_of_mem_drop hw)
theorem O9 {r x:List Int} {w:Int} (h:x ∈ Pd r w):∃ t:Nat,t < w.toNat /\ x = r ++ [1 + (t:Int)]:=by
 unfold Pd at h
 obtain ⟨t,h1,rfl⟩ := List.mem_map.mp h
 exact ⟨t,List.mem_range.mp h1,rfl⟩
theorem Il (ws:List Int):∀ i,i <= ws.length -> ∀ r ∈ C8 (ws.take i),r.length = i /\ ∀ (k:Nat) (x w:Int),r[k]? = some x -> ws[k]? = some w -> 1 <= x /\ x <= w
 | 0,_,r,h=>by
  have e:r = []:=List.mem_singleton.mp h
  subst e
  exact ⟨rfl,fun k x w e=>by cases e⟩
 | i + 1,hi,r,h=>by
  have hw:ws[i]? = some ws[i]:=List.getElem?_eq_getElem (by omega)
  have e:C8 (ws.take (i + 1)) = C0 (C8 (ws.take i)) ws[i]:=Ew _ _ _ hw
  rw [e] at h
  obtain ⟨r',h1,h2⟩ := List.mem_flatMap.mp h
  obtain ⟨t,h3,rfl⟩ := O9 h2
  obtain ⟨h4,h5⟩ := Il ws i (by omega) r' h1
  refine ⟨by simp [h4],fun k x w e1 e2=>?_⟩
  rcases Nat.lt_or_ge k r'.length with z | z
  ·rw [List.getElem?_append_left z] at e1
   exact h5 k x w e1 e2
  ·have hk : k = i := by
    have:=(List.getElem?_eq_some_iff.mp e1).1
    rw [List.length_append,List.length_singleton] at this
    omega
   subst hk
   rw [List.getElem?_append_right z,h4,Nat.sub_self] at e1
   cases e1
   rw [hw] at e2
   cases e2
   omega
noncomputable def Vh (r s:List Int):Prop:=ltvAll (r.map PyData.int) (s.map PyData.int) = true
theorem K3 (a b:Int):PyData.eqv (.int a) (.int b) = decide (a = b):=by
 show (a == b) = _
 by_cases h:a = b <;> simp [h]
theorem Ot:∀ r:List Int,¬ Vh r r
 | []=>by unfold Vh; simp [ltvAll]
 | x :: r=>fun h=>by
  have ih:=Ot r
  unfold Vh at h ih
  rw [List.map_cons,ltvAll,K3,if_pos (by simp)] at h
  exact ih h
theorem Py:∀ {r s:List Int} {x y:Int},r.length = s.length -> Vh r s -> Vh (r ++ [x]) (s ++ [y])
 | [],[],x,y,_,h=>absurd h (Ot [])
 | [],_ :: _,_,_,hl,_=>by simp at hl
 | _ :: _,[],_,_,hl,_=>by simp at hl
 | a :: r,b :: s,x,y,hl,h=>by
  unfold Vh at h ⊢
  rw [List.cons_append,List.cons_append,List.map_cons,List.map_cons,ltvAll] at *
  by_cases e:PyData.eqv (.int a) (.int b) = true
  ·rw [if_pos e] at h ⊢
   exact Py (r:=r) (s:=s) (by simpa using hl) h
  ·rw [if_neg e] at h ⊢
   exact h
theorem Pz:∀ {r:List Int} {x y:Int},x < y -> Vh (r ++ [x]) (r ++ [y])
 | [],x,y,h=>by
  unfold Vh
  show ltvAll [PyData.int x] [PyData.int y] = true
  rw [ltvAll,K3,if_neg (by simp; omega),Io]
  exact decide_eq_true h
 | a :: r,x,y,h=>by
  unfold Vh
  rw [List.cons_append,List.cons_append,List.map_cons,List.map_cons,ltvAll,K3,if_pos (by simp)]
  exact Pz (r:=r) h
theorem Rc (r:List Int) (w:Int):(Pd r w).Pairwise Vh:=by
 unfold Pd
 rw [List.pairwise_map]
 exact List.pairwise_lt_range.imp fun h=>Pz (by omega)
theorem Jm (ws:List Int):∀ i,i <= ws.length -> (C8 (ws.take i)).Pairwise Vh
 | 0,_=>by
  show ([[]]:List (List Int)).Pairwise Vh
  exact List.pairwise_singleton _ _
 | i + 1,hi=>by
  have hw:ws[i]? = some ws[i]:=List.getElem?_eq_getElem (by omega)
  have e:C8 (ws.take (i + 1)) = C0 (C8 (ws.take i)) ws[i]:=Ew _ _ _ hw
  rw [e]
  unfold C0
  rw [List.pairwise_flatMap]
  refine ⟨fun r _=>Rc r _,?_⟩
  refine (Jm ws i (by omega)).imp_of_mem fun {a b} ha hb h x hx y hy=>?_
  obtain ⟨t,_,rfl⟩ := O9 hx
  obtain ⟨u,_,rfl⟩ := O9 hy
  have h1:=(Il ws i (by omega) a ha).1
  have h2:=(Il ws i (by omega) b hb).1
  exact Py (by omega) h
noncomputable def dS (z:List Int × Int):PyData:=dP (dT z.1) (.int z.2)
theorem Wu {a b:List Int × Int} (h:Vh a.1 b.1 \/ (a.1 = b.1 /\ a.2 < b.2)):Io (dS a) (dS b) = true:=by
 show ltvAll [dT a.1,.int a.2] [dT b.1,.int b.2] = true
 rw [ltvAll,Xu]
 rcases h with h | ⟨h1,h2⟩
 ·have hne : ¬ a.1 = b.1 := fun e => by
   rw [e] at h
   exact Ot _ h
  rw [if_neg (by simpa using hne)]
  exact h
 ·rw [if_pos (by simpa using h1),ltvAll,K3,if_neg (by simp; omega),Io]
  exact decide_eq_true h2
theorem P4 {r:List Int} {q:Int} {z:List Int × Int} (h:z ∈ F0 r q):z.1 = r /\ 0 <= z.2 /\ z.2 < q:=by
 unfold F0 at h
 obtain ⟨k,h1,rfl⟩ := List.mem_map.mp h
 have:=List.mem_range.mp h1
 exact ⟨rfl,by show 0 <= 0 + (k:Int); omega,by show 0 + (k:Int) < q; omega⟩
theorem Di (ws:List Int) (q:Int):(Ar ws q).Pairwise fun a b=>Io (dS a) (dS b) = true:=by
 unfold Ar
 rw [List.pairwise_flatMap]
 refine ⟨fun r _=>?_,?_⟩
 ·unfold F0
  rw [List.pairwise_map]
  exact List.pairwise_lt_range.imp fun {a b} h=>Wu (a:=(r,0 + ((a:Nat):Int))) (b:=(r,0 + ((b:Nat):Int))) (.inr ⟨rfl,by show 0 + ((a:Nat):Int) < 0 + ((b:Nat):Int); omega⟩)
 ·have h:=Jm ws ws.length (Nat.le_refl _)
  rw [List.take_length] at h
  refine h.imp fun {a b} h x hx y hy=>?_
  exact Wu (.inl (by rw [(P4 hx).1,(P4 hy).1]; exact h))
theorem Gp {ws:List Int} {q:Int} (h:∀ w ∈ ws,1 <= w) (hq:0 <= q):((Ar ws q).length:Int) = Ak q ws:=by
 unfold Ar
 rw [Kd fun r _=>Nu r q,Int.natCast_mul]
 have e:((C8 ws).length:Int) = Ak 1 ws:=Kx ws [[]] h
 rw [e,Int.toNat_of_nonneg hq,Int.mul_comm,<- Ip,Int.mul_one]
theorem Ni {ws:List Int} {q:Int} {z:List Int × Int} (h:z ∈ Ar ws q):z.1.length = ws.length /\ (∀ (k:Nat) (x w:Int),z.1[k]? = some x -> ws[k]? = some w -> 1 <= x /\ x <= w) /\ 0 <= z.2 /\ z.2 < q:=by
 obtain ⟨r,h1,h2⟩ := List.mem_flatMap.mp h
 obtain ⟨h3,h4,h5⟩ := P4 h2
 have h6:=Il ws ws.length (Nat.le_refl _) r (by rw [List.take_length]; exact h1)
 rw [h3]
 exact ⟨h6.1,h6.2,h4,h5⟩
theorem N8 {ws:List Int} (h:∀ w ∈ ws,1 <= w) (hp:Ak 1 ws <= 3000) (i:Nat):(C8 (ws.take i)).length <= 3000:=by
 have e:=Kx (ws.take i) [[]] fun w hw=>h w (List.mem_of_mem_take hw)
 have e2:=Vn (ws:=ws) (a:=1) (by decide) h i
 have e3:Ak (([[]]:List (List Int)).length:Int) (ws.take i) = Ak 1 (ws.take i):=rfl
 unfold C8
 omega
theorem L5 (z:List Int × Int):(dS z).depth = 2:=by
 unfold dS
 rw [R6,X7]
 rfl
theorem Jk:∀ zs:List (List Int × Int),PyData.depthAll (zs.map dS) <= 2
 | []=>by decide
 | z :: zs=>by
  have ih:=Jk zs
  show max (dS z).depth (PyData.depthAll (zs.map dS)) <= 2
  rw [L5]
  omega
theorem Wg (zs:List (List Int × Int)):(PyData.list (zs.map dS)).depth <= 60:=by
 have:=Jk zs
 show PyData.depthAll (zs.map dS) + 1 <= 60
 omega
theorem W1 (q:Int) (ws:List Int) (w:Int):Ak q (ws ++ [w]) = Ak q ws * w:=by
 unfold Ak
 rw [List.foldl_append]
 rfl
noncomputable def gl (H:Hp) (v:V):Option (List Int × Int) -> Prop
 | none=>v = .non
 | some r=>∃ b,v = .ref b /\ Db H b r.1 r.2
noncomputable def d9:Option (List Int × Int) -> PyData
 | none=>.none
 | some r=>dP (dT r.1) (.int r.2)
theorem fo {H:Hp} {v:V} {r:Option (List Int × Int)} (h:gl H v r):Rp H (d9 r) v:=by
 cases r with
 | none =>
  cases h
  exact Xi
 | some r =>
  obtain ⟨b,rfl,t,h1,h2⟩ := h
  exact Xt h1 (ar h2) (Jf _)
theorem Ad.tail {α:Type} {P:α -> V -> Prop} {r:α} {v:V} {rs:List α} {vs:List V} (h:Ad P (r :: rs) (v :: vs)):P r v /\ Ad P rs vs:=⟨h.2 0 r v rfl rfl,by have:=h.1; simpa using this,fun i a b e1 e2=>h.2 (i + 1) a b e1 e2⟩
theorem Lu {α:Type} {P:α -> Prop} {xs:List α} {x:α} (h:∀ y ∈ xs,P y) (hx:P x):∀ y ∈ xs ++ [x],P y:=fun y hy=>by
 rcases List.mem_append.mp hy with z | z
 ·exact h y z
 ·cases List.mem_singleton.mp z
  exact hx
theorem Db.up {H H':Hp} {b:Addr} {ls:List Int} {q:Int} (t:Af H H') (h:Db H b ls q):Db H' b ls q:=by
 obtain ⟨u,h1,h2⟩ := h
 exact ⟨u,t _ _ h1,t _ _ h2⟩
theorem gl.up {H H':Hp} {v:V} {r:Option (List Int × Int)} (s:Af H H') (h:gl H v r):gl H' v r:=by
 cases r with
 | none=>exact h
 | some r =>
  obtain ⟨b,e,h⟩ := h
  exact ⟨b,e,h.up s⟩
noncomputable def Cq (ws ls:List Int) (cm:Option Int) (q:Int) (who:Nat) (lost:Bool):Option (List Int × Int):=if (0:Int) ∈ Bj ws ls who lost then none else some (Bj ws ls who lost,Dd cm q lost)
noncomputable def E9 (cm:Option Int) (q:Int):Bool := !decide (cm = none) && decide (q = 0)
noncomputable def Ay (ws ls:List Int) (cm:Option Int) (q:Int) (who:Nat):List (Option (List Int × Int)):=Cq ws ls cm q who false :: if E9 cm q = true then [Cq ws ls cm q who true] else []
noncomputable def D2 (H:Hp) (r:Option (List Int × Int)) (v:V):Prop:=gl H v r
theorem D2.up {H H':Hp} {v:V} {r:Option (List Int × Int)} (s:Af H H') (h:D2 H r v):D2 H' r v:=gl.up s h
theorem Ad.cons {α:Type} {P:α -> V -> Prop} {r:α} {v:V} {rs:List α} {vs:List V} (h:P r v) (g:Ad P rs vs):Ad P (r :: rs) (v :: vs):=(Ad.one h).append g
theorem Ny {H:Hp}:∀ {rs:List (Option (List Int × Int))} {us:List V},Ad (D2 H) rs us -> RpAll H (rs.map d9) us
 | [],[],_=>by unfold RpAll; rfl
 | [],_ :: _,h=>by have:=h.1; simp at this
 | _ :: _,[],h=>by have:=h.1; simp at this
 | r :: rs,u :: us,h=>by
  obtain ⟨h1,h2⟩ := h.tail
  show RpAll H (d9 r :: rs.map d9) (u :: us)
  unfold RpAll
  exact ⟨_,_,rfl,fo h1,Ny h2⟩
theorem Zl (r:Option (List Int × Int)):PyData.eqv (d9 r) .none = decide (r = none):=by cases r <;> rfl
theorem Oj:∀ rs:List (Option (List Int × Int)),(rs.map d9).any (fun e=>PyData.eqv e .none) = decide (none ∈ rs)
 | []=>rfl
 | r :: rs=>by
  rw [List.map_cons,List.any_cons,Oj rs,Zl,Bool.eq_iff_iff]
  simp only [Bool.or_eq_true,decide_eq_true_eq,List.mem_cons]
  exact ⟨fun z=>z.imp Eq.symm id,fun z=>z.imp Eq.symm id⟩
noncomputable def SV (H:Hp) (v:V):Prop := ∃ b k,v = .ref b /\ E2 H b k
noncomputable def Tj (H:Hp) (cs:List (E4 × V)):Prop := ∀ e ∈ cs,(∃ i:Int,e.1 = .inl i) /\ ∃ (l:Addr) (us:List V),e.2 = .ref l /\ H l = some (.lst us) /\ us.length <= 2 /\ ∀ u ∈ us,SV H u
noncomputable def jo (H:Hp) (v:V):Prop := ∃ (c:Addr) (cs:List (E4 × V)),v = .ref c /\ H c = some (.dK cs) /\ cs.length <= 8 /\ Tj H cs
noncomputable def LT (H H':Hp):Prop:=(∀ b xs,H b = some (.lst xs) -> H' b = some (.lst xs)) /\ Af H H'
theorem LT.of {H H':Hp} (s:A9 H H'):LT H H':=⟨fun b xs e=>s b _ e,Af.of s⟩
theorem LT.dT {H:Hp} {D:Addr} {kvs:List ((List Int × Int) × V)} {o:HO} (h:H D = some (.dT kvs)):LT H (upd H D o) :=
 ⟨fun b xs e=>by rw [Ac (Bl e h (by intro z; cases z))]; exact e,fun b xs e=>by rw [Ac (Bl e h (by intro z; cases z))]; exact e⟩
theorem LT.dK {H:Hp} {D:Addr} {kvs:List (E4 × V)} {o:HO} (h:H D = some (.dK kvs)):LT H (upd H D o) :=
 ⟨fun b xs e=>by rw [Ac (Bl e h (by intro z; cases z))]; exact e,fun b xs e=>by rw [Ac (Bl e h (by intro z; cases z))]; exact e⟩
theorem LT.trans {H H1 H2:Hp} (a:LT H H1) (b:LT H1 H2):LT H H2:=⟨fun c xs e=>b.1 c xs (a.1 c xs e),a.2.trans b.2⟩
noncomputable def Hf (H:Hp) (kvs:List ((List Int × Int) × V)):Prop := ∀ kv ∈ kvs,jo H kv.2
theorem Pj {κ:Type} [DecidableEq κ] {P:V -> Prop} {kvs:List (κ × V)} {k:κ} {v:V} (h:∀ kv ∈ kvs,P kv.2) (hv:P v):∀ kv ∈ Bb kvs k v,P kv.2:=fun kv hkv=>by
 unfold Bb at hkv
 split at hkv
 ·obtain ⟨x,hx,rfl⟩ := List.mem_map.mp hkv
  split
  ·exact hv
  ·exact h x hx
 ·rcases List.mem_append.mp hkv with z | z
  ·exact h kv z
  ·cases List.mem_singleton.mp z
   exact hv
theorem Bq {n:Nat} (h:n <= 200000):n < sizeLine:=Nat.lt_of_le_of_lt h (by decide)
theorem Bf {κ:Type} [DecidableEq κ] {kvs:List (κ × V)} {k:κ} {v:V} (h:Ae kvs k = some v):(k,v) ∈ kvs:=by
 unfold Ae at h
 obtain ⟨p,hp,rfl⟩ := Option.map_eq_some_iff.mp h
 have h1:=List.find?_some hp
 have h2:=List.mem_of_find?_eq_some hp
 have h3:p.1 = k:=by simpa using h1
 rw [<- h3]
 exact h2
theorem Jh {κ:Type} [DecidableEq κ] {kvs:List (κ × V)} {k:κ} {v:V} (h:(k,v) ∈ kvs):∃ w,Ae kvs k = some w:=by
 cases e:Ae kvs k with
 | some w=>exact ⟨w,rfl⟩
 | none=>exact absurd (List.mem_map_of_mem (f:=(·.1)) h) (L8 e)
noncomputable def Ed (kvs:List ((List Int × Int) × V)) (H H':Hp):Prop := ∀ b o,H b = some o -> (∀ kv ∈ kvs,kv.2 ≠ .ref b) -> H' b = some o
theorem Ed.of {kvs:List ((List Int × Int) × V)} {H H':Hp} (s:A9 H H'):Ed kvs H H':=fun b o e _=>s b o e
theorem Ed.trans {kvs:List ((List Int × Int) × V)} {H H1 H2:Hp} (a:Ed kvs H H1) (b:Ed kvs H1 H2):Ed kvs H H2:=fun c o e n=>b c o (a c o e n) n
theorem Ed.new {kvs:List ((List Int × Int) × V)} {H H':Hp} {p:Addr} {o:HO} (a:Ed kvs H H') (h:H p = none):Ed kvs H (upd H' p o):=fun b u e n=>by
 rw [Ac (Ah e h)]
 exact a b u e n
theorem Ed.keep {kvs:List ((List Int × Int) × V)} {H H':Hp} {b:Addr} {o:HO} (a:Ed kvs H H') (p:Hf H kvs) (e:H b = some o) (n:∀ cs,o ≠ .dK cs):H' b = some o:=a b o e fun kv hkv z=>by
 obtain ⟨c,cs,e1,e2,_⟩ := p kv hkv
 rw [z] at e1
 cases e1
 rw [e] at e2
 exact n cs (Option.some.inj e2)
theorem Ed.lt {kvs:List ((List Int × Int) × V)} {H H':Hp} (a:Ed kvs H H') (p:Hf H kvs):LT H H':=⟨fun b xs e=>a.keep p e (fun cs z=>nomatch z),fun b xs e=>a.keep p e (fun cs z=>nomatch z)⟩
theorem Ed.pop {kvs:List ((List Int × Int) × V)} {H:Hp} {c:Addr} {o:HO} {kv:(List Int × Int) × V} (h:kv ∈ kvs) (e:kv.2 = .ref c):Ed kvs H (upd H c o):=fun b u eb n=>by
 rw [Ac (fun z=>n kv h (by rw [e,z]))]
 exact eb
noncomputable def ao (H:Hp):V -> Nat
 | .ref c=>match H c with
  | some (.dK cs)=>cs.length
  | _=>0
 | _=>0
noncomputable def Cd (H:Hp) (kvs:List ((List Int × Int) × V)):Nat:=(kvs.map fun kv=>ao H kv.2).sum
theorem Ki {H:Hp} {c:Addr} {cs:List (E4 × V)} (h:H c = some (.dK cs)):ao H (.ref c) = cs.length:=by
 unfold ao
 simp only [h]
theorem Ec {H H':Hp}:∀ {kvs:List ((List Int × Int) × V)},Hf H kvs -> (∀ c cs,H c = some (.dK cs) -> H' c = some (.dK cs)) -> Cd H' kvs = Cd H kvs
 | [],_,_=>rfl
 | kv :: kvs,p,k=>by
  obtain ⟨c,cs,e,h1,_⟩ := p kv (by simp)
  have ih:=Ec (kvs:=kvs) (fun x hx=>p x (List.mem_cons_of_mem _ hx)) k
  unfold Cd at ih ⊢
  rw [List.map_cons,List.map_cons,List.sum_cons,List.sum_cons,ih,e,Ki h1,Ki (k c cs h1)]
theorem Kf {H:Hp}:∀ {kvs:List ((List Int × Int) × V)},Hf H kvs -> Cd H kvs <= 8 * kvs.length
 | [],_=>Nat.zero_le _
 | kv :: kvs,p=>by
  obtain ⟨c,cs,e,h1,h2,_⟩ := p kv (by simp)
  have ih:=Kf (kvs:=kvs) (fun x hx=>p x (List.mem_cons_of_mem _ hx))
  unfold Cd at ih ⊢
  rw [List.map_cons,List.sum_cons,e,Ki h1,List.length_cons]
  omega
theorem Mv {H:Hp} {c:Addr} {cs cs':List (E4 × V)} (hc:H c = some (.dK cs)) (hlt:cs'.length < cs.length):∀ {kvs:List ((List Int × Int) × V)},Cd (upd H c (.dK cs')) kvs <= Cd H kvs /\ ((∃ kv ∈ kvs,kv.2 = .ref c) -> Cd (upd H c (.dK cs')) kvs + 1 <= Cd H kvs)
 | []=>⟨Nat.le_refl _,fun ⟨kv,h,_⟩=>by cases h⟩
 | kv :: kvs=>by
  obtain ⟨i1,i2⟩ := Mv hc hlt (kvs:=kvs)
  have one:ao (upd H c (.dK cs')) kv.2 <= ao H kv.2 /\ (kv.2 = .ref c -> ao (upd H c (.dK cs')) kv.2 + 1 <= ao H kv.2):=by
   by_cases z:kv.2 = .ref c
   ·rw [z,Ki hc,Ki A5]
    omega
   ·refine ⟨Nat.le_of_eq ?_,fun y=>absurd y z⟩
    unfold ao
    cases hv:kv.2 with
    | ref d =>
     rw [hv] at z
     have hd:d ≠ c:=fun y=>z (by rw [y])
     simp only [Ac hd]
    | _=>rfl
  unfold Cd at i1 i2 ⊢
  rw [List.map_cons,List.map_cons,List.sum_cons,List.sum_cons]
  refine ⟨by omega,fun ⟨x,hx,ex⟩=>?_⟩
  rcases List.mem_cons.mp hx with y | y
  ·subst y
   have:=one.2 ex
   omega
  ·have:=i2 ⟨x,y,ex⟩
   omega
theorem Zu {cs:List (E4 × V)} {k:E4} {v:V} (h:Ae cs k = some v):(Bv cs k).length < cs.length:=by
 have hm:=Bf h
 unfold Bv
 exact List.length_filter_lt_length_iff_exists.mpr ⟨(k,v),hm,by simp⟩
theorem Kv {cs:List (E4 × V)} {k:E4} {e:E4 × V} (h:e ∈ Bv cs k):e ∈ cs:=(List.mem_filter.mp h).1
noncomputable def Vj (B:Addr) (H:Hp) (kvs:List ((List Int × Int) × V)):Prop := ∀ kv ∈ kvs,∀ c cs,kv.2 = .ref c -> H c = some (.dK cs) -> ∀ e ∈ cs,e.2 ≠ .ref B
theorem Vj.start {B:Addr} {H:Hp} {kvs:List ((List Int × Int) × V)} (p:Hf H kvs) (h:H B = none):Vj B H kvs:=fun kv hkv c cs e1 e2 e he z=>by
 obtain ⟨d,ds,f1,f2,_,f3⟩ := p kv hkv
 rw [e1] at f1
 cases f1
 rw [e2] at f2
 cases f2
 obtain ⟨_,l,us,g1,g2,_⟩ := f3 e he
 rw [z] at g1
 cases g1
 rw [h] at g2
 cases g2
theorem Vj.keep {B:Addr} {H H':Hp} {kvs:List ((List Int × Int) × V)} (n:Vj B H kvs) (p:Hf H kvs) (k:∀ c cs,H c = some (.dK cs) -> H' c = some (.dK cs)):Vj B H' kvs:=fun kv hkv c cs e1 e2=>by
 obtain ⟨d,ds,f1,f2,_⟩ := p kv hkv
 have f1':=f1
 rw [e1] at f1'
 cases f1'
 have:=k _ _ f2
 rw [e2] at this
 cases this
 exact n kv hkv c cs e1 f2
theorem Vj.pop {B c:Addr} {H:Hp} {cs:List (E4 × V)} {k:E4} {kvs:List ((List Int × Int) × V)} (n:Vj B H kvs) (hc:H c = some (.dK cs)):Vj B (upd H c (.dK (Bv cs k))) kvs:=fun kv hkv d ds e1 e2 e he=>by
 by_cases z:d = c
 ·subst z
  rw [A5] at e2
  cases e2
  exact n kv hkv d cs e1 hc e (Kv he)
 ·rw [Ac z] at e2
  exact n kv hkv d ds e1 e2 e he
theorem Tl (k:List Int × Int):Io (dS k) (dS k) = false:=by
 have e1:PyData.eqv (dT k.1) (dT k.1) = true:=by
  show PyData.eqvAll (k.1.map PyData.int) (k.1.map PyData.int) = true
  rw [Ek]
  simp
 show ltvAll [dT k.1,.int k.2] [dT k.1,.int k.2] = false
 rw [ltvAll,if_pos e1,ltvAll,if_pos (show PyData.eqv (.int k.2) (.int k.2) = true from PySem.SeqAt.eqv_refl _ rfl)]
 rfl
theorem Jp (ws:List Int) (q:Int):(Ar ws q).Nodup:=(Di ws q).imp fun {a b} h e=>by
 rw [e,Tl] at h
 cases h
theorem Iz {α:Type} {xs:List α} {i:Nat} {x:α} (h:xs.Nodup) (e:xs[i]? = some x):x ∉ xs.take i:=fun z=>by
 obtain ⟨j,hj⟩ := List.mem_iff_getElem?.mp z
 have hlt:j < i:=by
  apply Classical.byContradiction
  intro y
  rw [List.getElem?_take_eq_none (by omega)] at hj
  cases hj
 rw [List.getElem?_take_of_lt hlt] at hj
 have h1:=(List.getElem?_eq_some_iff.mp hj)
 have h2:=(List.getElem?_eq_some_iff.mp e)
 obtain ⟨a1,a2⟩ := h1
 obtain ⟨b1,b2⟩ := h2
 exact (List.pairwise_iff_getElem.mp h) j i a1 b1 hlt (a2.trans b2.symm)
theorem Cb {κ:Type} [DecidableEq κ] {kvs:List (κ × V)} {k:κ} {v:V} (hn:(kvs.map (·.1)).Nodup) (h:(k,v) ∈ kvs):Ae kvs k = some v:=by
 induction kvs with
 | nil=>cases h
 | cons p r ih =>
  rw [List.map_cons,List.nodup_cons] at hn
  rcases List.mem_cons.mp h with z | z
  ·subst z
   exact C4 rfl
  ·have hp:¬ p.1 = k:=fun e=>hn.1 (by rw [e]; exact List.mem_map_of_mem (f:=(·.1)) z)
   rw [C6 hp]
   exact ih hn.2 z
theorem Om {κ:Type} {kvs:List (κ × V)} {x y:κ × V} (hn:(kvs.map (·.2)).Nodup) (hx:x ∈ kvs) (hy:y ∈ kvs) (e:x.2 = y.2):x = y:=by
 induction kvs with
 | nil=>cases hx
 | cons p r ih =>
  rw [List.map_cons,List.nodup_cons] at hn
  rcases List.mem_cons.mp hx with z | z <;> rcases List.mem_cons.mp hy with y' | y'
  ·rw [z,y']
  ·subst z
   exact absurd (by rw [e]; exact List.mem_map_of_mem (f:=(·.2)) y') hn.1
  ·subst y'
   exact absurd (by rw [<- e]; exact List.mem_map_of_mem (f:=(·.2)) z) hn.1
  ·exact ih hn.2 z y'
theorem X8 {κ:Type} [DecidableEq κ] {kvs:List (κ × V)} {k:κ} {v:V} {e:κ × V} (h:e ∈ Bb kvs k v):e ∈ kvs \/ e = (k,v):=by
 unfold Bb at h
 split at h
 ·obtain ⟨x,hx,rfl⟩ := List.mem_map.mp h
  split
  ·rename_i hk
   exact .inr (by rw [hk])
  ·exact .inl hx
 ·rcases List.mem_append.mp h with z | z
  ·exact .inl z
  ·exact .inr (List.mem_singleton.mp z)
theorem Th {κ:Type} [DecidableEq κ] {kvs:List (κ × V)} {k j:κ} {v:V} (h:(Ae kvs j).isSome = true \/ j = k):(Ae (Bb kvs k v) j).isSome = true:=by
 rw [F5]
 split
 ·rfl
 ·rename_i hn
  rcases h with h | h
  ·exact h
  ·exact absurd h hn
noncomputable def G8 (ws:List Int) (cm:Option Int) (z:List Int × Int) (H:Hp) (cs:List (E4 × V)):Prop := ∀ e ∈ cs,∃ (who:Nat) (l:Addr) (us:List V),e.1 = .inl (who:Int) /\ who < ws.length /\ none ∉ Ay ws z.1 cm z.2 who /\ e.2 = .ref l /\ H l = some (.lst us) /\ Ad (D2 H) (Ay ws z.1 cm z.2 who) us
noncomputable def Ts (ws:List Int) (cm:Option Int) (H:Hp) (z:List Int × Int) (v:V):Prop := ∃ (c:Addr) (cs:List (E4 × V)),v = .ref c /\ H c = some (.dK cs) /\ cs.length <= 8 /\ G8 ws cm z H cs
theorem G8.up {ws:List Int} {cm:Option Int} {z:List Int × Int} {H H':Hp} {cs:List (E4 × V)} (t:LT H H') (h:G8 ws cm z H cs):G8 ws cm z H' cs:=fun e he=>by
 obtain ⟨who,l,us,h1,h2,h3,h4,h5,h6⟩ := h e he
 exact ⟨who,l,us,h1,h2,h3,h4,t.1 _ _ h5,h6.imp fun _ _ y=>D2.up t.2 y⟩
theorem G8.ok {ws:List Int} {cm:Option Int} {z:List Int × Int} {H:Hp} {cs:List (E4 × V)} (h:G8 ws cm z H cs):Tj H cs:=fun e he=>by
 obtain ⟨who,l,us,h1,h2,h3,h4,h5,h6⟩ := h e he
 refine ⟨⟨_,h1⟩,l,us,h4,h5,?_,fun u hu=>?_⟩
 ·rw [h6.1]
  unfold Ay
  split <;> simp
 ·obtain ⟨m,hm⟩ := List.mem_iff_getElem?.mp hu
  obtain ⟨r,hr1,hr2⟩ := h6.get hm
  cases r with
  | none=>exact absurd (List.mem_of_getElem? hr1) h3
  | some r =>
   obtain ⟨bb,e,h1⟩ := hr2
   exact ⟨bb,r,e,h1⟩
theorem Ts.up {ws:List Int} {cm:Option Int} {z:List Int × Int} {H H':Hp} {v:V} (t:LT H H') (k:∀ c cs,H c = some (.dK cs) -> H' c = some (.dK cs)) (h:Ts ws cm H z v):Ts ws cm H' z v:=by
 obtain ⟨c,cs,e,h1,h2,h3⟩ := h
 exact ⟨c,cs,e,k _ _ h1,h2,h3.up t⟩
noncomputable def Cj (ws:List Int) (cm:Option Int) (H:Hp) (kvs:List ((List Int × Int) × V)):Prop:=(∀ kv ∈ kvs,Ts ws cm H kv.1 kv.2) /\ (kvs.map (·.1)).Nodup /\ (kvs.map (·.2)).Nodup
theorem Cj.ok {ws:List Int} {cm:Option Int} {H:Hp} {kvs:List ((List Int × Int) × V)} (h:Cj ws cm H kvs):Hf H kvs:=fun kv hkv=>by
 obtain ⟨c,cs,e,h1,h2,h3⟩ := h.1 kv hkv
 exact ⟨c,cs,e,h1,h2,h3.ok⟩
theorem Cj.keep {ws:List Int} {cm:Option Int} {H H':Hp} {kvs:List ((List Int × Int) × V)} (p:Cj ws cm H kvs) (t:LT H H') (k:∀ c cs,H c = some (.dK cs) -> H' c = some (.dK cs)):Cj ws cm H' kvs:=⟨fun kv hkv=>(p.1 kv hkv).up t k,p.2⟩
noncomputable def Kb (ws:List Int) (cm:Option Int) (H:Hp) (kvs:List ((List Int × Int) × V)):Prop := ∀ kv ∈ kvs,∀ c cs,kv.2 = .ref c -> H c = some (.dK cs) -> ∀ who:Nat,who < ws.length -> none ∉ Ay ws kv.1.1 cm kv.1.2 who -> (Ae cs (.inl (who:Int))).isSome = true
theorem Kb.keep {ws:List Int} {cm:Option Int} {H H':Hp} {kvs:List ((List Int × Int) × V)} (f:Kb ws cm H kvs) (p:Cj ws cm H kvs) (k:∀ c cs,H c = some (.dK cs) -> H' c = some (.dK cs)):Kb ws cm H' kvs:=fun kv hkv c cs e1 e2=>by
 obtain ⟨d,ds,f1,f2,_⟩ := p.1 kv hkv
 have f1':=f1
 rw [e1] at f1'
 cases f1'
 have:=k _ _ f2
 rw [e2] at this
 cases this
 exact f kv hkv c cs e1 f2
noncomputable def An (H:Hp) (kvs:List ((List Int × Int) × V)) (k:List Int × Int) (who:Nat):Prop := ∃ (c:Addr) (cs:List (E4 × V)),Ae kvs k = some (.ref c) /\ H c = some (.dK cs) /\ (Ae cs (.inl (who:Int))).isSome = true
theorem Eh {α:Type} {xs:List α} {x:α} (h:xs.Nodup) (hx:x ∉ xs):(xs ++ [x]).Nodup:=by
 rw [List.nodup_append]
 refine ⟨h,by simp,fun a ha b hb e=>?_⟩
 rw [List.mem_singleton.mp hb] at e
 exact hx (e ▸ ha)
noncomputable def Oq (ws:List Int) (cm:Option Int) (kvs:List ((List Int × Int) × V)) (H:Hp) (later:List Int × Int) (u:V):Prop := ∃ (t b:Addr) (who:Nat) (k:List Int × Int),u = .ref t /\ H t = some (.tup [.ref b,.int (who:Int)]) /\ E2 H b k /\ (∃ v,Ae kvs k = some v) /\ some later ∈ Ay ws k.1 cm k.2 who
theorem Oq.up {ws:List Int} {cm:Option Int} {kvs:List ((List Int × Int) × V)} {H H':Hp} {later:List Int × Int} {u:V} (t:Af H H') (h:Oq ws cm kvs H later u):Oq ws cm kvs H' later u:=by
 obtain ⟨a,b,i,k,e,h1,h2,h3,h4⟩ := h
 exact ⟨a,b,i,k,e,t _ _ h1,h2.up t,h3,h4⟩
noncomputable def Fc (ws:List Int) (cm:Option Int) (H0:Hp) (kvs:List ((List Int × Int) × V)) (n:Nat) (H:Hp) (wv:List ((List Int × Int) × V)):Prop:=(∀ kv ∈ wv,∃ (l:Addr) (us:List V),kv.2 = .ref l /\ H0 l = none /\ H l = some (.lst us) /\ us.length <= n /\ ∀ u ∈ us,Oq ws cm kvs H kv.1 u) /\ (wv.map (·.2)).Nodup
theorem Fc.up {ws:List Int} {cm:Option Int} {H0 H H':Hp} {kvs wv:List ((List Int × Int) × V)} {n m:Nat} (t:LT H H') (hn:n <= m) (h:Fc ws cm H0 kvs n H wv):Fc ws cm H0 kvs m H' wv:=⟨fun kv hkv=>by
 obtain ⟨l,us,e,h0,h1,h2,h3⟩ := h.1 kv hkv
 exact ⟨l,us,e,h0,t.1 _ _ h1,by omega,fun u hu=>(h3 u hu).up t.2⟩,h.2⟩
theorem Fc.app {ws:List Int} {cm:Option Int} {H0 H:Hp} {kvs wv:List ((List Int × Int) × V)} {n:Nat} {l:Addr} {us:List V} {x:V} {later:List Int × Int} (h:Fc ws cm H0 kvs n H wv) (hm:(later,V.ref l) ∈ wv) (hl:H l = some (.lst us)) (hu:us.length <= n) (ha:∀ u ∈ us,Oq ws cm kvs H later u) (hx:Oq ws cm kvs H later x):Fc ws cm H0 kvs (n + 1) (upd H l (.lst (us ++ [x]))) wv:=⟨fun kv hkv=>by
 have t:Af H (upd H l (.lst (us ++ [x]))):=Af.lst hl
 obtain ⟨l2,us2,e,h0,h1,h2,h3⟩ := h.1 kv hkv
 by_cases z:l2 = l
 ·subst z
  have ek:kv = (later,V.ref l2):=Om h.2 hkv hm e
  refine ⟨l2,us ++ [x],e,h0,A5,by rw [List.length_append,List.length_singleton]; omega,fun u hu=>?_⟩
  rw [ek]
  exact (Lu ha hx u hu).up t
 ·exact ⟨l2,us2,e,h0,(Ac z).trans h1,by omega,fun u hu=>(h3 u hu).up t⟩,h.2⟩
noncomputable def Cm (H:Hp) (wv:List ((List Int × Int) × V)) (later k:List Int × Int) (who:Nat):Prop := ∃ (l:Addr) (us:List V) (t b:Addr),Ae wv later = some (.ref l) /\ H l = some (.lst us) /\ V.ref t ∈ us /\ H t = some (.tup [.ref b,.int (who:Int)]) /\ E2 H b k
theorem Cm.up {H H':Hp} {wv:List ((List Int × Int) × V)} {later k:List Int × Int} {who:Nat} (t:LT H H') (h:Cm H wv later k who):Cm H' wv later k who:=by
 obtain ⟨l,us,a,b,h1,h2,h3,h4,h5⟩ := h
 exact ⟨l,us,a,b,h1,t.1 _ _ h2,h3,t.2 _ _ h4,h5.up t.2⟩
theorem Cm.put {H:Hp} {wv:List ((List Int × Int) × V)} {later k lk:List Int × Int} {who:Nat} {v:V} (hn:Ae wv lk = none) (h:Cm H wv later k who):Cm H (Bb wv lk v) later k who:=by
 obtain ⟨l,us,a,b,h1,h2⟩ := h
 refine ⟨l,us,a,b,?_,h2⟩
 rw [F5,if_neg (fun e=>by rw [e,hn] at h1; cases h1)]
 exact h1
theorem Cm.app {H:Hp} {wv:List ((List Int × Int) × V)} {later k:List Int × Int} {who:Nat} {l:Addr} {us:List V} {x:V} (hl:H l = some (.lst us)) (h:Cm H wv later k who):Cm (upd H l (.lst (us ++ [x]))) wv later k who:=by
 have t:Af H (upd H l (.lst (us ++ [x]))):=Af.lst hl
 obtain ⟨l2,us2,a,b,h1,h2,h3,h4,h5⟩ := h
 by_cases z:l2 = l
 ·subst z
  rw [hl] at h2
  cases h2
  exact ⟨l2,_,a,b,h1,A5,List.mem_append_left _ h3,t _ _ h4,h5.up t⟩
 ·exact ⟨l2,us2,a,b,h1,(Ac z).trans h2,h3,t _ _ h4,h5.up t⟩
theorem Qn {cs:List (E4 × V)} {k j:E4}:Ae (Bv cs k) j = if j = k then none else Ae cs j:=by
 induction cs with
 | nil=>split <;> rfl
 | cons p r ih =>
  by_cases e:p.1 = k
  ·rw [Vk e,ih]
   by_cases z:j = k
   ·rw [if_pos z,if_pos z]
   ·rw [if_neg z,if_neg z,C6 (fun y=>z (by rw [<- y,e]))]
  ·have ed : Bv (p :: r) k = p :: Bv r k := by
    unfold Bv
    rw [List.filter_cons,if_pos (by simpa using e)]
   rw [ed]
   by_cases z:p.1 = j
   ·rw [C4 z,C4 z,if_neg (fun y=>e (z.trans y))]
   ·rw [C6 z,C6 z,ih]
theorem An.keep {ws:List Int} {cm:Option Int} {H H':Hp} {kvs:List ((List Int × Int) × V)} {k:List Int × Int} {who:Nat} (p:Cj ws cm H kvs) (kk:∀ c cs,H c = some (.dK cs) -> H' c = some (.dK cs)):An H' kvs k who ↔ An H kvs k who:=by
 constructor
 ·rintro ⟨c,cs,h1,h2,h3⟩
  obtain ⟨d,ds,e,f1,_⟩ := p.1 _ (Bf h1)
  cases e
  have:=kk _ _ f1
  rw [h2] at this
  cases this
  exact ⟨c,cs,h1,f1,h3⟩
 ·rintro ⟨c,cs,h1,h2,h3⟩
  exact ⟨c,cs,h1,kk _ _ h2,h3⟩
theorem An.pop {ws : List Int} {cm : Option Int} {H : Hp} {kvs : List ((List Int × Int) × V)} {k k' : List Int × Int} {who who' : Nat} {c : Addr} {cs : List (E4 × V)} (p : Cj ws cm H kvs) (hk : Ae kvs k = some (.ref c)) (hc : H c = some (.dK cs)) :
  An (upd H c (.dK (Bv cs (.inl (who:Int))))) kvs k' who' ↔ An H kvs k' who' /\ ¬ (k' = k /\ who' = who):=by
 constructor
 ·rintro ⟨d,ds,h1,h2,h3⟩
  by_cases z:d = c
  ·subst z
   rw [A5] at h2
   cases h2
   have ek:(k',V.ref d) = (k,V.ref d):=Om p.2.2 (Bf h1) (Bf hk) rfl
   cases ek
   rw [Qn] at h3
   by_cases y:(Sum.inl (who':Int):E4) = .inl (who:Int)
   ·rw [if_pos y] at h3
    cases h3
   ·rw [if_neg y] at h3
    exact ⟨⟨d,cs,h1,hc,h3⟩,fun w=>y (by rw [w.2])⟩
  ·rw [Ac z] at h2
   refine ⟨⟨d,ds,h1,h2,h3⟩,fun w=>z ?_⟩
   rw [w.1,hk] at h1
   cases h1
   rfl
 ·rintro ⟨⟨d,ds,h1,h2,h3⟩,hn⟩
  by_cases z:d = c
  ·subst z
   have ek:(k',V.ref d) = (k,V.ref d):=Om p.2.2 (Bf h1) (Bf hk) rfl
   cases ek
   rw [hc] at h2
   cases h2
   refine ⟨d,_,h1,A5,?_⟩
   rw [Qn,if_neg]
   ·exact h3
   ·intro y
    have y2:(who':Int) = (who:Int):=Sum.inl.inj y
    exact hn ⟨rfl,by omega⟩
  ·exact ⟨d,ds,h1,(Ac z).trans h2,h3⟩
theorem Cj.pop {ws:List Int} {cm:Option Int} {H:Hp} {c:Addr} {cs:List (E4 × V)} {k:E4} {kvs:List ((List Int × Int) × V)} (p:Cj ws cm H kvs) (hc:H c = some (.dK cs)):Cj ws cm (upd H c (.dK (Bv cs k))) kvs:=⟨fun kv hkv=>by
 obtain ⟨d,ds,e,h1,h2,h3⟩ := p.1 kv hkv
 have t:LT H (upd H c (.dK (Bv cs k))):=LT.dK hc
 by_cases z:d = c
 ·subst z
  rw [hc] at h1
  cases h1
  exact ⟨d,Bv cs k,e,A5,Nat.le_trans (Pq cs k) h2,fun x hx=>(h3.up t) x (Kv hx)⟩
 ·exact ⟨d,ds,e,(Ac z).trans h1,h2,h3.up t⟩,p.2⟩
theorem Cj.keepB {ws:List Int} {cm:Option Int} {B:Addr} {H H':Hp} {kvs:List ((List Int × Int) × V)} (p:Cj ws cm H kvs) (n:Vj B H kvs) (t:Af H H') (kl:∀ l us,l ≠ B -> H l = some (.lst us) -> H' l = some (.lst us)) (k:∀ c cs,H c = some (.dK cs) -> H' c = some (.dK cs)):Cj ws cm H' kvs:=⟨fun kv hkv=>by
 obtain ⟨c,cs,e1,e2,e3,e4⟩ := p.1 kv hkv
 refine ⟨c,cs,e1,k _ _ e2,e3,fun e he=>?_⟩
 obtain ⟨who,l,us,g1,g2,g3,g4,g5,g6⟩ := e4 e he
 exact ⟨who,l,us,g1,g2,g3,g4,kl _ _ (fun z=>n kv hkv c cs e1 e2 e he (by rw [g4,z])) g5,g6.imp fun _ _ y=>D2.up t y⟩,p.2⟩
theorem Js:∀ {xs ys:List Int},xs.map V.int = ys.map V.int -> xs = ys
 | [],[],_=>rfl
 | [],_ :: _,h=>by cases h
 | _ :: _,[],h=>by cases h
 | x :: xs,y :: ys,h=>by
  rw [List.map_cons,List.map_cons] at h
  injection h with h1 h2
  injection h1 with h1
  rw [h1,Js h2]
noncomputable def Ph (ws:List Int) (cm:Option Int) (tv:List ((List Int × Int) × V)) (k:List Int × Int) (m:Int):Prop :=
 (∀ who,who < ws.length -> none ∈ Ay ws k.1 cm k.2 who \/ ∃ later m',some later ∈ Ay ws k.1 cm k.2 who /\ Ae tv later = some (.int m') /\ m' <= m - 1) /\
 (m = 1 \/ ∃ who,who < ws.length /\ none ∉ Ay ws k.1 cm k.2 who /\ ∀ later m',some later ∈ Ay ws k.1 cm k.2 who -> Ae tv later = some (.int m') -> m - 1 <= m')
noncomputable def Bz (ws:List Int) (cm:Option Int) (tv:List ((List Int × Int) × V)):Prop :=
 (∀ k v,Ae tv k = some v -> ∃ m:Int,v = .int m /\ 1 <= m /\ k ∈ Ar ws (qv cm) /\ Ph ws cm tv k m) /\
 (∀ k,k ∈ Ar ws (qv cm) -> Ae tv k = none -> ∃ who,who < ws.length /\ none ∉ Ay ws k.1 cm k.2 who /\ ∀ later,some later ∈ Ay ws k.1 cm k.2 who -> Ae tv later = none)
noncomputable def Fm (ws:List Int) (cm:Option Int) (tv:List ((List Int × Int) × V)) (rho:List (List Int × Int)) (r:Int) (Lf:(List Int × Int) -> Nat -> Prop):Prop :=
 1 <= r /\ (∀ kv ∈ tv,∃ n:Int,kv.2 = .int n /\ 1 <= n /\ n < r) /\ (∀ k ∈ rho,k ∈ Ar ws (qv cm) /\ Ae tv k = none) /\ (∀ k v,Ae tv k = some v -> k ∈ Ar ws (qv cm)) /\
 (∀ k who,Lf k who ↔ (k ∈ Ar ws (qv cm) /\ who < ws.length /\ none ∉ Ay ws k.1 cm k.2 who /\ ∀ later,some later ∈ Ay ws k.1 cm k.2 who -> Ae tv later = none)) /\
 (∀ k,k ∈ Ar ws (qv cm) -> ((∀ who,¬ Lf k who) ↔ (k ∈ rho \/ (Ae tv k).isSome = true))) /\
 (∀ k m,Ae tv k = some (.int m) -> Ph ws cm tv k m) /\ ∀ k ∈ rho,Ph ws cm tv k r
theorem Fm.done {ws:List Int} {cm:Option Int} {tv:List ((List Int × Int) × V)} {r:Int} {Lf:(List Int × Int) -> Nat -> Prop} (h:Fm ws cm tv [] r Lf):Bz ws cm tv:=by
 obtain ⟨h0,hv,ha1,ha2,hb,hc,hd1,hd2⟩ := h
 refine ⟨fun k v e=>?_,fun k hk e=>?_⟩
 ·obtain ⟨n,e1,e2,_⟩ := hv _ (Bf e)
  have e1':v = .int n:=e1
  subst e1'
  exact ⟨n,rfl,e2,ha2 k _ e,hd1 k n e⟩
 ·have hn : ¬ ∀ who, ¬ Lf k who := fun z => by
   rcases (hc k hk).mp z with y | y
   ·cases y
   ·rw [e] at y
    cases y
  obtain ⟨who,hw⟩ := Classical.not_forall.mp hn
  obtain ⟨g1,g2,g3,g4⟩ := (hb k who).mp (Classical.not_not.mp hw)
  exact ⟨who,g2,g3,g4⟩
theorem Fm.step {ws : List Int} {cm : Option Int} {tv tv' : List ((List Int × Int) × V)} {rho beta : List (List Int × Int)} {r : Int} {Lf Lf' : (List Int × Int) -> Nat -> Prop} (h : Fm ws cm tv rho r Lf)
  (ht:∀ k,Ae tv' k = if k ∈ rho then some (.int r) else Ae tv k) (hv':∀ kv ∈ tv',∃ n:Int,kv.2 = .int n /\ 1 <= n /\ n < r + 1)
  (hl:∀ k who,Lf' k who ↔ (Lf k who /\ ∀ later ∈ rho,some later ∉ Ay ws k.1 cm k.2 who)) (hbt:∀ k,k ∈ beta ↔ ((∃ who,Lf k who) /\ ∀ who,¬ Lf' k who)):Fm ws cm tv' beta (r + 1) Lf':=by
 obtain ⟨h0,hv,ha1,ha2,hb,hc,hd1,hd2⟩ := h
 have none':∀ k,Ae tv' k = none ↔ (k ∉ rho /\ Ae tv k = none):=fun k=>by
  rw [ht]
  by_cases z:k ∈ rho
  ·rw [if_pos z]
   exact ⟨fun y=>(nomatch y),fun y=>absurd z y.1⟩
  ·rw [if_neg z]
   exact ⟨fun y=>⟨z,y⟩,fun y=>y.2⟩
 have old:∀ later m',Ae tv later = some (.int m') -> Ae tv' later = some (.int m'):=fun later m' e=>by
  rw [ht,if_neg (fun z=>by rw [(ha1 later z).2] at e; cases e)]
  exact e
 have back:∀ later m',Ae tv' later = some (.int m') -> (later ∈ rho /\ m' = r) \/ Ae tv later = some (.int m'):=fun later m' e=>by
  rw [ht] at e
  by_cases z:later ∈ rho
  ·rw [if_pos z] at e
   cases e
   exact .inl ⟨z,rfl⟩
  ·rw [if_neg z] at e
   exact .inr e
 have more:∀ k m,m <= r -> Ph ws cm tv k m -> Ph ws cm tv' k m:=fun k m hm ⟨p1,p2⟩=>by
  refine ⟨fun who hw=>?_,?_⟩
  ·rcases p1 who hw with y | ⟨later,m',y1,y2,y3⟩
   ·exact .inl y
   ·exact .inr ⟨later,m',y1,old _ _ y2,y3⟩
  ·rcases p2 with y | ⟨who,y1,y2,y3⟩
   ·exact .inl y
   ·refine .inr ⟨who,y1,y2,fun later m' z1 z2=>?_⟩
    rcases back later m' z2 with ⟨_,e⟩ | e
    ·omega
    ·exact y3 later m' z1 e
 have hb':∀ k who,Lf' k who ↔ (k ∈ Ar ws (qv cm) /\ who < ws.length /\ none ∉ Ay ws k.1 cm k.2 who /\ ∀ later,some later ∈ Ay ws k.1 cm k.2 who -> Ae tv' later = none):=fun k who=>by
  rw [hl,hb]
  constructor
  ·rintro ⟨⟨g1,g2,g3,g4⟩,g5⟩
   exact ⟨g1,g2,g3,fun later z=>(none' later).mpr ⟨fun y=>g5 later y z,g4 later z⟩⟩
  ·rintro ⟨g1,g2,g3,g4⟩
   exact ⟨⟨g1,g2,g3,fun later z=>((none' later).mp (g4 later z)).2⟩,fun later y z=>((none' later).mp (g4 later z)).1 y⟩
 refine ⟨by omega,hv',fun k hk=>?_,fun k v e=>?_,hb',fun k hk=>?_,fun k m e=>?_,fun k hk=>?_⟩
 ·obtain ⟨⟨who,hw⟩,hn⟩ := (hbt k).mp hk
  have hs:=((hb k who).mp hw).1
  refine ⟨hs,(none' k).mpr ⟨fun z=>?_,?_⟩⟩
  ·exact (hc k hs).mpr (.inl z) who hw
  ·cases hvk:Ae tv k with
   | none=>rfl
   | some v=>exact absurd hw ((hc k hs).mpr (.inr (by rw [hvk]; rfl)) who)
 ·rw [ht] at e
  by_cases z:k ∈ rho
  ·exact (ha1 k z).1
  ·rw [if_neg z] at e
   exact ha2 k v e
 ·constructor
  ·intro z
   by_cases y:∃ who,Lf k who
   ·exact .inl ((hbt k).mpr ⟨y,z⟩)
   ·right
    rcases (hc k hk).mp (fun who w=>y ⟨who,w⟩) with x | x
    ·rw [ht,if_pos x]
     rfl
    ·obtain ⟨v,hv2⟩ := Option.isSome_iff_exists.mp x
     obtain ⟨n,e1,_⟩ := hv _ (Bf hv2)
     have e1':v = .int n:=e1
     rw [e1'] at hv2
     rw [old k n hv2]
     rfl
  ·rintro (z | z) who w
   ·exact ((hbt k).mp z).2 who w
   ·have w1:=((hl k who).mp w).1
    rw [ht] at z
    by_cases y:k ∈ rho
    ·exact (hc k hk).mpr (.inl y) who w1
    ·rw [if_neg y] at z
     exact (hc k hk).mpr (.inr z) who w1
 ·rcases back k m e with ⟨y1,y2⟩ | y
  ·subst y2
   exact more k m (Int.le_refl _) (hd2 k y1)
  ·obtain ⟨n,e1,e2,e3⟩ := hv _ (Bf y)
   cases e1
   exact more k m (by omega) (hd1 k m y)
 ·obtain ⟨⟨who0,hw0⟩,hn⟩ := (hbt k).mp hk
  obtain ⟨g1,g2,g3,g4⟩ := (hb k who0).mp hw0
  refine ⟨fun who hw=>?_,.inr ⟨who0,g2,g3,fun later m' z1 z2=>?_⟩⟩
  ·by_cases y:none ∈ Ay ws k.1 cm k.2 who
   ·exact .inl y
   ·right
    have hnn:¬ ∀ later,some later ∈ Ay ws k.1 cm k.2 who -> Ae tv' later = none:=fun z=>hn who ((hb' k who).mpr ⟨g1,hw,y,z⟩)
    obtain ⟨later,hx⟩ := Classical.not_forall.mp hnn
    obtain ⟨x1,x2⟩ := Classical.not_imp.mp hx
    cases hvl:Ae tv' later with
    | none=>exact absurd hvl x2
    | some v =>
     obtain ⟨n,e1,e2,e3⟩ := hv' _ (Bf hvl)
     have e1':v = .int n:=e1
     exact ⟨later,n,x1,by rw [hvl,e1'],by omega⟩
  ·rcases back later m' z2 with ⟨_,e⟩ | e
   ·omega
   ·rw [g4 later z1] at e
    cases e
theorem cj {κ:Type} [DecidableEq κ] {kvs:List (κ × V)} {k:κ} {v:V} (hn:(kvs.map (·.1)).Nodup):((Bb kvs k v).map (·.1)).Nodup:=by
 cases e:Ae kvs k with
 | none =>
  rw [C5 v e,List.map_append]
  exact Eh hn (L8 e)
 | some w =>
  have hk:(kvs.any fun kv=>decide (kv.1 = k)) = true:=by
   rw [Dv,e]
   rfl
  unfold Bb
  rw [if_pos hk,List.map_map]
  have:(kvs.map ((fun x=>x.1) ∘ fun kv=>if kv.1 = k then (kv.1,v) else kv)) = kvs.map (·.1):=by
   apply List.map_congr_left
   intro x _
   show (if x.1 = k then (x.1,v) else x).1 = x.1
   split <;> rfl
  rw [this]
  exact hn
noncomputable def Xl (H:Hp) (v:V):Prop := ∃ c,v = .ref c /\ H c = some (.dK [])
theorem Fm.start {ws:List Int} {cm:Option Int} {H:Hp} {kvs:List ((List Int × Int) × V)} {rho:List (List Int × Int)} (hp:Cj ws cm H kvs) (hk:kvs.map (·.1) = Ar ws (qv cm)) (hf:Kb ws cm H kvs) (hr:∀ k,k ∈ rho ↔ ∃ v,(k,v) ∈ kvs /\ Xl H v):Fm ws cm [] rho 1 (An H kvs):=by
 have mem:∀ k,k ∈ Ar ws (qv cm) ↔ ∃ v,(k,v) ∈ kvs:=fun k=>by
  rw [<- hk,List.mem_map]
  exact ⟨fun ⟨x,h1,h2⟩=>⟨x.2,by rw [<- h2]; exact h1⟩,fun ⟨v,h1⟩=>⟨_,h1,rfl⟩⟩
 have hb:∀ k who,An H kvs k who ↔ (k ∈ Ar ws (qv cm) /\ who < ws.length /\ none ∉ Ay ws k.1 cm k.2 who):=fun k who=>by
  constructor
  ·rintro ⟨c,cs,h1,h2,h3⟩
   have hm:=Bf h1
   obtain ⟨d,ds,e,f1,_,f2⟩ := hp.1 _ hm
   cases e
   rw [h2] at f1
   cases f1
   obtain ⟨w',hw'⟩ := Option.isSome_iff_exists.mp h3
   obtain ⟨who2,l,us,g1,g2,g3,_⟩ := f2 _ (Bf hw')
   have g1':(who:Int) = (who2:Int):=Sum.inl.inj g1
   have:who = who2:=by omega
   subst this
   exact ⟨(mem k).mpr ⟨_,hm⟩,g2,g3⟩
  ·rintro ⟨h1,h2,h3⟩
   obtain ⟨v,hm⟩ := (mem k).mp h1
   obtain ⟨c,cs,e,f1,_,f2⟩ := hp.1 _ hm
   have e':v = .ref c:=e
   subst e'
   exact ⟨c,cs,Cb hp.2.1 hm,f1,hf _ hm c cs rfl f1 who h2 h3⟩
 have hc:∀ k,k ∈ Ar ws (qv cm) -> ((∀ who,¬ An H kvs k who) ↔ k ∈ rho):=fun k hks=>by
  obtain ⟨v,hm⟩ := (mem k).mp hks
  obtain ⟨c,cs,e,f1,_,f2⟩ := hp.1 _ hm
  have e':v = .ref c:=e
  subst e'
  rw [hr]
  constructor
  ·intro z
   refine ⟨_,hm,c,rfl,?_⟩
   cases cs with
   | nil=>exact f1
   | cons x xs =>
    obtain ⟨who,l,us,g1,_⟩ := f2 x (by simp)
    exact absurd ⟨c,_,Cb hp.2.1 hm,f1,by rw [C4 g1]; rfl⟩ (z who)
  ·rintro ⟨v',hm',c',e1,e2⟩ who ⟨c2,cs2,g1,g2,g3⟩
   have h1:=Cb hp.2.1 hm
   rw [Cb hp.2.1 hm',e1] at h1
   cases h1
   rw [Cb hp.2.1 hm] at g1
   cases g1
   rw [e2] at g2
   cases g2
   cases g3
 refine ⟨Int.le_refl _,(fun kv z=>by cases z),fun k hk'=>?_,(fun k v z=>by cases z),fun k who=>?_,fun k hks=>?_,(fun k m z=>by cases z),fun k hk'=>?_⟩
 ·obtain ⟨v,hm,_⟩ := (hr k).mp hk'
  exact ⟨(mem k).mpr ⟨v,hm⟩,rfl⟩
 ·rw [hb]
  exact ⟨fun z=>⟨z.1,z.2.1,z.2.2,fun _ _=>rfl⟩,fun z=>⟨z.1,z.2.1,z.2.2.1⟩⟩
 ·rw [hc k hks]
  exact ⟨fun z=>.inl z,fun z=>z.elim id (fun y=>by cases y)⟩
 ·obtain ⟨v,hm,_⟩ := (hr k).mp hk'
  have hks:=(mem k).mpr ⟨v,hm⟩
  refine ⟨fun who hw=>?_,.inl rfl⟩
  left
  apply Classical.byContradiction
  intro y
  exact (hc k hks).mpr hk' who ((hb k who).mpr ⟨hks,hw,y⟩)
theorem G3 (ws:List Int) (w:Int):ws.map V.int ++ [V.int w] = (ws ++ [w]).map V.int:=by rw [List.map_append]; rfl
theorem F4 {α:Type} {ls:List α} {x:α} {i:Nat} (h:ls.length = i):(ls ++ [x]).length = i + 1:=by
 rw [List.length_append,h]
 rfl
theorem Y1 {ls:List Int} {j:Nat} (h:j < ls.length):ls[j]? = some (ls.getD j 0):=by
 rw [List.getD_eq_getElem?_getD,List.getElem?_eq_getElem h]
 rfl
theorem Ng {ls:List Int} {j:Nat} (h:j < ls.length):ls.getD j 0 ∈ ls:=List.mem_of_getElem? (Y1 h)
noncomputable def Dg (ws:List Int) (cm:Option Int):Prop:=(∀ w ∈ ws,1 <= w /\ w <= 3000) /\ (∀ c,cm = some c -> 1 <= c /\ c < 3000) /\ 0 < ws.length /\ ws.length <= 8 /\ Ak (qv cm) ws <= 300
theorem F8 {w:Int} (h1:0 <= w) (h2:w <= 3000):intBits w <= 256:=Nat.le_trans (Zm (n:=12) (by omega)) (by decide)
theorem Dg.qv {ws:List Int} {cm:Option Int} (h:Dg ws cm):1 <= qv cm /\ qv cm <= 3000:=by
 cases cm with
 | none=>exact ⟨Int.le_refl _,by decide⟩
 | some c =>
  have:=h.2.1 c rfl
  show 1 <= c + 1 /\ c + 1 <= 3000
  omega
theorem Nr:∀ (ws:List Int) (a b:Int),0 <= a -> a <= b -> (∀ w ∈ ws,1 <= w) -> Ak a ws <= Ak b ws
 | [],_,_,_,h,_=>h
 | w :: ws,a,b,h0,h,hw=>by
  have h1:=hw w (by simp)
  exact Nr ws (a * w) (b * w) (Int.mul_nonneg h0 (by omega)) (Int.mul_le_mul_of_nonneg_right h (by omega)) fun x hx=>hw x (List.mem_cons_of_mem _ hx)
theorem Kt {b:Int}:∀ (ws:List Int) (a:Int),0 <= a -> (∀ w ∈ ws,1 <= w /\ w <= b) -> Ak a ws <= a * b ^ ws.length
 | [],a,_,_=>by
  show a <= a * b ^ 0
  rw [Int.pow_zero,Int.mul_one]
  exact Int.le_refl _
 | w :: ws,a,h0,hw=>by
  have h1:=hw w (by simp)
  have ih:=Kt ws (a * w) (Int.mul_nonneg h0 (by omega)) fun x hx=>hw x (List.mem_cons_of_mem _ hx)
  have hb:0 <= b ^ ws.length:=Int.pow_nonneg (by omega)
  have h2:a * w * b ^ ws.length <= a * b * b ^ ws.length:=Int.mul_le_mul_of_nonneg_right (Int.mul_le_mul_of_nonneg_left h1.2 h0) hb
  have e:a * b ^ (w :: ws).length = a * b * b ^ ws.length:=by
   rw [List.length_cons,Int.pow_succ,Int.mul_comm (b ^ ws.length) b,Int.mul_assoc]
  rw [e]
  exact Int.le_trans ih h2
theorem Pn {x:Int} (hx:1 <= x):∀ (ws:List Int) (a:Int) (k:Nat),0 <= a -> (∀ w ∈ ws,1 <= w) -> Ak a (ws.set k x) <= Ak a ws * x
 | [],a,_,h0,_=>by
  show a <= a * x
  have:a * 1 <= a * x:=Int.mul_le_mul_of_nonneg_left hx h0
  omega
 | w :: ws,a,0,h0,hw=>by
  have h1:=hw w (by simp)
  show Ak (a * x) ws <= Ak (a * w) ws * x
  have h2:a * x <= x * (a * w):=by
   have:x * a * 1 <= x * a * w:=Int.mul_le_mul_of_nonneg_left h1 (Int.mul_nonneg (by omega) h0)
   rw [Int.mul_one] at this
   rw [Int.mul_comm a x,<- Int.mul_assoc]
   exact this
  refine Int.le_trans (Nr ws _ _ (Int.mul_nonneg h0 (by omega)) h2 fun y hy=>hw y (List.mem_cons_of_mem _ hy)) ?_
  rw [Ip,Int.mul_comm]
  exact Int.le_refl _
 | w :: ws,a,k + 1,h0,hw=>by
  have h1:=hw w (by simp)
  exact Pn hx ws (a * w) k (Int.mul_nonneg h0 (by omega)) fun y hy=>hw y (List.mem_cons_of_mem _ hy)
theorem Ze {P:Int -> Prop} {ws:List Int} {k:Nat} {x:Int} (h:∀ w ∈ ws,P w) (hx:P x):∀ w ∈ ws.set k x,P w:=fun w hw=>by
 rcases List.mem_or_eq_of_mem_set hw with z | z
 ·exact h w z
 ·rw [z]
  exact hx
theorem Hh {xs:List Int} {k:Nat} {i:Int} (h:k < xs.length) (e:i = (k:Int)):Pe (xs.map V.int) i = some (.int (xs.getD k 0)):=by
 rw [e]
 exact Tt h
noncomputable def Yl (ws:List Int) (most:Int):Prop:=(∀ w ∈ ws,1 <= w /\ w <= 3000) /\ 0 < ws.length /\ ws.length <= 8 /\ 1 <= most /\ most <= 4 /\ Ak 1 ws * (most + 1) <= 300
theorem Yl.of {ws:List Int} {most b:Int} {n:Nat} (h:∀ w ∈ ws,1 <= w /\ w <= b) (hl:ws.length = n) (h0:0 < n) (h8:n <= 8) (hb:b <= 3000) (hm:1 <= most /\ most <= 4) (hp:b ^ n * (most + 1) <= 300):Yl ws most:=by
 have h1:=Kt ws 1 (by decide) h
 rw [hl,Int.one_mul] at h1
 have h2:Ak 1 ws * (most + 1) <= b ^ n * (most + 1):=Int.mul_le_mul_of_nonneg_right h1 (by omega)
 exact ⟨fun w hw=>by have:=h w hw; omega,by omega,by omega,hm.1,hm.2,by omega⟩
theorem Yl.hall {ws:List Int} {most:Int} (h:Yl ws most):Dg ws none /\ ∀ x:Int,Dg ws (some (1 + x % most)):=by
 obtain ⟨h1,h2,h3,h4,h5,h6⟩ := h
 have hp:=E5 ws 1 (by decide) fun w hw=>(h1 w hw).1
 refine ⟨⟨h1,(fun c z=>nomatch z),h2,h3,?_⟩,fun x=>⟨h1,(fun c z=>?_),h2,h3,?_⟩⟩
 ·show Ak 1 ws <= 300
  have:Ak 1 ws * 1 <= Ak 1 ws * (most + 1):=Int.mul_le_mul_of_nonneg_left (by omega) (by omega)
  omega
 ·cases z
  have:=Bh x (m:=most) (by omega)
  omega
 ·have hx:=Bh x (m:=most) (by omega)
  show Ak (1 + x % most + 1) ws <= 300
  have e:Ak (1 + x % most + 1) ws = (1 + x % most + 1) * Ak 1 ws:=by rw [<- Ip,Int.mul_one]
  rw [e,Int.mul_comm]
  have:Ak 1 ws * (1 + x % most + 1) <= Ak 1 ws * (most + 1):=Int.mul_le_mul_of_nonneg_left (by omega) (by omega)
  omega
theorem Qg:∀ n:Nat,(List.replicate n [V.int 1]).flatten = (List.replicate n (1:Int)).map V.int
 | 0=>rfl
 | n + 1=>by
  rw [List.replicate_succ,List.flatten_cons,Qg n,List.replicate_succ,List.map_cons]
  rfl
theorem N4:∀ n:Nat,Ak 1 (List.replicate n (1:Int)) = 1
 | 0=>rfl
 | n + 1=>by
  rw [List.replicate_succ]
  show Ak (1 * 1) (List.replicate n 1) = 1
  exact N4 n
theorem Nk {ws ls:List Int} {who i:Nat} {lost:Bool} (hi:i < ls.length):(Bj ws ls who lost)[i]? = some (if i = who /\ lost = false then ws.getD who 0 else ls.getD i 0 - 1):=by
 have e:(ls.map fun x=>x - 1)[i]? = some (ls.getD i 0 - 1):=by
  rw [List.getElem?_map,List.getElem?_eq_getElem hi,List.getD_eq_getElem?_getD,List.getElem?_eq_getElem hi]
  rfl
 unfold Bj
 cases lost with
 | true =>
  rw [if_pos rfl,if_neg (fun z=>nomatch z.2)]
  exact e
 | false =>
  rw [if_neg Bool.false_ne_true,List.getElem?_set]
  by_cases z:i = who
  ·subst z
   rw [if_pos rfl,if_pos (by rw [List.length_map]; exact hi),if_pos ⟨rfl,rfl⟩]
  ·rw [if_neg (fun y=>z y.symm),if_neg (fun y=>z y.1)]
   exact e
noncomputable def O4 (cm:Option Int) (q:Int):List Bool:=if E9 cm q = true then [false,true] else [false]
theorem Qy (ws ls:List Int) (cm:Option Int) (q:Int) (who:Nat):Ay ws ls cm q who = (O4 cm q).map fun lost=>Cq ws ls cm q who lost:=by
 unfold Ay O4
 split <;> rfl
theorem Ks {xs:List Int} {i:Nat} (h:i < xs.length):xs[i]? = some (xs.getD i 0):=by
 rw [List.getD_eq_getElem?_getD,List.getElem?_eq_getElem h]
 rfl
theorem Tu:∀ (ws:List Int) (rows:List (List Int)) (r0 ext:List Int),r0 ∈ rows -> ext.length = ws.length -> (∀ i,i < ws.length -> 1 <= ext.getD i 0 /\ ext.getD i 0 <= ws.getD i 0) -> r0 ++ ext ∈ ws.foldl C0 rows
 | [],rows,r0,ext,h,hl,_=>by
  have e:ext = []:=List.length_eq_zero_iff.mp hl
  rw [e,List.append_nil]
  exact h
 | w :: ws,rows,r0,[],h,hl,_=>by simp at hl
 | w :: ws,rows,r0,x :: ext,h,hl,hb=>by
  have h0:=hb 0 (by simp)
  have hx:1 <= x /\ x <= w:=h0
  have hmem:r0 ++ [x] ∈ C0 rows w:=by
   refine List.mem_flatMap.mpr ⟨r0,h,List.mem_map.mpr ⟨(x - 1).toNat,List.mem_range.mpr (by omega),?_⟩⟩
   have e:1 + (((x - 1).toNat:Nat):Int) = x:=by omega
   rw [e]
  have ih:=Tu ws (C0 rows w) (r0 ++ [x]) ext hmem (by simpa using hl) fun i hi=>hb (i + 1) (by simp; omega)
  rw [List.append_assoc] at ih
  exact ih
theorem Kp {ws:List Int} {q:Int} {z:List Int × Int} (h1:z.1.length = ws.length) (h2:∀ i,i < ws.length -> 1 <= z.1.getD i 0 /\ z.1.getD i 0 <= ws.getD i 0) (h3:0 <= z.2) (h4:z.2 < q):z ∈ Ar ws q:=by
 refine List.mem_flatMap.mpr ⟨z.1,?_,List.mem_map.mpr ⟨z.2.toNat,List.mem_range.mpr (by omega),?_⟩⟩
 ·have:=Tu ws [[]] [] z.1 (by simp) h1 h2
  exact this
 ·have e:0 + ((z.2.toNat:Nat):Int) = z.2:=by omega
  rw [e]
theorem Fa {ws:List Int} {q:Int} {z:List Int × Int} (h:z ∈ Ar ws q):z.1.length = ws.length /\ (∀ i,i < ws.length -> 1 <= z.1.getD i 0 /\ z.1.getD i 0 <= ws.getD i 0) /\ 0 <= z.2 /\ z.2 < q:=by
 obtain ⟨m1,m2,m3,m4⟩ := Ni h
 exact ⟨m1,fun i hi=>m2 i _ _ (Ks (by omega)) (Ks hi),m3,m4⟩
theorem Z3 {ws ls:List Int} {who i:Nat} {lost:Bool} (hi:i < ls.length):(Bj ws ls who lost).getD i 0 = if i = who /\ lost = false then ws.getD who 0 else ls.getD i 0 - 1:=by
 rw [List.getD_eq_getElem?_getD,Nk hi]
 rfl
theorem ft {ws ls:List Int} {cm:Option Int} {q:Int} {who:Nat} {o:Option (List Int × Int)}:o ∈ Ay ws ls cm q who ↔ ∃ lost,lost ∈ O4 cm q /\ Cq ws ls cm q who lost = o:=by
 rw [Qy,List.mem_map]
theorem Xc {ws ls:List Int} {cm:Option Int} {q:Int} {who:Nat} {lost:Bool} {k:List Int × Int} (h:Cq ws ls cm q who lost = some k):(0:Int) ∉ Bj ws ls who lost /\ k = (Bj ws ls who lost,Dd cm q lost):=by
 unfold Cq at h
 by_cases z:(0:Int) ∈ Bj ws ls who lost
 ·rw [if_pos z] at h
  cases h
 ·rw [if_neg z] at h
  exact ⟨z,(Option.some.inj h).symm⟩
theorem Yg {ws:List Int} {cm:Option Int} {k l:List Int × Int} {who:Nat} {lost:Bool} (hw1:∀ w ∈ ws,1 <= w) (hk:k ∈ Ar ws (qv cm)) (hwho:who < ws.length) (hlo:lost ∈ O4 cm k.2) (h:Cq ws k.1 cm k.2 who lost = some l):l ∈ Ar ws (qv cm):=by
 obtain ⟨g1,g2,g3,g4⟩ := Fa hk
 obtain ⟨hz,rfl⟩ := Xc h
 have hwp:1 <= ws.getD who 0:=hw1 _ (Ng hwho)
 have hlen:(Bj ws k.1 who lost).length = k.1.length:=Hm _ _ _ _
 refine Kp (by rw [hlen]; exact g1) (fun i hi=>?_) ?_ ?_
 ·have b:=g2 i hi
  have hne:(Bj ws k.1 who lost).getD i 0 ≠ 0:=fun e=>by
   have:=Ks (xs:=Bj ws k.1 who lost) (i:=i) (by omega)
   rw [e] at this
   exact hz (List.mem_of_getElem? this)
  show 1 <= (Bj ws k.1 who lost).getD i 0 /\ (Bj ws k.1 who lost).getD i 0 <= ws.getD i 0
  rw [Z3 (by omega)] at hne ⊢
  by_cases y:i = who /\ lost = false
  ·rw [if_pos y,y.1]
   omega
  ·rw [if_neg y] at hne
   rw [if_neg y]
   omega
 ·show 0 <= Dd cm k.2 lost
  unfold Dd
  cases lost with
  | true =>
   rw [if_pos rfl]
   cases cm with
   | none=>exact Int.le_refl _
   | some c =>
    show 0 <= c
    have:k.2 < c + 1:=g4
    omega
  | false =>
   rw [if_neg Bool.false_ne_true]
   omega
 ·show Dd cm k.2 lost < qv cm
  unfold Dd
  cases lost with
  | true =>
   rw [if_pos rfl]
   cases cm with
   | none=>decide
   | some c =>
    show c < c + 1
    omega
  | false =>
   rw [if_neg Bool.false_ne_true]
   have:0 < qv cm:=by omega
   omega
noncomputable def wd (x:Int × Int):PyData:=dP (.int x.1) (.int x.2)
noncomputable def Es (x y:Int × Int):Bool:=decide (y.1 < x.1 \/ (x.1 = y.1 /\ y.2 < x.2))
theorem Iy (a b:Int):PyData.eqv (.int a) (.int b) = decide (a = b):=rfl
theorem d5 (x y:Int × Int):W4 (wd x) (wd y) = Es x y:=by
 obtain ⟨a,b⟩ := x
 obtain ⟨c,d⟩ := y
 show (if PyData.eqv (.int a) (.int c) = true then (if PyData.eqv (.int b) (.int d) = true then gtvAll [] [] else W4 (.int b) (.int d)) else W4 (.int a) (.int c)) = decide (c < a \/ (a = c /\ d < b))
 rw [Iy,Iy]
 show (if decide (a = c) = true then (if decide (b = d) = true then false else decide (b > d)) else decide (a > c)) = decide (c < a \/ (a = c /\ d < b))
 by_cases h1:a = c
 ·rw [if_pos (decide_eq_true h1)]
  by_cases h2:b = d
  ·rw [if_pos (decide_eq_true h2)]
   exact (decide_eq_false (by omega)).symm
  ·rw [if_neg (by simpa using h2)]
   exact decide_eq_decide.mpr (by omega)
 ·rw [if_neg (by simpa using h1)]
  exact decide_eq_decide.mpr (by omega)
theorem Y8 (x y:Int × Int):Io (wd x) (wd y) = Es y x:=by
 obtain ⟨a,b⟩ := x
 obtain ⟨c,d⟩ := y
 show (if PyData.eqv (.int a) (.int c) = true then (if PyData.eqv (.int b) (.int d) = true then ltvAll [] [] else Io (.int b) (.int d)) else Io (.int a) (.int c)) = decide (a < c \/ (c = a /\ b < d))
 rw [Iy,Iy]
 show (if decide (a = c) = true then (if decide (b = d) = true then false else decide (b < d)) else decide (a < c)) = decide (a < c \/ (c = a /\ b < d))
 by_cases h1:a = c
 ·rw [if_pos (decide_eq_true h1)]
  by_cases h2:b = d
  ·rw [if_pos (decide_eq_true h2)]
   exact (decide_eq_false (by omega)).symm
  ·rw [if_neg (by simpa using h2)]
   exact decide_eq_decide.mpr (by omega)
 ·rw [if_neg (by simpa using h1)]
  exact decide_eq_decide.mpr (by omega)
theorem Wh (x y:Int × Int):Hg (wd x) (wd y):=by
 show Hg (.tuple [.int x.1,.int x.2]) (.tuple [.int y.1,.int y.2])
 simp [Hg,CmpbAll]
theorem Ly (x:Int × Int):(wd x).depth <= 50:=by
 show (dP _ _).depth <= 50
 rw [R6]
 show max 0 0 + 1 <= 50
 decide
theorem U8 {H:Hp} {p:Addr} {x:Int × Int} (h:H p = some (.tup [.int x.1,.int x.2])):Rp H (wd x) (.ref p):=Xt h (Jf _) (Jf _)
theorem Wv (x y:Int × Int):PyData.eqv (wd x) (wd y) = decide (x = y):=by
 obtain ⟨a,b⟩ := x
 obtain ⟨c,d⟩ := y
 show PyData.eqv (dP _ _) (dP _ _) = _
 rw [bg,Iy,Iy]
 by_cases h1:a = c <;> by_cases h2:b = d <;> simp [h1,h2]
theorem Oh (f:Nat -> Int × Int):∀ k,argBest (fun i j=>Es (f i) (f j)) k <= k /\ ∀ j,j <= k -> Es (f j) (f (argBest (fun i j=>Es (f i) (f j)) k)) = false
 | 0=>⟨Nat.le_refl _,fun j hj=>by
  have e:j = 0:=by omega
  subst e
  show Es (f 0) (f 0) = false
  unfold Es
  exact decide_eq_false (by omega)⟩
 | k + 1=>by
  obtain ⟨h1,h2⟩ := Oh f k
  rw [E6]
  generalize argBest (fun i j=>Es (f i) (f j)) k = b at h1 h2 ⊢
  by_cases z:Es (f (k + 1)) (f b) = true
  ·rw [if_pos z]
   refine ⟨Nat.le_refl _,fun j hj=>?_⟩
   unfold Es at z h2 ⊢
   have z':=of_decide_eq_true z
   refine decide_eq_false ?_
   rcases Nat.lt_or_ge k j with y | y
   ·have e:j = k + 1:=by omega
    subst e
    omega
   ·have:=of_decide_eq_false (h2 j y)
    omega
  ·rw [if_neg z]
   refine ⟨by omega,fun j hj=>?_⟩
   rcases Nat.lt_or_ge k j with y | y
   ·have e:j = k + 1:=by omega
    subst e
    simpa using z
   ·exact h2 j y
noncomputable def Jj:Option V -> Int × Int
 | some (.int m)=>(0,m)
 | _=>(1,0)
noncomputable def told (tv:List ((List Int × Int) × V)):Option (List Int × Int) -> Int × Int
 | none=>(0,0)
 | some k=>Jj (Ae tv k)
noncomputable def d7 (x y:Int × Int):Int × Int:=if Es x y = true then y else x
noncomputable def Fw (tv:List ((List Int × Int) × V)) (ws ls:List Int) (cm:Option Int) (q:Int) (who:Nat):Int × Int :=
 if E9 cm q = true then d7 (told tv (Cq ws ls cm q who false)) (told tv (Cq ws ls cm q who true)) else told tv (Cq ws ls cm q who false)
noncomputable def Oa (tv:List ((List Int × Int) × V)):Prop := ∀ k v,Ae tv k = some v -> ∃ m:Int,v = .int m
theorem Pc {tv:List ((List Int × Int) × V)} {ws ls:List Int} {cm:Option Int} {q:Int} {who:Nat}:(∀ o ∈ Ay ws ls cm q who,Es (Fw tv ws ls cm q who) (told tv o) = false) /\ ∃ o,o ∈ Ay ws ls cm q who /\ Fw tv ws ls cm q who = told tv o:=by
 rw [Qy]
 unfold O4 Fw
 by_cases z:E9 cm q = true
 ·rw [if_pos z,if_pos z]
  show (∀ o ∈ [Cq ws ls cm q who false,Cq ws ls cm q who true],_) /\ ∃ o,o ∈ [Cq ws ls cm q who false,Cq ws ls cm q who true] /\ _
  unfold d7
  by_cases y:Es (told tv (Cq ws ls cm q who false)) (told tv (Cq ws ls cm q who true)) = true
  ·rw [if_pos y]
   refine ⟨fun o ho=>?_,_,by simp,rfl⟩
   have ho2:o = Cq ws ls cm q who false \/ o = Cq ws ls cm q who true:=by simpa using ho
   unfold Es at y ⊢
   have y':=of_decide_eq_true y
   refine decide_eq_false ?_
   rcases ho2 with e | e <;> subst e <;> omega
  ·rw [if_neg y]
   refine ⟨fun o ho=>?_,_,by simp,rfl⟩
   have ho2:o = Cq ws ls cm q who false \/ o = Cq ws ls cm q who true:=by simpa using ho
   unfold Es at y ⊢
   refine decide_eq_false ?_
   have y':=fun h=>y (decide_eq_true h)
   rcases ho2 with e | e <;> subst e <;> omega
 ·rw [if_neg z,if_neg z]
  refine ⟨fun o ho=>?_,Cq ws ls cm q who false,by simp,rfl⟩
  have e:o = Cq ws ls cm q who false:=by simpa using ho
  subst e
  unfold Es
  exact decide_eq_false (by omega)
theorem Pg {H:Hp}:∀ {ds:List PyData} {us:List V},us.length = ds.length -> (∀ (i:Nat) (d:PyData) (u:V),ds[i]? = some d -> us[i]? = some u -> Rp H d u) -> RpAll H ds us
 | [],us,hl,_=>by
  unfold RpAll
  exact List.length_eq_zero_iff.mp hl
 | d :: ds,[],hl,_=>by simp at hl
 | d :: ds,u :: us,hl,h=>by
  unfold RpAll
  exact ⟨u,us,rfl,h 0 d u rfl rfl,Pg (by simpa using hl) fun i d' u' h1 h2=>h (i + 1) d' u' (by simpa using h1) (by simpa using h2)⟩
theorem Z7 {f:Nat -> Int × Int} {n:Nat} (hn:0 < n):Dq ((List.range n).map fun i=>wd (f i)) < n /\ ∀ j,j < n -> Es (f j) (f (Dq ((List.range n).map fun i=>wd (f i)))) = false:=by
 have e:Dq ((List.range n).map fun i=>wd (f i)) = argBest (fun i j=>Es (f i) (f j)) (n - 1):=by
  unfold Dq
  rw [List.length_map,List.length_range]
  have key:∀ k,k <= n - 1 -> argBest (fun i j=>W4 (((List.range n).map fun i=>wd (f i)).getD i .none) (((List.range n).map fun i=>wd (f i)).getD j .none)) k = argBest (fun i j=>Es (f i) (f j)) k:=fun k=>by
   induction k with
   | zero=>exact fun _=>rfl
   | succ k ih =>
    intro hk
    have b:=(Oh f k).1
    rw [E6,E6,ih (by omega)]
    generalize argBest (fun i j=>Es (f i) (f j)) k = b0 at b ⊢
    have g:∀ i,i < n -> ((List.range n).map fun i=>wd (f i)).getD i .none = wd (f i):=fun i hi=>by
     rw [List.getD_eq_getElem?_getD,List.getElem?_map,List.getElem?_range hi]
     rfl
    show (if W4 (((List.range n).map fun i=>wd (f i)).getD (k + 1) .none) (((List.range n).map fun i=>wd (f i)).getD b0 .none) = true then _ else _) = _
    rw [g _ (by omega),g _ (by omega),d5]
  exact key (n - 1) (Nat.le_refl _)
 rw [e]
 obtain ⟨h1,h2⟩ := Oh f (n - 1)
 exact ⟨by omega,fun j hj=>h2 j (by omega)⟩
noncomputable def Dx (f:Nat -> Int × Int) (n j:Nat):Prop:=j < n /\ (∀ i,i < n -> Es (f i) (f j) = false) /\ ∀ m,m < j -> f m ≠ f j
theorem U2 {Pr:Nat -> Prop}:∀ (b:Nat),Pr b -> ∃ j,j <= b /\ Pr j /\ ∀ m,m < j -> ¬ Pr m:=fun b=>by
 induction b using Nat.strongRecOn with
 | ind b ih =>
  intro hb
  by_cases z:∃ m,m < b /\ Pr m
  ·obtain ⟨m,h1,h2⟩ := z
   obtain ⟨j,j1,j2,j3⟩ := ih m h1 h2
   exact ⟨j,by omega,j2,j3⟩
  ·exact ⟨b,Nat.le_refl _,hb,fun m hm hp=>z ⟨m,hm,hp⟩⟩
theorem Xz {x y:Int × Int} (h1:Es x y = false) (h2:Es y x = false):x = y:=by
 obtain ⟨a,b⟩ := x
 obtain ⟨c,d⟩ := y
 unfold Es at h1 h2
 have g1:=of_decide_eq_false h1
 have g2:=of_decide_eq_false h2
 have e1:a = c:=by
  simp only at g1 g2
  omega
 have e2:b = d:=by
  simp only at g1 g2
  omega
 rw [e1,e2]
theorem Dx.uniq {f:Nat -> Int × Int} {n j k:Nat} (h:Dx f n j) (g:Dx f n k):j = k:=by
 have e:f j = f k:=Xz (g.2.1 j h.1) (h.2.1 k g.1)
 rcases Nat.lt_trichotomy j k with z | z | z
 ·exact absurd e (g.2.2 j z)
 ·exact z
 ·exact absurd e.symm (h.2.2 k z)
theorem Dx.of {f:Nat -> Int × Int} {n j:Nat} (hn:0 < n) (hj:j <= Dq ((List.range n).map fun i=>wd (f i))) (e:f j = f (Dq ((List.range n).map fun i=>wd (f i)))) (h:∀ m,m < j -> ¬ f m = f (Dq ((List.range n).map fun i=>wd (f i)))):Dx f n j:=by
 obtain ⟨b1,b2⟩ := Z7 (f:=f) hn
 refine ⟨by omega,fun i hi=>by rw [e]; exact b2 i hi,fun m hm=>by rw [e]; exact h m hm⟩
noncomputable def S3 (H:Hp) (f:Nat -> Int × Int) (ys:List V):Prop := ∀ (i:Nat) (u:V),ys[i]? = some u -> ∃ p,u = .ref p /\ H p = some (.tup [.int (f i).1,.int (f i).2])
theorem S3.snoc {H H':Hp} {f:Nat -> Int × Int} {ys:List V} {p:Addr} {n:Nat} (h:S3 H f ys) (t:Af H H') (hn:ys.length = n) (e:H' p = some (.tup [.int (f n).1,.int (f n).2])):S3 H' f (ys ++ [.ref p]):=fun i u hu=>by
 rcases Nat.lt_or_ge i ys.length with y | y
 ·rw [List.getElem?_append_left y] at hu
  obtain ⟨p3,e1,e2⟩ := h i u hu
  exact ⟨p3,e1,t _ _ e2⟩
 ·rw [List.getElem?_append_right y] at hu
  have hi0:i - ys.length = 0:=by
   have:=(List.getElem?_eq_some_iff.mp hu).1
   rw [List.length_singleton] at this
   omega
  rw [hi0] at hu
  cases hu
  have ei:i = n:=by omega
  subst ei
  exact ⟨p,rfl,e⟩
theorem S3.rp {H:Hp} {f:Nat -> Int × Int} {ys:List V} {n:Nat} (h:S3 H f ys) (hn:ys.length = n):RpAll H ((List.range n).map fun i=>wd (f i)) ys:=by
 refine Pg (by rw [List.length_map,List.length_range]; exact hn) fun i d u h1 h2=>?_
 obtain ⟨p3,e1,e2⟩ := h i u h2
 subst e1
 rw [List.getElem?_map] at h1
 obtain ⟨i',hi',rfl⟩ := Option.map_eq_some_iff.mp h1
 have hii:i < n:=by
  have:=(List.getElem?_eq_some_iff.mp h2).1
  omega
 rw [List.getElem?_range hii] at hi'
 cases hi'
 exact U8 e2
theorem Tz (f:Nat -> Int × Int) (n:Nat):∀ d ∈ (List.range n).map fun i=>wd (f i),∀ e ∈ (List.range n).map fun i=>wd (f i),Hg d e:=fun d hd e he=>by
 obtain ⟨i1,_,rfl⟩ := List.mem_map.mp hd
 obtain ⟨i2,_,rfl⟩ := List.mem_map.mp he
 exact Wh _ _
theorem Tm (f:Nat -> Int × Int) (n:Nat):∀ d ∈ (List.range n).map fun i=>wd (f i),d.depth <= 50:=fun d hd=>by
 obtain ⟨i1,_,rfl⟩ := List.mem_map.mp hd
 exact Ly _
theorem Ys (f:Nat -> Int × Int) {n i:Nat} (h:i < n):((List.range n).map fun i=>wd (f i))[i]? = some (wd (f i)):=by
 rw [List.getElem?_map,List.getElem?_range h]
 rfl
theorem Xg {f:Nat -> Int × Int} {n i:Nat} {e:PyData} (h:((List.range n).map fun i=>wd (f i))[i]? = some e):e = wd (f i):=by
 rw [List.getElem?_map] at h
 obtain ⟨i',hi',rfl⟩ := Option.map_eq_some_iff.mp h
 have hii:i < n:=by
  have:=(List.getElem?_eq_some_iff.mp hi').1
  rwa [List.length_range] at this
 rw [List.getElem?_range hii] at hi'
 cases hi'
 rfl
noncomputable def Cg (tv:List ((List Int × Int) × V)) (ws ls:List Int) (cm:Option Int) (q:Int) (who:Nat):Bool:=E9 cm q && Es (told tv (Cq ws ls cm q who false)) (told tv (Cq ws ls cm q who true))
theorem F7 {tv:List ((List Int × Int) × V)} {k:List Int × Int} {m:Int} (h:Ae tv k = some (.int m)):told tv (some k) = (0,m):=by
 show Jj (Ae tv k) = _
 rw [h]
 rfl
theorem Ff {ws:List Int} {cm:Option Int} {tv:List ((List Int × Int) × V)} (h:Bz ws cm tv) (o:Option (List Int × Int)):(o = none /\ told tv o = (0,0)) \/ (∃ k m,o = some k /\ Ae tv k = some (.int m) /\ 1 <= m /\ told tv o = (0,m)) \/ told tv o = (1,0):=by
 cases o with
 | none=>exact .inl ⟨rfl,rfl⟩
 | some k =>
  cases hv:Ae tv k with
  | none =>
   refine .inr (.inr ?_)
   show Jj (Ae tv k) = _
   rw [hv]
   rfl
  | some v =>
   obtain ⟨m,e1,h1,_⟩ := h.1 k v hv
   subst e1
   exact .inr (.inl ⟨k,m,rfl,hv,h1,F7 hv⟩)
theorem Qk {ws:List Int} {cm:Option Int} {tv:List ((List Int × Int) × V)} {k b:List Int × Int} {m:Int} {who:Nat} (h:Bz ws cm tv) (hv:Ae tv k = some (.int m)) (hw:who < ws.length) (ho:Cq ws k.1 cm k.2 who (Cg tv ws k.1 cm k.2 who) = some b):∃ m':Int,Ae tv b = some (.int m') /\ 1 <= m' /\ m' <= m - 1:=by
 obtain ⟨m0,e0,h1,hks,p1,p2⟩ := h.1 k _ hv
 cases e0
 have U2:∀ o ∈ Ay ws k.1 cm k.2 who,Es (told tv (some b)) (told tv o) = false:=fun o hm=>by
  have g:∀ x:Int × Int,Es x x = false:=fun x=>by
   unfold Es
   exact decide_eq_false (by omega)
  have asym:∀ x y:Int × Int,Es x y = true -> Es y x = false:=fun x y e=>by
   unfold Es at e ⊢
   have:=of_decide_eq_true e
   exact decide_eq_false (by omega)
  unfold Cg at ho
  unfold Ay at hm
  by_cases z:E9 cm k.2 = true
  ·rw [if_pos z] at hm
   rw [z,Bool.true_and] at ho
   have hm2:o = Cq ws k.1 cm k.2 who false \/ o = Cq ws k.1 cm k.2 who true:=by simpa using hm
   cases y:Es (told tv (Cq ws k.1 cm k.2 who false)) (told tv (Cq ws k.1 cm k.2 who true)) with
   | true =>
    rw [y] at ho
    rw [<- ho]
    rcases hm2 with e | e <;> rw [e]
    ·exact asym _ _ y
    ·exact g _
   | false =>
    rw [y] at ho
    rw [<- ho]
    rcases hm2 with e | e <;> rw [e]
    ·exact g _
    ·exact y
  ·rw [if_neg z] at hm
   have z':E9 cm k.2 = false:=by simpa using z
   rw [z',Bool.false_and] at ho
   have hm2:o = Cq ws k.1 cm k.2 who false:=by simpa using hm
   rw [hm2,ho]
   exact g _
 have key:∃ c:Int,Es (told tv (some b)) (0,c) = false /\ c <= m - 1:=by
  rcases p1 who hw with z | ⟨later,m',z1,z2,z3⟩
  ·exact ⟨0,U2 none z,by omega⟩
  ·have:=U2 _ z1
   rw [F7 z2] at this
   exact ⟨m',this,z3⟩
 obtain ⟨c,c1,c2⟩ := key
 unfold Es at c1
 have c3:=of_decide_eq_false c1
 rcases Ff h (some b) with ⟨e,_⟩ | ⟨k',m',e,e1,e2,e3⟩ | e
 ·cases e
 ·cases e
  rw [e3] at c3
  have c4:¬ ((0:Int) < 0 \/ ((0:Int) = 0 /\ c < m')):=c3
  exact ⟨m',e1,e2,by omega⟩
 ·rw [e] at c3
  have c4:¬ ((0:Int) < 1 \/ ((1:Int) = 0 /\ c < 0)):=c3
  omega
theorem Vc {ws : List Int} {cm : Option Int} {tv : List ((List Int × Int) × V)} {k : List Int × Int} {m : Int} {b : Nat} (h : Bz ws cm tv) (hv : Ae tv k = some (.int m)) (hn : 0 < ws.length) (hb : b < ws.length)
  (hbest:∀ j,j < ws.length -> Es (Fw tv ws k.1 cm k.2 j) (Fw tv ws k.1 cm k.2 b) = false):Fw tv ws k.1 cm k.2 b = (0,m - 1):=by
 obtain ⟨m0,e0,h1,_,p1,p2⟩ := h.1 k _ hv
 cases e0
 have up:∀ j,j < ws.length -> (Fw tv ws k.1 cm k.2 j).1 = 0 /\ 0 <= (Fw tv ws k.1 cm k.2 j).2 /\ (Fw tv ws k.1 cm k.2 j).2 <= m - 1:=fun j hj=>by
  obtain ⟨w1,o,w2,w3⟩ := Pc (tv:=tv) (ws:=ws) (ls:=k.1) (cm:=cm) (q:=k.2) (who:=j)
  rw [w3] at w1 ⊢
  have key:∃ c:Int,Es (told tv o) (0,c) = false /\ c <= m - 1:=by
   rcases p1 j hj with z | ⟨later,m',z1,z2,z3⟩
   ·exact ⟨0,w1 none z,by omega⟩
   ·have:=w1 _ z1
    rw [F7 z2] at this
    exact ⟨m',this,z3⟩
  obtain ⟨c,c1,c2⟩ := key
  unfold Es at c1
  have c3:=of_decide_eq_false c1
  rcases Ff h o with ⟨_,e⟩ | ⟨_,m',_,_,e1,e⟩ | e
  ·rw [e]
   exact ⟨rfl,Int.le_refl _,by show (0:Int) <= m - 1; omega⟩
  ·rw [e] at c3 ⊢
   have c4:¬ ((0:Int) < 0 \/ ((0:Int) = 0 /\ c < m')):=c3
   exact ⟨rfl,by show (0:Int) <= m'; omega,by show m' <= m - 1; omega⟩
  ·rw [e] at c3
   have c4:¬ ((0:Int) < 1 \/ ((1:Int) = 0 /\ c < 0)):=c3
   omega
 have low:∃ j,j < ws.length /\ m - 1 <= (Fw tv ws k.1 cm k.2 j).2:=by
  rcases p2 with z | ⟨who,z1,z2,z3⟩
  ·exact ⟨0,hn,by have:=up 0 hn; omega⟩
  ·refine ⟨who,z1,?_⟩
   have u:=up who z1
   obtain ⟨_,o,w2,w3⟩ := Pc (tv:=tv) (ws:=ws) (ls:=k.1) (cm:=cm) (q:=k.2) (who:=who)
   rw [w3] at u ⊢
   rcases Ff h o with ⟨e0,e⟩ | ⟨l,m',e0,e2,e1,e⟩ | e
   ·rw [e0] at w2
    exact absurd w2 z2
   ·rw [e0] at w2
    have:=z3 l m' w2 e2
    rw [e]
    exact this
   ·rw [e] at u
    simp only at u
    omega
 obtain ⟨j,j1,j2⟩ := low
 have u:=up j j1
 have ub:=up b hb
 have g:=hbest j j1
 unfold Es at g
 have g':=of_decide_eq_false g
 refine Prod.ext ub.1 ?_
 show (Fw tv ws k.1 cm k.2 b).2 = m - 1
 omega
noncomputable def cf (tv:List ((List Int × Int) × V)) (k:List Int × Int) (o:Option (List Int × Int)):Prop:=(Ae tv k = none -> ∃ b,o = some b /\ Ae tv b = none) /\ ∀ m:Int,Ae tv k = some (.int m) -> (o = none -> m = 1) /\ ∀ (b:List Int × Int) (m':Int),o = some b -> Ae tv b = some (.int m') -> m - 1 <= m'
theorem X3 {ws:List Int} {cm:Option Int} {tv:List ((List Int × Int) × V)} (h:Bz ws cm tv) {o:Option (List Int × Int)} (e:told tv o = (1,0)):∃ b,o = some b /\ Ae tv b = none:=by
 cases o with
 | none=>cases e
 | some b =>
  refine ⟨b,rfl,?_⟩
  cases hv:Ae tv b with
  | none=>rfl
  | some v =>
   obtain ⟨m,e1,_⟩ := h.1 b v hv
   subst e1
   rw [F7 hv] at e
   cases e
theorem Zh {ws:List Int} {cm:Option Int} {tv:List ((List Int × Int) × V)} {k:List Int × Int} {j:Nat} {o:Option (List Int × Int)} (h:Bz ws cm tv) (hk:k ∈ Ar ws (qv cm)) (hn:0 < ws.length) (hb:Dx (fun i=>Fw tv ws k.1 cm k.2 i) ws.length j) (ho:o ∈ Ay ws k.1 cm k.2 j):cf tv k o:=by
 obtain ⟨w1,o1,w2,w3⟩ := Pc (tv:=tv) (ws:=ws) (ls:=k.1) (cm:=cm) (q:=k.2) (who:=j)
 have wo:=w1 o ho
 refine ⟨fun hv=>?_,fun m hv=>?_⟩
 ·obtain ⟨who,y1,y2,y3⟩ := h.2 k hk hv
  obtain ⟨v1,o2,v2,v3⟩ := Pc (tv:=tv) (ws:=ws) (ls:=k.1) (cm:=cm) (q:=k.2) (who:=who)
  have e2:told tv o2 = (1,0):=by
   cases o2 with
   | none=>exact absurd v2 y2
   | some b =>
    show Jj (Ae tv b) = _
    rw [y3 b v2]
    rfl
  have hbest:=hb.2.1 who y1
  simp only at hbest
  rw [v3,e2] at hbest
  refine X3 h ?_
  unfold Es at hbest wo
  have g1:=of_decide_eq_false hbest
  have g2:=of_decide_eq_false wo
  rcases Ff h o with ⟨_,e⟩ | ⟨_,m',_,_,e1,e⟩ | e
  ·rw [e] at g2
   simp only at g1 g2
   omega
  ·rw [e] at g2
   simp only at g1 g2
   omega
  ·exact e
 ·obtain ⟨m0,e0,h1,_⟩ := h.1 k _ hv
  cases e0
  have hbr:=Vc h hv hn hb.1 hb.2.1
  rw [hbr] at wo
  unfold Es at wo
  have g2:=of_decide_eq_false wo
  refine ⟨fun e=>?_,fun b m' e hv'=>?_⟩
  ·subst e
   have e3:told tv none = (0,0):=rfl
   rw [e3] at g2
   have g3:¬ ((0:Int) < 0 \/ ((0:Int) = 0 /\ (0:Int) < m - 1)):=g2
   omega
  ·subst e
   rw [F7 hv'] at g2
   have g3:¬ ((0:Int) < 0 \/ ((0:Int) = 0 /\ m' < m - 1)):=g2
   omega
theorem Ry (a b:List Int × Int):PyData.eqv (dS a) (dS b) = decide (a = b):=by
 show (PyData.eqvAll (a.1.map PyData.int) (b.1.map PyData.int) && (PyData.eqv (.int a.2) (.int b.2) && true)) = _
 rw [Ek]
 have e:PyData.eqv (.int a.2) (.int b.2) = decide (a.2 = b.2):=by
  show (a.2 == b.2) = _
  rw [Bool.eq_iff_iff]
  simp
 rw [e,Bool.and_true,Bool.eq_iff_iff]
 simp [Prod.ext_iff]
noncomputable def Fz (o:Option HO):Nat:=match o with
 | some (.lst vs)=>vs.length
 | _=>0
noncomputable def Du (o:Option HO):Nat:=match o with
 | some (.dT wv)=>wv.length
 | _=>0
theorem Og {α:Type} {xs:List α} (h:0 < xs.length):∃ y,xs[xs.length - 1]? = some y:=⟨xs[xs.length - 1],List.getElem?_eq_getElem (by omega)⟩
theorem Ad.take {α:Type} {P:α -> V -> Prop} {rs:List α} {vs:List V} (h:Ad P rs vs) (n:Nat):Ad P (rs.take n) (vs.take n):=by
 refine ⟨by rw [List.length_take,List.length_take,h.1],fun i r v e1 e2=>?_⟩
 rcases Nat.lt_or_ge i n with z | z
 ·rw [List.getElem?_take_of_lt z] at e1 e2
  exact h.2 i r v e1 e2
 ·rw [List.getElem?_take_eq_none z] at e1
  cases e1
inductive jw (ws:List Int) (cm:Option Int) (tv:List ((List Int × Int) × V)):(List Int × Int) -> Prop
 | base:jw ws cm tv (ws,0)
 | step {k k':List Int × Int} {j:Nat}:jw ws cm tv k -> Dx (fun i=>Fw tv ws k.1 cm k.2 i) ws.length j -> some k' ∈ Ay ws k.1 cm k.2 j -> jw ws cm tv k'
noncomputable def Sf (ws:List Int) (cm:Option Int) (tv:List ((List Int × Int) × V)) (k:List Int × Int):Prop:=k ∈ Ar ws (qv cm) /\ Ae tv k = none /\ jw ws cm tv k
structure Oi (ws:List Int) (cm:Option Int) (tv cv:List ((List Int × Int) × V)) (E:List (List Int × Int)):Prop where
 nd:(cv.map (·.1)).Nodup
 sf:∀ k ∈ E,Sf ws cm tv k
 ent:∀ kv ∈ cv,Sf ws cm tv kv.1 /\ ∃ j:Nat,kv.2 = .int (j:Int) /\ Dx (fun i=>Fw tv ws kv.1.1 cm kv.1.2 i) ws.length j /\ ∀ o ∈ Ay ws kv.1.1 cm kv.1.2 j,∃ k',o = some k' /\ (k' ∈ cv.map (·.1) \/ k' ∈ E)
 beg:(ws,0) ∈ cv.map (·.1) \/ (ws,0) ∈ E
theorem Oi.len {ws:List Int} {cm:Option Int} {tv cv:List ((List Int × Int) × V)} {E:List (List Int × Int)} (h:Oi ws cm tv cv E) (hok:Dg ws cm):cv.length <= 300:=by
 have h1:=List.Nodup.length_le_of_subset h.nd (show cv.map (·.1) ⊆ Ar ws (qv cm) from fun k hk=>by
  obtain ⟨kv,hkv,rfl⟩ := List.mem_map.mp hk
  exact (h.ent kv hkv).1.1)
 have h2:=Gp (ws:=ws) (q:=qv cm) (fun w hw=>(hok.1 w hw).1) (by have:=hok.qv.1; omega)
 have h3:=hok.2.2.2.2
 rw [List.length_map] at h1
 omega
theorem Oi.start {ws:List Int} {cm:Option Int} {tv:List ((List Int × Int) × V)} (h:Sf ws cm tv (ws,0)):Oi ws cm tv [] [(ws,0)]:=⟨List.nodup_nil,fun k hk=>by cases List.mem_singleton.mp hk; exact h,(fun kv hkv=>by cases hkv),.inr (List.mem_singleton.mpr rfl)⟩
theorem Oi.skip {ws:List Int} {cm:Option Int} {tv cv:List ((List Int × Int) × V)} {E:List (List Int × Int)} {k:List Int × Int} (h:Oi ws cm tv cv (E ++ [k])) (hk:k ∈ cv.map (·.1)):Oi ws cm tv cv E:=by
 have key:∀ x,x ∈ cv.map (·.1) \/ x ∈ E ++ [k] -> x ∈ cv.map (·.1) \/ x ∈ E:=fun x hx=>by
  rcases hx with z | z
  ·exact .inl z
  ·rcases List.mem_append.mp z with y | y
   ·exact .inr y
   ·rw [List.mem_singleton.mp y]
    exact .inl hk
 refine ⟨h.nd,fun x hx=>h.sf x (List.mem_append_left _ hx),fun kv hkv=>?_,key _ h.beg⟩
 obtain ⟨h1,j,h2,h3,h4⟩ := h.ent kv hkv
 refine ⟨h1,j,h2,h3,fun o ho=>?_⟩
 obtain ⟨k',e,z⟩ := h4 o ho
 exact ⟨k',e,key _ z⟩
theorem Oi.put {ws:List Int} {cm:Option Int} {tv cv:List ((List Int × Int) × V)} {E Eb:List (List Int × Int)} {k:List Int × Int} {j:Nat} (h:Oi ws cm tv cv (E ++ [k])) (hk:Ae cv k = none) (hb:Dx (fun i=>Fw tv ws k.1 cm k.2 i) ws.length j) (he:Ay ws k.1 cm k.2 j = Eb.map some) (hs:∀ x ∈ Eb,Sf ws cm tv x):Oi ws cm tv (Bb cv k (.int (j:Int))) (E ++ Eb):=by
 have ep:=C5 (kvs:=cv) (k:=k) (.int (j:Int)) hk
 have key:∀ x,x ∈ cv.map (·.1) \/ x ∈ E ++ [k] -> x ∈ (Bb cv k (.int (j:Int))).map (·.1) \/ x ∈ E ++ Eb:=fun x hx=>by
  rw [ep,List.map_append]
  rcases hx with z | z
  ·exact .inl (List.mem_append_left _ z)
  ·rcases List.mem_append.mp z with y | y
   ·exact .inr (List.mem_append_left _ y)
   ·rw [List.mem_singleton.mp y]
    exact .inl (List.mem_append_right _ (by simp))
 refine ⟨P5 _ h.nd hk,fun x hx=>?_,fun kv hkv=>?_,key _ h.beg⟩
 ·rcases List.mem_append.mp hx with y | y
  ·exact h.sf x (List.mem_append_left _ y)
  ·exact hs x y
 ·have hkv':=hkv
  rw [ep] at hkv'
  rcases List.mem_append.mp hkv' with z | z
  ·obtain ⟨h1,i,h2,h3,h4⟩ := h.ent kv z
   refine ⟨h1,i,h2,h3,fun o ho=>?_⟩
   obtain ⟨k',e,y⟩ := h4 o ho
   exact ⟨k',e,key _ y⟩
  ·rw [List.mem_singleton.mp z]
   refine ⟨h.sf k (by simp),j,rfl,hb,fun o ho=>?_⟩
   rw [he] at ho
   obtain ⟨x,hx,rfl⟩ := List.mem_map.mp ho
   exact ⟨x,rfl,.inr (List.mem_append_right _ hx)⟩
noncomputable def Um (ws:List Int) (cm:Option Int) (tv ps:List ((List Int × Int) × V)):Prop:=Oi ws cm tv ps [] /\ ps.Pairwise fun x y=>Io (dS x.1) (dS y.1) = true
theorem Oi.perm {ws:List Int} {cm:Option Int} {tv cv ps:List ((List Int × Int) × V)} (h:Oi ws cm tv cv []) (hp:ps.Perm cv):Oi ws cm tv ps []:=by
 have hm:=hp.map (·.1)
 refine ⟨hm.nodup_iff.mpr h.nd,h.sf,fun kv hkv=>?_,?_⟩
 ·obtain ⟨h1,j,h2,h3,h4⟩ := h.ent kv (hp.mem_iff.mp hkv)
  refine ⟨h1,j,h2,h3,fun o ho=>?_⟩
  obtain ⟨k',e,z⟩ := h4 o ho
  exact ⟨k',e,z.imp (fun y=>hm.mem_iff.mpr y) id⟩
 ·exact h.beg.imp (fun y=>hm.mem_iff.mpr y) id
theorem Zs {ws:List Int} {cm:Option Int} {tv:List ((List Int × Int) × V)} {k:List Int × Int} {j:Nat} (hrk:Bz ws cm tv) (hok:Dg ws cm) (h:Sf ws cm tv k) (hb:Dx (fun i=>Fw tv ws k.1 cm k.2 i) ws.length j):∃ Eb:List (List Int × Int),Ay ws k.1 cm k.2 j = Eb.map some /\ (∀ x ∈ Eb,Sf ws cm tv x) /\ Eb.length <= 2:=by
 have all:∀ o ∈ Ay ws k.1 cm k.2 j,∃ b,o = some b /\ Sf ws cm tv b:=fun o ho=>by
  obtain ⟨b,e,hv⟩ := (Zh hrk h.1 hok.2.2.1 hb ho).1 h.2.1
  subst e
  obtain ⟨lost,hl,e2⟩ := ft.mp ho
  exact ⟨b,rfl,Yg (fun w hw=>(hok.1 w hw).1) h.1 hb.1 hl e2,hv,.step h.2.2 hb ho⟩
 have key:∀ l:List (Option (List Int × Int)),(∀ o ∈ l,∃ b,o = some b /\ Sf ws cm tv b) -> ∃ Eb:List (List Int × Int),l = Eb.map some /\ (∀ x ∈ Eb,Sf ws cm tv x):=by
  intro l
  induction l with
  | nil=>exact fun _=>⟨[],rfl,fun x hx=>by cases hx⟩
  | cons o l ih =>
   intro hl
   obtain ⟨Eb,e1,e2⟩ := ih fun o ho=>hl o (List.mem_cons_of_mem _ ho)
   obtain ⟨b,e3,e4⟩ := hl o List.mem_cons_self
   refine ⟨b :: Eb,by rw [e3,e1]; rfl,fun x hx=>?_⟩
   rcases List.mem_cons.mp hx with y | y
   ·rw [y]
    exact e4
   ·exact e2 x y
 obtain ⟨Eb,e1,e2⟩ := key _ all
 refine ⟨Eb,e1,e2,?_⟩
 have hl:Eb.length = (Ay ws k.1 cm k.2 j).length:=by rw [e1,List.length_map]
 rw [hl]
 unfold Ay
 split <;> simp
theorem Y2 {H:Hp} {Eb:List (List Int × Int)} {us:List V} (h:Ad (D2 H) (Eb.map some) us):Ad (Dr H) Eb us:=by
 refine ⟨by rw [h.1,List.length_map],fun i r v e1 e2=>?_⟩
 obtain ⟨b,e3,u,e4,e5⟩ := h.2 i (some r) v (by rw [List.getElem?_map,e1]; rfl) e2
 exact ⟨b,u,e3,e4,e5⟩
theorem Eo:∀ xs ys:List Int,ltvAll (xs.map PyData.int) (ys.map PyData.int) = true -> ltvAll (ys.map PyData.int) (xs.map PyData.int) = false
 | [],[],_=>rfl
 | [],y :: ys,h=>rfl
 | x :: xs,[],h=>by simp [ltvAll] at h
 | x :: xs,y :: ys,h=>by
  have e:∀ a b:Int,PyData.eqv (.int a) (.int b) = decide (a = b):=fun a b=>by
   show (a == b) = _
   rw [Bool.eq_iff_iff]
   simp
  rw [List.map_cons,List.map_cons,ltvAll,e] at h ⊢
  by_cases z:x = y
  ·subst z
   rw [if_pos (by simp)] at h ⊢
   exact Eo xs ys h
  ·rw [if_neg (by simp; exact z)] at h
   rw [if_neg (by simp; exact fun y=>z y.symm)]
   have h1:x < y:=of_decide_eq_true h
   exact decide_eq_false (by omega)
theorem Pp {a b:List Int × Int} (h:Io (dS a) (dS b) = true):Io (dS b) (dS a) = false:=by
 have h':ltvAll [dT a.1,.int a.2] [dT b.1,.int b.2] = true:=h
 show ltvAll [dT b.1,.int b.2] [dT a.1,.int a.2] = false
 rw [ltvAll,Xu] at h' ⊢
 by_cases z:a.1 = b.1
 ·rw [if_pos (by simp [z])] at h' ⊢
  exact Eo [a.2] [b.2] h'
 ·rw [if_neg (by simp [z])] at h'
  rw [if_neg (by simp; exact fun y=>z y.symm)]
  exact Eo a.1 b.1 h'
theorem Gg {L:List (List Int × Int)} (hs:L.Pairwise fun a b=>Io (dS a) (dS b) = true) {a b:List Int × Int} (ha:a ∈ L) (hb:b ∈ L):Io (dS a) (dS b) = decide (L.idxOf a < L.idxOf b):=by
 have la:=List.idxOf_lt_length_of_mem ha
 have lb:=List.idxOf_lt_length_of_mem hb
 have ea:L[L.idxOf a] = a:=List.getElem_idxOf la
 have eb:L[L.idxOf b] = b:=List.getElem_idxOf lb
 have hp:=List.pairwise_iff_getElem.mp hs
 rcases Nat.lt_trichotomy (L.idxOf a) (L.idxOf b) with z | z | z
 ·have:=hp _ _ la lb z
  rw [ea,eb] at this
  rw [this,decide_eq_true z]
 ·have e : a = b := by
   rw [<- ea,<- eb]
   congr 1
  subst e
  rw [decide_eq_false (Nat.lt_irrefl _)]
  exact Tl a
 ·have:=hp _ _ lb la z
  rw [ea,eb] at this
  rw [Pp this,decide_eq_false (by omega)]
theorem P0 (j:Int):ltvAll [PyData.int j] [PyData.int j] = false:=by
 rw [ltvAll,if_pos (show PyData.eqv (.int j) (.int j) = true from PySem.SeqAt.eqv_refl _ rfl)]
 rfl
noncomputable def Hd (kv:(List Int × Int) × V):PyData:=match kv.2 with
 | .int i=>.int i
 | _=>.none
theorem Rg {ws:List Int} {cm:Option Int} {tv cv:List ((List Int × Int) × V)} (h:Oi ws cm tv cv []):∀ a ∈ cv,∀ b ∈ cv,Wt (Gu Hd a) (Gu Hd b) /\ Io (Gu Hd a) (Gu Hd b) = decide ((Ar ws (qv cm)).idxOf a.1 < (Ar ws (qv cm)).idxOf b.1):=fun a ha b hb=>by
 obtain ⟨⟨a1,_⟩,i,ei,_⟩ := h.ent a ha
 obtain ⟨⟨b1,_⟩,j,ej,_⟩ := h.ent b hb
 have wa:Hd a = .int i:=by unfold Hd; rw [ei]
 have wb:Hd b = .int j:=by unfold Hd; rw [ej]
 have cs:∀ x y:List Int,CmpbAll (x.map PyData.int) (y.map PyData.int):=by
  intro x
  induction x with
  | nil=>intro y; unfold CmpbAll; trivial
  | cons u x ih =>
   intro y
   cases y with
   | nil=>unfold CmpbAll; trivial
   | cons v y=>exact ⟨trivial,ih y⟩
 refine ⟨?_,?_⟩
 ·show Ha [dS a.1,Hd a] [dS b.1,Hd b]
  rw [wa,wb]
  exact Tx ⟨⟨cs _ _,trivial,trivial⟩,trivial,trivial⟩
 ·show ltvAll [dS a.1,Hd a] [dS b.1,Hd b] = _
  rw [ltvAll,Ry,wa,wb]
  by_cases z:a.1 = b.1
  ·rw [if_pos (by simp [z])]
   have e:a = b:=by
    obtain ⟨ka,va⟩ := a
    obtain ⟨kb,vb⟩ := b
    have z':ka = kb:=z
    subst z'
    have h1:=Cb h.nd ha
    have h2:=Cb h.nd hb
    rw [h1] at h2
    rw [Option.some.inj h2]
   subst e
   have eij:(i:Int) = j:=by
    rw [ei] at ej
    injection ej
   rw [eij,decide_eq_false (Nat.lt_irrefl _)]
   exact P0 j
  ·rw [if_neg (by simp [z])]
   exact Gg (Di ws (qv cm)) a1 b1
theorem aa {ws:List Int} {cm:Option Int} {tv cv ps:List ((List Int × Int) × V)} (h:Oi ws cm tv cv []) (hp:ps.Perm cv) (hs:ps.Pairwise fun x y=>(Ar ws (qv cm)).idxOf x.1 <= (Ar ws (qv cm)).idxOf y.1):Um ws cm tv ps:=by
 have h':=h.perm hp
 refine ⟨h',?_⟩
 have hn:=List.pairwise_map.mp h'.nd
 refine List.Pairwise.imp_of_mem (fun {x y} hx hy z=>?_) (hs.and hn)
 have hx1:=(h'.ent x hx).1.1
 have hy1:=(h'.ent y hy).1.1
 rw [Gg (Di ws (qv cm)) hx1 hy1]
 refine decide_eq_true (Nat.lt_of_le_of_ne z.1 fun e=>z.2 ?_)
 have lx:=List.idxOf_lt_length_of_mem hx1
 have ly:=List.idxOf_lt_length_of_mem hy1
 rw [<- List.getElem_idxOf lx,<- List.getElem_idxOf ly]
 congr 1
theorem Kr {H:Hp}:∀ {ps:List ((List Int × Int) × V)} {us:List V},Paired (Yc H) ps us -> Ad (Yc H) ps us
 | _,_,.nil=>Ad.nil
 | _,_,.cons r t=>Ad.cons r (Kr t)
theorem d6 {i:Nat} {v:V} {σ:L2.St} {H:Hp} {Q:L2.St -> Hp -> Prop} (h:Q (List.set σ i (some v)) H):Ie i v σ H Q:=h
theorem fi {c:TT} {tb u:TS} {D:Ju} {σ:L2.St} {H:Hp} (h:Oe c tb { D with nx:=u D } σ H):jg (Oe c tb) u D σ H:=h
theorem Wp {H:Hp} {b:Addr} {k:List Int × Int} (h:E2 H b k):Rp H (dS k) (.ref b):=by
 obtain ⟨u,h1,h2⟩ := h
 exact Xt h1 (ar h2) (by unfold Rp; rfl)
theorem dl (a b:List Int × Int):Hg (dS a) (dS b):=by
 have cs:∀ x y:List Int,CmpbAll (x.map PyData.int) (y.map PyData.int):=by
  intro x
  induction x with
  | nil=>intro y; unfold CmpbAll; trivial
  | cons u x ih =>
   intro y
   cases y with
   | nil=>unfold CmpbAll; trivial
   | cons v y=>exact ⟨trivial,ih y⟩
 exact ⟨cs _ _,trivial,trivial⟩
noncomputable def Dy (tv:List ((List Int × Int) × V)) (ws ls:List Int) (cm:Option Int) (q:Int):List Bool:=(List.range ws.length).map fun w=>Cg tv ws ls cm q w
theorem Da (tv:List ((List Int × Int) × V)) (ws ls:List Int) (cm:Option Int) (q:Int):(Dy tv ws ls cm q).length = ws.length:=by unfold Dy; rw [List.length_map,List.length_range]
theorem K4 {tv:List ((List Int × Int) × V)} {ws ls:List Int} {cm:Option Int} {q:Int} {i:Nat} (h:i < ws.length):(Dy tv ws ls cm q)[i]? = some (Cg tv ws ls cm q i):=by
 unfold Dy
 rw [List.getElem?_map,List.getElem?_range h]
 rfl
noncomputable def Jl (tv:List ((List Int × Int) × V)) (ws:List Int) (cm:Option Int) (k:List Int × Int) (who:Nat):Option (List Int × Int):=Cq ws k.1 cm k.2 who (Cg tv ws k.1 cm k.2 who)
inductive Wn (ws:List Int) (cm:Option Int) (tv:List ((List Int × Int) × V)):(List Int × Int) -> Prop
 | base:Wn ws cm tv (ws,0)
 | step {k k':List Int × Int} {j:Nat}:Wn ws cm tv k -> j < ws.length -> Jl tv ws cm k j = some k' -> Wn ws cm tv k'
noncomputable def Uf (ws:List Int) (cm:Option Int) (tv:List ((List Int × Int) × V)) (k:List Int × Int):Prop:=k ∈ Ar ws (qv cm) /\ (∃ m:Int,Ae tv k = some (.int m)) /\ Wn ws cm tv k
structure Pf (ws:List Int) (cm:Option Int) (tv cv:List ((List Int × Int) × V)) (E:List (List Int × Int)):Prop where
 nd:(cv.map (·.1)).Nodup
 sf:∀ k ∈ E,Uf ws cm tv k
 ent:∀ kv ∈ cv,Uf ws cm tv kv.1 /\ ∀ j k',j < ws.length -> Jl tv ws cm kv.1 j = some k' -> k' ∈ cv.map (·.1) \/ k' ∈ E
 beg:(ws,0) ∈ cv.map (·.1) \/ (ws,0) ∈ E
theorem Pf.len {ws:List Int} {cm:Option Int} {tv cv:List ((List Int × Int) × V)} {E:List (List Int × Int)} (h:Pf ws cm tv cv E) (hok:Dg ws cm):cv.length <= 300:=by
 have h1:=List.Nodup.length_le_of_subset h.nd (show cv.map (·.1) ⊆ Ar ws (qv cm) from fun k hk=>by
  obtain ⟨kv,hkv,rfl⟩ := List.mem_map.mp hk
  exact (h.ent kv hkv).1.1)
 have h2:=Gp (ws:=ws) (q:=qv cm) (fun w hw=>(hok.1 w hw).1) (by have:=hok.qv.1; omega)
 have h3:=hok.2.2.2.2
 rw [List.length_map] at h1
 omega
theorem Pf.start {ws:List Int} {cm:Option Int} {tv:List ((List Int × Int) × V)} (h:Uf ws cm tv (ws,0)):Pf ws cm tv [] [(ws,0)]:=⟨List.nodup_nil,fun k hk=>by cases List.mem_singleton.mp hk; exact h,(fun kv hkv=>by cases hkv),.inr (List.mem_singleton.mpr rfl)⟩
theorem Pf.skip {ws:List Int} {cm:Option Int} {tv cv:List ((List Int × Int) × V)} {E:List (List Int × Int)} {k:List Int × Int} (h:Pf ws cm tv cv (E ++ [k])) (hk:k ∈ cv.map (·.1)):Pf ws cm tv cv E:=by
 have key:∀ x,x ∈ cv.map (·.1) \/ x ∈ E ++ [k] -> x ∈ cv.map (·.1) \/ x ∈ E:=fun x hx=>by
  rcases hx with z | z
  ·exact .inl z
  ·rcases List.mem_append.mp z with y | y
   ·exact .inr y
   ·rw [List.mem_singleton.mp y]
    exact .inl hk
 exact ⟨h.nd,fun x hx=>h.sf x (List.mem_append_left _ hx),fun kv hkv=>⟨(h.ent kv hkv).1,fun j k' h1 h2=>key _ ((h.ent kv hkv).2 j k' h1 h2)⟩,key _ h.beg⟩
theorem Pf.put {ws:List Int} {cm:Option Int} {tv cv:List ((List Int × Int) × V)} {E:List (List Int × Int)} {k:List Int × Int} {v:V} (h:Pf ws cm tv cv (E ++ [k])) (hk:Ae cv k = none) (hs:∀ x ∈ (List.range ws.length).filterMap (Jl tv ws cm k),Uf ws cm tv x):Pf ws cm tv (Bb cv k v) (E ++ (List.range ws.length).filterMap (Jl tv ws cm k)):=by
 have ep:=C5 (kvs:=cv) (k:=k) v hk
 have key:∀ x,x ∈ cv.map (·.1) \/ x ∈ E ++ [k] -> x ∈ (Bb cv k v).map (·.1) \/ x ∈ E ++ (List.range ws.length).filterMap (Jl tv ws cm k):=fun x hx=>by
  rw [ep,List.map_append]
  rcases hx with z | z
  ·exact .inl (List.mem_append_left _ z)
  ·rcases List.mem_append.mp z with y | y
   ·exact .inr (List.mem_append_left _ y)
   ·rw [List.mem_singleton.mp y]
    exact .inl (List.mem_append_right _ (by simp))
 refine ⟨P5 _ h.nd hk,fun x hx=>?_,fun kv hkv=>?_,key _ h.beg⟩
 ·rcases List.mem_append.mp hx with y | y
  ·exact h.sf x (List.mem_append_left _ y)
  ·exact hs x y
 ·have hkv':=hkv
  rw [ep] at hkv'
  rcases List.mem_append.mp hkv' with z | z
  ·exact ⟨(h.ent kv z).1,fun j k' h1 h2=>key _ ((h.ent kv z).2 j k' h1 h2)⟩
  ·rw [List.mem_singleton.mp z]
   exact ⟨h.sf k (by simp),fun j k' h1 h2=>.inr (List.mem_append_right _ (List.mem_filterMap.mpr ⟨j,List.mem_range.mpr h1,h2⟩))⟩
theorem Pf.perm {ws:List Int} {cm:Option Int} {tv cv ps:List ((List Int × Int) × V)} (h:Pf ws cm tv cv []) (hp:ps.Perm cv):Pf ws cm tv ps []:=by
 have hm:=hp.map (·.1)
 exact ⟨hm.nodup_iff.mpr h.nd,h.sf,fun kv hkv=>⟨(h.ent kv (hp.mem_iff.mp hkv)).1,fun j k' h1 h2=>((h.ent kv (hp.mem_iff.mp hkv)).2 j k' h1 h2).imp (fun y=>hm.mem_iff.mpr y) id⟩,h.beg.imp (fun y=>hm.mem_iff.mpr y) id⟩
theorem Iv {tv:List ((List Int × Int) × V)} {ws ls:List Int} {cm:Option Int} {q:Int} {who:Nat}:S9 cm q (Cg tv ws ls cm q who):=fun h=>by
 have h1:E9 cm q = true:=by
  unfold Cg at h
  exact (Bool.and_eq_true_iff.mp h).1
 unfold E9 at h1
 simpa using h1
theorem cg {ws:List Int} {cm:Option Int} {tv:List ((List Int × Int) × V)} {k:List Int × Int} (hrk:Bz ws cm tv) (hok:Dg ws cm) (h:Uf ws cm tv k):∀ x ∈ (List.range ws.length).filterMap (Jl tv ws cm k),Uf ws cm tv x:=fun x hx=>by
 obtain ⟨j,hj,e⟩ := List.mem_filterMap.mp hx
 have hj':=List.mem_range.mp hj
 obtain ⟨m,hm⟩ := h.2.1
 obtain ⟨m',hm',_⟩ := Qk hrk hm hj' e
 refine ⟨Yg (fun w hw=>(hok.1 w hw).1) h.1 hj' ?_ e,⟨m',hm'⟩,.step h.2.2 hj' e⟩
 have hm2:=Iv (tv:=tv) (ws:=ws) (ls:=k.1) (cm:=cm) (q:=k.2) (who:=j)
 unfold O4
 cases e2:Cg tv ws k.1 cm k.2 j with
 | false=>split <;> simp
 | true =>
  obtain ⟨a1,a2⟩ := hm2 e2
  have h1:E9 cm k.2 = true:=by
   unfold E9
   simp [a1,a2]
  first
   | (rw [if_pos h1]; simp)
   | (split
      ·simp
      ·exact absurd (by simpa [E9] using h1) (by assumption))
noncomputable def Hs (tv:List ((List Int × Int) × V)) (ws:List Int) (cm:Option Int) (H:Hp) (kv:(List Int × Int) × V) (u:V):Prop := ∃ (p b t:Addr) (m:Int),u = .ref p /\ H p = some (.tup [.ref b,.int m,.ref t]) /\ E2 H b kv.1 /\ Ae tv kv.1 = some (.int m) /\ kv.2 = .ref t /\ H t = some (.tup ((Dy tv ws kv.1.1 cm kv.1.2).map V.bl))
theorem Hs.up {tv:List ((List Int × Int) × V)} {ws:List Int} {cm:Option Int} {H H':Hp} {kv:(List Int × Int) × V} {u:V} (s:Af H H') (h:Hs tv ws cm H kv u):Hs tv ws cm H' kv u:=by
 obtain ⟨p,b,t,m,h1,h2,h3,h4,h5,h6⟩ := h
 exact ⟨p,b,t,m,h1,s _ _ h2,h3.up s,h4,h5,s _ _ h6⟩
noncomputable def kx (tv:List ((List Int × Int) × V)) (k:List Int × Int):Int:=match Ae tv k with
 | some (.int m)=>m
 | _=>0
noncomputable def Ib (tv:List ((List Int × Int) × V)) (ws:List Int) (cm:Option Int) (kv:(List Int × Int) × V):PyData := .tuple [dS kv.1,.int (kx tv kv.1),.tuple ((Dy tv ws kv.1.1 cm kv.1.2).map PyData.bool)]
theorem R7 {H:Hp}:∀ l:List Bool,RpAll H (l.map PyData.bool) (l.map V.bl)
 | []=>by unfold RpAll; rfl
 | x :: l=>by
  show RpAll H (PyData.bool x :: l.map PyData.bool) (V.bl x :: l.map V.bl)
  unfold RpAll
  exact ⟨_,_,rfl,jq x,R7 l⟩
theorem Hs.rp {tv:List ((List Int × Int) × V)} {ws:List Int} {cm:Option Int} {H:Hp} {kv:(List Int × Int) × V} {u:V} (h:Hs tv ws cm H kv u):Rp H (Ib tv ws cm kv) u:=by
 obtain ⟨p,b,t,m,rfl,h2,h3,h4,h5,h6⟩ := h
 have e:kx tv kv.1 = m:=by unfold kx; rw [h4]
 unfold Ib
 rw [e]
 unfold Rp
 refine ⟨p,_,rfl,h2,?_⟩
 unfold RpAll
 refine ⟨_,_,rfl,Wp h3,?_⟩
 unfold RpAll
 refine ⟨_,_,rfl,Jf m,?_⟩
 unfold RpAll
 refine ⟨_,_,rfl,?_,?_⟩
 ·unfold Rp
  exact ⟨t,_,rfl,h6,R7 _⟩
 ·unfold RpAll
  rfl
theorem Lk (tv:List ((List Int × Int) × V)) (ws:List Int) (cm:Option Int) (kv:(List Int × Int) × V):(Ib tv ws cm kv).depth <= 50:=by
 have hb:∀ l:List Bool,PyData.depthAll (l.map PyData.bool) = 0:=by
  intro l
  induction l with
  | nil=>rfl
  | cons x l ih=>simp only [List.map_cons,PyData.depthAll,PyData.depth,ih]; rfl
 unfold Ib
 simp only [PyData.depth,PyData.depthAll,L5,hb]
 omega
theorem Jq:∀ l:List PyData,PyData.canLayAll0 l = true -> ltvAll l l = false
 | [],_=>rfl
 | x :: l,h=>by
  have h1:x.canLay0 = true /\ PyData.canLayAll0 l = true:=by simpa [PyData.canLayAll0] using h
  rw [ltvAll,if_pos (PySem.SeqAt.eqv_refl x h1.1)]
  exact Jq l h1.2
theorem N9:∀ l:List PyData,PyData.canLayAll0 l = true -> Ha l l
 | [],_=>by unfold Ha; trivial
 | x :: l,h=>by
  have h1:x.canLay0 = true /\ PyData.canLayAll0 l = true:=by simpa [PyData.canLayAll0] using h
  unfold Ha
  rw [if_pos (PySem.SeqAt.eqv_refl x h1.1)]
  exact N9 l h1.2
theorem Uy {ws:List Int} {cm:Option Int} {tv:List ((List Int × Int) × V)} {H:Hp} {a b:(List Int × Int) × V} {u:V} (hr:Rp H (Ib tv ws cm a) u) (ha:a.1 ∈ Ar ws (qv cm)) (hb:b.1 ∈ Ar ws (qv cm)):Wt (Ib tv ws cm a) (Ib tv ws cm b) /\ Io (Ib tv ws cm a) (Ib tv ws cm b) = decide ((Ar ws (qv cm)).idxOf a.1 < (Ar ws (qv cm)).idxOf b.1):=by
 by_cases z:a.1 = b.1
 ·have e:Ib tv ws cm b = Ib tv ws cm a:=by unfold Ib; rw [z]
  have hc:PyData.canLayAll0 [dS a.1,.int (kx tv a.1),.tuple ((Dy tv ws a.1.1 cm a.1.2).map PyData.bool)] = true:=Cl _ _ hr
  rw [e,z,decide_eq_false (Nat.lt_irrefl _)]
  exact ⟨N9 _ hc,Jq _ hc⟩
 ·refine ⟨?_,?_⟩
  ·show Ha (dS a.1 :: _) (dS b.1 :: _)
   unfold Ha
   rw [Ry,if_neg (by simp [z])]
   exact dl _ _
  ·show ltvAll (dS a.1 :: _) (dS b.1 :: _) = _
   rw [ltvAll,Ry,if_neg (by simp [z])]
   exact Gg (Di ws (qv cm)) ha hb
noncomputable def Lo (ws:List Int) (cm:Option Int) (tv ps:List ((List Int × Int) × V)):Prop:=Pf ws cm tv ps [] /\ ps.Pairwise fun x y=>Io (dS x.1) (dS y.1) = true
theorem Ul {ws:List Int} {cm:Option Int} {tv cv ps:List ((List Int × Int) × V)} (h:Pf ws cm tv cv []) (hp:ps.Perm cv) (hs:ps.Pairwise fun x y=>(Ar ws (qv cm)).idxOf x.1 <= (Ar ws (qv cm)).idxOf y.1):Lo ws cm tv ps:=by
 have h':=h.perm hp
 refine ⟨h',?_⟩
 have hn:=List.pairwise_map.mp h'.nd
 refine List.Pairwise.imp_of_mem (fun {x y} hx hy z=>?_) (hs.and hn)
 have hx1:=(h'.ent x hx).1.1
 have hy1:=(h'.ent y hy).1.1
 rw [Gg (Di ws (qv cm)) hx1 hy1]
 refine decide_eq_true (Nat.lt_of_le_of_ne z.1 fun e=>z.2 ?_)
 have lx:=List.idxOf_lt_length_of_mem hx1
 have ly:=List.idxOf_lt_length_of_mem hy1
 rw [<- List.getElem_idxOf lx,<- List.getElem_idxOf ly]
 congr 1
theorem Vz {l:List Bool} {j:Nat} {b:Bool} (h:l[j]? = some b):Pe (l.map V.bl) (j:Int) = some (.bl b):=by
 have hj:=(List.getElem?_eq_some_iff.mp h).1
 have e:(l.map V.bl)[j]? = some (.bl b):=by rw [List.getElem?_map,h]; rfl
 exact P3 e
theorem N7 {ws:List Int} {cm:Option Int} {tv tv':List ((List Int × Int) × V)} (h:Bz ws cm tv) (h':Bz ws cm tv'):∀ (n:Nat) (k:List Int × Int) (m:Int),m <= n -> Ae tv k = some (.int m) -> (Ae tv' k).isSome = true
 | 0,k,m,hm,hk=>by
  obtain ⟨m0,e,h1,_⟩ := h.1 k _ hk
  cases e
  omega
 | n + 1,k,m,hm,hk=>by
  obtain ⟨m0,e,h1,hks,p1,_⟩ := h.1 k _ hk
  cases e
  cases hv:Ae tv' k with
  | some v=>rfl
  | none =>
   obtain ⟨who,y1,y2,y3⟩ := h'.2 k hks hv
   rcases p1 who y1 with z | ⟨later,m',z1,z2,z3⟩
   ·exact absurd z y2
   ·have:=N7 h h' n later m' (by omega) z2
    rw [y3 later z1] at this
    cases this
theorem Gc {ws:List Int} {cm:Option Int}:∀ (n:Nat) {tv tv':List ((List Int × Int) × V)},Bz ws cm tv -> Bz ws cm tv' -> ∀ (k:List Int × Int) (m:Int),m <= n -> Ae tv k = some (.int m) -> Ae tv' k = some (.int m)
 | 0,tv,tv',h,h',k,m,hm,hv=>by
  obtain ⟨m0,e,h1,_⟩ := h.1 k _ hv
  cases e
  omega
 | n + 1,tv,tv',h,h',k,m,hm,hv=>by
  have ih1:=@Gc ws cm n tv tv' h h'
  have ih2:=@Gc ws cm n tv' tv h' h
  obtain ⟨m0,e,h1,hks,p1,p2⟩ := h.1 k _ hv
  cases e
  have hs:(Ae tv' k).isSome = true:=N7 h h' m.toNat k m (by omega) hv
  obtain ⟨v',hv'⟩ := Option.isSome_iff_exists.mp hs
  obtain ⟨m',e',g1,_,q1,q2⟩ := h'.1 k _ hv'
  subst e'
  have hle:m' <= m:=by
   rcases q2 with e | ⟨who,y1,y2,y3⟩
   ·omega
   ·rcases p1 who y1 with z | ⟨later,ml,z1,z2,z3⟩
    ·exact absurd z y2
    ·have:=y3 later ml z1 (ih1 later ml (by omega) z2)
     omega
  rcases Int.lt_or_eq_of_le hle with z | z
  ·have:=ih2 k m' (by omega) hv'
   rw [hv] at this
   cases this
   omega
  ·rw [hv',z]
theorem K6 {ws:List Int} {cm:Option Int} {tv tv':List ((List Int × Int) × V)} (h:Bz ws cm tv) (h':Bz ws cm tv') (k:List Int × Int):Ae tv k = Ae tv' k:=by
 cases e:Ae tv k with
 | some v =>
  obtain ⟨m,e1,h1,_⟩ := h.1 k v e
  subst e1
  exact (Gc m.toNat h h' k m (by omega) e).symm
 | none =>
  cases e2:Ae tv' k with
  | none=>rfl
  | some v =>
   obtain ⟨m,e1,h1,_⟩ := h'.1 k v e2
   subst e1
   have:=Gc m.toNat h' h k m (by omega) e2
   rw [e] at this
   cases this
theorem U0 {tv tv':List ((List Int × Int) × V)} (h:∀ k,Ae tv k = Ae tv' k):told tv = told tv':=by
 funext o
 cases o with
 | none=>rfl
 | some b =>
  show Jj (Ae tv b) = Jj (Ae tv' b)
  rw [h b]
theorem fw {tv tv':List ((List Int × Int) × V)} (h:∀ k,Ae tv k = Ae tv' k) (ws ls:List Int) (cm:Option Int) (q:Int) (who:Nat):Fw tv ws ls cm q who = Fw tv' ws ls cm q who:=by
 unfold Fw
 rw [U0 h]
theorem Y5 {tv tv':List ((List Int × Int) × V)} (h:∀ k,Ae tv k = Ae tv' k) (ws ls:List Int) (cm:Option Int) (q:Int) (who:Nat):Cg tv ws ls cm q who = Cg tv' ws ls cm q who:=by
 unfold Cg
 rw [U0 h]
theorem Um.keys {ws:List Int} {cm:Option Int} {tv ps:List ((List Int × Int) × V)} (h:Um ws cm tv ps) (k:List Int × Int):k ∈ ps.map (·.1) ↔ jw ws cm tv k:=by
 constructor
 ·intro hk
  obtain ⟨kv,hkv,rfl⟩ := List.mem_map.mp hk
  exact (h.1.ent kv hkv).1.2.2
 ·intro r
  induction r with
  | base=>exact h.1.beg.resolve_right fun y=>by cases y
  | step _ hb hm ih =>
   obtain ⟨kv,hkv,e⟩ := List.mem_map.mp ih
   obtain ⟨_,j,_,hb2,hc⟩ := h.1.ent kv hkv
   subst e
   have ej:=Dx.uniq hb hb2
   subst ej
   obtain ⟨k',e1,z⟩ := hc _ hm
   cases e1
   exact z.resolve_right fun y=>by cases y
theorem Lo.keys {ws:List Int} {cm:Option Int} {tv ps:List ((List Int × Int) × V)} (h:Lo ws cm tv ps) (k:List Int × Int):k ∈ ps.map (·.1) ↔ Wn ws cm tv k:=by
 constructor
 ·intro hk
  obtain ⟨kv,hkv,rfl⟩ := List.mem_map.mp hk
  exact (h.1.ent kv hkv).1.2.2
 ·intro r
  induction r with
  | base=>exact h.1.beg.resolve_right fun y=>by cases y
  | step _ hj hn ih =>
   obtain ⟨kv,hkv,e⟩ := List.mem_map.mp ih
   subst e
   exact ((h.1.ent kv hkv).2 _ _ hj hn).resolve_right fun y=>by cases y
theorem Xp {α:Type} {H:Hp} {P:α -> V -> Prop} {d:α -> PyData} (hd:∀ r v,P r v -> Rp H (d r) v):∀ {rs:List α} {us:List V},Ad P rs us -> RpAll H (rs.map d) us
 | [],us,h=>by
  have:us = []:=List.length_eq_zero_iff.mp h.1
  rw [this]
  unfold RpAll
  rfl
 | r :: rs,[],h=>by have:=h.1; simp at this
 | r :: rs,u :: us,h=>by
  show RpAll H (d r :: rs.map d) (u :: us)
  unfold RpAll
  refine ⟨u,us,rfl,hd r u (h.2 0 r u rfl rfl),Xp hd ⟨by simpa using h.1,fun i r' v' e1 e2=>h.2 (i + 1) r' v' (by simpa using e1) (by simpa using e2)⟩⟩
theorem Xx {H:Hp} {p:Addr} {us:List V} {ds:List PyData} (e:H p = some (.lst us)) (h:RpAll H ds us):Rp H (.list ds) (.ref p):=by
 unfold Rp
 exact ⟨p,us,rfl,e,h⟩
theorem d0 {ws:List Int} {cm:Option Int} {tv tv':List ((List Int × Int) × V)} (h:Bz ws cm tv) (h':Bz ws cm tv') (e:(Ae tv (ws,0)).isSome = true) (e':Ae tv' (ws,0) = none):False:=by
 rw [K6 h h',e'] at e
 cases e
theorem Yc.up {H H':Hp} {kv:(List Int × Int) × V} {u:V} (s:Af H H') (h:Yc H kv u):Yc H' kv u:=by
 obtain ⟨a,b,e,h1,h2⟩ := h
 exact ⟨a,b,e,s _ _ h1,h2.up s⟩
inductive Et (tv:List ((List Int × Int) × V)) (ws:List Int) (cm:Option Int) (H:Hp) (k:List Int × Int):List (Option (List Int × Int)) -> PyData -> Int -> V -> Prop
 | kept {p b:Addr} {j:Nat}:H p = some (.tup [.ref b,.int (j:Int)]) -> E2 H b k -> Dx (fun i=>Fw tv ws k.1 cm k.2 i) ws.length j -> Et tv ws cm H k (Ay ws k.1 cm k.2 j) (.tuple [dS k,.int (j:Int)]) 2 (.ref p)
 | broken {p b t:Addr} {m:Int}:H p = some (.tup [.ref b,.int m,.ref t]) -> E2 H b k -> Ae tv k = some (.int m) -> H t = some (.tup ((Dy tv ws k.1 cm k.2).map V.bl)) -> Et tv ws cm H k ((List.range ws.length).map (Jl tv ws cm k)) (Ib tv ws cm (k,.non)) 3 (.ref p)
theorem Et.up {tv:List ((List Int × Int) × V)} {ws:List Int} {cm:Option Int} {H H':Hp} {k:List Int × Int} {bl:List (Option (List Int × Int))} {d:PyData} {n:Int} {u:V} (s:Af H H') (h:Et tv ws cm H k bl d n u):Et tv ws cm H' k bl d n u:=by
 cases h with
 | kept h1 h2 h3=>exact .kept (s _ _ h1) (h2.up s) h3
 | broken h1 h2 h3 h4=>exact .broken (s _ _ h1) (h2.up s) h3 (s _ _ h4)
theorem Et.rp {tv:List ((List Int × Int) × V)} {ws:List Int} {cm:Option Int} {H:Hp} {k:List Int × Int} {bl:List (Option (List Int × Int))} {d:PyData} {n:Int} {u:V} (h:Et tv ws cm H k bl d n u):Rp H d u:=by
 cases h with
 | kept h1 h2 h3 =>
  unfold Rp
  refine ⟨_,_,rfl,h1,?_⟩
  unfold RpAll
  refine ⟨_,_,rfl,Wp h2,?_⟩
  unfold RpAll
  refine ⟨_,_,rfl,Jf _,?_⟩
  unfold RpAll
  rfl
 | broken h1 h2 h3 h4=>exact Hs.rp (kv:=(k,.ref _)) ⟨_,_,_,_,rfl,h1,h2,h3,rfl,h4⟩
theorem Yz {ws ls:List Int} {cm:Option Int} {q:Int} {who:Nat} (h:cm ≠ none /\ q = 0):Ay ws ls cm q who = [Cq ws ls cm q who false,Cq ws ls cm q who true]:=by
 unfold Ay
 rw [if_pos (by unfold E9; simp [h.1,h.2])]
theorem Xv {ws ls:List Int} {cm:Option Int} {q:Int} {who:Nat} (h:¬ (cm ≠ none /\ q = 0)):Ay ws ls cm q who = [Cq ws ls cm q who false]:=by
 unfold Ay
 rw [if_neg (fun z=>h (by simpa [E9] using z))]
structure Sr (F:List Int × Int -> List (Option (List Int × Int))) (es:List ((List Int × Int) × V)) (b0:List Int × Int) (X:List Int × Int -> Prop) (sv:List ((List Int × Int) × V)) (R:List (List Int × Int)):Prop where
 nd:(sv.map (·.1)).Nodup
 sub:∀ k ∈ sv.map (·.1),k ∈ es.map (·.1)
 beg:b0 ∈ sv.map (·.1)
 row:∀ k ∈ R,k ∈ sv.map (·.1)
 cls:∀ k ∈ sv.map (·.1),k ∈ R \/ X k \/ ∀ k',some k' ∈ F k -> k' ∈ sv.map (·.1)
variable {F:List Int × Int -> List (Option (List Int × Int))} {es sv:List ((List Int × Int) × V)} {b0 k0:List Int × Int} {X:List Int × Int -> Prop} {R:List (List Int × Int)}
theorem Sr.start {v:V} (h:b0 ∈ es.map (·.1)):Sr F es b0 (fun _=>False) [(b0,v)] [b0] :=
 ⟨by simp,fun k hk=>by rw [show k = b0 by simpa using hk]; exact h,by simp,fun k hk=>by simpa using hk,fun k hk=>.inl (by simpa using hk)⟩
theorem Sr.pop (h:Sr F es b0 (fun _=>False) sv (R ++ [k0])):Sr F es b0 (fun k=>k = k0) sv R :=
 ⟨h.nd,h.sub,h.beg,fun k hk=>h.row k (List.mem_append_left _ hk),fun k hk=>by
  rcases h.cls k hk with z | z | z
  ·rcases List.mem_append.mp z with y | y
   ·exact .inl y
   ·exact .inr (.inl (List.mem_singleton.mp y))
  ·exact z.elim
  ·exact .inr (.inr z)⟩
theorem Sr.put {v:V} (h:Sr F es b0 X sv R) (hk:Ae sv k0 = none) (he:k0 ∈ es.map (·.1)):Sr F es b0 X (Bb sv k0 v) (R ++ [k0]):=by
 have ep:=C5 (kvs:=sv) (k:=k0) v hk
 have em:(Bb sv k0 v).map (·.1) = sv.map (·.1) ++ [k0]:=by rw [ep,List.map_append]; rfl
 refine ⟨P5 _ h.nd hk,fun k hk=>?_,?_,fun k hk=>?_,fun k hk=>?_⟩ <;> rw [em] at *
 ·rcases List.mem_append.mp hk with z | z
  ·exact h.sub k z
  ·rw [List.mem_singleton.mp z]
   exact he
 ·exact List.mem_append_left _ h.beg
 ·rcases List.mem_append.mp hk with z | z
  ·exact List.mem_append_left _ (h.row k z)
  ·exact List.mem_append_right _ z
 ·rcases List.mem_append.mp hk with z | z
  ·rcases h.cls k z with y | y | y
   ·exact .inl (List.mem_append_left _ y)
   ·exact .inr (.inl y)
   ·exact .inr (.inr fun k' hk'=>List.mem_append_left _ (y k' hk'))
  ·exact .inl (List.mem_append_right _ z)
theorem Sr.close (h:Sr F es b0 (fun k=>k = k0) sv R) (hc:∀ k',some k' ∈ F k0 -> k' ∈ sv.map (·.1)):Sr F es b0 (fun _=>False) sv R :=
 ⟨h.nd,h.sub,h.beg,h.row,fun k hk=>by
  rcases h.cls k hk with z | z | z
  ·exact .inl z
  ·rw [z]
   exact .inr (.inr hc)
  ·exact .inr (.inr z)⟩
theorem Sr.len (h:Sr F es b0 X sv R):sv.length <= es.length:=by
 have:=List.Nodup.length_le_of_subset h.nd h.sub
 rwa [List.length_map,List.length_map] at this
theorem Sr.fin (h:Sr F es b0 (fun _=>False) sv []) (hn:(es.map (·.1)).Nodup) (hr:∀ S:List Int × Int -> Prop,S b0 -> (∀ k k',S k -> some k' ∈ F k -> S k') -> ∀ k ∈ es.map (·.1),S k):sv.length = es.length:=by
 have h1:=hr (fun k=>k ∈ sv.map (·.1)) h.beg fun k k' hk hk'=>by
  rcases h.cls k hk with z | z | z
  ·cases z
  ·exact z.elim
  ·exact z k' hk'
 have h2:=List.Nodup.length_le_of_subset hn h1
 rw [List.length_map,List.length_map] at h2
 have:=h.len
 omega
theorem Ad.rps {H:Hp} {us:List V} (h:Ad (Dr H) R us):RpAll H (R.map dS) us:=Xp (fun _ _ ⟨_,u,e,e1,e2⟩=>by rw [e]; exact Wp ⟨u,e1,e2⟩) h
theorem Et.tup {tv:List ((List Int × Int) × V)} {ws:List Int} {cm:Option Int} {H:Hp} {k:List Int × Int} {bl:List (Option (List Int × Int))} {d:PyData} {n:Int} {e:Addr} (h:Et tv ws cm H k bl d n (.ref e)):∃ (b:Addr) (xs:List V),H e = some (.tup (.ref b :: xs)) /\ E2 H b k /\ ((V.ref b :: xs).length:Int) = n:=by
 cases h with
 | kept h1 h2 h3=>exact ⟨_,_,h1,h2,rfl⟩
 | broken h1 h2 h3 h4=>exact ⟨_,_,h1,h2,rfl⟩
theorem Et.depth {tv:List ((List Int × Int) × V)} {ws:List Int} {cm:Option Int} {H:Hp} {k:List Int × Int} {bl:List (Option (List Int × Int))} {d:PyData} {n:Int} {u:V} (h:Et tv ws cm H k bl d n u):d.depth <= 50:=by
 cases h with
 | kept h1 h2 h3=>simp only [PyData.depth,PyData.depthAll,L5]; omega
 | broken h1 h2 h3 h4=>exact Lk _ _ _ _
structure gq (tv:List ((List Int × Int) × V)) (ws:List Int) (cm:Option Int) (F:List Int × Int -> List (Option (List Int × Int))) (n:Int) (H:Hp) (ps:List ((List Int × Int) × V)) (us:List V):Prop where
 nd:(ps.map (·.1)).Nodup
 few:ps.length <= 300
 ent:Ad (fun kv u=>∃ d e,u = .ref e /\ Et tv ws cm H kv.1 (F kv.1) d n u) ps us
 stn:∀ kv ∈ ps,kv.1 ∈ Ar ws (qv cm)
 cls:∀ k ∈ ps.map (·.1),∀ k',some k' ∈ F k -> k' ∈ ps.map (·.1)
 beg:(ws,0) ∈ ps.map (·.1)
 rch:∀ S:List Int × Int -> Prop,S (ws,0) -> (∀ k k',S k -> some k' ∈ F k -> S k') -> ∀ k ∈ ps.map (·.1),S k
 wid:ws.length <= 8 -> ∀ k,(F k).length <= 8
theorem gq.up {tv:List ((List Int × Int) × V)} {ws:List Int} {cm:Option Int} {F:List Int × Int -> List (Option (List Int × Int))} {n:Int} {H H':Hp} {ps:List ((List Int × Int) × V)} {us:List V} (s:Af H H') (h:gq tv ws cm F n H ps us):gq tv ws cm F n H' ps us :=
 ⟨h.nd,h.few,h.ent.imp fun _ _ ⟨d,e,h1,h2⟩=>⟨d,e,h1,h2.up s⟩,h.stn,h.cls,h.beg,h.rch,h.wid⟩
noncomputable def ky (ps:List ((List Int × Int) × V)) (k:List Int × Int):Nat:=match Ae ps k with
 | some (.int j)=>j.toNat
 | _=>0
theorem X0 {tv:List ((List Int × Int) × V)} {ws:List Int} {cm:Option Int} {H:Hp} {ps:List ((List Int × Int) × V)} {us:List V} (hok:Dg ws cm) (h:Um ws cm tv ps) (hall:Ad (Yc H) ps us):gq tv ws cm (fun k=>Ay ws k.1 cm k.2 (ky ps k)) 2 H ps us:=by
 have hj:∀ kv ∈ ps,∀ j:Nat,kv.2 = .int (j:Int) -> ky ps kv.1 = j:=fun kv hkv j e=>by
  have:=Cb h.1.nd (show (kv.1,kv.2) ∈ ps from hkv)
  unfold ky
  rw [this,e]
  exact Int.toNat_natCast j
 refine ⟨h.1.nd,h.1.len hok,⟨hall.1,fun i kv u e1 e2=>?_⟩,fun kv hkv=>(h.1.ent kv hkv).1.1,fun k hk k' hk'=>?_,h.1.beg.resolve_right (fun y=>by cases y),fun S h0 hs k hk=>?_,fun _ k=>?_⟩
 ·obtain ⟨a,b,rfl,ha,hb⟩ := hall.2 i kv u e1 e2
  have hkv:=List.mem_of_getElem? e1
  obtain ⟨_,j,ej,hbest,_⟩ := h.1.ent kv hkv
  rw [ej] at ha
  have:=Et.kept (tv:=tv) (ws:=ws) (cm:=cm) ha hb hbest
  rw [<- hj kv hkv j ej] at this
  exact ⟨_,a,rfl,this⟩
 ·obtain ⟨kv,hkv,rfl⟩ := List.mem_map.mp hk
  obtain ⟨_,j,ej,_,hc⟩ := h.1.ent kv hkv
  rw [hj kv hkv j ej] at hk'
  obtain ⟨x,ex,z⟩ := hc _ hk'
  cases ex
  exact z.resolve_right fun y=>by cases y
 ·have r:=(h.keys k).mp hk
  clear hk
  induction r with
  | base=>exact h0
  | step r0 hb hm ih =>
   refine hs _ _ ih ?_
   obtain ⟨kv,hkv,ek⟩ := List.mem_map.mp ((h.keys _).mpr r0)
   subst ek
   obtain ⟨_,j,ej,hb2,_⟩ := h.1.ent kv hkv
   have e:=Dx.uniq hb hb2
   subst e
   rw [hj kv hkv _ ej]
   exact hm
 ·unfold Ay
  split <;> simp
theorem Rl {tv:List ((List Int × Int) × V)} {ws:List Int} {cm:Option Int} {H:Hp} {ps:List ((List Int × Int) × V)} {us:List V} (hok:Dg ws cm) (h:Lo ws cm tv ps) (hall:Ad (Hs tv ws cm H) ps us):gq tv ws cm (fun k=>(List.range ws.length).map (Jl tv ws cm k)) 3 H ps us:=by
 refine ⟨h.1.nd,h.1.len hok,⟨hall.1,fun i kv u e1 e2=>?_⟩,fun kv hkv=>(h.1.ent kv hkv).1.1,fun k hk k' hk'=>?_,h.1.beg.resolve_right (fun y=>by cases y),fun S h0 hs k hk=>?_,fun h8 k=>?_⟩
 ·obtain ⟨p,b,t,m,rfl,h2,h3,h4,h5,h6⟩ := hall.2 i kv u e1 e2
  exact ⟨_,p,rfl,Et.broken h2 h3 h4 h6⟩
 ·obtain ⟨kv,hkv,rfl⟩ := List.mem_map.mp hk
  obtain ⟨j,hj,ej⟩ := List.mem_map.mp hk'
  exact ((h.1.ent kv hkv).2 j k' (List.mem_range.mp hj) ej).resolve_right fun y=>by cases y
 ·have r:=(h.keys k).mp hk
  clear hk
  induction r with
  | base=>exact h0
  | step r0 hj hn ih=>exact hs _ _ ih (List.mem_map.mpr ⟨_,List.mem_range.mpr hj,hn⟩)
 ·rw [List.length_map,List.length_range]
  exact h8
noncomputable def M8 (ps:List ((List Int × Int) × V)) (us:List V):List ((List Int × Int) × V):=List.zipWith (fun kv u=>(kv.1,u)) ps us
theorem Gj:∀ {ps:List ((List Int × Int) × V)} {us:List V},us.length = ps.length -> (M8 ps us).map (·.1) = ps.map (·.1)
 | [],[],_=>rfl
 | [],_ :: _,h=>by cases h
 | _ :: _,[],h=>by cases h
 | p :: ps,u :: us,h=>by
  show p.1 :: (M8 ps us).map (·.1) = p.1 :: ps.map (·.1)
  rw [Gj (by simpa using h)]
theorem Yx {ps:List ((List Int × Int) × V)} {us:List V} {i:Nat} {kv:(List Int × Int) × V} {u:V} (h1:ps[i]? = some kv) (h2:us[i]? = some u):(M8 ps us)[i]? = some (kv.1,u):=by
 unfold M8
 rw [List.getElem?_zipWith,h1,h2]
theorem Hq {ps:List ((List Int × Int) × V)} {us:List V} (h:us.length = ps.length):(M8 ps us).length = ps.length:=by
 have:=congrArg List.length (Gj h)
 rwa [List.length_map,List.length_map] at this
noncomputable def nv (D:Addr) (H H':Hp):Prop := ∀ b ob,b ≠ D -> H b = some ob -> H' b = some ob
noncomputable def ii (D c:Addr) (H H':Hp):Prop := ∀ b ob,b ≠ D -> b ≠ c -> H b = some ob -> H' b = some ob
noncomputable def gc (ws:List Int) (cm:Option Int) (H:Hp) (kvs:List ((List Int × Int) × V)) (i:Nat) (H':Hp) (wv:List ((List Int × Int) × V)):Prop := ∀ k who later,(∃ v,(k,v) ∈ kvs.take i) -> An H kvs k who -> some later ∈ Ay ws k.1 cm k.2 who -> Cm H' wv later k who
noncomputable def ik (ws:List Int) (cm:Option Int) (cs:List (E4 × V)) (j:Nat) (kk:List Int × Int) (H':Hp) (wv:List ((List Int × Int) × V)):Prop := ∀ who later,(∃ e ∈ cs.take j,e.1 = .inl ((who:Nat):Int)) -> some later ∈ Ay ws kk.1 cm kk.2 who -> Cm H' wv later kk who
noncomputable def Zz (kvs:List ((List Int × Int) × V)) (H' H:Hp):Prop := ∀ k who,An H' kvs k who -> An H kvs k who
noncomputable def gd (ws:List Int) (cm:Option Int) (kvs:List ((List Int × Int) × V)) (rho:List (List Int × Int)) (i:Nat) (H H':Hp):Prop := ∀ k who,An H kvs k who -> (∀ later ∈ rho.take i,some later ∉ Ay ws k.1 cm k.2 who) -> An H' kvs k who
noncomputable def fh (ws:List Int) (cm:Option Int) (kvs:List ((List Int × Int) × V)) (rho:List (List Int × Int)) (i:Nat) (H':Hp):Prop := ∀ later ∈ rho.take i,∀ k who,some later ∈ Ay ws k.1 cm k.2 who -> ¬ An H' kvs k who
noncomputable def js (kvs:List ((List Int × Int) × V)) (H H':Hp) (beta:List (List Int × Int)):Prop := ∀ k,k ∈ beta ↔ ((∃ who,An H kvs k who) /\ ∀ who,¬ An H' kvs k who)
noncomputable def nl (H7:Hp) (us2:List V) (j:Nat) (H8:Hp) (kvs:List ((List Int × Int) × V)):Prop := ∀ t b who k,V.ref t ∈ us2.take j -> H7 t = some (.tup [.ref b,.int ((who:Nat):Int)]) -> E2 H7 b k -> ¬ An H8 kvs k who
noncomputable def nq (T:Addr) (kvs:List ((List Int × Int) × V)) (H4 H':Hp):Prop := ∀ b ob,b ≠ T -> H4 b = some ob -> (∀ kv ∈ kvs,kv.2 ≠ .ref b) -> H' b = some ob
theorem Ik:B6 [V.bl false] [Value.bool false] := .cons rfl .nil
theorem li {us:List Value} (h:us.length = 0):us = []:=List.length_eq_zero_iff.mp h
theorem Je {us:List Value} (h:us.length = 1):∃ a0,us = [a0]:=by
 cases us with
 | nil=>cases h
 | cons a us =>
  obtain rfl:=li (Nat.succ.inj h)
  exact ⟨a,rfl⟩
theorem S4 {us:List Value} (h:us.length = 2):∃ a0 a1,us = [a0,a1]:=by
 cases us with
 | nil=>cases h
 | cons a us =>
  obtain ⟨a1,rfl⟩ := Je (Nat.succ.inj h)
  exact ⟨a,a1,rfl⟩
theorem P9 {us:List Value} (h:us.length = 3):∃ a0 a1 a2,us = [a0,a1,a2]:=by
 cases us with
 | nil=>cases h
 | cons a us =>
  obtain ⟨a1,a2,rfl⟩ := S4 (Nat.succ.inj h)
  exact ⟨a,a1,a2,rfl⟩
theorem Us {us:List Value} (h:us.length = 4):∃ a0 a1 a2 a3,us = [a0,a1,a2,a3]:=by
 cases us with
 | nil=>cases h
 | cons a us =>
  obtain ⟨a1,a2,a3,rfl⟩ := P9 (Nat.succ.inj h)
  exact ⟨a,a1,a2,a3,rfl⟩
section
variable {P:Program} {w:World} {K:PySem.W.Frag} {mg:Str -> Option Value} {base:Heap} {ad:ni}
noncomputable def Oo (K:PySem.W.Frag):Sp:=fun vs H Q _=>Vd fun (a:Addr) (ws:List Int) (cm:Option Int)=>Vo (vs = [.ref a]) (Bm H a ws cm) (∀ (p:Addr) (H':Hp),A9 H H' -> Db H' p ws 0 -> Q (.ref p) H')
theorem d3 {fd  : FuncData} (T:Gq K mg ad) (F:Fq K "beginning" "beginning" Nd ad.f_x16 fd):Aj P w K mg base Bp 1 ad.f_x16 fd ["hall"] (Oo K):=by
 refine F.ok bf (fun vs H Q E h=>?_) (fun cdv A outer s H vs Q E hr h=>?_)
 ·rcases h with ⟨a,ws,cm,rfl,⟨t,ha,ht⟩,q⟩ <;> rfl
 ·obtain ⟨a,ws,cm,rfl,⟨t,ha,ht⟩,q⟩ := h
  refine ⟨_,(Ab (Ao (Bt (A0 (B9 (B8 K) (pv 0) Aa (fun _ _=>rfl)) (A0 Aa A7))))),?_⟩
  refine ⟨_,rfl,a,_,_,_,rfl,rfl,.inr (Bx.of ha),rfl,?_⟩
  exact ⟨Bk,fun p hp=>q p _ (A9.upd hp) ⟨t,A5,A9.upd hp _ _ ht⟩⟩
noncomputable def Lq (K:PySem.W.Frag):Sp:=fun vs H Q _=>iz fun (a b:Addr) (ws ls:List Int) (calm:Option Int) (q:Int)=>Kq (vs = [.ref a,.ref b]) (Bm H a ws calm) (Db H b ls q) (Q (.bl (!decide (calm = none) && decide (q = 0))) H)
theorem dy {fd  : FuncData} (T:Gq K mg ad) (F:Fq K "may_lose" "may_lose" N6 ad.f_x19 fd):Aj P w K mg base Bp 1 ad.f_x19 fd ["hall","standing"] (Lq K):=by
 refine F.ok c0 (fun vs H Q E h=>?_) (fun cdv A outer s H vs Q E hr h=>?_)
 ·rcases h with ⟨a,b,ws,ls,calm,n,rfl,⟨t,ha,_⟩,⟨u,hb,_⟩,q⟩ <;> rfl
 ·obtain ⟨a,b,ws,ls,calm,n,rfl,⟨t,ha,_⟩,⟨u,hb,_⟩,q⟩ := h
  refine ⟨_,(Ab (Ao (Uk (Ej Ii (B9 (B8 K) (pv 0) Aa (fun _ _=>rfl)) D3 (Be _)) (Ru (Ej Fn (B9 (B8 K) (pv 1) Aa (fun _ _=>rfl)) Aa (Be _)))))),?_⟩
  refine ⟨_,rfl,a,_,_,_,rfl,rfl,.inr (Bx.of ha),rfl,rfl,_,decide (V.int n = V.int 0),rfl,fun _ Q' z=>⟨_,rfl,b,_,_,_,rfl,rfl,.inr (Bx.of hb),rfl,rfl,z⟩,?_⟩
  have e2:decide (V.int n = V.int 0) = decide (n = 0):=by simp
  rw [dh,e2]
  exact q
noncomputable def Wi (K:PySem.W.Frag):Sp:=fun vs H Q _=>Ud fun (a:Addr) (ws:List Int) (calm:Option Int) (who:Int)=>Vo (vs = [.ref a,.int who]) (Bm H a ws calm) (Q (.bl (decide (0 <= who /\ who < ws.length))) H)
theorem ij {fd  : FuncData} (T:Gq K mg ad) (F:Fq K "is_listener" "is_listener" Uu ad.f_x8 fd):Aj P w K mg base Bp 1 ad.f_x8 fd ["hall","who"] (Wi K):=by
 refine F.ok jk (fun vs H Q E h=>?_) (fun cdv A outer s H vs Q E hr h=>?_)
 ·rcases h with ⟨a,ws,calm,who,rfl,⟨t,ha1,ha2⟩,q⟩ <;> rfl
 ·obtain ⟨a,ws,calm,who,rfl,⟨t,ha1,ha2⟩,q⟩ := h
  refine ⟨_,(Ab (Ao (Uk (Ej io (pv 1) Aa (Be _)) (Ru (Ej To (pv 1) (Aw (Bw K) (by rfl) T.n_len PySem.boot_len (A0 (B9 (B8 K) (pv 0) Aa (fun _ _=>rfl)) A7)) (Be _)))))),?_⟩
  refine ⟨_,rfl,_,_,rfl,rfl,_,decide (who < (ws.length:Int)),rfl,fun _ Q' z=>⟨_,rfl,_,rfl,a,_,_,_,rfl,rfl,.inr (Bx.of ha1),rfl,t,_,rfl,.inr (Bx.of ha2),_,_,rfl,rfl,?_⟩,?_⟩
  ·rw [List.length_map]
   exact z
  ·rw [show (decide (who >= 0) && decide (who < (ws.length:Int))) = decide (0 <= who /\ who < (ws.length:Int)) by rw [Bool.decide_and]]
   exact q
noncomputable def X1 (K:PySem.W.Frag):Sp:=fun vs H Q _=>bd fun (a b:Addr) (ws ls:List Int) (calm:Option Int) (q:Int) (who:Nat) (lost:Bool)=>Qz (vs = [.ref a,.ref b,.int who,.bl lost]) (Bm H a ws calm) (Db H b ls q) (who < ws.length) (S9 calm q lost) (Q .non H)
theorem jt {fd fd_x8 fd_x19:FuncData} (T:Gq K mg ad) (F:Fq K "refuse_wrong_turn" "refuse_wrong_turn" Vt ad.f_x1 fd) (G_x8:Aj P w K mg base Bp 1 ad.f_x8 fd_x8 ["hall","who"] (Wi K)) (B_x8:Az K fd_x8 ["hall","who"] []) (G_x19:Aj P w K mg base Bp 1 ad.f_x19 fd_x19 ["hall","standing"] (Lq K)) (B_x19:Az K fd_x19 ["hall","standing"] []):Aj P w K mg base Bp 2 ad.f_x1 fd ["hall","standing","who","lost"] (X1 K):=by
 refine F.ok iq (fun vs H Q E h=>?_) (fun cdv A outer s H vs Q E hr h=>?_)
 ·rcases h with ⟨a,b,ws,ls,calm,n,who,lost,rfl,ha,hb,hw,hm,q⟩ <;> rfl
 ·obtain ⟨a,b,ws,ls,calm,n,who,lost,rfl,ha,hb,hw,hm,q⟩ := h
  refine ⟨_,(A6 (Cn (Fs (Ep (Ag G_x8 (hr.mono (by decide)) rfl T.m_x8 T.k_x8 B_x8 .nil B0 (A0 (pv 0) (A0 (pv 2) A7))))) (Ab L9) Av) (Ab (Cn (PW.pt (Ka (Ep (pv 3)) (Ij (Fs (Ep (Ag G_x19 (hr.mono (by decide)) rfl T.m_x19 T.k_x19 B_x19 .nil B0 (A0 (pv 0) (A0 (pv 1) A7)))))))) (Ab L9) Av))),?_⟩
  obtain ⟨t,ha1,ha2⟩ := id ha
  refine ⟨_,rfl,_,rfl,a,ws,calm,(who:Int),rfl,ha,_,rfl,Fd ?_ ?_⟩
  ·rw [decide_eq_true (show (0:Int) <= (who:Int) /\ (who:Int) < (ws.length:Int) by omega)]
   rfl
  refine ⟨_,rfl,_,rfl,!(!decide (calm = none) && decide (n = 0)),fun _ Q' z=>⟨_,rfl,_,rfl,a,b,ws,ls,calm,n,rfl,ha,hb,_,rfl,z⟩,Fd ?_ q⟩
  cases lost with
  | false=>rfl
  | true =>
   obtain ⟨h1,h2⟩ := hm rfl
   simp [h1,h2]
noncomputable def Ye (K:PySem.W.Frag):Sp:=fun vs H Q _=>bd fun (a b:Addr) (ws ls:List Int) (calm:Option Int) (q:Int) (who:Nat) (lost:Bool)=>Rf (vs = [.ref a,.ref b,.int who,.bl lost]) (Bm H a ws calm) (Db H b ls q) (who < ws.length) (ls.length = ws.length) (ws.length <= 8) (S9 calm q lost) (∀ (l:Addr) (H':Hp),H l = none -> A9 H H' -> H' l = some (.lst ((Bj ws ls who lost).map V.int)) -> Q (.ref l) H')
theorem kj {fd fd_x1:FuncData} (T:Gq K mg ad) (F:Fq K "left_behind" "left_behind" Rn ad.f_x9 fd) (G_x1:Aj P w K mg base Bp 2 ad.f_x1 fd_x1 ["hall","standing","who","lost"] (X1 K)) (B_x1:Az K fd_x1 ["hall","standing","who","lost"] []):Aj P w K mg base Bp 3 ad.f_x9 fd ["hall","standing","who","lost"] (Ye K):=by
 refine F.ok aw (fun vs H Q E h=>?_) (fun cdv A outer s H vs Q E hr h=>?_)
 ·rcases h with ⟨a,b,ws,ls,calm,n,who,lost,rfl,ha,hb,hw,hl,h8,hm,q⟩ <;> rfl
 ·obtain ⟨a,b,ws,ls,calm,n,who,lost,rfl,ha,hb,hw,hl,h8,hm,q⟩ := h
  refine ⟨_,(A6 (Co (Ag G_x1 (hr.mono (by decide)) rfl T.m_x1 T.k_x1 B_x1 .nil B0 (A0 (pv 0) (A0 (pv 1) (A0 (pv 2) (A0 (pv 3) A7)))))) (A6 (Cv (i:=4) aw.nd rfl (Dk (w':=P1 K _) (Dj (B9 (B8 K) (pv 1) Aa (fun _ _=>rfl)))) _ rfl Jd rfl rfl (fun _ _ _ _=>(Aq (i:=0) Ix rfl (Or.inl rfl))) (fun _ _ _ _=>Cp) (fun _ _ _ _=>(Ba Hb (pv 0) Aa)) rfl rfl) (A6 (Dp (Fs (Ep (pv 3))) (Ab (Wm (B9 (B8 K) (B9 (B8 K) (pv 0) Aa (fun _ _=>rfl)) (pv 2) (fun _ _=>rfl)) (Wy (pv 4) (pv 2) Ql))) Av) (Ab (Ao (pv 4)))))),?_⟩
  obtain ⟨t,ha1,ha2⟩ := id ha
  obtain ⟨u,hb1,hb2⟩ := id hb
  refine ⟨_,rfl,_,rfl,_,rfl,_,rfl,a,b,ws,ls,calm,n,who,lost,rfl,ha,hb,hw,hm,?_⟩
  refine ⟨_,rfl,b,_,_,_,rfl,rfl,.inr (Bx.of hb1),rfl,u,rfl,.inr ⟨⟨_,Bx.of hb2⟩,fun D hD=>?_⟩⟩
  refine Xn (K:=K) (a:=u) (xs:=ls.map V.int) (fun i ys H'=>ys = ((ls.take i).map (fun x=>x - 1)).map V.int /\ H' D = some (.lst ys) /\ A9 H H') ⟨rfl,A5,A9.upd hD⟩ (by rintro i ys H' _ ⟨_,_,s⟩; exact Bx.of (s _ _ hb2)) ?_ ?_
  ·rintro i x ys H' hx ⟨rfl,hD',s'⟩ Qe hQ
   rw [List.getElem?_map] at hx
   obtain ⟨y,hy,rfl⟩ := Option.map_eq_some_iff.mp hx
   have hi:=(List.getElem?_eq_some_iff.mp hy).1
   refine ⟨_,rfl,_,_,rfl,rfl,hQ _ _ hD' (B7 (by simp; omega)) ⟨?_,A5,s'.new hD⟩⟩
   rw [List.take_add_one,hy]
   simp
  rintro ys H2 ⟨rfl,hD2,s2⟩
  rw [List.length_map,List.take_length] at hD2
  refine ⟨_,rfl,_,rfl,(fun σ' H'=>σ' = [some (.ref a),some (.ref b),some (.int (who:Nat)),some (.bl lost),some (.ref D)] /\ A9 H H' /\ H' D = some (.lst ((Bj ws ls who lost).map V.int))),fun e=>?_,fun e=>?_,?_⟩
  ·have e':lost = false:=by simpa using e
   subst e'
   refine ⟨_,rfl,a,_,_,_,rfl,rfl,.inr (Bx.of (s2 _ _ ha1)),rfl,_,rfl,t,_,_,_,rfl,rfl,.inr (Bx.of (s2 _ _ ha2)),Tt hw,?_⟩
   refine ⟨_,rfl,_,rfl,D,_,_,_,rfl,rfl,hD2,Tn (by simp; omega),rfl,s2.new hD,?_⟩
   rw [A5]
   unfold Bj
   simp
  ·have e':lost = true:=by simpa using e
   subst e'
   exact ⟨rfl,s2,hD2⟩
  ·rintro σ' H' ⟨rfl,s3,e3⟩
   exact ⟨_,rfl,q D H' hD s3 e3⟩
noncomputable def Wd (K:PySem.W.Frag):Sp:=fun vs H Q _=>kr fun (a b:Addr) (ws ls:List Int) (calm:Option Int) (q:Int) (lost:Bool)=>Hw (vs = [.ref a,.ref b,.bl lost]) (Bm H a ws calm) (Db H b ls q) (S9 calm q lost) (Q (.int (Dd calm q lost)) H)
theorem ki {fd  : FuncData} (T:Gq K mg ad) (F:Fq K "quiet_behind" "quiet_behind" W3 ad.f_x4 fd):Aj P w K mg base Bp 1 ad.f_x4 fd ["hall","standing","lost"] (Wd K):=by
 refine F.ok jl (fun vs H Q E h=>?_) (fun cdv A outer s H vs Q E hr h=>?_)
 ·rcases h with ⟨a,b,ws,ls,calm,n,lost,rfl,⟨t,ha,_⟩,⟨u,hb,_⟩,hm,q⟩ <;> rfl
 ·obtain ⟨a,b,ws,ls,calm,n,lost,rfl,⟨t,ha,_⟩,⟨u,hb,_⟩,hm,q⟩ := h
  refine ⟨_,(A6 (Cn (Ep (pv 2)) (Ab (Ao (B9 (B8 K) (pv 0) Aa (fun _ _=>rfl)))) Av) (Ab (Ao (Aw (F9 rfl) (by rfl) T.n_max boot_max (A0 (Ba Hb (B9 (B8 K) (pv 1) Aa (fun _ _=>rfl)) Aa) (A0 Aa A7)))))),?_⟩
  refine ⟨_,rfl,_,rfl,?_⟩
  cases lost with
  | true =>
   refine Lw rfl ?_
   refine ⟨_,rfl,a,_,_,_,rfl,rfl,.inr (Bx.of ha),rfl,?_⟩
   cases calm with
   | none=>exact absurd rfl (hm rfl).1
   | some c=>exact q
  | false =>
   refine Fd rfl ?_
   refine ⟨_,rfl,b,_,_,_,rfl,rfl,.inr (Bx.of hb),rfl,_,_,rfl,rfl,_,_,rfl,?_⟩
   have e:(if (0:Int) > n - 1 then (0:Int) else n - 1) = Dd calm n false:=by
    unfold Dd
    rw [if_neg Bool.false_ne_true]
    omega
   show Q (.int (if (0:Int) > n - 1 then (0:Int) else n - 1)) H
   rw [e]
   exact q
noncomputable def L4 (K:PySem.W.Frag):Sp:=fun vs H Q _=>bd fun (a b:Addr) (ws ls:List Int) (calm:Option Int) (q:Int) (who:Nat) (lost:Bool)=>Sy (vs = [.ref a,.ref b,.int who,.bl lost]) (Bm H a ws calm) (Db H b ls q) (who < ws.length) (ls.length = ws.length) (ws.length <= 8) (S9 calm q lost) (((0:Int) ∈ Bj ws ls who lost -> ∀ H',A9 H H' -> Q .non H')) (((0:Int) ∉ Bj ws ls who lost -> ∀ (p:Addr) (H':Hp),A9 H H' -> Db H' p (Bj ws ls who lost) (Dd calm q lost) -> Q (.ref p) H'))
theorem dq {fd fd_x9 fd_x4:FuncData} (T:Gq K mg ad) (F:Zb K "after" "after" Fo ad.f_x28 fd) (G_x9:Aj P w K mg base Bp 3 ad.f_x9 fd_x9 ["hall","standing","who","lost"] (Ye K)) (B_x9:Az K fd_x9 ["hall","standing","who","lost"] []) (G_x4:Aj P w K mg base Bp 1 ad.f_x4 fd_x4 ["hall","standing","lost"] (Wd K)) (B_x4:Az K fd_x4 ["hall","standing","lost"] []):Aj P w K mg base Bp 4 ad.f_x28 fd ["hall","standing","who","lost"] (L4 K):=by
 refine F.ok Xw (fun vs H Q E h=>?_) (fun cdv A outer s H vs Q E hr h=>?_)
 ·rcases h with ⟨a,b,ws,ls,calm,n,who,lost,rfl,ha,hb,hw,hl,h8,hm,q1,q2⟩ <;> rfl
 ·obtain ⟨a,b,ws,ls,calm,n,who,lost,rfl,ha,hb,hw,hl,h8,hm,q1,q2⟩ := h
  refine ⟨_,(A6 (Al (i:=4) Xw.nd rfl (Or.inl rfl) (Ag G_x9 (hr.mono (by decide)) rfl T.m_x9 T.k_x9 B_x9 .nil B0 (A0 (pv 0) (A0 (pv 1) (A0 (pv 2) (A0 (pv 3) A7)))))) (A6 (Cn (Bd (df K) Aa (pv 4) rfl) (Ab (Ao D3)) Av) (Ab (Ao (Bt (A0 (Cc (Ck K) (by rfl) T.n_tuple boot_tuple (A0 (pv 4) A7)) (A0 (Ag G_x4 (hr.mono (by decide)) rfl T.m_x4 T.k_x4 B_x4 .nil B0 (A0 (pv 0) (A0 (pv 1) (A0 (pv 3) A7)))) A7))))))),?_⟩
  refine ⟨_,rfl,_,rfl,_,rfl,_,rfl,a,b,ws,ls,calm,n,who,lost,rfl,ha,hb,hw,hl,h8,hm,fun l H1 hl0 s1 hl1=>?_⟩
  refine ⟨_,rfl,l,_,rfl,.inl (Bo.of hl1),rfl,Nx _,_,rfl,?_⟩
  rw [Q5]
  refine Fp (fun h0=>?_) (fun h0=>?_)
  ·exact q1 (by simpa using h0) H1 s1
  ·refine ⟨_,rfl,l,_,rfl,.inl ⟨Bo.of hl1,fun t ht=>?_⟩⟩
   have s2:A9 H (upd H1 t (.tup ((Bj ws ls who lost).map V.int))):=s1.new (s1.free ht)
   refine ⟨_,rfl,_,rfl,_,rfl,a,b,ws,ls,calm,n,lost,rfl,ha.same s2,hb.same s2,hm,Bk,fun p hp=>?_⟩
   refine q2 (by simpa using h0) p _ (s2.new (s2.free hp)) ⟨t,A5,?_⟩
   rw [Ac (fun e=>by rw [<- e,A5] at hp; cases hp),A5]
noncomputable def Lm (K:PySem.W.Frag):Sp:=fun vs H Q _=>bd fun (a b:Addr) (ws ls:List Int) (cm:Option Int) (q w:Int) (who:Nat)=>Rf (vs = [.ref a,.ref b,.int w]) (w = (who:Int)) (Bm H a ws cm) (Db H b ls q) (who < ws.length) (ls.length = ws.length) (ws.length <= 8) (∀ (l:Addr) (us:List V) (H':Hp),H l = none -> A9 H H' -> H' l = some (.lst us) -> Ad (D2 H') (Ay ws ls cm q who) us -> Q (.ref l) H')
theorem f8 {fd fd_x19 fd_x28:FuncData} (T:Gq K mg ad) (F:Fq K "all_behind" "all_behind" No ad.f_x12 fd) (G_x19:Aj P w K mg base Bp 1 ad.f_x19 fd_x19 ["hall","standing"] (Lq K)) (B_x19:Az K fd_x19 ["hall","standing"] []) (G_x28:Aj P w K mg base Bp 4 ad.f_x28 fd_x28 ["hall","standing","who","lost"] (L4 K)) (B_x28:Az K fd_x28 ["hall","standing","who","lost"] []) (B_after_d:Az K fd_x28 ["hall","standing","who","lost"] [Value.bool false]):Aj P w K mg base Bp 5 ad.f_x12 fd ["hall","standing","who"] (Lm K):=by
 refine F.ok Xr (fun vs H Q E h=>?_) (fun cdv A outer s H vs Q E hr h=>?_)
 ·rcases h with ⟨a,b,ws,ls,cm,n,w0,who,rfl,rfl,ha,hb,hw,hl,h8,q⟩ <;> rfl
 ·obtain ⟨a,b,ws,ls,cm,n,w0,who,rfl,rfl,ha,hb,hw,hl,h8,q⟩ := h
  refine ⟨_,(A6 (Al (i:=3) Xr.nd rfl (Or.inl rfl) (D5 (A0 (Rq (Ag G_x28 (hr.mono (by decide)) rfl T.m_x28 T.k_x28 B_after_d (Ik) B0 (A0 (pv 0) (A0 (pv 1) (A0 (pv 2) A7))))) A7))) (A6 (Dp (Ep (Ag G_x19 (hr.mono (by decide)) rfl T.m_x19 T.k_x19 B_x19 .nil B0 (A0 (pv 0) (A0 (pv 1) A7)))) (Ab (Co (Dz (u':=Tv K _ _ _ _) (Ez PySem.F.plainAttrs_list PySem.F.slot_list_append PySem.F.type_list_append D0 (pv 3) (A0 (Rq (Ag G_x28 (hr.mono (by decide)) rfl T.m_x28 T.k_x28 B_x28 .nil B0 (A0 (pv 0) (A0 (pv 1) (A0 (pv 2) (A0 Ho A7)))))) A7))))) Av) (Ab (Ao (pv 3))))),?_⟩
  refine ⟨(fun v H9=>D2 H9 (Cq ws ls cm n who false) v /\ A9 H H9),⟨_,rfl,_,rfl,_,rfl,a,b,ws,ls,cm,n,who,false,rfl,ha,hb,hw,hl,h8,(fun z=>nomatch z),(fun hz H2 s2=>⟨by unfold Cq; rw [if_pos hz]; rfl,s2⟩),fun hz p H2 s2 hst=>⟨by unfold Cq; rw [if_neg hz]; exact ⟨p,rfl,hst⟩,s2⟩⟩,?_⟩
  rintro v H1 ⟨hv,s1⟩
  refine ⟨Bk,fun L hL=>?_⟩
  have s2:A9 H1 (upd H1 L (.lst [v])):=A9.upd hL
  have e2:(upd H1 L (.lst [v])) L = some (.lst [v]):=A5
  generalize upd H1 L (.lst [v]) = H2 at s2 e2 ⊢
  have s12:=s1.trans s2
  refine ⟨_,rfl,_,rfl,a,b,ws,ls,cm,n,rfl,ha.same s12,hb.same s12,_,rfl,(fun σ' H'=>∃ (us:List V),Kq (σ' = [some (.ref a),some (.ref b),some (.int who),some (.ref L)]) (H' L = some (.lst us)) (Ad (D2 H') (Ay ws ls cm n who) us) (A9 H H')),fun hm=>?_,fun hm=>?_,?_⟩
  ·have hm':E9 cm n = true:=hm
   have hmay:S9 cm n true:=fun _=>by
    unfold E9 at hm'
    simp only [Bool.and_eq_true,Bool.not_eq_true',decide_eq_false_iff_not,decide_eq_true_eq] at hm'
    exact hm'
   refine ⟨_,rfl,.inl ⟨rfl,_,Bo.of e2⟩,(fun v H9=>D2 H9 (Cq ws ls cm n who true) v /\ A9 H2 H9),⟨_,rfl,_,rfl,_,rfl,a,b,ws,ls,cm,n,who,true,rfl,ha.same s12,hb.same s12,hw,hl,h8,hmay,(fun hz H2 s2=>⟨by unfold Cq; rw [if_pos hz]; rfl,s2⟩),fun hz p H2 s2 hst=>⟨by unfold Cq; rw [if_neg hz]; exact ⟨p,rfl,hst⟩,s2⟩⟩,?_⟩
   rintro v2 H3 ⟨hv2,s3⟩
   have e3:=s3 _ _ e2
   have tt:Af H3 (upd H3 L (.lst ([v] ++ [v2]))):=Af.lst e3
   refine ⟨L,_,_,rfl,rfl,e3,B7 (by simp),[v] ++ [v2],rfl,A5,?_,(s12.trans s3).new (s1.free hL)⟩
   unfold Ay
   rw [if_pos hm']
   exact Ad.cons (hv.up (((Af.of s2).trans (Af.of s3)).trans tt)) (Ad.one (hv2.up tt))
  ·have hm' : ¬ E9 cm n = true := by
    rw [show E9 cm n = false from hm]
    exact Bool.false_ne_true
   refine ⟨[v],rfl,e2,?_,s12⟩
   unfold Ay
   rw [if_neg hm']
   exact Ad.one (hv.up (Af.of s2))
  rintro σ' H' ⟨us,rfl,eL,hall,s'⟩
  exact ⟨_,rfl,q L us H' (s1.free hL) s' eL hall⟩
noncomputable def Uh (K:PySem.W.Frag):Sp:=fun vs H Q _=>Vd fun (a:Addr) (ws:List Int) (cm:Option Int)=>Vo (vs = [.ref a]) (Bm H a ws cm) (Q (.int (qv cm)) H)
theorem ie {fd  : FuncData} (T:Gq K mg ad) (F:Fq K "quiet_values" "quiet_values" Va ad.f_x5 fd):Aj P w K mg base Bp 1 ad.f_x5 fd ["hall"] (Uh K):=by
 refine F.ok j7 (fun vs H Q E h=>?_) (fun cdv A outer s H vs Q E hr h=>?_)
 ·rcases h with ⟨a,ws,cm,rfl,⟨t,ha1,ha2⟩,q⟩ <;> rfl
 ·obtain ⟨a,ws,cm,rfl,⟨t,ha1,ha2⟩,q⟩ := h
  refine ⟨_,(Ab (Ao (Wq (Bd Yi (B9 (B8 K) (pv 0) Aa (fun _ _=>rfl)) D3 (Be _)) Aa (Ba D4 (B9 (B8 K) (pv 0) Aa (fun _ _=>rfl)) Aa)))),?_⟩
  cases cm with
  | none=>exact ⟨_,rfl,a,_,_,_,rfl,rfl,.inr (Bx.of ha1),rfl,rfl,_,rfl,Lw rfl q⟩
  | some c=>exact ⟨_,rfl,a,_,_,_,rfl,rfl,.inr (Bx.of ha1),rfl,rfl,_,rfl,Fd rfl ⟨_,rfl,a,_,_,_,rfl,rfl,.inr (Bx.of ha1),rfl,_,_,rfl,rfl,q⟩⟩
noncomputable def Rv (K:PySem.W.Frag):Sp:=fun vs H Q _=>Vd fun (a:Addr) (ws:List Int) (cm:Option Int)=>Qz (vs = [.ref a]) (Bm H a ws cm) ((∀ w ∈ ws,intBits w <= 256)) (intBits (qv cm) <= 256) (ws.length <= 8) (Q (.int (Ak (qv cm) ws)) H)
theorem fz {fd fd_x5:FuncData} (T:Gq K mg ad) (F:Fq K "how_many" "how_many" My ad.f_x20 fd) (G_x5:Aj P w K mg base Bp 1 ad.f_x5 fd_x5 ["hall"] (Uh K)) (B_x5:Az K fd_x5 ["hall"] []):Aj P w K mg base Bp 2 ad.f_x20 fd ["hall"] (Rv K):=by
 refine F.ok On (fun vs H Q E h=>?_) (fun cdv A outer s H vs Q E hr h=>?_)
 ·rcases h with ⟨a,ws,cm,rfl,⟨t,ha1,ha2⟩,hb,hqb,hl,q⟩ <;> rfl
 ·obtain ⟨a,ws,cm,rfl,⟨t,ha1,ha2⟩,hb,hqb,hl,q⟩ := h
  refine ⟨_,(A6 (Al (i:=1) On.nd rfl (Or.inl rfl) (Ag G_x5 (hr.mono (by decide)) rfl T.m_x5 T.k_x5 B_x5 .nil B0 (A0 (pv 0) A7))) (A6 (Cr PassesOwn.never rfl (Dk (w':=P1 K _) (Dj (B9 (B8 K) (pv 0) Aa (fun _ _=>rfl)))) (Aq (i:=2) On.nd rfl (Or.inl rfl)) (Ab (Al (i:=1) On.nd rfl (Or.inl rfl) (Ba ab (pv 1) (pv 2))))) (Ab (Ao (pv 1))))),?_⟩
  refine ⟨_,rfl,a,ws,cm,rfl,⟨t,ha1,ha2⟩,?_⟩
  refine ⟨_,rfl,a,_,_,_,rfl,rfl,.inr (Bx.of ha1),rfl,t,rfl,.inr ⟨⟨_,Bx.of ha2⟩,?_⟩⟩
  refine U5 (K:=K) (a:=t) (xs:=ws.map V.int) (fun i σ H'=>∃ (v2:Option V),σ = [some (.ref a),some (.int (Ak (qv cm) (ws.take i))),v2] /\ H' = H) ⟨none,rfl,rfl⟩ (by rintro i σ H' _ ⟨_,_,e⟩; exact (by rw [e]; exact Bx.of ha2)) ?_ ?_
  ·rintro i y σ H' hy ⟨v2,rfl,eH⟩
   subst eH
   rw [List.getElem?_map] at hy
   obtain ⟨x,hx,rfl⟩ := Option.map_eq_some_iff.mp hy
   have hi:=(List.getElem?_eq_some_iff.mp hx).1
   have b1:=N1 hqb hb i (by omega)
   refine ⟨_,rfl,_,rfl,_,_,rfl,rfl,j6 b1 (hb x (List.mem_of_getElem? hx)) (by omega),?_⟩
   refine ⟨some (.int x),?_,rfl⟩
   have e:Ak (qv cm) (ws.take (i + 1)) = Ak (qv cm) (ws.take i) * x:=Ew _ _ _ hx
   rw [e]
   rfl
  ·rintro σ H' ⟨v2,rfl,eH⟩
   subst eH
   rw [List.length_map,List.take_length]
   exact ⟨_,rfl,q⟩
noncomputable def Tg (K:PySem.W.Frag):Sp:=fun vs H Q _=>Yh fun (t:Addr) (ws:List Int)=>Qz (vs = [.ref t]) (H t = some (.tup (ws.map V.int))) ((∀ w ∈ ws,1 <= w)) (Ak 1 ws <= 3000) (ws.length <= 8) (∀ (l:Addr) (us:List V) (H':Hp),H l = none -> A9 H H' -> H' l = some (.lst us) -> Ad (El H') (C8 ws) us -> Q (.ref l) H')
theorem de {fd  : FuncData} (T:Gq K mg ad) (F:Fq K "all_left" "all_left" Lv ad.f_x21 fd):Aj P w K mg base Bp 1 ad.f_x21 fd ["waits"] (Tg K):=by
 refine F.ok Ir (fun vs H Q E h=>?_) (fun cdv A outer s H vs Q E hr h=>?_)
 ·rcases h with ⟨t,ws,rfl,ht,hw1,hp,hl8,q⟩ <;> rfl
 ·obtain ⟨t,ws,rfl,ht,hw1,hp,hl8,q⟩ := h
  refine ⟨_,(A6 (Al (i:=1) Ir.nd rfl (Or.inl rfl) (D5 (A0 (Bt A7) A7))) (A6 (Cr PassesOwn.never rfl (Dk (w':=P1 K _) (Dj (pv 0))) (Aq (i:=2) Ir.nd rfl (Or.inl rfl)) (A6 (Al (i:=3) Ir.nd rfl (Or.inl rfl) (D5 A7)) (A6 (Cr PassesOwn.never rfl (Dk (w':=P1 K _) (Dj (pv 1))) (Aq (i:=4) Ir.nd rfl (Or.inr rfl)) (Ab (Co (Dz (u':=Tv K _ _ _ _) (Ez PySem.F.plainAttrs_list PySem.F.slot_list_extend PySem.F.type_list_extend Gk (pv 3) (A0 (Ei (W0 (by rfl) T.n_range (A0 Aa (A0 (Ba D4 (pv 2) Aa) A7))) _ rfl Mj rfl rfl (fun _ _ _ _=>(Aq (i:=0) Mt rfl (Or.inl rfl))) (fun _ _ _ _=>Cp) (fun _ _ _ _=>(Ba (Yp K) (pv 1) (Bt (A0 (pv 0) A7))))) A7)))))) (Ab (Al (i:=1) Ir.nd rfl (Or.inl rfl) (pv 3)))))) (Ab (Ao (pv 1))))),?_⟩
  refine ⟨Bk,fun E0 hE0=>⟨Bk,fun L0 hL0=>?_⟩⟩
  have s0:A9 H (upd H E0 (.tup [])):=A9.upd hE0
  have e0:(upd H E0 (.tup [])) E0 = some (.tup (([]:List Int).map V.int)):=A5
  generalize upd H E0 (.tup []) = H0 at s0 e0 hL0 ⊢
  have s1:A9 H0 (upd H0 L0 (.lst [.ref E0])):=A9.upd hL0
  have e1:(upd H0 L0 (.lst [.ref E0])) L0 = some (.lst [.ref E0]):=A5
  have r1:Ad (El (upd H0 L0 (.lst [.ref E0]))) (C8 (ws.take 0)) [.ref E0]:=Ad.one ⟨E0,rfl,s1 _ _ e0⟩
  generalize upd H0 L0 (.lst [.ref E0]) = H1 at s1 e1 r1 ⊢
  have s01:=s0.trans s1
  refine ⟨_,rfl,t,rfl,.inr ⟨⟨_,Bx.of (s01 _ _ ht)⟩,?_⟩⟩
  refine U5 (K:=K) (a:=t) (xs:=ws.map V.int) (fun i σ H'=>gm fun (L:Addr) (us:List V) (v2 v3 v4:Option V)=>Hw (σ = [some (.ref t),some (.ref L),v2,v3,v4]) (H' L = some (.lst us)) (A9 H H') (Ad (El H') (C8 (ws.take i)) us) (H L = none))
   ⟨L0,_,none,none,none,rfl,e1,s01,r1,s0.free hL0⟩ (by rintro i σ H' _ ⟨_,_,_,_,_,_,_,s,_,_⟩; exact Bx.of (s _ _ ht)) ?_ ?_
  ·rintro i y σ H2 hy ⟨L,us,v2,v3,v4,rfl,f1,s2,f2,hL⟩
   rw [List.getElem?_map] at hy
   obtain ⟨w,hw,rfl⟩ := Option.map_eq_some_iff.mp hy
   have hwi:=hw1 w (List.mem_of_getElem? hw)
   have hlen1:=N8 hw1 hp i
   have hlen2:=N8 hw1 hp (i + 1)
   have erow:C8 (ws.take (i + 1)) = C0 (C8 (ws.take i)) w:=Ew _ _ _ hw
   rw [erow,Kg] at hlen2
   have hiw:=(List.getElem?_eq_some_iff.mp hw).1
   have hrl:∀ r ∈ C8 (ws.take i),r.length <= 8:=fun r hr=>by
    have:=(Il ws i (by omega) r hr).1
    omega
   generalize C8 (ws.take i) = rows at f2 hlen1 hlen2 erow hrl
   refine ⟨Bk,fun D hD=>?_⟩
   have s3:A9 H2 (upd H2 D (.lst [])):=A9.upd hD
   have e3:(upd H2 D (.lst [])) D = some (.lst []):=A5
   have f3:=s3 _ _ f1
   have g3:=f2.imp fun r v z=>El.up (Af.of s3) z
   have nDL:L ≠ D:=Ah f1 hD
   generalize upd H2 D (.lst []) = H3 at s3 e3 f3 g3 ⊢
   refine ⟨_,rfl,L,rfl,.inl ⟨⟨_,Bo.of f3⟩,?_⟩⟩
   refine D6 (K:=K) (a:=L) (xs:=us) (fun j σ H'=>Yh fun (zs:List V) (v4:Option V)=>Hw (σ = [some (.ref t),some (.ref L),some (.int w),some (.ref D),v4]) (H' D = some (.lst zs)) (H' L = some (.lst us)) (A9 H2 H') (Ad (El H') (C0 (rows.take j) w) zs))
    ⟨[],v4,rfl,e3,f3,s3,Ad.nil⟩ (by rintro j σ H' _ ⟨_,_,_,_,e,_⟩; exact Bo.of e) ?_ ?_
   ·rintro j y σ H4 hy ⟨zs,v4',rfl,h1,h2,s4,h3⟩
    have g4:=f2.imp fun r v z=>El.up (Af.of s4) z
    obtain ⟨r,hr1,p,rfl,hp4⟩ := g4.get hy
    have hj:=(List.getElem?_eq_some_iff.mp hr1).1
    have hr8:=hrl r (List.mem_of_getElem? hr1)
    have ezl:zs.length = (rows.take j).length * w.toNat:=by rw [h3.1,Kg]
    have hzl:zs.length <= 3000:=by
     rw [ezl]
     refine Nat.le_trans (Nat.mul_le_mul_right _ ?_) hlen2
     rw [List.length_take]
     omega
    have hw3:w.toNat <= 3000:=Nat.le_trans (Nat.le_mul_of_pos_left _ (by omega)) hlen2
    refine ⟨_,rfl,.inl ⟨rfl,_,Bo.of h1⟩,_,rfl,_,_,rfl,rfl,1,w + 1,rfl,by omega,fun B hB=>?_⟩
    refine D9 (fun m ys H'=>H' B = some (.lst ys) /\ A9 H4 H' /\ Ad (El H') ((List.range m).map fun t=>r ++ [1 + ((t:Nat):Int)]) ys) ⟨A5,A9.upd hB,Ad.nil⟩ ?_ ?_
    ·rintro m ys H5 hm ⟨k1,s5,k2⟩ Qe hQ
     refine ⟨_,rfl,_,rfl,Bk,fun P hP=>?_⟩
     have s6:A9 H5 (upd H5 P (.tup [.int (1 + (m:Int))])):=A9.upd hP
     refine ⟨p,P,_,_,rfl,rfl,Bx.of (s6 _ _ (s5 _ _ hp4)),A5,by simp,Nat.le_of_lt (Fb (by simp; omega)),fun p' H6 s7 e7=>?_⟩
     generalize upd H5 P (.tup [.int (1 + (m:Int))]) = H5' at s6 s7
     have s57:=s6.trans s7
     have k1':=s57 _ _ k1
     have kl:ys.length = m:=by rw [k2.1]; simp
     refine hQ _ _ k1' (Fb (by omega)) ⟨A5,(s5.trans s57).new hB,?_⟩
     have tu:Af H5 (upd H6 B (.lst (ys ++ [.ref p']))):=(Af.of s57).trans (Af.lst k1')
     rw [List.range_succ,List.map_append]
     refine (k2.imp fun r v z=>El.up tu z).append (Ad.one ⟨p',rfl,?_⟩)
     refine Af.lst k1' _ _ ?_
     rw [e7,List.map_append]
     rfl
    ·rintro ys H5 ⟨k1,s5,k2⟩
     have eB:((List.range (w + 1 - 1).toNat).map fun t=>r ++ [1 + ((t:Nat):Int)]) = Pd r w:=by
      rw [show w + 1 - 1 = w by omega]
      rfl
     rw [eB] at k2
     have h1':=s5 _ _ h1
     have kl:ys.length = w.toNat:=by rw [k2.1,Po]
     refine ⟨D,B,_,_,rfl,rfl,h1',k1,Nat.le_of_lt (Fb (by omega)),?_⟩
     have tu:Af H5 (upd H5 D (.lst (zs ++ ys))):=Af.lst h1'
     refine ⟨zs ++ ys,_,rfl,A5,by rw [Ac nDL]; exact s5 _ _ h2,(s4.trans s5).new hD,?_⟩
     have e:C0 (rows.take (j + 1)) w = C0 (rows.take j) w ++ Pd r w:=O2 _ _ hr1
     rw [e]
     exact (h3.imp fun r v z=>El.up ((Af.of s5).trans tu) z).append (k2.imp fun r v z=>El.up tu z)
   ·rintro σ H4 ⟨zs,v4',rfl,h1,h2,s4,h3⟩
    rw [f2.1,List.take_length] at h3
    refine ⟨_,rfl,D,zs,_,_,_,rfl,h1,s2.trans s4,?_,s2.free hD⟩
    rw [erow]
    exact h3
  ·rintro σ H2 ⟨L,us,v2,v3,v4,rfl,f1,s2,f2,hL⟩
   rw [List.length_map,List.take_length] at f2
   exact ⟨_,rfl,q L us H2 hL s2 f1 f2⟩
noncomputable def Si (K:PySem.W.Frag):Sp:=fun vs H Q _=>Vd fun (a:Addr) (ws:List Int) (cm:Option Int)=>Sy (vs = [.ref a]) (Bm H a ws cm) ((∀ w ∈ ws,1 <= w)) (1 <= qv cm) ((∀ w ∈ ws,intBits w <= 256)) (intBits (qv cm) <= 256) (ws.length <= 8) (Ak (qv cm) ws <= 3000) (∀ (l:Addr) (us:List V) (H':Hp),H l = none -> A9 H H' -> H' l = some (.lst us) -> Ad (Dr H') (Ar ws (qv cm)) us -> Q (.ref l) H')
theorem b7 {fd fd_x21 fd_x20 fd_x5:FuncData} (T:Gq K mg ad) (F:Fq K "standings" "standings" Ku ad.f_x17 fd) (G_x21:Aj P w K mg base Bp 1 ad.f_x21 fd_x21 ["waits"] (Tg K)) (B_x21:Az K fd_x21 ["waits"] []) (G_x20:Aj P w K mg base Bp 2 ad.f_x20 fd_x20 ["hall"] (Rv K)) (B_x20:Az K fd_x20 ["hall"] []) (G_x5:Aj P w K mg base Bp 1 ad.f_x5 fd_x5 ["hall"] (Uh K)) (B_x5:Az K fd_x5 ["hall"] []):Aj P w K mg base Bp 3 ad.f_x17 fd ["hall"] (Si K):=by
 refine F.ok Tb (fun vs H Q E h=>?_) (fun cdv A outer s H vs Q E hr h=>?_)
 ·rcases h with ⟨a,ws,cm,rfl,⟨t,ha1,ha2⟩,hw1,hq1,hb,hqb,hl8,hp,q⟩ <;> rfl
 ·obtain ⟨a,ws,cm,rfl,⟨t,ha1,ha2⟩,hw1,hq1,hb,hqb,hl8,hp,q⟩ := h
  refine ⟨_,(A6 (Cn (Bd Qr (Ag G_x20 (hr.mono (by decide)) rfl T.m_x20 T.k_x20 B_x20 .nil B0 (A0 (pv 0) A7)) (Zv (v := .int 3000) (by rfl) T.g_MOST_STANDINGS.choose_spec ⟨_,rfl⟩) (Be _)) (Ab L9) Av) (A6 (Al (i:=1) Tb.nd rfl (Or.inl rfl) (D5 A7)) (A6 (Cr PassesOwn.never rfl (Dk (w':=P1 K _) (Dj (Ag G_x21 (hr.mono (by decide)) rfl T.m_x21 T.k_x21 B_x21 .nil B0 (A0 (B9 (B8 K) (pv 0) Aa (fun _ _=>rfl)) A7)))) (Aq (i:=2) Tb.nd rfl (Or.inr rfl)) (Ab (Co (Dz (u':=Tv K _ _ _ _) (Ez PySem.F.plainAttrs_list PySem.F.slot_list_extend PySem.F.type_list_extend Gk (pv 1) (A0 (Ei (Cz (by rfl) T.n_range (A0 (Ag G_x5 (hr.mono (by decide)) rfl T.m_x5 T.k_x5 B_x5 .nil B0 (A0 (pv 0) A7)) A7)) _ rfl Kj rfl rfl (fun _ _ _ _=>(Aq (i:=0) La rfl (Or.inl rfl))) (fun _ _ _ _=>Cp) (fun _ _ _ _=>(Bt (A0 (pv 1) (A0 (pv 0) A7))))) A7)))))) (Ab (Ao (pv 1)))))),?_⟩
  have hp1:Ak 1 ws <= 3000:=by
   have e:=Ip (qv cm) ws 1
   rw [Int.mul_one] at e
   have h1:1 <= Ak 1 ws:=E5 ws 1 (by decide) hw1
   have h2:=Int.mul_le_mul_of_nonneg_right hq1 (show 0 <= Ak 1 ws by omega)
   rw [Int.one_mul] at h2
   omega
  have hq3:qv cm <= 3000:=Int.le_trans (E5 ws _ (by omega) hw1) hp
  refine ⟨_,rfl,a,ws,cm,rfl,⟨t,ha1,ha2⟩,hb,hqb,hl8,_,_,rfl,rfl,_,rfl,Fd (decide_eq_false (by omega)) ?_⟩
  refine ⟨Bk,fun D hD=>?_⟩
  have s1:A9 H (upd H D (.lst [])):=A9.upd hD
  have e1:(upd H D (.lst [])) D = some (.lst []):=A5
  generalize upd H D (.lst []) = H1 at s1 e1 ⊢
  refine ⟨_,rfl,a,_,_,_,rfl,rfl,.inr (Bx.of (s1 _ _ ha1)),rfl,t,ws,rfl,s1 _ _ ha2,hw1,hp1,hl8,fun L us H2 hL s2 f1 f2=>⟨L,rfl,.inl ⟨⟨_,Bo.of f1⟩,?_⟩⟩⟩
  have s02:=s1.trans s2
  have e2:=s2 _ _ e1
  have nDL:L ≠ D:=(Ah e1 hL).symm
  refine D6 (K:=K) (a:=L) (xs:=us) (fun j σ H'=>Yh fun (zs:List V) (v2:Option V)=>Qz (σ = [some (.ref a),some (.ref D),v2]) (H' D = some (.lst zs)) (H' L = some (.lst us)) (A9 H H') (Af H2 H') (Ad (Dr H') (((C8 ws).take j).flatMap fun r=>F0 r (qv cm)) zs))
   ⟨[],none,rfl,e2,f1,s02,Af.of (A9.refl _),Ad.nil⟩ (by rintro j σ H' _ ⟨_,_,_,_,e,_⟩; exact Bo.of e) ?_ ?_
  ·rintro j y σ H4 hy ⟨zs,v2,rfl,h1,h2,s4,t4,h3⟩
   have g4:=f2.imp fun r v z=>El.up t4 z
   obtain ⟨r,hr1,p,rfl,hp4⟩ := g4.get hy
   have hj:=(List.getElem?_eq_some_iff.mp hr1).1
   have hzl:zs.length <= 3000:=by
    have e:=Gp (ws:=ws) (q:=qv cm) hw1 (by omega)
    rw [h3.1]
    have e2:Ar ws (qv cm) = (((C8 ws).take j).flatMap fun r=>F0 r (qv cm)) ++ (((C8 ws).drop j).flatMap fun r=>F0 r (qv cm)):=by
     rw [<- List.flatMap_append,List.take_append_drop]
     rfl
    rw [e2,List.length_append] at e
    omega
   refine ⟨_,rfl,.inl ⟨rfl,_,Bo.of h1⟩,_,rfl,a,ws,cm,rfl,⟨t,s4 _ _ ha1,s4 _ _ ha2⟩,qv cm,rfl,by omega,by omega,fun B hB=>?_⟩
   refine D9 (fun m ys H'=>H' B = some (.lst ys) /\ A9 H4 H' /\ Ad (Dr H') ((List.range m).map fun k=>(r,0 + ((k:Nat):Int))) ys) ⟨A5,A9.upd hB,Ad.nil⟩ ?_ ?_
   ·rintro m ys H5 hm ⟨k1,s5,k2⟩ Qe hQ
    refine ⟨_,rfl,_,rfl,Bk,fun P hP=>?_⟩
    have s6:A9 H5 (upd H5 P (.tup [.ref p,.int (0 + (m:Int))])):=A9.upd hP
    have e6:(upd H5 P (.tup [.ref p,.int (0 + (m:Int))])) P = some (.tup [.ref p,.int (0 + (m:Int))]):=A5
    generalize upd H5 P (.tup [.ref p,.int (0 + (m:Int))]) = H6 at s6 e6
    have k1':=s6 _ _ k1
    have kl:ys.length = m:=by rw [k2.1]; simp
    refine hQ _ _ k1' (Fb (by omega)) ⟨A5,(s5.trans s6).new hB,?_⟩
    have tu:Af H5 (upd H6 B (.lst (ys ++ [.ref P]))):=(Af.of s6).trans (Af.lst k1')
    rw [List.range_succ,List.map_append]
    refine (k2.imp fun r v z=>Dr.up tu z).append (Ad.one ⟨P,p,rfl,?_,?_⟩)
    ·exact Af.lst k1' _ _ e6
    ·exact Af.lst k1' _ _ (s6 _ _ (s5 _ _ hp4))
   ·rintro ys H5 ⟨k1,s5,k2⟩
    have h1':=s5 _ _ h1
    have k3:Ad (Dr H5) (F0 r (qv cm)) ys:=k2
    have kl:ys.length = (qv cm).toNat:=by rw [k3.1,Nu]
    refine ⟨D,B,_,_,rfl,rfl,h1',k1,Nat.le_of_lt (Fb (by omega)),?_⟩
    have tu:Af H5 (upd H5 D (.lst (zs ++ ys))):=Af.lst h1'
    refine ⟨zs ++ ys,_,rfl,A5,by rw [Ac nDL]; exact s5 _ _ h2,(s4.trans s5).new hD,(t4.trans (Af.of s5)).trans tu,?_⟩
    have e:(((C8 ws).take (j + 1)).flatMap fun r=>F0 r (qv cm)) = (((C8 ws).take j).flatMap fun r=>F0 r (qv cm)) ++ F0 r (qv cm):=O2 _ _ hr1
    rw [e]
    exact (h3.imp fun r v z=>Dr.up ((Af.of s5).trans tu) z).append (k3.imp fun r v z=>Dr.up tu z)
  ·rintro σ H4 ⟨zs,v2,rfl,h1,h2,s4,t4,h3⟩
   rw [f2.1,List.take_length] at h3
   exact ⟨_,rfl,q D zs H4 hD s4 h1 h3⟩
noncomputable def Wz (K:PySem.W.Frag):Sp:=fun vs H Q _=>Vd fun (a:Addr) (ws:List Int) (cm:Option Int)=>Sy (vs = [.ref a]) (Bm H a ws cm) ((∀ w ∈ ws,1 <= w)) (1 <= qv cm) ((∀ w ∈ ws,intBits w <= 256)) (intBits (qv cm) <= 256) (ws.length <= 8) (Ak (qv cm) ws <= 3000) (∀ (D:Addr) (kvs:List ((List Int × Int) × V)) (H':Hp),H D = none -> A9 H H' -> H' D = some (.dT kvs) -> Cj ws cm H' kvs -> kvs.map (·.1) = Ar ws (qv cm) -> Kb ws cm H' kvs -> (∀ kv ∈ kvs,∀ c,kv.2 = .ref c -> H c = none) -> kvs.length <= 3000 -> Q (.ref D) H')
theorem iu {fd fd_x17 fd_x12:FuncData} (T:Gq K mg ad) (F:Fq K "calls_by_standing" "calls_by_standing" Vp ad.f_x2 fd) (G_x17:Aj P w K mg base Bp 3 ad.f_x17 fd_x17 ["hall"] (Si K)) (B_x17:Az K fd_x17 ["hall"] []) (G_x12:Aj P w K mg base Bp 5 ad.f_x12 fd_x12 ["hall","standing","who"] (Lm K)) (B_x12:Az K fd_x12 ["hall","standing","who"] []):Aj P w K mg base Bp 6 ad.f_x2 fd ["hall"] (Wz K):=by
 refine F.ok N0 (fun vs H Q E h=>?_) (fun cdv A outer s H vs Q E hr h=>?_)
 ·rcases h with ⟨a,ws,cm,rfl,ha,hw1,hq1,hb1,hb2,hw8,hp,q⟩ <;> rfl
 ·obtain ⟨a,ws,cm,rfl,ha,hw1,hq1,hb1,hb2,hw8,hp,q⟩ := h
  refine ⟨_,(A6 (Al (i:=1) N0.nd rfl (Or.inl rfl) F6) (A6 (Cr PassesOwn.never rfl (Dk (w':=P1 K _) (Dj (Ag G_x17 (hr.mono (by decide)) rfl T.m_x17 T.k_x17 B_x17 .nil B0 (A0 (pv 0) A7)))) (Aq (i:=2) N0.nd rfl (Or.inl rfl)) (A6 (Al (i:=3) N0.nd rfl (Or.inl rfl) Xk) (A6 (Cr PassesOwn.never rfl (Cz (by rfl) T.n_range (A0 (Aw (Bw K) (by rfl) T.n_len PySem.boot_len (A0 (B9 (B8 K) (pv 0) Aa (fun _ _=>rfl)) A7)) A7)) (Aq (i:=4) N0.nd rfl (Or.inl rfl)) (A6 (Al (i:=5) N0.nd rfl (Or.inl rfl) (Ag G_x12 (hr.mono (by decide)) rfl T.m_x12 T.k_x12 B_x12 .nil B0 (A0 (pv 0) (A0 (pv 2) (A0 (pv 4) A7))))) (Ab (Dp (Bd (Vy K hr) D3 (pv 5) rfl) (Ab (Fh (Dl hr) (pv 3) (pv 4) (pv 5) rfl)) Av)))) (Ab (Fh (Dl hr) (pv 1) (pv 2) (pv 3) rfl))))) (Ab (Ao (pv 1))))),?_⟩
  refine fun D hD=>?_
  have s1:A9 H (upd H D (.dT [])):=A9.upd hD
  have e1:(upd H D (.dT [])) D = some (.dT []):=A5
  generalize upd H D (.dT []) = H1 at s1 e1 ⊢
  refine ⟨_,rfl,a,ws,cm,rfl,ha.same s1,hw1,hq1,hb1,hb2,hw8,hp,fun l us H2 hl s2 el hus=>⟨l,rfl,.inl ⟨⟨_,Bo.of el⟩,?_⟩⟩⟩
  have hlen:us.length <= 3000:=by
   have h1:=hus.1
   have h2:=Gp hw1 (show 0 <= qv cm by omega)
   omega
  have s12:=s1.trans s2
  have eD2:=s2 _ _ e1
  refine D6 (K:=K) (a:=l) (xs:=us) (fun i σ H'=>gm fun (kvs:List ((List Int × Int) × V)) (v2 v3 v4 v5:Option V)=>Sy (σ = [some (.ref a),some (.ref D),v2,v3,v4,v5]) (A9 H H') (LT H2 H') (H' D = some (.dT kvs)) (Cj ws cm H' kvs) ((∀ kv ∈ kvs,∀ c,kv.2 = .ref c -> H c = none)) (kvs.length <= i) (kvs.map (·.1) = (Ar ws (qv cm)).take i) (Kb ws cm H' kvs))
   ⟨[],_,_,_,_,rfl,s12,⟨fun _ _ z=>z,fun _ _ z=>z⟩,eD2,⟨(fun kv z=>by cases z),List.Pairwise.nil,List.Pairwise.nil⟩,(fun kv z=>by cases z),Nat.le_refl _,rfl,(fun kv z=>by cases z)⟩ (by rintro i σ H' _ ⟨_,_,_,_,_,_,_,t,_⟩; exact Bo.of (t.1 _ _ el)) ?_ ?_
  ·rintro i u σ H' hu ⟨kvs,v2,v3,v4,v5,rfl,s',t',hD',hpo,hfr,hkl,hkeys,hful⟩
   have hi:=(List.getElem?_eq_some_iff.mp hu).1
   obtain ⟨z,hz,p,w,rfl,hz1,hz2⟩ := hus.get hu
   obtain ⟨m1,m2,m3,m4⟩ := Ni (List.mem_of_getElem? hz)
   have hst':Db H' p z.1 z.2:=⟨w,t'.2 _ _ hz1,t'.2 _ _ hz2⟩
   refine fun c hc=>?_
   have s3:A9 H' (upd H' c (.dK [])):=A9.upd hc
   have e3:(upd H' c (.dK [])) c = some (.dK []):=A5
   generalize upd H' c (.dK []) = H3 at s3 e3 ⊢
   have s03:=s'.trans s3
   obtain ⟨wt,ha1,ha2⟩ := id (ha.same s03)
   refine ⟨_,rfl,a,_,_,_,rfl,rfl,.inr (Bx.of ha1),rfl,wt,_,rfl,.inr (Bx.of ha2),_,rfl,by omega,by rw [List.length_map]; omega,?_⟩
   refine J6 (n:=(ws.map V.int).length) (fun j σ H4=>Vd fun (cs:List (E4 × V)) (v4 v5:Option V)=>Qz (σ = [some (.ref a),some (.ref D),some (.ref p),some (.ref c),v4,v5]) (A9 H' H4) (H4 c = some (.dK cs)) (G8 ws cm z H4 cs) (cs.length <= j) (∀ who:Nat,who < j -> none ∉ Ay ws z.1 cm z.2 who -> (Ae cs (.inl (who:Int))).isSome = true))
    ⟨[],_,_,rfl,s3,e3,(fun e z=>by cases z),Nat.le_refl _,(fun who z=>absurd z (Nat.not_lt_zero _))⟩ ?_ ?_
   ·rintro j σ H4 hj ⟨cs,v4,v5,rfl,s4,hc4,hco,hcl,hcf⟩
    rw [List.length_map] at hj
    have s04:=s'.trans s4
    refine ⟨_,rfl,_,rfl,_,rfl,a,p,ws,z.1,cm,z.2,_,j,rfl,by omega,ha.same s04,hst'.same s4,hj,m1,hw8,fun L us2 H5 hL s5 eL hbe=>?_⟩
    refine ⟨_,rfl,L,us2,.none,(Ay ws z.1 cm z.2 j).map d9,rfl,Bo.of eL,Xi,Ny hbe,by decide,_,rfl,_,fun hb=>?_,fun hb=>?_,fun _ _ z=>z⟩
    ·rw [if_pos rfl,Oj] at hb
     have hno:none ∉ Ay ws z.1 cm z.2 j:=by simpa using hb
     have hc5:=s5 _ _ hc4
     refine ⟨_,rfl,_,rfl,_,rfl,c,_,rfl,.inl ⟨cs,.inl (j:Int),hc5,congrArg V.int (Int.zero_add _),B7 (by omega),rfl⟩,?_⟩
     have t6:LT H5 (upd H5 c (.dK (Bb cs (.inl (j:Int)) (.ref L)))):=LT.dK hc5
     refine ⟨Bb cs (.inl (j:Int)) (.ref L),_,_,rfl,(s4.trans s5).new hc,A5,?_,Nat.le_trans (Dw _ _ _) (by omega),fun who hwho hn=>Th ?_⟩
     ·have hold:G8 ws cm z (upd H5 c (.dK (Bb cs (.inl (j:Int)) (.ref L)))) cs:=hco.up ((LT.of s5).trans t6)
      intro e he
      rcases X8 he with y | y
      ·exact hold e y
      ·subst y
       exact ⟨j,L,us2,rfl,hj,hno,rfl,t6.1 _ _ eL,hbe.imp fun _ _ y=>D2.up t6.2 y⟩
     ·rcases Nat.lt_or_ge who j with y | y
      ·exact .inl (hcf who y hn)
      ·have e:who = j:=by omega
       rw [e]
       exact .inr rfl
    ·rw [if_pos rfl,Oj] at hb
     have hyes:none ∈ Ay ws z.1 cm z.2 j:=by simpa using hb
     refine ⟨cs,_,_,rfl,s4.trans s5,s5 _ _ hc4,hco.up (LT.of s5),by omega,fun who hwho hn=>?_⟩
     rcases Nat.lt_or_ge who j with y | y
     ·exact hcf who y hn
     ·have e:who = j:=by omega
      rw [e] at hn
      exact absurd hyes hn
   rintro σ H4 ⟨cs,v4,v5,rfl,s4,hc4,hco,hcl,hcf⟩
   rw [List.length_map] at hcl
   have hD4:=s4 _ _ hD'
   refine ⟨_,rfl,_,rfl,_,rfl,D,_,rfl,Mq.t hD4 (show E2 H4 p z from hst'.same s4) (Bq (by omega)),?_⟩
   have t5:LT H4 (upd H4 D (.dT (Bb kvs z (.ref c)))):=LT.dT hD4
   have k5:∀ c' cs',H4 c' = some (.dK cs') -> (upd H4 D (.dT (Bb kvs z (.ref c)))) c' = some (.dK cs'):=fun c' cs' e=>by
    rw [Ac (Bl e hD4 (by intro z; cases z))]
    exact e
   have s05:=s'.trans s4
   have hnz:Ae kvs z = none:=by
    cases hv:Ae kvs z with
    | none=>rfl
    | some v =>
     have:=List.mem_map_of_mem (f:=(·.1)) (Bf hv)
     rw [hkeys] at this
     exact absurd this (Iz (Jp _ _) hz)
   have ep:Bb kvs z (.ref c) = kvs ++ [(z,.ref c)]:=C5 _ hnz
   have hpo5:Cj ws cm (upd H4 D (.dT (Bb kvs z (.ref c)))) kvs:=(hpo.keep (LT.of s4) (fun c cs e=>s4 _ _ e)).keep t5 k5
   have hfu5:Kb ws cm (upd H4 D (.dT (Bb kvs z (.ref c)))) kvs:=(hful.keep hpo (fun c cs e=>s4 _ _ e)).keep (hpo.keep (LT.of s4) (fun c cs e=>s4 _ _ e)) k5
   have hc5:=k5 _ _ hc4
   have hco5:=hco.up t5
   have sN:A9 H (upd H4 D (.dT (Bb kvs z (.ref c)))):=s05.new hD
   have tN:LT H2 (upd H4 D (.dT (Bb kvs z (.ref c)))):=(t'.trans (LT.of s4)).trans t5
   have eN:(upd H4 D (.dT (Bb kvs z (.ref c)))) D = some (.dT (Bb kvs z (.ref c))):=A5
   rw [ep] at hpo5 hfu5 hc5 hco5 sN tN eN ⊢
   generalize upd H4 D (.dT (kvs ++ [(z,.ref c)])) = H6 at hpo5 hfu5 hc5 hco5 sN tN eN ⊢
   have hnew:∀ kv ∈ kvs,kv.2 ≠ .ref c:=fun kv hkv e=>by
    obtain ⟨d,ds,e1,e2,_⟩ := hpo.1 kv hkv
    rw [e] at e1
    cases e1
    rw [hc] at e2
    cases e2
   refine ⟨kvs ++ [(z,.ref c)],_,_,_,_,rfl,sN,tN,eN,⟨Lu hpo5.1 ⟨c,cs,rfl,hc5,by omega,hco5⟩,?_,?_⟩,Lu hfr (fun c' e=>by cases e; exact s'.free hc),by rw [List.length_append,List.length_singleton]; omega,?_,?_⟩
   ·rw [List.map_append]
    refine Eh hpo5.2.1 (fun y=>?_)
    rw [hkeys] at y
    exact Iz (Jp _ _) hz y
   ·rw [List.map_append]
    refine Eh hpo5.2.2 (fun y=>?_)
    obtain ⟨kv,hkv,e⟩ := List.mem_map.mp y
    exact hnew kv hkv e
   ·rw [List.map_append,hkeys,List.take_add_one,hz]
    rfl
   ·intro kv hkv c' cs' e1 e2
    rcases List.mem_append.mp hkv with y | y
    ·exact hfu5 kv y c' cs' e1 e2
    ·cases List.mem_singleton.mp y
     cases e1
     rw [hc5] at e2
     cases e2
     exact fun who hw hn=>hcf who (by rw [List.length_map]; exact hw) hn
  rintro σ H' ⟨kvs,v2,v3,v4,v5,rfl,s',t',hD',hpo,hfr,hkl,hkeys,hful⟩
  rw [hus.1,List.take_length] at hkeys
  exact ⟨_,rfl,q D kvs H' hD s' hD' hpo hkeys hful hfr (by omega)⟩
noncomputable def Rk (K:PySem.W.Frag):Sp:=fun vs H Q _=>Ud fun (D:Addr) (kvs:List ((List Int × Int) × V)) (ws:List Int) (cm:Option Int)=>Hw (vs = [.ref D]) (H D = some (.dT kvs)) (Cj ws cm H kvs) (kvs.length <= 3000) (∀ (W:Addr) (wv:List ((List Int × Int) × V)) (H':Hp),H W = none -> A9 H H' -> H' W = some (.dT wv) -> Fc ws cm H kvs 48000 H' wv -> (∀ k who later,An H kvs k who -> some later ∈ Ay ws k.1 cm k.2 who -> Cm H' wv later k who) -> wv.length <= 48000 -> Q (.ref W) H')
theorem cz {fd  : FuncData} (T:Gq K mg ad) (F:Fq K "ways_to" "ways_to" O3 ad.f_x26 fd):Aj P w K mg base Bp 1 ad.f_x26 fd ["pending"] (Rk K):=by
 refine F.ok Hc (fun vs H Q E h=>?_) (fun cdv A outer s H vs Q E hr h=>?_)
 ·rcases h with ⟨D,kvs,ws,cm,rfl,hD,hps,hkl,q⟩ <;> rfl
 ·obtain ⟨D,kvs,ws,cm,rfl,hD,hps,hkl,q⟩ := h
  refine ⟨_,(A6 (Al (i:=1) Hc.nd rfl (Or.inl rfl) F6) (A6 (Ob (Cr PassesOwn.never rfl (Hx (pv 0)) (Gh K (n:=2) rfl (Ci (Aq (i:=2) Hc.nd rfl (Or.inl rfl)) (Ci (Aq (i:=3) Hc.nd rfl (Or.inl rfl)) Gd))) (Ab (Ob (Cr PassesOwn.never rfl (Hx (pv 3)) (Gh K (n:=2) rfl (Ci (Aq (i:=4) Hc.nd rfl (Or.inl rfl)) (Ci (Aq (i:=5) Hc.nd rfl (Or.inl rfl)) Gd))) (Ab (Cr PassesOwn.never rfl (Dk (w':=P1 K _) (Dj (pv 5))) (Aq (i:=6) Hc.nd rfl (Or.inl rfl)) (Ab (Co (Dz (u':=Tv K _ _ _ _) (Ez PySem.F.plainAttrs_list PySem.F.slot_list_append PySem.F.type_list_append D0 (Rq (ae (Dl hr) (pv 1) (pv 6) (D5 A7) ⟨rfl,rfl,rfl,rfl⟩)) (A0 (Bt (A0 (pv 2) (A0 (pv 4) A7))) A7)))))))))))) (Ab (Ao (pv 1))))),?_⟩
  have hpo:=hps.ok
  refine fun W hW=>?_
  have s1:A9 H (upd H W (.dT [])):=A9.upd hW
  have e1:(upd H W (.dT [])) W = some (.dT []):=A5
  generalize upd H W (.dT []) = H1 at s1 e1 ⊢
  have hD1:=s1 _ _ hD
  have hWD:W ≠ D:=(Ah hD hW).symm
  refine ⟨D,.dT kvs,trivial,hD1,_,rfl,D,.dT kvs,rfl,trivial,hD1,fun o=>?_⟩
  refine Mx (d:=D) (o:=o) (u := .dT kvs) (fun i σ H'=>iz fun (wv:List ((List Int × Int) × V)) (v2 v3 v4 v5 v6:Option V)=>Rj (σ = [some (.ref D),some (.ref W),v2,v3,v4,v5,v6]) (H' D = some (.frz o (.dT kvs))) ((nv D H H')) (H' W = some (.dT wv)) (Fc ws cm H kvs (16 * i) H' wv) (wv.length <= 16 * i) (gc ws cm H kvs i H' wv))
   ⟨[],_,_,_,_,_,rfl,A5,(fun b ob n e=>(Ac n).trans (s1 _ _ e)),(Ac hWD).trans e1,⟨(fun kv z=>by cases z),List.Pairwise.nil⟩,Nat.zero_le _,(fun k who later z=>by obtain ⟨v,z⟩ := z; rw [List.take_zero] at z; cases z)⟩ (by rintro i σ H' _ ⟨_,_,_,_,_,_,_,e,_⟩; exact e) ?_ ?_
  ·rintro i x y T σ H' hi hit ⟨wv,v2,v3,v4,v5,v6,rfl,hD',k',hW',hwo,hwl,hs1⟩ hT
   have hi3:i < 3000:=Nat.lt_of_lt_of_le hi hkl
   obtain ⟨kk,bb,hkv,rfl,hkk⟩ := hit
   have hmem:(kk,y) ∈ kvs:=List.mem_of_getElem? hkv
   obtain ⟨kw,hkw⟩ := Jh hmem
   obtain ⟨c,cs,ey,hc,hcl,hco⟩ := hps.1 _ hmem
   have ey':y = .ref c:=ey
   subst ey'
   have s2:A9 H' (upd H' T (.tup [.ref bb,.ref c])):=A9.upd hT
   have e2:(upd H' T (.tup [.ref bb,.ref c])) T = some (.tup [.ref bb,.ref c]):=A5
   generalize upd H' T (.tup [.ref bb,.ref c]) = H2 at s2 e2 ⊢
   refine ⟨T,_,rfl,Bx.of e2,rfl,_,_,rfl,_,_,rfl,rfl,?_⟩
   have hcD:c ≠ D:=Bl hc hD (by intro z; cases z)
   have hcW:c ≠ W:=Ah hc hW
   have hc2:=s2 _ _ (k' c _ hcD hc)
   refine ⟨c,.dK cs,trivial,hc2,_,rfl,c,.dK cs,rfl,trivial,hc2,fun o2=>?_⟩
   have t2c:LT H2 (upd H2 c (.frz o2 (.dK cs))):=LT.dK hc2
   refine Mx (d:=c) (o:=o2) (u := .dK cs) (fun j σ H3=>Ud fun (wv:List ((List Int × Int) × V)) (v4 v5 v6:Option V)=>L7 (σ = [some (.ref D),some (.ref W),some (.ref bb),some (.ref c),v4,v5,v6]) (H3 c = some (.frz o2 (.dK cs))) (H3 D = some (.frz o (.dT kvs))) ((ii D c H H3)) (Af H2 H3) (H3 W = some (.dT wv)) (Fc ws cm H kvs (16 * i + 2 * j) H3 wv) (wv.length <= 16 * i + 2 * j) ((gc ws cm H kvs i H3 wv)) (ik ws cm cs j kk H3 wv))
    ⟨wv,_,_,_,rfl,A5,(Ac hcD.symm).trans (s2 _ _ hD'),(fun b ob n1 n2 e=>(Ac n2).trans (s2 _ _ (k' b ob n1 e))),t2c.2,(Ac hcW.symm).trans (s2 _ _ hW'),hwo.up ((LT.of s2).trans t2c) (by omega),by omega,(fun k who later z1 z2 z3=>(hs1 k who later z1 z2 z3).up ((LT.of s2).trans t2c)),(fun who later z=>by obtain ⟨e,z,_⟩ := z; rw [List.take_zero] at z; cases z)⟩ (by rintro j σ H3 _ ⟨_,_,_,_,_,e,_⟩; exact e) ?_ ?_
   ·rintro j x2 y2 T2 σ H3 hj hit2 ⟨wv3,v4,v5,v6,rfl,hc3,hD3,k3,t3,hW3,hwo3,hwl3,hs3,hs32⟩ hT2
    have hj8:j < 8:=Nat.lt_of_lt_of_le hj hcl
    obtain ⟨kk2,hkv2,rfl⟩ := hit2
    obtain ⟨w2,l,us2,ei,hw2,hno2,el,hl,hbe2⟩ := hco _ (List.mem_of_getElem? hkv2)
    have hl2:us2.length <= 2:=by
     rw [hbe2.1]
     unfold Ay
     split <;> simp
    have ei':kk2 = .inl (w2:Int):=ei
    subst ei'
    have el':y2 = .ref l:=el
    subst el'
    have s4:A9 H3 (upd H3 T2 (.tup [kV (.inl (w2:Int)),.ref l])):=A9.upd hT2
    have e4:(upd H3 T2 (.tup [kV (.inl (w2:Int)),.ref l])) T2 = some (.tup [kV (.inl (w2:Int)),.ref l]):=A5
    generalize upd H3 T2 (.tup [kV (.inl (w2:Int)),.ref l]) = H4 at s4 e4 ⊢
    refine ⟨T2,_,rfl,Bx.of e4,rfl,_,_,rfl,_,_,rfl,rfl,?_⟩
    have hlD:l ≠ D:=Bl hl hD (by intro z; cases z)
    have hlc:l ≠ c:=Bl hl hc (by intro z; cases z)
    refine ⟨_,rfl,l,rfl,.inl ⟨⟨_,Bo.of (s4 _ _ (k3 l _ hlD hlc hl))⟩,?_⟩⟩
    refine D6 (K:=K) (a:=l) (xs:=us2) (fun m σ H5=>Yh fun (wv:List ((List Int × Int) × V)) (v6:Option V)=>Ke (σ = [some (.ref D),some (.ref W),some (.ref bb),some (.ref c),some (kV (.inl (w2:Int))),some (.ref l),v6]) (H5 c = some (.frz o2 (.dK cs))) (H5 D = some (.frz o (.dT kvs))) ((ii D c H H5)) (Af H2 H5) (H5 W = some (.dT wv)) (Fc ws cm H kvs (16 * i + 2 * j + m) H5 wv) (wv.length <= 16 * i + 2 * j + m) ((gc ws cm H kvs i H5 wv)) ((ik ws cm cs j kk H5 wv)) (∀ later,some later ∈ (Ay ws kk.1 cm kk.2 w2).take m -> Cm H5 wv later kk w2))
     ⟨wv3,_,rfl,s4 _ _ hc3,s4 _ _ hD3,(fun b ob n1 n2 e=>s4 _ _ (k3 b ob n1 n2 e)),t3.trans (Af.of s4),s4 _ _ hW3,hwo3.up (LT.of s4) (Nat.le_refl _),hwl3,(fun k who later z1 z2 z3=>(hs3 k who later z1 z2 z3).up (LT.of s4)),(fun who later z1 z2=>(hs32 who later z1 z2).up (LT.of s4)),(fun later z=>by rw [List.take_zero] at z; cases z)⟩ (by rintro m σ H5 _ ⟨_,_,_,_,_,k5,_⟩; exact Bo.of (k5 l _ hlD hlc hl)) ?_ ?_
    ·rintro m u σ H5 hu ⟨wv5,v6,rfl,hc5,hD5,k5,t5,hW5,hwo5,hwl5,hs5,hs52,hs53⟩
     have hm2:m < 2:=Nat.lt_of_lt_of_le (List.getElem?_eq_some_iff.mp hu).1 hl2
     obtain ⟨r0,hr0,hr1⟩ := hbe2.get hu
     obtain ⟨lk,er⟩ : ∃ lk,r0 = some lk:=by
      cases r0 with
      | none=>exact absurd (List.mem_of_getElem? hr0) hno2
      | some r=>exact ⟨r,rfl⟩
     subst er
     obtain ⟨lb,rfl,hlk0⟩ := hr1
     have hlk:E2 H lb lk:=hlk0
     have tH5:Af H H5:=fun b xs e=>k5 b _ (Bl e hD (by intro z; cases z)) (Bl e hc (by intro z; cases z)) e
     have hlk5:=hlk.up tH5
     have free5:∀ E,H5 E = none -> H E = none:=fun E hE=>by
      cases hHE:H E with
      | none=>rfl
      | some ob =>
       by_cases z1:E = D
       ·rw [z1,hD5] at hE
        cases hE
       by_cases z2:E = c
       ·rw [z2,hc5] at hE
        cases hE
       rw [k5 E ob z1 z2 hHE] at hE
       cases hE
     refine ⟨(fun v H7=>Vd fun (wv7:List ((List Int × Int) × V)) (l7:Addr) (us7:List V)=>au (v = .ref l7) (Ae wv7 lk = some (.ref l7)) (H l7 = none) (H7 l7 = some (.lst us7)) (us7.length <= 16 * i + 2 * j + m) ((∀ u ∈ us7,Oq ws cm kvs H7 lk u)) (H7 c = some (.frz o2 (.dK cs))) (H7 D = some (.frz o (.dT kvs))) ((∀ b ob,b ≠ D -> b ≠ c -> H b = some ob -> H7 b = some ob)) (Af H5 H7) (H7 W = some (.dT wv7)) (Fc ws cm H kvs (16 * i + 2 * j + m) H7 wv7) (wv7.length <= 16 * i + 2 * j + m + 1) ((∀ k who later,(∃ v,(k,v) ∈ kvs.take i) -> An H kvs k who -> some later ∈ Ay ws k.1 cm k.2 who -> Cm H7 wv7 later k who)) ((∀ who later,(∃ e ∈ cs.take j,e.1 = .inl ((who:Nat):Int)) -> some later ∈ Ay ws kk.1 cm kk.2 who -> Cm H7 wv7 later kk who)) ((∀ later,some later ∈ (Ay ws kk.1 cm kk.2 w2).take m -> Cm H7 wv7 later kk w2))),⟨_,rfl,W,rfl,.inr ⟨wv5,.inl hW5⟩,_,rfl,Bk,fun E hE=>?_⟩,?_⟩
     ·have s6:A9 H5 (upd H5 E (.lst [])):=A9.upd hE
      have e6:(upd H5 E (.lst [])) E = some (.lst []):=A5
      generalize upd H5 E (.lst []) = H6 at s6 e6 ⊢
      have hW6:=s6 _ _ hW5
      refine ⟨wv5,lk,lb,rfl,hlk5.up (Af.of s6),hW6,Bq (by omega),fun v hv=>?_,fun hv=>?_⟩
      ·obtain ⟨l7,us7,e7,h0,h1,h2,h3⟩ := hwo5.1 _ (Bf hv)
       have e7':v = .ref l7:=e7
       exact ⟨wv5,l7,us7,e7,by rw [hv,e7'],h0,s6 _ _ h1,h2,(fun u hu=>(h3 u hu).up (Af.of s6)),s6 _ _ hc5,s6 _ _ hD5,(fun b ob n1 n2 e=>s6 _ _ (k5 b ob n1 n2 e)),Af.of s6,hW6,hwo5.up (LT.of s6) (Nat.le_refl _),by omega,(fun k who later z1 z2 z3=>(hs5 k who later z1 z2 z3).up (LT.of s6)),(fun who later z1 z2=>(hs52 who later z1 z2).up (LT.of s6)),(fun later z=>(hs53 later z).up (LT.of s6))⟩
      ·have t7:LT H6 (upd H6 W (.dT (Bb wv5 lk (.ref E)))):=LT.dT hW6
       have nE:=free5 E hE
       have t57:=(LT.of s6).trans t7
       refine ⟨Bb wv5 lk (.ref E),E,[],rfl,by rw [F5,if_pos rfl],nE,t7.1 _ _ e6,Nat.zero_le _,(fun u hu=>by cases hu),(Ac hcW).trans (s6 _ _ hc5),(Ac hWD.symm).trans (s6 _ _ hD5),(fun b ob n1 n2 e=>(Ac (Ah e hW)).trans (s6 _ _ (k5 b ob n1 n2 e))),(Af.of s6).trans t7.2,A5,?_,Nat.le_trans (Dw _ _ _) (by omega),(fun k who later z1 z2 z3=>((hs5 k who later z1 z2 z3).up t57).put hv),(fun who later z1 z2=>((hs52 who later z1 z2).up t57).put hv),(fun later z=>((hs53 later z).up t57).put hv)⟩
       refine ⟨fun kv hkv=>?_,?_⟩
       ·rcases X8 hkv with y | y
        ·exact (hwo5.up t57 (Nat.le_refl _)).1 kv y
        ·subst y
         exact ⟨E,[],rfl,nE,t7.1 _ _ e6,Nat.zero_le _,fun u hu=>by cases hu⟩
       ·rw [C5 _ hv,List.map_append]
        refine Eh hwo5.2 (fun y=>?_)
        obtain ⟨kv,hkv,e⟩ := List.mem_map.mp y
        obtain ⟨l9,us9,e9,_,h9,_⟩ := hwo5.1 kv hkv
        have e':kv.2 = .ref E:=e
        rw [e'] at e9
        cases e9
        rw [hE] at h9
        cases h9
     rintro v H7 ⟨wv7,l7,us7,rfl,hv7,n7,hl7,hul7,hall7,hc7,hD7,k7,t7,hW7,hwo7,hwl7,hs7,hs72,hs73⟩
     refine ⟨.inl ⟨rfl,_,Bo.of hl7⟩,_,rfl,_,rfl,Bk,fun T3 hT3=>?_⟩
     have s8:A9 H7 (upd H7 T3 (.tup [.ref bb,kV (.inl (w2:Int))])):=A9.upd hT3
     have e8:(upd H7 T3 (.tup [.ref bb,kV (.inl (w2:Int))])) T3 = some (.tup [.ref bb,kV (.inl (w2:Int))]):=A5
     generalize upd H7 T3 (.tup [.ref bb,kV (.inl (w2:Int))]) = H8 at s8 e8 ⊢
     have hl8:=s8 _ _ hl7
     refine ⟨l7,_,_,rfl,rfl,hl8,Bq (by omega),?_⟩
     have hl7D:l7 ≠ D:=(Ah hD n7).symm
     have hl7c:l7 ≠ c:=(Ah hc n7).symm
     have hl7W:l7 ≠ W:=Bl hl7 hW7 (by intro z; cases z)
     have hkk8:E2 H8 bb kk:=(((hkk.up (Af.of s2)).up t5).up t7).up (Af.of s8)
     have hway:Oq ws cm kvs H8 lk (.ref T3):=⟨T3,bb,w2,kk,rfl,e8,hkk8,⟨kw,hkw⟩,List.mem_of_getElem? hr0⟩
     refine ⟨wv7,_,rfl,(Ac hl7c.symm).trans (s8 _ _ hc7),(Ac hl7D.symm).trans (s8 _ _ hD7),(fun b ob n1 n2 e=>(Ac (Ah e n7)).trans (s8 _ _ (k7 b ob n1 n2 e))),((t5.trans t7).trans (Af.of s8)).trans (Af.lst hl8),(Ac hl7W.symm).trans (s8 _ _ hW7),?_,by omega,(fun k who later z1 z2 z3=>((hs7 k who later z1 z2 z3).up (LT.of s8)).app hl8),(fun who later z1 z2=>((hs72 who later z1 z2).up (LT.of s8)).app hl8),(fun later z=>?_)⟩
     ·exact Fc.app (hwo7.up (LT.of s8) (Nat.le_refl _)) (Bf hv7) hl8 hul7 (fun u hu=>(hall7 u hu).up (Af.of s8)) hway
     ·rw [List.take_add_one,hr0] at z
      rcases List.mem_append.mp z with y | y
      ·exact ((hs73 later y).up (LT.of s8)).app hl8
      ·have ey:later = lk:=by simpa using y
       subst ey
       have tt:Af H8 (upd H8 l7 (.lst (us7 ++ [.ref T3]))):=Af.lst hl8
       exact ⟨l7,_,T3,bb,hv7,A5,by simp,tt _ _ e8,hkk8.up tt⟩
    rintro σ H5 ⟨wv5,v6,rfl,hc5,hD5,k5,t5,hW5,hwo5,hwl5,hs5,hs52,hs53⟩
    refine ⟨wv5,_,_,_,rfl,hc5,hD5,k5,t5,hW5,hwo5.up ⟨fun _ _ z=>z,fun _ _ z=>z⟩ (by omega),by omega,hs5,fun who later z1 z2=>?_⟩
    obtain ⟨e,he,ew⟩ := z1
    rw [List.take_add_one,hkv2] at he
    rcases List.mem_append.mp he with y | y
    ·exact hs52 who later ⟨e,y,ew⟩ z2
    ·have ey:e = (.inl (w2:Int),.ref l):=by simpa using y
     subst ey
     have ew2:(w2:Int) = (who:Int):=Sum.inl.inj ew
     have ew3:w2 = who:=by omega
     subst ew3
     refine hs53 later ?_
     rw [hbe2.1,List.take_length]
     exact z2
   rintro σ H3 ⟨wv3,v4,v5,v6,rfl,hc3,hD3,k3,t3,hW3,hwo3,hwl3,hs3,hs32⟩
   have hll:Dc (.dK cs) <= 8:=hcl
   have tz:LT H3 (upd H3 c (.dK cs)):=⟨fun b xs e=>by rw [Ac (Bl e hc3 (by intro z; cases z))]; exact e,fun b xs e=>by rw [Ac (Bl e hc3 (by intro z; cases z))]; exact e⟩
   refine ⟨o2,hc3,wv3,_,_,_,_,_,rfl,(Ac hcD.symm).trans hD3,(fun b ob n1 e=>?_),(Ac hcW.symm).trans hW3,hwo3.up tz (show 16 * i + 2 * Dc (.dK cs) <= 16 * (i + 1) by omega),by omega,fun k who later z1 z2 z3=>?_⟩
   ·by_cases z:b = c
    ·subst z
     rw [hc] at e
     cases e
     exact A5
    ·exact (Ac z).trans (k3 b ob n1 z e)
   ·obtain ⟨v,hv⟩ := z1
    rw [List.take_add_one,hkv] at hv
    rcases List.mem_append.mp hv with y | y
    ·exact (hs3 k who later ⟨v,y⟩ z2 z3).up tz
    ·have ey:(k,v) = (kk,.ref c):=by simpa using y
     cases ey
     obtain ⟨c',cs',g1,g2,g3⟩ := z2
     rw [Cb hps.2.1 hmem] at g1
     cases g1
     rw [hc] at g2
     cases g2
     obtain ⟨w',hw'⟩ := Option.isSome_iff_exists.mp g3
     refine (hs32 who later ⟨(.inl (who:Int),w'),?_,rfl⟩ z3).up tz
     show _ ∈ cs.take cs.length
     rw [List.take_length]
     exact Bf hw'
  rintro σ H' ⟨wv,v2,v3,v4,v5,v6,rfl,hD',k',hW',hwo,hwl,hs1⟩
  have hkl':Dc (.dT kvs) <= 3000:=hkl
  have tD:LT H' (upd H' D (.dT kvs)):=⟨fun b xs e=>by rw [Ac (Bl e hD' (by intro z; cases z))]; exact e,fun b xs e=>by rw [Ac (Bl e hD' (by intro z; cases z))]; exact e⟩
  refine ⟨o,hD',_,rfl,q W wv _ hW (fun b ob e=>?_) ((Ac hWD).trans hW') (hwo.up tD (show 16 * Dc (.dT kvs) <= 48000 by omega)) (fun k who later z2 z3=>?_) (by omega)⟩
  ·by_cases z:b = D
   ·subst z
    rw [hD] at e
    cases e
    exact A5
   ·exact (Ac z).trans (k' b ob z e)
  ·obtain ⟨c',cs',g1,g2,g3⟩ := id z2
   refine (hs1 k who later ⟨.ref c',?_⟩ z2 z3).up tD
   show _ ∈ kvs.take kvs.length
   rw [List.take_length]
   exact Bf g1
noncomputable def Xm (K : PySem.W.Frag) : Sp := fun vs H Q _ => Zp fun (D W R : Addr) (kvs wv : List ((List Int × Int) × V)) (rs : List V) (rho : List (List Int × Int)) (H0 : Hp) (ws : List Int) (cm : Option Int) => L7 (vs = [.ref D, .ref W, .ref R]) (H D = some (.dT kvs)) (Cj ws cm H kvs) (H W = some (.dT wv)) (Fc ws cm H0 kvs 48000 H wv) ((∀ k who later, An H kvs k who -> some later ∈ Ay ws k.1 cm k.2 who -> Cm H wv later k who)) (H R = some (.lst rs)) (Ad (Dr H) rho rs) (Cd H kvs <= 24000) (∀ (B : Addr) (bs : List V) (beta : List (List Int × Int)) (H' : Hp), H B = none -> Ed kvs H H' -> Cj ws cm H' kvs -> H' B = some (.lst bs) -> Ad (Dr H') beta bs -> Cd H' kvs + bs.length <= Cd H kvs ->
  (∀ k who,An H' kvs k who ↔ (An H kvs k who /\ ∀ later ∈ rho,some later ∉ Ay ws k.1 cm k.2 who)) -> (∀ k,k ∈ beta ↔ ((∃ who,An H kvs k who) /\ ∀ who,¬ An H' kvs k who)) -> Q (.ref B) H')
theorem j0 {fd  : FuncData} (T:Gq K mg ad) (F:Fq K "without_calls_left" "without_calls_left" V9 ad.f_x0 fd):Aj P w K mg base Bp 1 ad.f_x0 fd ["pending","ways","ranked"] (Xm K):=by
 refine F.ok Nh (fun vs H Q E h=>?_) (fun cdv A outer s H vs Q E hr h=>?_)
 ·rcases h with ⟨D,W,R,kvs,wv,rs,rho,H0,ws,cm,rfl,hD,hps,hW,hwo,hcm,hR,hrs,hle,q⟩ <;> rfl
 ·obtain ⟨D,W,R,kvs,wv,rs,rho,H0,ws,cm,rfl,hD,hps,hW,hwo,hcm,hR,hrs,hle,q⟩ := h
  refine ⟨_,(A6 (Al (i:=3) Nh.nd rfl (Or.inl rfl) (D5 A7)) (A6 (Cr PassesOwn.never rfl (Dk (w':=P1 K _) (Dj (pv 2))) (Aq (i:=4) Nh.nd rfl (Or.inl rfl)) (Ab (Cr PassesOwn.never rfl (Dk (w':=P1 K _) (Dj (Rq (Wo (Dl hr) (pv 1) (pv 4) (D5 A7) ⟨rfl,rfl,rfl,rfl⟩)))) (Gh K (n:=2) rfl (Ci (Aq (i:=5) Nh.nd rfl (Or.inl rfl)) (Ci (Aq (i:=6) Nh.nd rfl (Or.inl rfl)) Gd))) (A6 (Al (i:=7) Nh.nd rfl (Or.inl rfl) (Gn (Dl hr) (pv 0) (pv 5) (fun _ _=>rfl))) (Ab (Dp (Fk (Lz (Dl hr) (pv 6) (pv 7)) rfl) (A6 (Co (Xo (pv 7) (pv 6) ⟨rfl,rfl,rfl,rfl⟩)) (Ab (Dp (Fs (Tw (pv 7))) (Ab (Co (Dz (u':=Tv K _ _ _ _) (Ez PySem.F.plainAttrs_list PySem.F.slot_list_append PySem.F.type_list_append D0 (pv 3) (A0 (pv 5) A7))))) Av))) Av)))))) (Ab (Ao (pv 3))))),?_⟩
  have hpo:=hps.ok
  refine ⟨Bk,fun B hB=>?_⟩
  have s1:A9 H (upd H B (.lst [])):=A9.upd hB
  have e1:(upd H B (.lst [])) B = some (.lst []):=A5
  generalize upd H B (.lst []) = H1 at s1 e1 ⊢
  have c1:∀ c cs,H c = some (.dK cs) -> H1 c = some (.dK cs):=fun c cs e=>s1 _ _ e
  refine ⟨_,rfl,R,rfl,.inl ⟨⟨_,Bo.of (s1 _ _ hR)⟩,?_⟩⟩
  refine D6 (K:=K) (a:=R) (xs:=rs) (fun i σ H'=>iz fun (bs:List V) (beta:List (List Int × Int)) (v4 v5 v6 v7:Option V)=>Ke (σ = [some (.ref D),some (.ref W),some (.ref R),some (.ref B),v4,v5,v6,v7]) (Ed kvs H H') (Cj ws cm H' kvs) (H' B = some (.lst bs)) (Ad (Dr H') beta bs) (Cd H' kvs + bs.length <= Cd H kvs) (Vj B H' kvs) ((Zz kvs H' H)) ((gd ws cm kvs rho i H H')) ((fh ws cm kvs rho i H')) ((js kvs H H' beta)))
   ⟨[],[],_,_,_,_,rfl,Ed.of s1,hps.keep (LT.of s1) c1,e1,Ad.nil,by rw [Ec hpo c1]; exact Nat.le_refl _,(Vj.start hpo hB).keep hpo c1,(fun k who z=>(An.keep hps c1).mp z),(fun k who z _=>(An.keep hps c1).mpr z),(fun later z=>by rw [List.take_zero] at z; cases z),fun k=>⟨(fun z=>by cases z),fun z=>?_⟩⟩ (by rintro i σ H' _ ⟨_,_,_,_,_,_,_,ch,_⟩; exact Bo.of (ch.keep hpo hR (fun cs z=>nomatch z))) ?_ ?_
  ·obtain ⟨⟨who,z1⟩,z2⟩ := z
   exact absurd ((An.keep hps c1).mpr z1) (z2 who)
  ·rintro i u σ H' hu ⟨bs,beta,v4,v5,v6,v7,rfl,ch,hps',hB',hbs,hlf,nb,l1,l2,l3,l4⟩
   obtain ⟨lk,hlk0,lb,lu,rfl,hlk1,hlk2⟩ := hrs.get hu
   have hlk:E2 H lb lk:=⟨lu,hlk1,hlk2⟩
   have hpo':=hps'.ok
   have lt':=ch.lt hpo
   have hW':=ch.keep hpo hW (fun cs z=>nomatch z)
   have hwo':=hwo.up lt' (Nat.le_refl _)
   refine ⟨(fun v H7=>Yh fun (la:Addr) (us2:List V)=>Qz (v = .ref la) (H7 la = some (.lst us2)) (la ≠ B) ((∀ u ∈ us2,Oq ws cm kvs H7 lk u)) ((∀ lx,Ae wv lk = some (.ref lx) -> lx = la)) (A9 H' H7)),⟨_,rfl,W,rfl,.inr ⟨wv,.inl hW'⟩,_,rfl,Bk,fun E hE=>?_⟩,?_⟩
   ·have s6:A9 H' (upd H' E (.lst [])):=A9.upd hE
    refine ⟨_,D1.t (s6 _ _ hW') ((hlk.up lt'.2).up (Af.of s6)),?_⟩
    cases hv:Ae wv lk with
    | none=>exact ⟨E,[],rfl,A5,(Ah hB' hE).symm,(fun u hu=>by cases hu),(fun lx z=>by cases z),s6⟩
    | some v =>
     obtain ⟨la,us2,e2,h0,h1,h2,h3⟩ := hwo.1 _ (Bf hv)
     obtain ⟨lc,us3,e3,_,g1,_,g3⟩ := hwo'.1 _ (Bf hv)
     have e23:V.ref la = V.ref lc:=e2.symm.trans e3
     cases e23
     have e3':v = .ref la:=e3
     exact ⟨la,us3,e3,s6 _ _ g1,Ah h1 hB,(fun u hu=>(g3 u hu).up (Af.of s6)),(fun lx z=>by rw [e3'] at z; cases z; rfl),s6⟩
   rintro v H7 ⟨la,us2,rfl,hla,hlaB,hus2,hlx,s7⟩
   refine ⟨la,rfl,.inl ⟨⟨_,Bo.of hla⟩,?_⟩⟩
   have c7:∀ c cs,H' c = some (.dK cs) -> H7 c = some (.dK cs):=fun c cs e=>s7 _ _ e
   have hps7:=hps'.keep (LT.of s7) c7
   have lt7:LT H H7:=lt'.trans (LT.of s7)
   refine D6 (K:=K) (a:=la) (xs:=us2) (fun j σ H8=>gm fun (bs:List V) (beta:List (List Int × Int)) (v5 v6 v7:Option V)=>ap (σ = [some (.ref D),some (.ref W),some (.ref R),some (.ref B),some (.ref lb),v5,v6,v7]) (Ed kvs H H8) (Cj ws cm H8 kvs) (H8 B = some (.lst bs)) (Ad (Dr H8) beta bs) (Cd H8 kvs + bs.length <= Cd H kvs) (Vj B H8 kvs) ((Zz kvs H8 H)) ((gd ws cm kvs rho (i + 1) H H8)) ((fh ws cm kvs rho i H8)) ((js kvs H H8 beta)) (Af H7 H8) (H8 la = some (.lst us2)) ((Zz kvs H8 H7)) (nl H7 us2 j H8 kvs))
    ⟨bs,beta,_,_,_,rfl,ch.trans (Ed.of s7),hps7,s7 _ _ hB',hbs.imp (fun _ _ z=>Dr.up (Af.of s7) z),by rw [Ec hpo' c7]; exact hlf,nb.keep hpo' c7,(fun k who z=>l1 k who ((An.keep hps' c7).mp z)),(fun k who z1 z2=>(An.keep hps' c7).mpr (l2 k who z1 fun later hl=>z2 later (List.take_subset_take_left _ (Nat.le_succ i) hl))),(fun later hl k who z1 z2=>l3 later hl k who z1 ((An.keep hps' c7).mp z2)),(fun k=>(l4 k).trans ⟨fun z=>⟨z.1,fun who y=>z.2 who ((An.keep hps' c7).mp y)⟩,fun z=>⟨z.1,fun who y=>z.2 who ((An.keep hps' c7).mpr y)⟩⟩),(fun _ _ z=>z),hla,(fun k who z=>z),(fun t b who k z=>by rw [List.take_zero] at z; cases z)⟩ (by rintro j σ H8 _ ⟨_,_,_,_,_,_,_,_,_,_,_,_,_,_,_,_,_,e,_⟩; exact Bo.of e) ?_ ?_
   ·rintro j u σ H8 hu2 ⟨bs8,beta8,v5,v6,v7,rfl,ch8,hps8,hB8,hbs8,hlf8,nb8,m1,m2,m3,m4,lt8,hla8,m5,m6⟩
    have hpo8:=hps8.ok
    obtain ⟨t,b,who,k,rfl,ht7,hb7,⟨v,hkv⟩,hbeh⟩ := hus2 u (List.mem_of_getElem? hu2)
    have ht:=lt8 _ _ ht7
    have hb:=hb7.up lt8
    refine ⟨t,_,rfl,Bx.of ht,rfl,_,_,rfl,_,_,rfl,rfl,?_⟩
    have hD8:=ch8.keep hpo hD (fun cs z=>nomatch z)
    have hmem:=Bf hkv
    obtain ⟨c,cs,ev,hc,hcl,hco⟩ := hps8.1 _ hmem
    have ev':v = .ref c:=ev
    subst ev'
    have taken:∀ (HX:Hp),(∀ k' who',An HX kvs k' who' -> An H8 kvs k' who') -> ¬ An HX kvs k who -> ∀ t' b' who' k',V.ref t' ∈ us2.take (j + 1) -> H7 t' = some (.tup [.ref b',.int ((who':Nat):Int)]) -> E2 H7 b' k' -> ¬ An HX kvs k' who':=fun HX hx1 hx2 t' b' who' k' z1 z2 z3 z4=>by
     rw [List.take_add_one,hu2] at z1
     rcases List.mem_append.mp z1 with y | y
     ·exact m6 t' b' who' k' y z2 z3 (hx1 _ _ z4)
     ·have e1:t' = t:=by simpa using y
      subst e1
      rw [ht7] at z2
      cases z2
      obtain ⟨u1,f1,f2⟩ := hb7
      obtain ⟨u2,g1,g2⟩ := z3
      rw [f1] at g1
      injection g1 with g1
      injection g1 with g1
      injection g1 with g1a g1b
      injection g1b with g1b
      injection g1a with g1a
      injection g1b with g1b
      subst g1a
      rw [f2] at g2
      have ek:k = k':=by
       have h1:k.1 = k'.1:=by
        have:=Option.some.inj g2
        injection this with this
        exact Js this
       exact Prod.ext h1 g1b
      subst ek
      exact hx2 z4
    refine ⟨_,rfl,_,rfl,D,.ref c,rfl,(by rw [<- hkv]; exact D1.t hD8 hb),?_⟩
    refine ⟨_,rfl,_,rfl,c,_,rfl,D1.k (k := .inl (who:Int)) hc,_,rfl,_,fun hin=>?_,fun hin=>?_,fun _ _ z=>z⟩
    ·obtain ⟨w',hw⟩ := Option.isSome_iff_exists.mp hin
     have hleft:An H8 kvs k who:=⟨c,cs,hkv,hc,by rw [hw]; rfl⟩
     refine ⟨_,rfl,c,rfl,.inl ⟨cs,.inl hc⟩,_,rfl,cs,.inl (who:Int),w',hc,rfl,hw,?_⟩
     have ch9:Ed kvs H8 (upd H8 c (.dK (Bv cs (.inl (who:Int))))):=Ed.pop hmem rfl
     have hps9:Cj ws cm (upd H8 c (.dK (Bv cs (.inl (who:Int))))) kvs:=hps8.pop hc
     have lt9:LT H8 (upd H8 c (.dK (Bv cs (.inl (who:Int))))):=LT.dK hc
     have hc9:(upd H8 c (.dK (Bv cs (.inl (who:Int))))) c = some (.dK (Bv cs (.inl (who:Int)))):=A5
     have nb9:Vj B (upd H8 c (.dK (Bv cs (.inl (who:Int))))) kvs:=nb8.pop hc
     have hl9:=(Mv hc (Zu hw) (kvs:=kvs)).2 ⟨_,hmem,rfl⟩
     have lp9:∀ k' who',An (upd H8 c (.dK (Bv cs (.inl (who:Int))))) kvs k' who' ↔ An H8 kvs k' who' /\ ¬ (k' = k /\ who' = who):=fun k' who'=>An.pop hps8 hkv hc
     generalize upd H8 c (.dK (Bv cs (.inl (who:Int)))) = H9 at ch9 hps9 lt9 hc9 nb9 hl9 lp9 ⊢
     have hpo9:=hps9.ok
     have hB9:=lt9.1 _ _ hB8
     have hb9:=hb.up lt9.2
     have n1:∀ k' who',An H9 kvs k' who' -> An H kvs k' who':=fun k' who' z=>m1 _ _ ((lp9 k' who').mp z).1
     have n2:∀ k' who',An H kvs k' who' -> (∀ later ∈ rho.take (i + 1),some later ∉ Ay ws k'.1 cm k'.2 who') -> An H9 kvs k' who':=fun k' who' z1 z2=>(lp9 k' who').mpr ⟨m2 _ _ z1 z2,fun e=>by
      refine z2 lk ?_ (by rw [e.1,e.2]; exact hbeh)
      rw [List.take_add_one,hlk0]
      simp⟩
     have n3:∀ later ∈ rho.take i,∀ k' who',some later ∈ Ay ws k'.1 cm k'.2 who' -> ¬ An H9 kvs k' who':=fun later hl k' who' z1 z2=>m3 later hl k' who' z1 ((lp9 k' who').mp z2).1
     have n5:∀ k' who',An H9 kvs k' who' -> An H8 kvs k' who':=fun k' who' z=>((lp9 k' who').mp z).1
     have n6:=taken H9 n5 (fun z=>((lp9 k who).mp z).2 ⟨rfl,rfl⟩)
     have other:∀ k',k' ≠ k -> ((∀ who',¬ An H9 kvs k' who') ↔ ∀ who',¬ An H8 kvs k' who'):=fun k' hk'=>⟨fun z who' y=>z who' ((lp9 k' who').mpr ⟨y,fun e=>hk' e.1⟩),fun z who' y=>z who' (n5 _ _ y)⟩
     have hkb:k ∉ beta8:=fun z=>((m4 k).mp z).2 who hleft
     refine ⟨_,rfl,c,_,rfl,.inl hc9,_,fun he=>?_,fun he=>?_,fun _ _ z=>z⟩
     ·have hemp : Bv cs (.inl (who : Int)) = [] := by
       have:(Bv cs (.inl (who:Int))).isEmpty = true:=by simpa using he
       exact List.isEmpty_iff.mp this
      have hnone:∀ who',¬ An H9 kvs k who':=fun who' z=>by
       obtain ⟨c',cs',g1,g2,g3⟩ := z
       rw [hkv] at g1
       cases g1
       rw [hc9] at g2
       cases g2
       rw [hemp] at g3
       cases g3
      refine ⟨_,rfl,.inl ⟨rfl,_,Bo.of hB9⟩,_,rfl,B,_,_,rfl,rfl,hB9,Bq (by omega),?_⟩
      have t10:Af H9 (upd H9 B (.lst (bs8 ++ [.ref b]))):=Af.lst hB9
      have k10:∀ c' cs',H9 c' = some (.dK cs') -> (upd H9 B (.lst (bs8 ++ [.ref b]))) c' = some (.dK cs'):=fun c' cs' e=>by
       rw [Ac (Bl e hB9 (by intro z; cases z))]
       exact e
      have kl:∀ x xs,x ≠ B -> H9 x = some (.lst xs) -> (upd H9 B (.lst (bs8 ++ [.ref b]))) x = some (.lst xs):=fun x xs n e=>(Ac n).trans e
      have lp10:∀ k' who',An (upd H9 B (.lst (bs8 ++ [.ref b]))) kvs k' who' ↔ An H9 kvs k' who':=fun k' who'=>An.keep hps9 k10
      obtain ⟨ub,hb91,hb92⟩ := hb9
      refine ⟨bs8 ++ [.ref b],beta8 ++ [k],_,_,_,rfl,(ch8.trans ch9).new hB,hps9.keepB nb9 t10 kl k10,A5,(hbs8.imp fun _ _ z=>Dr.up t10 (Dr.up lt9.2 z)).append (Ad.one ⟨b,ub,rfl,t10 _ _ hb91,t10 _ _ hb92⟩),?_,nb9.keep hpo9 k10,(fun k' who' z=>n1 _ _ ((lp10 k' who').mp z)),(fun k' who' z1 z2=>(lp10 k' who').mpr (n2 _ _ z1 z2)),(fun later hl k' who' z1 z2=>n3 later hl k' who' z1 ((lp10 k' who').mp z2)),(fun k'=>?_),(lt8.trans lt9.2).trans t10,kl _ _ hlaB (lt9.1 _ _ hla8),(fun k' who' z=>m5 _ _ (n5 _ _ ((lp10 k' who').mp z))),(fun t' b' who' k' z1 z2 z3 z4=>n6 t' b' who' k' z1 z2 z3 ((lp10 k' who').mp z4))⟩
      ·rw [Ec hpo9 k10,List.length_append,List.length_singleton]
       omega
      ·have e10:(∀ who',¬ An (upd H9 B (.lst (bs8 ++ [.ref b]))) kvs k' who') ↔ ∀ who',¬ An H9 kvs k' who':=⟨fun z who' y=>z who' ((lp10 k' who').mpr y),fun z who' y=>z who' ((lp10 k' who').mp y)⟩
       rw [e10]
       by_cases hk':k' = k
       ·subst hk'
        exact ⟨fun _=>⟨⟨who,m1 _ _ hleft⟩,hnone⟩,fun _=>by simp⟩
       ·rw [other k' hk',<- m4 k']
        simp [hk']
     ·have hne : Bv cs (.inl (who : Int)) ≠ [] := fun z => by
       rw [z] at he
       exact absurd he (by decide)
      refine ⟨bs8,beta8,_,_,_,rfl,ch8.trans ch9,hps9,hB9,hbs8.imp (fun _ _ z=>Dr.up lt9.2 z),by omega,nb9,n1,n2,n3,(fun k'=>?_),lt8.trans lt9.2,lt9.1 _ _ hla8,(fun k' who' z=>m5 _ _ (n5 _ _ z)),n6⟩
      by_cases hk':k' = k
      ·subst hk'
       refine ⟨fun z=>absurd z hkb,fun z=>?_⟩
       obtain ⟨x,hx⟩ := List.exists_mem_of_ne_nil _ hne
       obtain ⟨who2,l9,us9,g1,_⟩ := hco x (Kv hx)
       have hs:(Ae (Bv cs (.inl (who:Int))) (.inl (who2:Int))).isSome = true:=by
        obtain ⟨y,hy⟩ := Jh (k:=x.1) (v:=x.2) hx
        rw [<- g1,hy]
        rfl
       exact absurd ⟨c,_,hkv,hc9,hs⟩ (z.2 who2)
      ·rw [other k' hk']
       exact m4 k'
    ·have hno : ¬ An H8 kvs k who := fun z => by
      obtain ⟨c',cs',g1,g2,g3⟩ := z
      rw [hkv] at g1
      cases g1
      rw [hc] at g2
      cases g2
      rw [hin] at g3
      cases g3
     exact ⟨bs8,beta8,_,_,_,rfl,ch8,hps8,hB8,hbs8,hlf8,nb8,m1,m2,m3,m4,lt8,hla8,m5,taken H8 (fun _ _ z=>z) hno⟩
   rintro σ H8 ⟨bs8,beta8,v5,v6,v7,rfl,ch8,hps8,hB8,hbs8,hlf8,nb8,m1,m2,m3,m4,lt8,hla8,m5,m6⟩
   refine ⟨bs8,beta8,_,_,_,_,rfl,ch8,hps8,hB8,hbs8,hlf8,nb8,m1,m2,(fun later hl k who z1 z2=>?_),m4⟩
   rw [List.take_add_one,hlk0] at hl
   rcases List.mem_append.mp hl with y | y
   ·exact m3 later y k who z1 z2
   ·have e1:later = lk:=by simpa using y
    subst e1
    obtain ⟨lx,ux,tx,bx,f1,f2,f3,f4,f5⟩ := (hcm k who later (m1 _ _ z2) z1).up lt7
    have ex:=hlx lx f1
    subst ex
    rw [hla] at f2
    cases f2
    refine m6 tx bx who k ?_ f4 f5 z2
    rw [List.take_length]
    exact f3
  rintro σ H' ⟨bs,beta,v4,v5,v6,v7,rfl,ch,hps',hB',hbs,hlf,nb,l1,l2,l3,l4⟩
  unfold gd at l2
  unfold fh at l3
  rw [hrs.1,List.take_length] at l2 l3
  exact ⟨_,rfl,q B bs beta H' hB ch hps' hB' hbs hlf (fun k who=>⟨fun z=>⟨l1 k who z,fun later hl y=>l3 later hl k who y z⟩,fun z=>l2 k who z.1 z.2⟩) l4⟩
noncomputable def Ln (K:PySem.W.Frag):Sp:=fun vs H Q _=>Vd fun (a:Addr) (ws:List Int) (cm:Option Int)=>Sy (vs = [.ref a]) (Bm H a ws cm) ((∀ w ∈ ws,1 <= w)) (1 <= qv cm) ((∀ w ∈ ws,intBits w <= 256)) (intBits (qv cm) <= 256) (ws.length <= 8) (Ak (qv cm) ws <= 3000) (∀ (T:Addr) (tv:List ((List Int × Int) × V)) (H':Hp),H T = none -> A9 H H' -> H' T = some (.dT tv) -> Bz ws cm tv -> (tv.map (·.1)).Nodup -> tv.length <= 60000 -> Q (.ref T) H')
theorem dk {fd fd_x2 fd_x26 fd_x0:FuncData} (T:Gq K mg ad) (F:Fq K "ranks" "ranks" Ko ad.f_x29 fd) (G_x2:Aj P w K mg base Bp 6 ad.f_x2 fd_x2 ["hall"] (Wz K)) (B_x2:Az K fd_x2 ["hall"] []) (G_x26:Aj P w K mg base Bp 1 ad.f_x26 fd_x26 ["pending"] (Rk K)) (B_x26:Az K fd_x26 ["pending"] []) (G_x0:Aj P w K mg base Bp 1 ad.f_x0 fd_x0 ["pending","ways","ranked"] (Xm K)) (B_x0:Az K fd_x0 ["pending","ways","ranked"] []):Aj P w K mg base Bp 7 ad.f_x29 fd ["hall"] (Ln K):=by
 refine F.ok Fg (fun vs H Q E h=>?_) (fun cdv A outer s H vs Q E hr h=>?_)
 ·rcases h with ⟨a,ws,cm,rfl,ha,hw1,hq1,hb1,hb2,hw8,hp,q⟩ <;> rfl
 ·obtain ⟨a,ws,cm,rfl,ha,hw1,hq1,hb1,hb2,hw8,hp,q⟩ := h
  refine ⟨_,(A6 (Al (i:=1) Fg.nd rfl (Or.inl rfl) (Ag G_x2 (hr.mono (by decide)) rfl T.m_x2 T.k_x2 B_x2 .nil B0 (A0 (pv 0) A7))) (A6 (Al (i:=2) Fg.nd rfl (Or.inl rfl) (Ag G_x26 (hr.mono (by decide)) rfl T.m_x26 T.k_x26 B_x26 .nil B0 (A0 (pv 1) A7))) (A6 (Al (i:=3) Fg.nd rfl (Or.inl rfl) F6) (A6 (Al (i:=4) Fg.nd rfl (Or.inl rfl) Aa) (A6 (Ob (Cv (i:=5) Fg.nd rfl (Hx (pv 1)) _ rfl Sa rfl rfl (fun _ _ _ _=>(Gh K (n:=2) rfl (Ci (Aq (i:=0) Lh rfl (Or.inl rfl)) (Ci (Aq (i:=1) Lh rfl (Or.inl rfl)) Gd)))) (fun _ _ _ _=>(Uj (Fs (Tw (pv 1))))) (fun _ _ _ _=>(pv 0)) rfl rfl)) (A6 (Ia PassesOwn.never (Lp (pv 5) (by intro _; rfl)) (A6 (Cr PassesOwn.never rfl (Dk (w':=P1 K _) (Dj (pv 5))) (Aq (i:=6) Fg.nd rfl (Or.inl rfl)) (Ab (Fh (Dl hr) (pv 3) (pv 6) (pv 4) rfl))) (A6 (Al (i:=5) Fg.nd rfl (Or.inl rfl) (Ag G_x0 (hr.mono (by decide)) rfl T.m_x0 T.k_x0 B_x0 .nil B0 (A0 (pv 1) (A0 (pv 2) (A0 (pv 5) A7))))) (Ab (Al (i:=4) Fg.nd rfl (Or.inl rfl) (Ba D4 (pv 4) Aa)))))) (Ab (Ao (pv 3))))))))),?_⟩
  refine ⟨_,rfl,a,ws,cm,rfl,ha,hw1,hq1,hb1,hb2,hw8,hp,fun D kvs H1 hD s1 eD hps hkeys hful hfr hkl=>?_⟩
  have hpo:=hps.ok
  refine ⟨_,rfl,D,kvs,ws,cm,rfl,eD,hps,hkl,fun W wv H2 hW s2 eW hwo hcmp hwl=>?_⟩
  refine fun T hT=>?_
  have s3:A9 H2 (upd H2 T (.dT [])):=A9.upd hT
  have e3:(upd H2 T (.dT [])) T = some (.dT []):=A5
  generalize upd H2 T (.dT []) = H3 at s3 e3 ⊢
  have s13:=s2.trans s3
  have eD3:=s13 _ _ eD
  have hTD:T ≠ D:=(Ah (s2 _ _ eD) hT).symm
  refine ⟨D,.dT kvs,trivial,eD3,_,rfl,D,.dT kvs,rfl,trivial,eD3,fun o=>?_⟩
  have hps3:=hps.keep (LT.of s13) (fun c cs e=>s13 _ _ e)
  have hpo3:=hps3.ok
  have hful3:=hful.keep hps (fun c cs e=>s13 _ _ e)
  have tF:LT H3 (upd H3 D (.frz o (.dT kvs))):=LT.dT eD3
  have kF:∀ c cs,H3 c = some (.dK cs) -> (upd H3 D (.frz o (.dT kvs))) c = some (.dK cs):=fun c cs e=>by
   rw [Ac (Bl e eD3 (by intro z; cases z))]
   exact e
  have bF:∀ b ob,b ≠ D -> H3 b = some ob -> (upd H3 D (.frz o (.dT kvs))) b = some ob:=fun b ob n e=>(Ac n).trans e
  have dF:(upd H3 D (.frz o (.dT kvs))) D = some (.frz o (.dT kvs)):=A5
  have hpsF:=hps3.keep tF kF
  have hfulF:=hful3.keep hps3 kF
  generalize upd H3 D (.frz o (.dT kvs)) = HF at tF kF bF dF hpsF hfulF ⊢
  refine fun R hR=>?_
  refine Lr (K:=K) (d:=D) (o:=o) (u := .dT kvs) (fun i zs H'=>∃ (rho:List (List Int × Int)),Hw (H' R = some (.lst zs)) (zs.length <= i) (Ad (Dr H') rho zs) (A9 HF H') (∀ k,k ∈ rho ↔ ∃ v,(k,v) ∈ kvs.take i /\ Xl HF v)) ⟨[],A5,Nat.le_refl _,Ad.nil,A9.upd hR,fun k=>⟨(fun z=>by cases z),fun ⟨v,z,_⟩=>by rw [List.take_zero] at z; cases z⟩⟩ (by rintro i zs H' _ ⟨_,_,_,_,s,_⟩; exact s _ _ dF) ?_ ?_ ?_ ?_
  ·rintro i x y T2 zs H' hi hit ⟨rho,hR',hzl,hzs,s',hrho⟩ hT2
   have hi3:i < 3000:=Nat.lt_of_lt_of_le hi hkl
   obtain ⟨kk,bb,hkv,rfl,hkk⟩ := hit
   obtain ⟨c,cs,ey,hc,hcl,hco⟩ := hpsF.1 _ (List.mem_of_getElem? hkv)
   have ey':y = .ref c:=ey
   subst ey'
   have s4:A9 H' (upd H' T2 (.tup [.ref bb,.ref c])):=A9.upd hT2
   have e4:(upd H' T2 (.tup [.ref bb,.ref c])) T2 = some (.tup [.ref bb,.ref c]):=A5
   generalize upd H' T2 (.tup [.ref bb,.ref c]) = H4 at s4 e4 ⊢
   have hR4:=s4 _ _ hR'
   refine ⟨_,rfl,c,cs,rfl,.inl (s4 _ _ (s' _ _ hc)),?_⟩
   obtain ⟨ku,hk1,hk2⟩ := hkk.up (Af.of s4)
   refine Fp (fun hc0=>?_) (fun hc0=>?_)
   ·have hemp : cs = [] := by
     have:cs.isEmpty = true:=by simpa using hc0
     exact List.isEmpty_iff.mp this
    subst hemp
    have tt:Af H4 (upd H4 R (.lst (zs ++ [.ref bb]))):=Af.lst hR4
    refine ⟨_,rfl,hR4,Bq (by omega),rho ++ [kk],A5,by rw [List.length_append,List.length_singleton]; omega,(hzs.imp fun _ _ z=>Dr.up tt (Dr.up (Af.of s4) z)).append (Ad.one ⟨bb,ku,rfl,tt _ _ hk1,tt _ _ hk2⟩),(s'.trans s4).new hR,fun k=>?_⟩
    rw [List.mem_append,hrho,List.mem_singleton,List.take_add_one,hkv]
    constructor
    ·rintro (⟨v,z1,z2⟩ | z)
     ·exact ⟨v,List.mem_append_left _ z1,z2⟩
     ·subst z
      exact ⟨.ref c,by simp,c,rfl,hc⟩
    ·rintro ⟨v,z1,z2⟩
     rcases List.mem_append.mp z1 with y | y
     ·exact .inl ⟨v,y,z2⟩
     ·have e1:(k,v) = (kk,.ref c):=by simpa using y
      cases e1
      exact .inr rfl
   ·have hne : cs ≠ [] := fun z => by
     rw [z] at hc0
     exact absurd hc0 (by decide)
    refine ⟨rho,hR4,by omega,hzs.imp fun _ _ z=>Dr.up (Af.of s4) z,s'.trans s4,fun k=>?_⟩
    rw [hrho,List.take_add_one,hkv]
    constructor
    ·rintro ⟨v,z1,z2⟩
     exact ⟨v,List.mem_append_left _ z1,z2⟩
    ·rintro ⟨v,z1,z2⟩
     rcases List.mem_append.mp z1 with y | y
     ·exact ⟨v,y,z2⟩
     ·have e1:(k,v) = (kk,.ref c):=by simpa using y
      cases e1
      obtain ⟨c',e2,e3⟩ := z2
      cases e2
      rw [hc] at e3
      cases e3
      exact absurd rfl hne
  ·rintro σ H1 Q1 Q2 hQ ⟨v,e1,c,cs,e2,r,z⟩
   exact ⟨v,e1,c,cs,e2,r,hQ _ _ z⟩
  ·rintro σ H1 Q1 Q2 hQ ⟨v,e1,z⟩
   exact ⟨v,e1,hQ _ _ z⟩
  rintro zs HG ⟨rho0,hRG,hzl,hzs,sG,hrho0⟩
  rw [show kvs.take (Dc (.dT kvs)) = kvs from List.take_length] at hrho0
  have hst0:=Fm.start hpsF hkeys hfulF hrho0
  have hDG:=sG _ _ dF
  have hkl':Dc (.dT kvs) <= 3000:=hkl
  have tG:LT HG (upd HG D (.dT kvs)):=⟨fun b xs e=>by rw [Ac (Bl e hDG (by intro z; cases z))]; exact e,fun b xs e=>by rw [Ac (Bl e hDG (by intro z; cases z))]; exact e⟩
  have s34:A9 H3 (upd HG D (.dT kvs)):=fun b ob e=>by
   by_cases z:b = D
   ·subst z
    rw [eD3] at e
    cases e
    exact A5
   ·exact (Ac z).trans (sG _ _ (bF b ob z e))
  refine ⟨o,hDG,?_⟩
  have hR4:=tG.1 _ _ hRG
  have hzs4:Ad (Dr (upd HG D (.dT kvs))) rho0 zs:=hzs.imp fun _ _ z=>Dr.up tG.2 z
  have cG:∀ c cs,HF c = some (.dK cs) -> (upd HG D (.dT kvs)) c = some (.dK cs):=fun c cs e=>by
   rw [Ac (Bl (sG _ _ e) hDG (by intro z; cases z))]
   exact sG _ _ e
  have hR3:H3 R = none:=by
   cases hx:H3 R with
   | none=>rfl
   | some ob =>
    by_cases z:R = D
    ·rw [z,dF] at hR
     cases hR
    ·rw [bF R ob z hx] at hR
     cases hR
  generalize upd HG D (.dT kvs) = H4 at tG s34 hR4 hzs4 cG ⊢
  clear tG hRG hzs sG hDG
  have hps4:=hps3.keep (LT.of s34) (fun c cs e=>s34 _ _ e)
  have hpo4:=hps4.ok
  have hst4:Fm ws cm [] rho0 1 (An H4 kvs):=by
   have e:An H4 kvs = An HF kvs:=by
    funext k who
    exact propext (An.keep hpsF cG)
   rw [e]
   exact hst0
  have hcm4:∀ k who later,An H4 kvs k who -> some later ∈ Ay ws k.1 cm k.2 who -> Cm H4 wv later k who:=fun k who later z1 z2=>((hcmp k who later ((An.keep hps (fun c cs e=>s34 _ _ (s13 _ _ e))).mp z1) z2).up (LT.of s3)).up (LT.of s34)
  have eD4:=s34 _ _ eD3
  have eW4:=s34 _ _ (s3 _ _ eW)
  have eT4:=s34 _ _ e3
  have hwo4:=hwo.up ((LT.of s3).trans (LT.of s34)) (Nat.le_refl _)
  have hl4:Cd H4 kvs <= 24000:=by
   have:=Kf hpo4
   omega
  have hTv:∀ kv ∈ kvs,kv.2 ≠ .ref T:=fun kv hkv z=>by
   obtain ⟨c,cs,e1,e2,_⟩ := hpo3 kv hkv
   rw [z] at e1
   cases e1
   rw [e3] at e2
   cases e2
  dsimp only
  refine Hz (fun σ' H'=>iz fun (R:Addr) (rs:List V) (rho:List (List Int × Int)) (tv:List ((List Int × Int) × V)) (rank:Int) (v6:Option V)=>L7 (σ' = [some (.ref a),some (.ref D),some (.ref W),some (.ref T),some (.int rank),some (.ref R),v6]) ((nq T kvs H4 H')) (Cj ws cm H' kvs) (H' T = some (.dT tv)) ((tv.map (·.1)).Nodup) (H' R = some (.lst rs)) (Ad (Dr H') rho rs) (Fm ws cm tv rho rank (An H' kvs)) ((Zz kvs H' H4)) (tv.length + rs.length + Cd H' kvs <= 27000))
   (fun σ' H'=>2 * Cd H' kvs + match σ' with
    | [_,_,_,_,_,some (.ref R),_]=>(match H' R with
     | some (.lst [])=>0
     | _=>1)
    | _=>0) ⟨R,zs,rho0,[],1,_,rfl,(fun b ob _ e _=>e),hps4,eT4,List.Pairwise.nil,hR4,hzs4,hst4,(fun _ _ z=>z),by show 0 + zs.length + _ <= _; omega⟩ ?_ ?_
  ·rintro σ' H' ⟨R,rs,rho,tv,rank,v6,rfl,kp,hps',hT',htv,hR',hrs,hri,hsub,hsum⟩
   have hpo':=hps'.ok
   refine ⟨_,rfl,_,.inl ⟨_,Bo.of hR',rfl⟩,?_⟩
   have hD':=kp D _ hTD.symm eD4 (fun kv hkv z=>by
    obtain ⟨c,cs,e1,e2,_⟩ := hpo4 kv hkv
    rw [z] at e1
    cases e1
    rw [eD4] at e2
    cases e2)
   refine Fp (fun hne=>?_) (fun hemp=>?_)
   ·have hrs0 : 0 < rs.length := by
     cases rs with
     | nil=>exact absurd hne (by decide)
     | cons x xs=>simp
    have hRT:R ≠ T:=Bl hR' hT' (by intro z; cases z)
    have mu0:(match H' R with
     | some (.lst [])=>0
     | _=>1) = 1:=by
     rw [hR']
     cases rs with
     | nil=>exact absurd hrs0 (by decide)
     | cons x xs=>rfl
    refine ⟨_,rfl,R,rfl,.inl ⟨⟨_,Bo.of hR'⟩,?_⟩⟩
    refine D6 (K:=K) (a:=R) (xs:=rs) (fun i σ H5=>Yh fun (tv5:List ((List Int × Int) × V)) (v6:Option V)=>Rj (σ = [some (.ref a),some (.ref D),some (.ref W),some (.ref T),some (.int rank),some (.ref R),v6]) ((∀ b,b ≠ T -> H5 b = H' b)) (H5 T = some (.dT tv5)) ((tv5.map (·.1)).Nodup) ((∀ kv ∈ tv5,∃ n:Int,kv.2 = .int n /\ 1 <= n /\ n < rank + 1)) ((∀ k,Ae tv5 k = if k ∈ rho.take i then some (.int rank) else Ae tv k)) (tv5.length <= tv.length + i))
     ⟨tv,_,rfl,(fun _ _=>rfl),hT',htv,(fun kv hkv=>by obtain ⟨n,e1,e2,e3⟩ := hri.2.1 kv hkv; exact ⟨n,e1,e2,by omega⟩),(fun k=>by rw [List.take_zero,if_neg (by simp)]),Nat.le_refl _⟩ (by rintro i σ H5 _ ⟨_,_,_,e,_⟩; exact Bo.of ((e R hRT).trans hR')) ?_ ?_
    ·rintro i u σ H5 hu ⟨tv5,v6,rfl,k5,hT5,hnd5,htv5,hva5,hl5⟩
     have hi:=(List.getElem?_eq_some_iff.mp hu).1
     obtain ⟨k,hk0,b,u1,rfl,hb1,hb2⟩ := hrs.get hu
     have hbk:E2 H5 b k:=⟨u1,(k5 b (Bl hb1 hT' (by intro z; cases z))).trans hb1,(k5 u1 (Bl hb2 hT' (by intro z; cases z))).trans hb2⟩
     refine ⟨_,rfl,_,rfl,_,rfl,T,_,rfl,Mq.t hT5 hbk (Bq (by omega)),?_⟩
     refine ⟨Bb tv5 k (.int rank),_,rfl,(fun x n=>(Ac n).trans (k5 x n)),A5,cj hnd5,Pj (P:=fun v=>∃ n:Int,v = .int n /\ 1 <= n /\ n < rank + 1) htv5 ⟨rank,rfl,hri.1,by omega⟩,(fun k'=>?_),Nat.le_trans (Dw _ _ _) (by omega)⟩
     rw [F5,hva5,List.take_add_one,hk0]
     by_cases z:k' = k
     ·rw [if_pos z,if_pos (by rw [z]; simp)]
     ·rw [if_neg z]
      have e:(k' ∈ rho.take i ++ (some k).toList) ↔ k' ∈ rho.take i:=by simp [z]
      by_cases y:k' ∈ rho.take i
      ·rw [if_pos y,if_pos (e.mpr y)]
      ·rw [if_neg y,if_neg (fun x=>y (e.mp x))]
    rintro σ H5 ⟨tv5,v65,rfl,k5,hT5,hnd5,htv5,hva5,hl5⟩
    rw [hrs.1,List.take_length] at hva5
    have c5:∀ c cs,H' c = some (.dK cs) -> H5 c = some (.dK cs):=fun c cs e=>(k5 c (Bl e hT' (by intro z; cases z))).trans e
    have t5:LT H' H5:=⟨fun b xs e=>(k5 b (Bl e hT' (by intro z; cases z))).trans e,fun b xs e=>(k5 b (Bl e hT' (by intro z; cases z))).trans e⟩
    have hps5:=hps'.keep t5 c5
    have hpo5:=hps5.ok
    have lp5:∀ k who,An H5 kvs k who ↔ An H' kvs k who:=fun k who=>An.keep hps' c5
    have elp5:An H5 kvs = An H' kvs:=by
     funext k who
     exact propext (lp5 k who)
    have hl5e:=Ec hpo' c5
    have kp5:∀ b ob,b ≠ T -> H4 b = some ob -> (∀ kv ∈ kvs,kv.2 ≠ .ref b) -> H5 b = some ob:=fun b ob n e m=>(k5 b n).trans (kp b ob n e m)
    have keep4:∀ b ob,b ≠ T -> H4 b = some ob -> (∀ cs,ob ≠ .dK cs) -> H5 b = some ob:=fun b ob n e m=>kp5 b ob n e fun kv hkv z=>by
     obtain ⟨c,cs,e1,e2,_⟩ := hpo4 kv hkv
     rw [z] at e1
     cases e1
     rw [e] at e2
     exact m cs (Option.some.inj e2)
    have hWT:W ≠ T:=Ah eW hT
    have t45:LT H4 H5:=⟨fun b xs e=>keep4 b _ (Bl e eT4 (by intro z; cases z)) e (fun cs z=>nomatch z),fun b xs e=>keep4 b _ (Bl e eT4 (by intro z; cases z)) e (fun cs z=>nomatch z)⟩
    refine ⟨_,rfl,_,rfl,_,rfl,D,W,R,kvs,wv,rs,rho,H1,ws,cm,rfl,(k5 D hTD.symm).trans hD',hps5,keep4 W _ hWT eW4 (fun cs z=>nomatch z),hwo4.up t45 (Nat.le_refl _),(fun k who later z1 z2=>(hcm4 k who later (hsub k who ((lp5 k who).mp z1)) z2).up t45),(k5 R hRT).trans hR',hrs.imp (fun _ _ z=>Dr.up t5.2 z),Nat.le_trans (Kf hpo5) (by omega),fun B bs beta H6 hB ch6 hps6 hB6 hbs6 hlf6 hlp6 hbt6=>?_⟩
    have hri6:Fm ws cm tv5 beta (rank + 1) (An H6 kvs):=Fm.step hri hva5 htv5 (fun k who=>by rw [hlp6,lp5]) (fun k=>by rw [hbt6,elp5])
    have hT6:H6 T = some (.dT tv5):=ch6 T _ hT5 hTv
    refine ⟨_,rfl,_,_,rfl,rfl,⟨B,bs,beta,tv5,rank + 1,_,rfl,(fun b ob n e m=>ch6 b ob (kp5 b ob n e m) m),hps6,hT6,hnd5,hB6,hbs6,hri6,(fun k who z=>hsub k who ((lp5 k who).mp ((hlp6 k who).mp z).1)),by omega⟩,?_⟩
    show 2 * Cd H6 kvs + (match H6 B with
     | some (.lst [])=>0
     | _=>1) < 2 * Cd H' kvs + (match H' R with
     | some (.lst [])=>0
     | _=>1)
    rw [mu0,hB6]
    cases bs with
    | nil =>
     show 2 * Cd H6 kvs + 0 < _
     have:Cd H6 kvs + 0 <= Cd H5 kvs:=hlf6
     omega
    | cons x xs =>
     show 2 * Cd H6 kvs + 1 < _
     rw [List.length_cons] at hlf6
     omega
   ·have hrs1 : rs = [] := by
     cases rs with
     | nil=>rfl
     | cons x xs=>exact absurd rfl hemp
    have hrho1:rho = []:=by
     have:=hrs.1
     rw [hrs1] at this
     exact List.length_eq_zero_iff.mp this.symm
    rw [hrho1] at hri
    refine ⟨_,rfl,q T tv H' (s1.free (s2.free hT)) (fun b ob e=>?_) hT' hri.done htv (by omega)⟩
    have e4:=s34 _ _ (s13 _ _ (s1 _ _ e))
    refine kp b ob (fun z=>?_) e4 (fun kv hkv z=>?_)
    ·have:=s1.free (s2.free hT)
     rw [z,this] at e
     cases e
    ·rw [hfr kv hkv b z] at e
     cases e
  ·intro σ H0 Q1 Q2 z h1
   obtain ⟨_,e,k,t,h2⟩ := h1
   exact ⟨_,e,k,t,z _ _ h2⟩
noncomputable def P7 (K:PySem.W.Frag):Sp:=fun vs H Q _=>Ud fun (TB:Addr) (v:V) (o:Option (List Int × Int)) (tv:List ((List Int × Int) × V))=>Hw (vs = [.ref TB,v]) (H TB = some (.dT tv)) (D2 H o v) (Oa tv) (∀ (p:Addr) (H':Hp),A9 H H' -> H' p = some (.tup [.int (told tv o).1,.int (told tv o).2]) -> Q (.ref p) H')
theorem dr {fd  : FuncData} (T:Gq K mg ad) (F:Fq K "worth" "worth" O5 ad.f_x30 fd):Aj P w K mg base Bp 1 ad.f_x30 fd ["table","behind"] (P7 K):=by
 refine F.ok dc (fun vs H Q E h=>?_) (fun cdv A outer s H vs Q E hr h=>?_)
 ·rcases h with ⟨TB,v,o,tv,rfl,hT,hv,hti,q⟩ <;> rfl
 ·obtain ⟨TB,v,o,tv,rfl,hT,hv,hti,q⟩ := h
  refine ⟨_,(A6 (Cn (Bd Yi (pv 1) D3 (Be _)) (Ab (Ao (Bt (A0 Aa (A0 Aa A7))))) Av) (A6 (Cn (Fk (Lz (Dl hr) (pv 1) (pv 0)) rfl) (Ab (Ao (Bt (A0 Aa (A0 (Gn (Dl hr) (pv 0) (pv 1) (fun _ _=>rfl)) A7))))) Av) (Ab (Ao (Bt (A0 Aa (A0 Aa A7))))))),?_⟩
  cases o with
  | none =>
   have ev:v = .non:=hv
   subst ev
   exact ⟨_,rfl,rfl,_,rfl,Lw rfl ⟨Bk,fun p hp=>q p _ (A9.upd hp) A5⟩⟩
  | some k =>
   obtain ⟨p,ev,hst⟩ := hv
   subst ev
   refine ⟨_,rfl,rfl,_,rfl,Fd rfl ?_⟩
   refine ⟨_,rfl,_,rfl,TB,_,rfl,D1.t hT (show E2 H p k from hst),_,rfl,Fp (fun hn=>?_) (fun hn=>?_)⟩
   ·obtain ⟨v,hv⟩ := Option.isSome_iff_exists.mp hn
    obtain ⟨m,e⟩ := hti k v hv
    subst e
    have dg:D1 H TB (.ref p) (some (.int m)):=by
     rw [<- hv]
     exact D1.t hT hst
    refine ⟨_,rfl,_,rfl,TB,_,rfl,dg,Bk,fun p2 hp2=>q p2 _ (A9.upd hp2) ?_⟩
    have e:told tv (some k) = (0,m):=by
     show Jj (Ae tv k) = _
     rw [hv]
     rfl
    rw [e]
    exact A5
   ·refine ⟨Bk,fun p2 hp2=>q p2 _ (A9.upd hp2) ?_⟩
    have e:told tv (some k) = (1,0):=by
     show Jj (Ae tv k) = _
     cases hv:Ae tv k with
     | none=>rfl
     | some v=>rw [hv] at hn; exact absurd rfl hn
    rw [e]
    exact A5
noncomputable def Td (K:PySem.W.Frag):Sp:=fun vs H Q _=>Zp fun (a TB b:Addr) (ws ls:List Int) (cm:Option Int) (q w:Int) (who:Nat) (tv:List ((List Int × Int) × V))=>Ke (vs = [.ref a,.ref TB,.ref b,.int w]) (w = (who:Int)) (Bm H a ws cm) (Db H b ls q) (H TB = some (.dT tv)) (Oa tv) (who < ws.length) (ls.length = ws.length) (ws.length <= 8) ((∀ x ∈ ws,1 <= x)) (∀ (p:Addr) (H':Hp),A9 H H' -> H' p = some (.tup [.int (Fw tv ws ls cm q who).1,.int (Fw tv ws ls cm q who).2]) -> Q (.ref p) H')
theorem bn {fd fd_x30 fd_x12:FuncData} (T:Gq K mg ad) (F:Fq K "call_worth" "call_worth" Ls ad.f_x13 fd) (G_x30:Aj P w K mg base Bp 1 ad.f_x30 fd_x30 ["table","behind"] (P7 K)) (B_x30:Az K fd_x30 ["table","behind"] []) (G_x12:Aj P w K mg base Bp 5 ad.f_x12 fd_x12 ["hall","standing","who"] (Lm K)) (B_x12:Az K fd_x12 ["hall","standing","who"] []):Aj P w K mg base Bp 6 ad.f_x13 fd ["hall","table","standing","who"] (Td K):=by
 refine F.ok ef (fun vs H Q E h=>?_) (fun cdv A outer s H vs Q E hr h=>?_)
 ·rcases h with ⟨a,TB,b,ws,ls,cm,n,w0,who,tv,rfl,rfl,ha,hb,hT,hti,hw,hl,h8,hw1,q⟩ <;> rfl
 ·obtain ⟨a,TB,b,ws,ls,cm,n,w0,who,tv,rfl,rfl,ha,hb,hT,hti,hw,hl,h8,hw1,q⟩ := h
  refine ⟨_,(Ab (Ao (Aw (Ux K hr rfl) (by rfl) T.n_min boot_min (A0 (Ei (Dk (w':=P1 K _) (Dj (Ag G_x12 (hr.mono (by decide)) rfl T.m_x12 T.k_x12 B_x12 .nil B0 (A0 (pv 0) (A0 (pv 2) (A0 (pv 3) A7)))))) _ rfl Jv rfl rfl (fun _ _ _ _=>(Aq (i:=0) Jt rfl (Or.inl rfl))) (fun _ _ _ _=>Cp) (fun _ _ _ _=>(Ag G_x30 (hr.mono (by decide)) rfl T.m_x30 T.k_x30 B_x30 .nil B0 (A0 (pv 1) (A0 (pv 0) A7))))) A7)))),?_⟩
  have hbl:(Ay ws ls cm n who).length <= 2:=by
   unfold Ay
   split <;> simp
  refine ⟨_,rfl,_,rfl,_,rfl,a,b,ws,ls,cm,n,_,who,rfl,rfl,ha,hb,hw,hl,h8,fun l us H1 hl1 s1 el hbe=>⟨l,rfl,.inl ⟨⟨_,Bo.of el⟩,fun W hW=>?_⟩⟩⟩
  have hul:=hbe.1
  refine Ga (K:=K) (a:=l) (xs:=us) (fun i zs H'=>zs.length = i /\ S3 H' (fun j=>told tv ((Ay ws ls cm n who).getD j none)) zs /\ H' W = some (.lst zs) /\ A9 H1 H') ⟨rfl,(fun j u h=>by simp at h),A5,A9.upd hW⟩ (by rintro i zs H' _ ⟨_,_,_,s⟩; exact Bo.of (s _ _ el)) ?_ ?_
  ·rintro i y zs H' hy ⟨hzl,hzs,hW',s'⟩ Qe hQ
   obtain ⟨o,ho,hyo⟩ := hbe.get hy
   have hi:=(List.getElem?_eq_some_iff.mp hy).1
   refine ⟨_,rfl,_,rfl,TB,y,o,tv,rfl,(s1.trans s') _ _ hT,hyo.up (Af.of s'),hti,fun p H2 s2 e2=>?_⟩
   have hW2:=s2 _ _ hW'
   have tt:Af H2 (upd H2 W (.lst (zs ++ [.ref p]))):=Af.lst hW2
   refine hQ _ _ hW2 (B7 (by omega)) ⟨by rw [List.length_append,List.length_singleton]; omega,hzs.snoc ((Af.of s2).trans tt) hzl (tt _ _ ?_),A5,(s'.trans s2).new hW⟩
   have eo:(Ay ws ls cm n who).getD i none = o:=by rw [List.getD_eq_getElem?_getD,ho]; rfl
   show H2 p = some (.tup [.int (told tv ((Ay ws ls cm n who).getD i none)).1,.int (told tv ((Ay ws ls cm n who).getD i none)).2])
   rw [eo]
   exact e2
  rintro zs H2 ⟨hzl,hzs,hW2,s2⟩
  have hzl2:zs.length = (Ay ws ls cm n who).length:=by omega
  have s12:=s1.trans s2
  have hb1:0 < (Ay ws ls cm n who).length:=by
   unfold Ay
   simp
  refine ⟨W,_,_,rfl,Bo.of hW2,hzs.rp hzl2,by omega,Tz _ _,Tm _ _,fun v hv=>?_⟩
  obtain ⟨p,e1,e2⟩ := hzs _ v hv
  subst e1
  refine q p H2 s12 ?_
  rw [e2]
  have key:told tv ((Ay ws ls cm n who).getD (Jy ((List.range (Ay ws ls cm n who).length).map fun i=>wd (told tv ((Ay ws ls cm n who).getD i none)))) none) = Fw tv ws ls cm n who:=by
   by_cases hm:E9 cm n = true
   ·have eb : Ay ws ls cm n who = [Cq ws ls cm n who false, Cq ws ls cm n who true] := by
     unfold Ay
     rw [if_pos hm]
    rw [eb]
    unfold Fw d7
    rw [if_pos hm]
    have el2:Jy ((List.range [Cq ws ls cm n who false,Cq ws ls cm n who true].length).map fun i=>wd (told tv ([Cq ws ls cm n who false,Cq ws ls cm n who true].getD i none))) = if Es (told tv (Cq ws ls cm n who false)) (told tv (Cq ws ls cm n who true)) = true then 1 else 0:=by
     rw [<- Y8]
     unfold Jy
     rw [show ((List.range [Cq ws ls cm n who false,Cq ws ls cm n who true].length).map fun i=>wd (told tv ([Cq ws ls cm n who false,Cq ws ls cm n who true].getD i none))).length - 1 = 0 + 1 from rfl,E6]
     rfl
    rw [el2]
    by_cases y:Es (told tv (Cq ws ls cm n who false)) (told tv (Cq ws ls cm n who true)) = true
    ·rw [if_pos y,if_pos y]
     rfl
    ·rw [if_neg y,if_neg y]
     rfl
   ·have eb : Ay ws ls cm n who = [Cq ws ls cm n who false] := by
     unfold Ay
     rw [if_neg hm]
    rw [eb]
    unfold Fw
    rw [if_neg hm]
    rfl
  rw [<- key]
noncomputable def Od (K:PySem.W.Frag):Sp:=fun vs H Q _=>bd fun (a TB b:Addr) (ws ls:List Int) (cm:Option Int) (q:Int) (tv:List ((List Int × Int) × V))=>L7 (vs = [.ref a,.ref TB,.ref b]) (Bm H a ws cm) (Db H b ls q) (H TB = some (.dT tv)) (Oa tv) (0 < ws.length) (ls.length = ws.length) (ws.length <= 8) ((∀ x ∈ ws,1 <= x)) (∀ (j:Nat) (H':Hp),A9 H H' -> Dx (fun i=>Fw tv ws ls cm q i) ws.length j -> Q (.int (j:Int)) H')
theorem bq {fd fd_x13:FuncData} (T:Gq K mg ad) (F:Fq K "best_call" "best_call" Kw ad.f_x18 fd) (G_x13:Aj P w K mg base Bp 6 ad.f_x13 fd_x13 ["hall","table","standing","who"] (Td K)) (B_x13:Az K fd_x13 ["hall","table","standing","who"] []):Aj P w K mg base Bp 7 ad.f_x18 fd ["hall","table","standing"] (Od K):=by
 refine F.ok Y0 (fun vs H Q E h=>?_) (fun cdv A outer s H vs Q E hr h=>?_)
 ·rcases h with ⟨a,TB,b,ws,ls,cm,n,tv,rfl,ha,hb,hT,hti,hn0,hl,h8,hw1,q⟩ <;> rfl
 ·obtain ⟨a,TB,b,ws,ls,cm,n,tv,rfl,ha,hb,hT,hti,hn0,hl,h8,hw1,q⟩ := h
  refine ⟨_,(A6 (Cv (i:=3) Y0.nd rfl (Cz (by rfl) T.n_range (A0 (Aw (Bw K) (by rfl) T.n_len PySem.boot_len (A0 (B9 (B8 K) (pv 0) Aa (fun _ _=>rfl)) A7)) A7)) _ rfl Kl rfl rfl (fun _ _ _ _=>(Aq (i:=0) Ky rfl (Or.inl rfl))) (fun _ _ _ _=>Cp) (fun _ _ _ _=>(Ag G_x13 (hr.mono (by decide)) rfl T.m_x13 T.k_x13 B_x13 .nil B0 (A0 (pv 1) (A0 (pv 2) (A0 (pv 3) (A0 (pv 0) A7)))))) rfl rfl) (Ab (Ao (Dz (u':=Tv K _ _ _ _) (Ez PySem.F.plainAttrs_list PySem.F.slot_list_index PySem.F.type_list_index (Vu hr) (pv 3) (A0 (Aw (V1 K hr rfl) (by rfl) T.n_max boot_max (A0 (pv 3) A7)) A7)))))),?_⟩
  obtain ⟨wt,ha1,ha2⟩ := id ha
  refine ⟨_,rfl,a,_,_,_,rfl,rfl,.inr (Bx.of ha1),rfl,wt,_,rfl,.inr (Bx.of ha2),_,rfl,by omega,by rw [List.length_map]; omega,fun D hD=>?_⟩
  refine D9 (cnt:=((ws.map V.int).length:Int).toNat) (fun j ys H'=>ys.length = j /\ S3 H' (fun i=>Fw tv ws ls cm n i) ys /\ H' D = some (.lst ys) /\ A9 H H') ⟨rfl,(fun i u h=>by simp at h),A5,A9.upd hD⟩ ?_ ?_
  ·rintro j ys H5 hj ⟨hyl,hys,hD5,s5⟩ Qe hQ
   rw [List.length_map] at hj
   have hj':j < ws.length:=by omega
   refine ⟨_,rfl,_,rfl,_,rfl,_,rfl,a,TB,b,ws,ls,cm,n,_,j,tv,rfl,Int.zero_add _,ha.same s5,hb.same s5,s5 _ _ hT,hti,hj',hl,h8,hw1,fun p2 H6 s6 e6=>?_⟩
   have hD6:=s6 _ _ hD5
   have tt:Af H6 (upd H6 D (.lst (ys ++ [.ref p2]))):=Af.lst hD6
   exact hQ _ _ hD6 (B7 (by omega)) ⟨by rw [List.length_append,List.length_singleton]; omega,hys.snoc ((Af.of s6).trans tt) hyl (tt _ _ e6),A5,(s5.trans s6).new hD⟩
  rintro ys H5 ⟨hyl,hys,hD5,s5⟩
  have hyl2:ys.length = ws.length:=by
   rw [hyl,List.length_map]
   omega
  refine ⟨_,rfl,.inl ⟨rfl,_,Bo.of hD5⟩,_,rfl,D,_,_,rfl,Bo.of hD5,hys.rp hyl2,by omega,Tz _ _,Tm _ _,fun vb hvb=>?_⟩
  obtain ⟨pb,eb1,eb2⟩ := hys _ vb hvb
  subst eb1
  obtain ⟨j,j1,j2,j3⟩ := U2 (Pr:=fun m=>Fw tv ws ls cm n m = Fw tv ws ls cm n (Dq ((List.range ws.length).map fun i=>wd (Fw tv ws ls cm n i)))) _ rfl
  have hbi:Dx (fun i=>Fw tv ws ls cm n i) ws.length j:=Dx.of hn0 j1 j2 j3
  refine ⟨D,ys,_,wd (Fw tv ws ls cm n (Dq ((List.range ws.length).map fun i=>wd (Fw tv ws ls cm n i)))),_,j,rfl,rfl,Bo.of hD5,U8 eb2,hys.rp hyl2,Ly _,⟨_,Ys _ hbi.1,by rw [Wv]; exact decide_eq_true j2⟩,(fun m e hm he=>by rw [Xg he,Wv]; exact decide_eq_false (j3 m hm)),?_⟩
  exact q j H5 s5 hbi
noncomputable def Tq (K:PySem.W.Frag):Sp:=fun vs H Q _=>Zp fun (a TB b:Addr) (ws ls:List Int) (cm:Option Int) (q w:Int) (who:Nat) (tv:List ((List Int × Int) × V))=>L7 (vs = [.ref a,.ref TB,.ref b,.int w]) (w = (who:Int)) (Bm H a ws cm) (Db H b ls q) (H TB = some (.dT tv)) (Oa tv) (who < ws.length) (ls.length = ws.length) (ws.length <= 8) (∀ (H':Hp),A9 H H' -> Q (.bl (Cg tv ws ls cm q who)) H')
theorem jy {fd fd_x30 fd_x28 fd_x19:FuncData} (T:Gq K mg ad) (F:Fq K "worst_answer" "worst_answer" Ut ad.f_x6 fd) (G_x30:Aj P w K mg base Bp 1 ad.f_x30 fd_x30 ["table","behind"] (P7 K)) (B_x30:Az K fd_x30 ["table","behind"] []) (G_x28:Aj P w K mg base Bp 4 ad.f_x28 fd_x28 ["hall","standing","who","lost"] (L4 K)) (B_x28:Az K fd_x28 ["hall","standing","who","lost"] []) (B_after_d:Az K fd_x28 ["hall","standing","who","lost"] [Value.bool false]) (G_x19:Aj P w K mg base Bp 1 ad.f_x19 fd_x19 ["hall","standing"] (Lq K)) (B_x19:Az K fd_x19 ["hall","standing"] []):Aj P w K mg base Bp 5 ad.f_x6 fd ["hall","table","standing","who"] (Tq K):=by
 refine F.ok ak (fun vs H Q E h=>?_) (fun cdv A outer s H vs Q E hr h=>?_)
 ·rcases h with ⟨a,TB,b,ws,ls,cm,n,w0,who,tv,rfl,rfl,ha,hb,hT,hti,hw,hl,h8,q⟩ <;> rfl
 ·obtain ⟨a,TB,b,ws,ls,cm,n,w0,who,tv,rfl,rfl,ha,hb,hT,hti,hw,hl,h8,q⟩ := h
  refine ⟨_,(A6 (Al (i:=4) ak.nd rfl (Or.inl rfl) (Ag G_x30 (hr.mono (by decide)) rfl T.m_x30 T.k_x30 B_x30 .nil B0 (A0 (pv 1) (A0 (Rq (Ag G_x28 (hr.mono (by decide)) rfl T.m_x28 T.k_x28 B_after_d (Ik) B0 (A0 (pv 0) (A0 (pv 2) (A0 (pv 3) A7))))) A7)))) (A6 (Cn (Fs (Ep (Ag G_x19 (hr.mono (by decide)) rfl T.m_x19 T.k_x19 B_x19 .nil B0 (A0 (pv 0) (A0 (pv 2) A7))))) (Ab (Ao Ho)) Av) (Ab (Ao (Ej (gi hr) (Ag G_x30 (hr.mono (by decide)) rfl T.m_x30 T.k_x30 B_x30 .nil B0 (A0 (pv 1) (A0 (Rq (Ag G_x28 (hr.mono (by decide)) rfl T.m_x28 T.k_x28 B_x28 .nil B0 (A0 (pv 0) (A0 (pv 2) (A0 (pv 3) (A0 Ho A7)))))) A7))) (pv 4) (Be _)))))),?_⟩
  refine ⟨_,rfl,(fun v H9=>D2 H9 (Cq ws ls cm n who false) v /\ A9 H H9),⟨_,rfl,_,rfl,_,rfl,a,b,ws,ls,cm,n,who,false,rfl,ha,hb,hw,hl,h8,(fun z=>nomatch z),(fun hz H2 s2=>⟨by unfold Cq; rw [if_pos hz]; rfl,s2⟩),fun hz p H2 s2 hst=>⟨by unfold Cq; rw [if_neg hz]; exact ⟨p,rfl,hst⟩,s2⟩⟩,?_⟩
  rintro v H1 ⟨hv,s1⟩
  refine ⟨TB,v,_,tv,rfl,s1 _ _ hT,hv,hti,fun p1 H2 s2 e2=>?_⟩
  have s12:=s1.trans s2
  refine ⟨_,rfl,_,rfl,a,b,ws,ls,cm,n,rfl,ha.same s12,hb.same s12,_,rfl,?_⟩
  have em:(!decide (cm = none) && decide (n = 0)) = E9 cm n:=rfl
  rw [em]
  refine Fp (fun hm=>?_) (fun hm=>?_)
  ·have hm':E9 cm n = false:=by simpa using hm
   have e:Cg tv ws ls cm n who = false:=by
    unfold Cg
    rw [hm']
    rfl
   rw [<- e]
   exact q H2 s12
  ·have hm':E9 cm n = true:=by simpa using hm
   have hmay:S9 cm n true:=fun _=>by
    unfold E9 at hm'
    simp only [Bool.and_eq_true,Bool.not_eq_true',decide_eq_false_iff_not,decide_eq_true_eq] at hm'
    exact hm'
   refine ⟨_,rfl,(fun v H9=>D2 H9 (Cq ws ls cm n who true) v /\ A9 H2 H9),⟨_,rfl,_,rfl,_,rfl,a,b,ws,ls,cm,n,who,true,rfl,ha.same s12,hb.same s12,hw,hl,h8,hmay,(fun hz H2 s2=>⟨by unfold Cq; rw [if_pos hz]; rfl,s2⟩),fun hz p H2 s2 hst=>⟨by unfold Cq; rw [if_neg hz]; exact ⟨p,rfl,hst⟩,s2⟩⟩,?_⟩
   rintro v3 H3 ⟨hv3,s3⟩
   refine ⟨TB,v3,_,tv,rfl,s3 _ _ (s12 _ _ hT),hv3,hti,fun p4 H4 s4 e4=>?_⟩
   have s34:=s3.trans s4
   refine ⟨_,rfl,wd (told tv (Cq ws ls cm n who true)),wd (told tv (Cq ws ls cm n who false)),U8 e4,U8 (s34 _ _ e2),Wh _ _,Nat.le_trans (Ly _) (by decide),?_⟩
   rw [Y8]
   have e:Cg tv ws ls cm n who = Es (told tv (Cq ws ls cm n who false)) (told tv (Cq ws ls cm n who true)):=by
    unfold Cg
    rw [hm']
    rfl
   rw [<- e]
   exact q H4 (s12.trans s34)
noncomputable def Ro (K:PySem.W.Frag):Sp:=fun vs H Q _=>Vd fun (a:Addr) (ws:List Int) (cm:Option Int)=>Hw (vs = [.ref a]) (Bm H a ws cm) (Dg ws cm) ((∀ (tv:List ((List Int × Int) × V)) (H':Hp),A9 H H' -> Bz ws cm tv -> (tv.map (·.1)).Nodup -> (Ae tv (ws,0)).isSome = true -> Q .non H')) (∀ (p:Addr) (us:List V) (ps tv:List ((List Int × Int) × V)) (H':Hp),A9 H H' -> H p = none -> H' p = some (.lst us) -> Bz ws cm tv -> (tv.map (·.1)).Nodup -> Ae tv (ws,0) = none -> Um ws cm tv ps -> Ad (Yc H') ps us -> Q (.ref p) H')
theorem dm {fd fd_x29 fd_x16 fd_x18 fd_x12:FuncData} (T:Gq K mg ad) (F:Fq K "kept_paper" "kept_paper" Nv ad.f_x14 fd) (G_x29:Aj P w K mg base Bp 7 ad.f_x29 fd_x29 ["hall"] (Ln K)) (B_x29:Az K fd_x29 ["hall"] []) (G_x16:Aj P w K mg base Bp 1 ad.f_x16 fd_x16 ["hall"] (Oo K)) (B_x16:Az K fd_x16 ["hall"] []) (G_x18:Aj P w K mg base Bp 7 ad.f_x18 fd_x18 ["hall","table","standing"] (Od K)) (B_x18:Az K fd_x18 ["hall","table","standing"] []) (G_x12:Aj P w K mg base Bp 5 ad.f_x12 fd_x12 ["hall","standing","who"] (Lm K)) (B_x12:Az K fd_x12 ["hall","standing","who"] []):Aj P w K mg base Bp 8 ad.f_x14 fd ["hall"] (Ro K):=by
 refine F.ok M6 (fun vs H Q E h=>?_) (fun cdv A outer s H vs Q E hr h=>?_)
 ·rcases h with ⟨a,ws,cm,rfl,ha,hok,q0,q⟩ <;> rfl
 ·obtain ⟨a,ws,cm,rfl,ha,hok,q0,q⟩ := h
  refine ⟨_,(A6 (Al (i:=1) M6.nd rfl (Or.inl rfl) (Ag G_x29 (hr.mono (by decide)) rfl T.m_x29 T.k_x29 B_x29 .nil B0 (A0 (pv 0) A7))) (A6 (Cn (Fk (Lz (Dl hr) (Ag G_x16 (hr.mono (by decide)) rfl T.m_x16 T.k_x16 B_x16 .nil B0 (A0 (pv 0) A7)) (pv 1)) rfl) (Ab (Ao D3)) Av) (A6 (Al (i:=2) M6.nd rfl (Or.inl rfl) F6) (A6 (Al (i:=3) M6.nd rfl (Or.inl rfl) (D5 (A0 (Ag G_x16 (hr.mono (by decide)) rfl T.m_x16 T.k_x16 B_x16 .nil B0 (A0 (pv 0) A7)) A7))) (A6 (Ia PassesOwn.never (Lp (pv 3) (by intro _; rfl)) (A6 (Al (i:=4) M6.nd rfl (Or.inl rfl) (Dz (u':=Zc K _ _ _) (Ox PySem.F.plainAttrs_list PySem.F.slot_list_pop PySem.F.type_list_pop S8 (pv 3)))) (Ab (Dp (Fk (Ev (Dl hr) (pv 4) (pv 2)) rfl) (A6 (Fh (Dl hr) (pv 2) (pv 4) (Ag G_x18 (hr.mono (by decide)) rfl T.m_x18 T.k_x18 B_x18 .nil B0 (A0 (pv 0) (A0 (pv 1) (A0 (pv 4) A7)))) rfl) (Ab (Co (Dz (u':=Tv K _ _ _ _) (Ez PySem.F.plainAttrs_list PySem.F.slot_list_extend PySem.F.type_list_extend Gk (pv 3) (A0 (Ag G_x12 (hr.mono (by decide)) rfl T.m_x12 T.k_x12 B_x12 .nil B0 (A0 (pv 0) (A0 (pv 4) (A0 (Gn (Dl hr) (pv 2) (pv 4) (fun _ _=>rfl)) A7)))) A7)))))) Av)))) (Ab (Ao (Aw (Sh hr rfl) (by rfl) T.n_sorted boot_sorted (A0 (Ox PySem.F.plainAttrs_dict PySem.F.slot_dict_items PySem.F.type_dict_items Vr (pv 2)) A7))))))))),?_⟩
  obtain ⟨wt,ha1,ha2⟩ := id ha
  have hq:=hok.qv
  have hw1:∀ x ∈ ws,1 <= x:=fun x hx=>(hok.1 x hx).1
  have h8:=hok.2.2.2.1
  have hn0:=hok.2.2.1
  refine ⟨_,rfl,a,ws,cm,rfl,ha,(fun w hw=>(hok.1 w hw).1),hq.1,(fun w hw=>F8 (by have:=hok.1 w hw; omega) (hok.1 w hw).2),F8 (by omega) hq.2,hok.2.2.2.1,(by have:=hok.2.2.2.2; omega),fun TB tv H1 hTB s1 eTB hrk hnd htl=>?_⟩
  have hti:Oa tv:=fun k v hv=>by
   obtain ⟨m,e,_⟩ := hrk.1 k v hv
   exact ⟨m,e⟩
  refine ⟨_,rfl,a,ws,cm,rfl,ha.same s1,fun b0 H2 s2 hb0=>?_⟩
  have s12:=s1.trans s2
  refine ⟨_,rfl,TB,_,rfl,D1.t (s2 _ _ eTB) (show E2 H2 b0 (ws,0) from hb0),_,rfl,?_⟩
  refine Fp (fun h=>q0 tv H2 s12 hrk hnd h) (fun hnv=>?_)
  have hv0:Ae tv (ws,0) = none:=by
   cases e:Ae tv (ws,0) with
   | none=>rfl
   | some v=>rw [e] at hnv; exact absurd rfl hnv
  have hsf0:Sf ws cm tv (ws,0):=⟨Kp rfl (fun i hi=>⟨hw1 _ (by rw [List.getD_eq_getElem?_getD,List.getElem?_eq_getElem hi]; exact List.getElem_mem hi),Int.le_refl _⟩) (Int.le_refl _) (by have:=hq.1; show (0:Int) < qv cm; omega),hv0,.base⟩
  refine fun C hC=>?_
  have s3:A9 H2 (upd H2 C (.dT [])):=A9.upd hC
  have e3:(upd H2 C (.dT [])) C = some (.dT []):=A5
  generalize upd H2 C (.dT []) = H3 at s3 e3 ⊢
  refine ⟨_,rfl,a,ws,cm,rfl,(ha.same s12).same s3,fun b1 H4 s4 hb1=>?_⟩
  refine ⟨Bk,fun L hL=>?_⟩
  have s5:A9 H4 (upd H4 L (.lst [.ref b1])):=A9.upd hL
  have e5:(upd H4 L (.lst [.ref b1])) L = some (.lst [.ref b1]):=A5
  generalize upd H4 L (.lst [.ref b1]) = H5 at s5 e5 ⊢
  have hC2:H2 C = none:=hC
  have hL2:H2 L = none:=by
   cases e:H2 L with
   | none=>rfl
   | some o=>rw [s4 _ _ (s3 _ _ e)] at hL; cases hL
  have s25:A9 H2 H5:=(s3.trans s4).trans s5
  obtain ⟨bu,hb11,hb12⟩ := hb1.same s5
  dsimp only
  refine d6 ?_
  refine fi ?_
  refine Hz (fun σ' H'=>Ud fun (es:List V) (E:List (List Int × Int)) (cv:List ((List Int × Int) × V)) (v4:Option V)=>Rj (σ' = [some (.ref a),some (.ref TB),some (.ref C),some (.ref L),v4]) (A9 H2 H') (H' L = some (.lst es)) (Ad (Dr H') E es) (H' C = some (.dT cv)) (Oi ws cm tv cv E) (E.length <= 2 * cv.length + 1))
   (fun _ H'=>3 * (301 - Du (H' C)) + Fz (H' L)) ⟨[.ref b1],[(ws,0)],[],none,rfl,s25,e5,Ad.one ⟨b1,bu,rfl,hb11,hb12⟩,s5 _ _ (s4 _ _ e3),Oi.start hsf0,by simp⟩ ?_ ?_
  ·rintro σ' H' ⟨es,E,cv,v4,rfl,s',hL',hes,hC',hkp,hEl⟩
   have hcl:=hkp.len hok
   refine ⟨_,rfl,_,.inl ⟨_,Bo.of hL',rfl⟩,?_⟩
   refine Fp (fun hne=>?_) (fun hemp=>?_)
   ·have hes0 : 0 < es.length := by
     cases es with
     | nil=>exact absurd hne (by decide)
     | cons x xs=>simp
    have hel:=hes.1
    obtain ⟨y,hy⟩ := Og hes0
    refine ⟨_,rfl,.inl ⟨rfl,_,Bo.of hL'⟩,L,es,y,rfl,rfl,hL',hy,?_⟩
    obtain ⟨k,hk0,b,b2,rfl,hb21,hb22⟩ := hes.get hy
    have eE:E = E.take (es.length - 1) ++ [k]:=by
     have h1:=List.take_append_drop (es.length - 1) E
     have h2:E.drop (es.length - 1) = [k]:=by
      rw [List.drop_eq_getElem_cons (by omega),(List.getElem?_eq_some_iff.mp hk0).2,List.drop_of_length_le (by omega)]
     rw [h2] at h1
     exact h1.symm
    have hCL:C ≠ L:=Bl hC' hL' (by intro z; cases z)
    have hTL:TB ≠ L:=fun z=>by rw [z] at eTB; exact absurd (s2 _ _ eTB) (by rw [hL2]; exact fun h=>nomatch h)
    have t4:Af H' (upd H' L (.lst es.dropLast)):=Af.lst hL'
    have hL4:(upd H' L (.lst es.dropLast)) L = some (.lst es.dropLast):=A5
    have hC4:(upd H' L (.lst es.dropLast)) C = some (.dT cv):=(Ac hCL).trans hC'
    have s4':A9 H2 (upd H' L (.lst es.dropLast)):=s'.new hL2
    generalize upd H' L (.lst es.dropLast) = H6 at t4 hL4 hC4 s4' ⊢
    have hst6:Db H6 b k.1 k.2:=⟨b2,t4 _ _ hb21,t4 _ _ hb22⟩
    have hes6:Ad (Dr H6) (E.take (es.length - 1)) es.dropLast:=by
     rw [List.dropLast_eq_take]
     exact (hes.imp (fun _ _ y=>Dr.up t4 y)).take _
    have hl6:(E.take (es.length - 1)).length = E.length - 1:=by rw [List.length_take]; omega
    rw [eE] at hkp
    generalize E.take (es.length - 1) = E0 at hkp hes6 hl6 eE
    have hm0:Fz (H' L) = es.length:=by rw [hL']; rfl
    have hm1:Du (H' C) = cv.length:=by rw [hC']; rfl
    refine ⟨_,rfl,_,rfl,C,_,rfl,D1.t hC4 (show E2 H6 b k from hst6),_,rfl,(fun σ'' H7=>Ud fun (es:List V) (E:List (List Int × Int)) (cv':List ((List Int × Int) × V)) (v4:Option V)=>Rf (σ'' = [some (.ref a),some (.ref TB),some (.ref C),some (.ref L),v4]) (A9 H2 H7) (H7 L = some (.lst es)) (Ad (Dr H7) E es) (H7 C = some (.dT cv')) (Oi ws cm tv cv' E) (E.length <= 2 * cv'.length + 1) (3 * (301 - Du (H7 C)) + Fz (H7 L) < 3 * (301 - Du (H' C)) + Fz (H' L))),fun h=>?_,fun h=>?_,?_⟩
    ·have hvn : Ae cv k = none := by
      cases e:Ae cv k with
      | none=>rfl
      | some v=>rw [e] at h; cases h
     have hsfk:Sf ws cm tv k:=hkp.sf k (by simp)
     have hkl:k.1.length = ws.length:=(Fa hsfk.1).1
     refine ⟨_,rfl,_,rfl,_,rfl,a,TB,b,ws,k.1,cm,k.2,tv,rfl,(ha.same s12).same s4',hst6,s4' _ _ (s2 _ _ eTB),hti,hn0,hkl,h8,hw1,fun j H7 s7 hbest=>?_⟩
     have hC7:=s7 _ _ hC4
     have hL7:=s7 _ _ hL4
     refine ⟨_,rfl,_,rfl,C,_,rfl,Mq.t hC7 (show E2 H7 b k from hst6.same s7) (Bq (by omega)),?_⟩
     have hLC:L ≠ C:=fun z=>hCL z.symm
     have k8:∀ b o,b ≠ C -> H7 b = some o -> (upd H7 C (.dT (Bb cv k (.int (j:Int))))) b = some o:=fun b o n e=>(Ac n).trans e
     have hC8:(upd H7 C (.dT (Bb cv k (.int (j:Int))))) C = some (.dT (Bb cv k (.int (j:Int)))):=A5
     generalize upd H7 C (.dT (Bb cv k (.int (j:Int)))) = H8 at k8 hC8 ⊢
     have t8:Af H7 H8:=fun b xs e=>k8 b _ (Bl e hC7 (by intro z; cases z)) e
     have s8:A9 H2 H8:=fun b o e=>k8 b o (Ah e hC2) (s7 _ _ (s4' _ _ e))
     have hL8:=k8 _ _ hLC hL7
     have hst8:Db H8 b k.1 k.2:=(hst6.same s7).up t8
     have ev:Ae (Bb cv k (.int (j:Int))) k = some (.int (j:Int)):=by rw [F5,if_pos rfl]
     refine ⟨_,rfl,.inl ⟨rfl,_,Bo.of hL8⟩,_,rfl,_,rfl,_,rfl,_,rfl,C,.int (j:Int),rfl,(by rw [<- ev]; exact D1.t hC8 (show E2 H8 b k from hst8)),a,b,ws,k.1,cm,k.2,(j:Int),j,rfl,rfl,(ha.same s12).same s8,hst8,hbest.1,hkl,h8,fun l us H9 hl9 s9 el9 hall=>?_⟩
     obtain ⟨Eb,eb1,eb2,eb3⟩ := Zs hrk hok hsfk hbest
     rw [eb1] at hall
     have hus:=Y2 hall
     have hL9:=s9 _ _ hL8
     have hel6:=hes6.1
     have hul:=hus.1
     refine ⟨L,l,es.dropLast,us,rfl,rfl,hL9,el9,Nat.le_of_lt (Bq (by omega)),?_⟩
     have t10:Af H9 (upd H9 L (.lst (es.dropLast ++ us))):=Af.lst hL9
     have hC10:(upd H9 L (.lst (es.dropLast ++ us))) C = some (.dT (Bb cv k (.int (j:Int)))):=(Ac hCL).trans (s9 _ _ hC8)
     have hpl:(Bb cv k (.int (j:Int))).length = cv.length + 1:=by rw [C5 _ hvn,List.length_append,List.length_singleton]
     refine ⟨es.dropLast ++ us,E0 ++ Eb,Bb cv k (.int (j:Int)),_,rfl,(s8.trans s9).new hL2,A5,((hes6.imp fun _ _ y=>Dr.up (((Af.of s7).trans t8).trans ((Af.of s9).trans t10)) y).append (hus.imp fun _ _ y=>Dr.up t10 y)),hC10,hkp.put hvn hbest eb1 eb2,?_,?_⟩
     ·rw [List.length_append,hpl,hl6]
      omega
     ·have m1:Fz ((upd H9 L (.lst (es.dropLast ++ us))) L) = (es.dropLast ++ us).length:=by rw [A5]; rfl
      have m2:Du ((upd H9 L (.lst (es.dropLast ++ us))) C) = cv.length + 1:=by rw [hC10]; exact hpl
      rw [m1,m2,hm0,hm1,List.length_append,List.length_dropLast]
      omega
    ·have hks : k ∈ cv.map (·.1) := by
      cases e:Ae cv k with
      | none=>rw [e] at h; cases h
      | some v=>exact K2 e
     refine ⟨es.dropLast,E0,cv,_,rfl,s4',hL4,hes6,hC4,hkp.skip hks,by omega,?_⟩
     have m1:Fz (H6 L) = es.dropLast.length:=by rw [hL4]; rfl
     have m2:Du (H6 C) = cv.length:=by rw [hC4]; rfl
     rw [m1,m2,hm0,hm1,List.length_dropLast]
     omega
    ·rintro σ'' H7 ⟨es7,E7,cv7,v47,rfl,a1,a2,a3,a4,a5,a6,a7⟩
     exact ⟨⟨es7,E7,cv7,v47,rfl,a1,a2,a3,a4,a5,a6⟩,a7⟩
   ·have hes1 : es = [] := by
     cases es with
     | nil=>rfl
     | cons x xs=>exact absurd rfl hemp
    have hE1:E = []:=by
     have h1:=hes.1
     rw [hes1] at h1
     exact List.length_eq_zero_iff.mp h1.symm
    subst hE1
    refine ⟨_,rfl,.inr (.inr (.inl ⟨rfl,.inr ⟨cv,hC'⟩⟩)),C,cv,rfl,rfl,hC',fun vw hvw=>?_⟩
    have sV:A9 H' (upd H' vw (Qt vw C)):=A9.upd hvw
    refine ⟨vw,C,cv,Hd,(fun kv=>(Ar ws (qv cm)).idxOf kv.1),rfl,A5,sV _ _ hC',(fun kv hkv=>?_),Rg hkp,fun p us ps H9 s9 hp e9 hperm hsort hpair=>?_⟩
    ·obtain ⟨_,j,ej,_⟩ := hkp.ent kv hkv
     have e:Hd kv = .int j:=by unfold Hd; rw [ej]
     rw [e,ej]
     exact ⟨Jf _,by show 0 <= 40; omega⟩
    ·have hpH : H p = none := by
      cases e:H p with
      | none=>rfl
      | some o=>rw [sV _ _ (s' _ _ (s12 _ _ e))] at hp; cases hp
     exact q p us ps tv H9 (((s12.trans s').trans sV).trans s9) hpH e9 hrk hnd hv0 (aa hkp hperm hsort) (Kr hpair)
  ·intro σ H0 Q1 Q2 z h1
   obtain ⟨_,e,k,t,h2⟩ := h1
   exact ⟨_,e,k,t,z _ _ h2⟩
noncomputable def Rs (K:PySem.W.Frag):Sp:=fun vs H Q _=>bd fun (a TB b:Addr) (ws ls:List Int) (cm:Option Int) (q:Int) (tv:List ((List Int × Int) × V))=>Rf (vs = [.ref a,.ref TB,.ref b]) (Bm H a ws cm) (Db H b ls q) (H TB = some (.dT tv)) (Oa tv) (ls.length = ws.length) (ws.length <= 8) (∀ (p:Addr) (H':Hp),A9 H H' -> H' p = some (.tup ((Dy tv ws ls cm q).map V.bl)) -> Q (.ref p) H')
theorem dw {fd fd_x6:FuncData} (T:Gq K mg ad) (F:Fq K "all_answers" "all_answers" Kz ad.f_x10 fd) (G_x6:Aj P w K mg base Bp 5 ad.f_x6 fd_x6 ["hall","table","standing","who"] (Tq K)) (B_x6:Az K fd_x6 ["hall","table","standing","who"] []):Aj P w K mg base Bp 6 ad.f_x10 fd ["hall","table","standing"] (Rs K):=by
 refine F.ok dj (fun vs H Q E h=>?_) (fun cdv A outer s H vs Q E hr h=>?_)
 ·rcases h with ⟨a,TB,b,ws,ls,cm,n,tv,rfl,ha,hb,hT,hti,hl,h8,q⟩ <;> rfl
 ·obtain ⟨a,TB,b,ws,ls,cm,n,tv,rfl,ha,hb,hT,hti,hl,h8,q⟩ := h
  refine ⟨_,(Ab (Ao (Cc (Ck K) (by rfl) T.n_tuple boot_tuple (A0 (Ei (Cz (by rfl) T.n_range (A0 (Aw (Bw K) (by rfl) T.n_len PySem.boot_len (A0 (B9 (B8 K) (pv 0) Aa (fun _ _=>rfl)) A7)) A7)) _ rfl J2 rfl rfl (fun _ _ _ _=>(Aq (i:=0) J0 rfl (Or.inl rfl))) (fun _ _ _ _=>Cp) (fun _ _ _ _=>(Ag G_x6 (hr.mono (by decide)) rfl T.m_x6 T.k_x6 B_x6 .nil B0 (A0 (pv 1) (A0 (pv 2) (A0 (pv 3) (A0 (pv 0) A7))))))) A7)))),?_⟩
  obtain ⟨wt,ha1,ha2⟩ := id ha
  refine ⟨_,rfl,a,_,_,_,rfl,rfl,.inr (Bx.of ha1),rfl,wt,_,rfl,.inr (Bx.of ha2),_,rfl,by omega,by rw [List.length_map]; omega,fun D hD=>?_⟩
  refine D9 (cnt:=((ws.map V.int).length:Int).toNat) (fun j ys H'=>ys = ((Dy tv ws ls cm n).take j).map V.bl /\ H' D = some (.lst ys) /\ A9 H H') ⟨rfl,A5,A9.upd hD⟩ ?_ ?_
  ·rintro j ys H5 hj ⟨rfl,hD5,s5⟩ Qe hQ
   rw [List.length_map] at hj
   have hj':j < ws.length:=by omega
   have hal:=Da tv ws ls cm n
   refine ⟨_,rfl,_,rfl,_,rfl,_,rfl,a,TB,b,ws,ls,cm,n,_,j,tv,rfl,Int.zero_add _,ha.same s5,hb.same s5,s5 _ _ hT,hti,hj',hl,h8,fun H6 s6=>?_⟩
   have hD6:=s6 _ _ hD5
   refine hQ _ _ hD6 (B7 (by rw [List.length_map,List.length_take]; omega)) ⟨?_,A5,(s5.trans s6).new hD⟩
   rw [List.take_add_one,K4 hj',List.map_append]
   rfl
  rintro ys H5 ⟨rfl,hD5,s5⟩
  have e:(Dy tv ws ls cm n).take ((ws.map V.int).length:Int).toNat = Dy tv ws ls cm n:=List.take_of_length_le (by rw [Da,List.length_map]; omega)
  rw [e] at hD5
  refine ⟨D,_,rfl,.inl ⟨Bo.of hD5,fun p hp=>?_⟩⟩
  exact q p _ (s5.trans (A9.upd hp)) A5
noncomputable def Ya (K:PySem.W.Frag):Sp:=fun vs H Q _=>kr fun (a b A:Addr) (ws:List Int) (cm:Option Int) (k:List Int × Int) (tv:List ((List Int × Int) × V))=>Rj (vs = [.ref a,.ref b,.ref A]) (Bm H a ws cm) (Db H b k.1 k.2) (H A = some (.tup ((Dy tv ws k.1 cm k.2).map V.bl))) (k.1.length = ws.length) (ws.length <= 8) (∀ (l:Addr) (us:List V) (H':Hp),H l = none -> A9 H H' -> H' l = some (.lst us) -> Ad (Dr H') ((List.range ws.length).filterMap (Jl tv ws cm k)) us -> Q (.ref l) H')
theorem ir {fd fd_x28:FuncData} (T:Gq K mg ad) (F:Fq K "unbroken_behind" "unbroken_behind" Px ad.f_x3 fd) (G_x28:Aj P w K mg base Bp 4 ad.f_x28 fd_x28 ["hall","standing","who","lost"] (L4 K)) (B_x28:Az K fd_x28 ["hall","standing","who","lost"] []) (B_after_d:Az K fd_x28 ["hall","standing","who","lost"] [Value.bool false]):Aj P w K mg base Bp 5 ad.f_x3 fd ["hall","standing","answers"] (Ya K):=by
 refine F.ok af (fun vs H Q E h=>?_) (fun cdv A outer s H vs Q E hr h=>?_)
 ·rcases h with ⟨a,b,A,ws,cm,k,tv,rfl,ha,hb,hA,hl,h8,q⟩ <;> rfl
 ·obtain ⟨a,b,A,ws,cm,k,tv,rfl,ha,hb,hA,hl,h8,q⟩ := h
  refine ⟨_,(A6 (Cv (i:=3) af.nd rfl (Y7 (by rfl) T.n_enumerate (A0 (pv 2) A7)) _ rfl G7 rfl rfl (fun _ _ _ _=>(Gh K (n:=2) rfl (Ci (Aq (i:=0) Dt rfl (Or.inl rfl)) (Ci (Aq (i:=1) Dt rfl (Or.inl rfl)) Gd)))) (fun _ _ _ _=>Cp) (fun _ _ _ _=>(Ag G_x28 (hr.mono (by decide)) rfl T.m_x28 T.k_x28 B_x28 .nil B0 (A0 (pv 2) (A0 (pv 3) (A0 (pv 0) (A0 (pv 1) A7)))))) rfl rfl) (Ab (Ao (Ei (Dk (w':=P1 K _) (Dj (pv 3))) _ rfl Fy rfl rfl (fun _ _ _ _=>(Aq (i:=0) Fv rfl (Or.inl rfl))) (fun _ _ _ _=>(Uj (Bd Ii (pv 0) D3 (Be _)))) (fun _ _ _ _=>(pv 0)))))),?_⟩
  have hal:=Da tv ws k.1 cm k.2
  refine ⟨_,rfl,true,A,rfl,⟨_,Bx.of hA⟩,fun D hD=>?_⟩
  refine Ti (K:=K) (b1:=true) (c:=A) (xs:=(Dy tv ws k.1 cm k.2).map V.bl) (fun i ys H'=>Ad (D2 H') ((List.range i).map (Jl tv ws cm k)) ys /\ H' D = some (.lst ys) /\ A9 H H') ⟨Ad.nil,A5,A9.upd hD⟩ (by rintro i ys H' _ ⟨_,_,s⟩; exact Bx.of (s _ _ hA)) ?_ ?_ ?_ ?_
  ·rintro i x T ys H2 hx ⟨hys,hD2,s2⟩ hT
   have hi:=(List.getElem?_eq_some_iff.mp hx).1
   rw [List.length_map,hal] at hi
   rw [List.getElem?_map,K4 hi] at hx
   cases hx
   have hyl:=hys.1
   rw [List.length_map,List.length_range] at hyl
   have s3:A9 H2 (upd H2 T (.tup [V.int (i:Nat),V.bl (Cg tv ws k.1 cm k.2 i)])):=A9.upd hT
   have e3:(upd H2 T (.tup [V.int (i:Nat),V.bl (Cg tv ws k.1 cm k.2 i)])) T = some (.tup [V.int (i:Nat),V.bl (Cg tv ws k.1 cm k.2 i)]):=A5
   generalize upd H2 T (.tup [V.int (i:Nat),V.bl (Cg tv ws k.1 cm k.2 i)]) = H3 at s3 e3 ⊢
   have s23:=s2.trans s3
   simp only [Oy,↓reduceIte]
   have fin:∀ (v:V) (H4:Hp),A9 H3 H4 -> D2 H4 (Jl tv ws cm k i) v -> H4 D = some (.lst ys) /\ ys.length < sizeLine /\ Ad (D2 (upd H4 D (.lst (ys ++ [v])))) ((List.range (i + 1)).map (Jl tv ws cm k)) (ys ++ [v]) /\ (upd H4 D (.lst (ys ++ [v]))) D = some (.lst (ys ++ [v])) /\ A9 H (upd H4 D (.lst (ys ++ [v]))):=fun v H4 s4 hv=>by
    have hD4:=s4 _ _ (s3 _ _ hD2)
    have tt:Af H4 (upd H4 D (.lst (ys ++ [v]))):=Af.lst hD4
    refine ⟨hD4,B7 (by omega),?_,A5,(s23.trans s4).new hD⟩
    rw [List.range_succ,List.map_append]
    exact (hys.imp fun _ _ y=>D2.up (((Af.of s3).trans (Af.of s4)).trans tt) y).append (Ad.one (D2.up tt hv))
   refine ⟨_,rfl,_,rfl,_,rfl,_,rfl,a,b,ws,k.1,cm,k.2,i,Cg tv ws k.1 cm k.2 i,rfl,ha.same s23,hb.same s23,hi,hl,h8,Iv,fun h H4 s4=>?_,fun h p H4 s4 hp=>?_⟩
   ·refine fin _ H4 s4 ?_
    have e:Jl tv ws cm k i = none:=by unfold Jl Cq; rw [if_pos h]
    rw [e]
    rfl
   ·refine fin _ H4 s4 ?_
    have e:Jl tv ws cm k i = some (Bj ws k.1 i (Cg tv ws k.1 cm k.2 i),Dd cm k.2 (Cg tv ws k.1 cm k.2 i)):=by unfold Jl Cq; rw [if_neg h]
    rw [e]
    exact ⟨p,rfl,hp⟩
  ·rintro σ H' Q1 Q2 hQ z
   exact hQ _ _ z
  ·rintro σ H' Q1 Q2 hQ ⟨v1,e1,v2,e2,v3,e3,v4,e4,a',b',ws',ls',cm',q',who',lost',hv,h1,h2,h3,h4,h5,h6,q1,q2⟩
   exact ⟨v1,e1,v2,e2,v3,e3,v4,e4,a',b',ws',ls',cm',q',who',lost',hv,h1,h2,h3,h4,h5,h6,fun h H2 s2=>hQ _ _ (q1 h H2 s2),fun h p H2 s2 hp=>hQ _ _ (q2 h p H2 s2 hp)⟩
  rintro ys H2 ⟨hys,hD2,s2⟩
  rw [List.length_map,hal] at hys
  refine ⟨_,rfl,D,rfl,.inl ⟨⟨_,Bo.of hD2⟩,fun C hC=>?_⟩⟩
  have hyl:=hys.1
  rw [List.length_map,List.length_range] at hyl
  refine Rb (K:=K) (a:=D) (xs:=ys) (fun i zs H'=>Ad (Dr H') ((List.range i).filterMap (Jl tv ws cm k)) zs /\ H' C = some (.lst zs) /\ A9 H2 H') ⟨Ad.nil,A5,A9.upd hC⟩ (by rintro i zs H' _ ⟨_,_,s⟩; exact Bo.of (s _ _ hD2)) ?_ ?_ ?_ ?_
  ·rintro i x zs H3 hx ⟨hzs,hC3,s3⟩
   obtain ⟨r,hr1,hv⟩ := hys.get hx
   have hi:=(List.getElem?_eq_some_iff.mp hr1).1
   rw [List.length_map,List.length_range] at hi
   rw [List.getElem?_map,List.getElem?_range hi] at hr1
   have er:Jl tv ws cm k i = r:=by simpa using hr1
   have hzl:zs.length <= i:=by
    rw [hzs.1]
    exact Nat.le_trans (List.length_filterMap_le _ _) (by rw [List.length_range]; exact Nat.le_refl _)
   cases r with
   | none =>
    obtain rfl:x = .non:=hv
    refine ⟨_,rfl,rfl,_,rfl,Fd (by simp) ⟨?_,hC3,s3⟩⟩
    rw [List.range_succ,List.filterMap_append]
    have e0:[i].filterMap (Jl tv ws cm k) = []:=by simp [er]
    rw [e0,List.append_nil]
    exact hzs
   | some k' =>
    obtain ⟨p,rfl,u,hp1,hp2⟩ := hv
    have tt:Af H3 (upd H3 C (.lst (zs ++ [.ref p]))):=Af.lst hC3
    refine ⟨_,rfl,rfl,_,rfl,Lw (by simp) ⟨_,rfl,hC3,B7 (by omega),?_,A5,s3.new hC⟩⟩
    rw [List.range_succ,List.filterMap_append]
    have e0:[i].filterMap (Jl tv ws cm k) = [k']:=by simp [er]
    rw [e0]
    exact (hzs.imp fun _ _ y=>Dr.up tt y).append (Ad.one ⟨p,u,rfl,tt _ _ (s3 _ _ hp1),tt _ _ (s3 _ _ hp2)⟩)
  ·rintro σ H' Q1 Q2 hQ ⟨v,e1,e2,c,e3,z⟩
   exact ⟨v,e1,e2,c,e3,hQ _ _ z⟩
  ·rintro σ H' Q1 Q2 hQ ⟨v,e1,z⟩
   exact ⟨v,e1,hQ _ _ z⟩
  rintro zs H3 ⟨hzs,hC3,s3⟩
  rw [hyl] at hzs
  refine q C zs H3 ?_ (s2.trans s3) hC3 hzs
  cases e:H C with
  | none=>rfl
  | some o=>rw [s2 _ _ e] at hC; cases hC
noncomputable def We (K:PySem.W.Frag):Sp:=fun vs H Q _=>Vd fun (a:Addr) (ws:List Int) (cm:Option Int)=>Hw (vs = [.ref a]) (Bm H a ws cm) (Dg ws cm) ((∀ (tv:List ((List Int × Int) × V)) (H':Hp),A9 H H' -> Bz ws cm tv -> (tv.map (·.1)).Nodup -> Ae tv (ws,0) = none -> Q .non H')) (∀ (p:Addr) (us:List V) (ps tv:List ((List Int × Int) × V)) (H':Hp),A9 H H' -> H p = none -> H' p = some (.lst us) -> Bz ws cm tv -> (tv.map (·.1)).Nodup -> (Ae tv (ws,0)).isSome = true -> Lo ws cm tv ps -> Ad (Hs tv ws cm H') ps us -> Q (.ref p) H')
theorem ix {fd fd_x29 fd_x16 fd_x10 fd_x3:FuncData} (T:Gq K mg ad) (F:Fq K "broken_paper" "broken_paper" Sl ad.f_x7 fd) (G_x29:Aj P w K mg base Bp 7 ad.f_x29 fd_x29 ["hall"] (Ln K)) (B_x29:Az K fd_x29 ["hall"] []) (G_x16:Aj P w K mg base Bp 1 ad.f_x16 fd_x16 ["hall"] (Oo K)) (B_x16:Az K fd_x16 ["hall"] []) (G_x10:Aj P w K mg base Bp 6 ad.f_x10 fd_x10 ["hall","table","standing"] (Rs K)) (B_x10:Az K fd_x10 ["hall","table","standing"] []) (G_x3:Aj P w K mg base Bp 5 ad.f_x3 fd_x3 ["hall","standing","answers"] (Ya K)) (B_x3:Az K fd_x3 ["hall","standing","answers"] []):Aj P w K mg base Bp 8 ad.f_x7 fd ["hall"] (We K):=by
 refine F.ok Qa (fun vs H Q E h=>?_) (fun cdv A outer s H vs Q E hr h=>?_)
 ·rcases h with ⟨a,ws,cm,rfl,ha,hok,q0,q⟩ <;> rfl
 ·obtain ⟨a,ws,cm,rfl,ha,hok,q0,q⟩ := h
  refine ⟨_,(A6 (Al (i:=1) Qa.nd rfl (Or.inr rfl) (Ag G_x29 (hr.mono (by decide)) rfl T.m_x29 T.k_x29 B_x29 .nil B0 (A0 (pv 0) A7))) (A6 (Cn (Fk (Ev (Dl hr) (Ag G_x16 (hr.mono (by decide)) rfl T.m_x16 T.k_x16 B_x16 .nil B0 (A0 (pv 0) A7)) (pv 1)) rfl) (Ab (Ao D3)) Av) (A6 (Al (i:=2) Qa.nd rfl (Or.inl rfl) F6) (A6 (Al (i:=3) Qa.nd rfl (Or.inl rfl) (D5 (A0 (Ag G_x16 (hr.mono (by decide)) rfl T.m_x16 T.k_x16 B_x16 .nil B0 (A0 (pv 0) A7)) A7))) (A6 (Ia PassesOwn.never (Lp (pv 3) (by intro _; rfl)) (A6 (Al (i:=4) Qa.nd rfl (Or.inl rfl) (Dz (u':=Zc K _ _ _) (Ox PySem.F.plainAttrs_list PySem.F.slot_list_pop PySem.F.type_list_pop S8 (pv 3)))) (Ab (Dp (Fk (Ev (Dl hr) (pv 4) (pv 2)) rfl) (A6 (Fh (Dl hr) (pv 2) (pv 4) (Ag G_x10 (hr.mono (by decide)) rfl T.m_x10 T.k_x10 B_x10 .nil B0 (A0 (pv 0) (A0 (pv 1) (A0 (pv 4) A7)))) rfl) (Ab (Co (Dz (u':=Tv K _ _ _ _) (Ez PySem.F.plainAttrs_list PySem.F.slot_list_extend PySem.F.type_list_extend Gk (pv 3) (A0 (Ag G_x3 (hr.mono (by decide)) rfl T.m_x3 T.k_x3 B_x3 .nil B0 (A0 (pv 0) (A0 (pv 4) (A0 (Gn (Dl hr) (pv 2) (pv 4) (fun _ _=>rfl)) A7)))) A7)))))) Av)))) (Ab (Ao (Aw (Ow hr) (by rfl) T.n_sorted boot_sorted (A0 (Yn (Ei (Hx (pv 2)) _ rfl Hu rfl rfl (fun _ _ _ _=>(Gh K (n:=2) rfl (Ci (Aq (i:=0) Eg rfl (Or.inl rfl)) (Ci (Aq (i:=1) Eg rfl (Or.inl rfl)) Gd)))) (fun _ _ _ _=>Cp) (fun _ _ _ _=>(Bt (A0 (pv 0) (A0 (Gn (Dl hr) (pv 2) (pv 0) (fun _ _=>rfl)) (A0 (pv 1) A7))))))) A7))))))))),?_⟩
  obtain ⟨wt,ha1,ha2⟩ := id ha
  have hq:=hok.qv
  have hw1:∀ x ∈ ws,1 <= x:=fun x hx=>(hok.1 x hx).1
  have h8:=hok.2.2.2.1
  have hn0:=hok.2.2.1
  refine ⟨_,rfl,a,ws,cm,rfl,ha,(fun w hw=>(hok.1 w hw).1),hq.1,(fun w hw=>F8 (by have:=hok.1 w hw; omega) (hok.1 w hw).2),F8 (by omega) hq.2,hok.2.2.2.1,(by have:=hok.2.2.2.2; omega),fun TB tv H1 hTB s1 eTB hrk hnd htl=>?_⟩
  have hti:Oa tv:=fun k v hv=>by
   obtain ⟨m,e,_⟩ := hrk.1 k v hv
   exact ⟨m,e⟩
  refine ⟨_,rfl,a,ws,cm,rfl,ha.same s1,fun b0 H2 s2 hb0=>?_⟩
  have s12:=s1.trans s2
  refine ⟨_,rfl,TB,_,rfl,D1.t (s2 _ _ eTB) (show E2 H2 b0 (ws,0) from hb0),_,rfl,?_⟩
  refine Fp (fun h=>q0 tv H2 s12 hrk hnd ?_) (fun hnv=>?_)
  ·cases e:Ae tv (ws,0) with
   | none=>rfl
   | some v=>rw [e] at h; cases h
  have hv0:(Ae tv (ws,0)).isSome = true:=by
   cases e:Ae tv (ws,0) with
   | none=>rw [e] at hnv; exact absurd rfl hnv
   | some v=>rfl
  have hsf0:Uf ws cm tv (ws,0):=by
   refine ⟨Kp rfl (fun i hi=>⟨hw1 _ (by rw [List.getD_eq_getElem?_getD,List.getElem?_eq_getElem hi]; exact List.getElem_mem hi),Int.le_refl _⟩) (Int.le_refl _) (by have:=hq.1; show (0:Int) < qv cm; omega),?_,.base⟩
   obtain ⟨v,hv⟩ := Option.isSome_iff_exists.mp hv0
   obtain ⟨m,e⟩ := hti _ v hv
   exact ⟨m,by rw [hv,e]⟩
  refine fun C hC=>?_
  have s3:A9 H2 (upd H2 C (.dT [])):=A9.upd hC
  have e3:(upd H2 C (.dT [])) C = some (.dT []):=A5
  generalize upd H2 C (.dT []) = H3 at s3 e3 ⊢
  refine ⟨_,rfl,a,ws,cm,rfl,(ha.same s12).same s3,fun b1 H4 s4 hb1=>?_⟩
  refine ⟨Bk,fun L hL=>?_⟩
  have s5:A9 H4 (upd H4 L (.lst [.ref b1])):=A9.upd hL
  have e5:(upd H4 L (.lst [.ref b1])) L = some (.lst [.ref b1]):=A5
  generalize upd H4 L (.lst [.ref b1]) = H5 at s5 e5 ⊢
  have hC2:H2 C = none:=hC
  have hL2:H2 L = none:=by
   cases e:H2 L with
   | none=>rfl
   | some o=>rw [s4 _ _ (s3 _ _ e)] at hL; cases hL
  have s25:A9 H2 H5:=(s3.trans s4).trans s5
  obtain ⟨bu,hb11,hb12⟩ := hb1.same s5
  dsimp only
  refine d6 ?_
  refine fi ?_
  refine Hz (fun σ' H'=>Ud fun (es:List V) (E:List (List Int × Int)) (cv:List ((List Int × Int) × V)) (v4:Option V)=>Rf (σ' = [some (.ref a),some (.ref TB),some (.ref C),some (.ref L),v4]) (A9 H2 H') (H' L = some (.lst es)) (Ad (Dr H') E es) (H' C = some (.dT cv)) (Pf ws cm tv cv E) (E.length <= 8 * cv.length + 1) ((∀ kv ∈ cv,∃ t,kv.2 = .ref t /\ H' t = some (.tup ((Dy tv ws kv.1.1 cm kv.1.2).map V.bl)))))
   (fun _ H'=>9 * (301 - Du (H' C)) + Fz (H' L)) ⟨[.ref b1],[(ws,0)],[],none,rfl,s25,e5,Ad.one ⟨b1,bu,rfl,hb11,hb12⟩,s5 _ _ (s4 _ _ e3),Pf.start hsf0,by simp,fun kv hkv=>by cases hkv⟩ ?_ ?_
  ·rintro σ' H' ⟨es,E,cv,v4,rfl,s',hL',hes,hC',hkp,hEl,hans⟩
   have hcl:=hkp.len hok
   refine ⟨_,rfl,_,.inl ⟨_,Bo.of hL',rfl⟩,?_⟩
   refine Fp (fun hne=>?_) (fun hemp=>?_)
   ·have hes0 : 0 < es.length := by
     cases es with
     | nil=>exact absurd hne (by decide)
     | cons x xs=>simp
    have hel:=hes.1
    obtain ⟨y,hy⟩ := Og hes0
    refine ⟨_,rfl,.inl ⟨rfl,_,Bo.of hL'⟩,L,es,y,rfl,rfl,hL',hy,?_⟩
    obtain ⟨k,hk0,b,b2,rfl,hb21,hb22⟩ := hes.get hy
    have eE:E = E.take (es.length - 1) ++ [k]:=by
     have h1:=List.take_append_drop (es.length - 1) E
     have h2:E.drop (es.length - 1) = [k]:=by
      rw [List.drop_eq_getElem_cons (by omega),(List.getElem?_eq_some_iff.mp hk0).2,List.drop_of_length_le (by omega)]
     rw [h2] at h1
     exact h1.symm
    have hCL:C ≠ L:=Bl hC' hL' (by intro z; cases z)
    have t4:Af H' (upd H' L (.lst es.dropLast)):=Af.lst hL'
    have hL4:(upd H' L (.lst es.dropLast)) L = some (.lst es.dropLast):=A5
    have hC4:(upd H' L (.lst es.dropLast)) C = some (.dT cv):=(Ac hCL).trans hC'
    have s4':A9 H2 (upd H' L (.lst es.dropLast)):=s'.new hL2
    generalize upd H' L (.lst es.dropLast) = H6 at t4 hL4 hC4 s4' ⊢
    have hans6:(∀ kv ∈ cv,∃ t,kv.2 = .ref t /\ H6 t = some (.tup ((Dy tv ws kv.1.1 cm kv.1.2).map V.bl))):=fun kv hkv=>by
     obtain ⟨t,e1,e2⟩ := hans kv hkv
     exact ⟨t,e1,t4 _ _ e2⟩
    have hst6:Db H6 b k.1 k.2:=⟨b2,t4 _ _ hb21,t4 _ _ hb22⟩
    have hes6:Ad (Dr H6) (E.take (es.length - 1)) es.dropLast:=by
     rw [List.dropLast_eq_take]
     exact (hes.imp (fun _ _ y=>Dr.up t4 y)).take _
    have hl6:(E.take (es.length - 1)).length = E.length - 1:=by rw [List.length_take]; omega
    rw [eE] at hkp
    generalize E.take (es.length - 1) = E0 at hkp hes6 hl6 eE
    have hm0:Fz (H' L) = es.length:=by rw [hL']; rfl
    have hm1:Du (H' C) = cv.length:=by rw [hC']; rfl
    refine ⟨_,rfl,_,rfl,C,_,rfl,D1.t hC4 (show E2 H6 b k from hst6),_,rfl,(fun σ'' H7=>Ud fun (es:List V) (E:List (List Int × Int)) (cv':List ((List Int × Int) × V)) (v4:Option V)=>Sy (σ'' = [some (.ref a),some (.ref TB),some (.ref C),some (.ref L),v4]) (A9 H2 H7) (H7 L = some (.lst es)) (Ad (Dr H7) E es) (H7 C = some (.dT cv')) (Pf ws cm tv cv' E) (E.length <= 8 * cv'.length + 1) ((∀ kv ∈ cv',∃ t,kv.2 = .ref t /\ H7 t = some (.tup ((Dy tv ws kv.1.1 cm kv.1.2).map V.bl)))) (9 * (301 - Du (H7 C)) + Fz (H7 L) < 9 * (301 - Du (H' C)) + Fz (H' L))),fun h=>?_,fun h=>?_,?_⟩
    ·have hvn : Ae cv k = none := by
      cases e:Ae cv k with
      | none=>rfl
      | some v=>rw [e] at h; cases h
     have hsfk:Uf ws cm tv k:=hkp.sf k (by simp)
     have hkl:k.1.length = ws.length:=(Fa hsfk.1).1
     refine ⟨_,rfl,_,rfl,_,rfl,a,TB,b,ws,k.1,cm,k.2,tv,rfl,(ha.same s12).same s4',hst6,s4' _ _ (s2 _ _ eTB),hti,hkl,h8,fun A H7 s7 eA=>?_⟩
     have hC7:=s7 _ _ hC4
     have hL7:=s7 _ _ hL4
     refine ⟨_,rfl,_,rfl,C,_,rfl,Mq.t hC7 (show E2 H7 b k from hst6.same s7) (Bq (by omega)),?_⟩
     have hLC:L ≠ C:=fun z=>hCL z.symm
     have k8:∀ b o,b ≠ C -> H7 b = some o -> (upd H7 C (.dT (Bb cv k (.ref A)))) b = some o:=fun b o n e=>(Ac n).trans e
     have hC8:(upd H7 C (.dT (Bb cv k (.ref A)))) C = some (.dT (Bb cv k (.ref A))):=A5
     generalize upd H7 C (.dT (Bb cv k (.ref A))) = H8 at k8 hC8 ⊢
     have t8:Af H7 H8:=fun b xs e=>k8 b _ (Bl e hC7 (by intro z; cases z)) e
     have s8:A9 H2 H8:=fun b o e=>k8 b o (Ah e hC2) (s7 _ _ (s4' _ _ e))
     have hL8:=k8 _ _ hLC hL7
     have hst8:Db H8 b k.1 k.2:=(hst6.same s7).up t8
     have ev:Ae (Bb cv k (.ref A)) k = some (.ref A):=by rw [F5,if_pos rfl]
     refine ⟨_,rfl,.inl ⟨rfl,_,Bo.of hL8⟩,_,rfl,_,rfl,_,rfl,_,rfl,C,.ref A,rfl,(by rw [<- ev]; exact D1.t hC8 (show E2 H8 b k from hst8)),a,b,A,ws,cm,k,tv,rfl,(ha.same s12).same s8,hst8,t8 _ _ eA,hkl,h8,fun l us H9 hl9 s9 el9 hus=>?_⟩
     have huf:=cg hrk hok hsfk
     have hL9:=s9 _ _ hL8
     have hel6:=hes6.1
     have hul:=hus.1
     have hfl:((List.range ws.length).filterMap (Jl tv ws cm k)).length <= ws.length:=Nat.le_trans (List.length_filterMap_le _ _) (by rw [List.length_range]; exact Nat.le_refl _)
     refine ⟨L,l,es.dropLast,us,rfl,rfl,hL9,el9,Nat.le_of_lt (Bq (by omega)),?_⟩
     have t10:Af H9 (upd H9 L (.lst (es.dropLast ++ us))):=Af.lst hL9
     have hC10:(upd H9 L (.lst (es.dropLast ++ us))) C = some (.dT (Bb cv k (.ref A))):=(Ac hCL).trans (s9 _ _ hC8)
     have hpl:(Bb cv k (.ref A)).length = cv.length + 1:=by rw [C5 _ hvn,List.length_append,List.length_singleton]
     have t610:Af H7 (upd H9 L (.lst (es.dropLast ++ us))):=t8.trans ((Af.of s9).trans t10)
     refine ⟨es.dropLast ++ us,E0 ++ (List.range ws.length).filterMap (Jl tv ws cm k),Bb cv k (.ref A),_,rfl,(s8.trans s9).new hL2,A5,((hes6.imp fun _ _ y=>Dr.up ((Af.of s7).trans t610) y).append (hus.imp fun _ _ y=>Dr.up t10 y)),hC10,hkp.put hvn huf,?_,(fun kv hkv=>?_),?_⟩
     ·rw [List.length_append,hpl,hl6]
      omega
     ·rw [C5 _ hvn] at hkv
      rcases List.mem_append.mp hkv with z | z
      ·obtain ⟨t,e1,e2⟩ := hans6 kv z
       exact ⟨t,e1,t610 _ _ (s7 _ _ e2)⟩
      ·rw [List.mem_singleton.mp z]
       exact ⟨A,rfl,t610 _ _ eA⟩
     ·have m1:Fz ((upd H9 L (.lst (es.dropLast ++ us))) L) = (es.dropLast ++ us).length:=by rw [A5]; rfl
      have m2:Du ((upd H9 L (.lst (es.dropLast ++ us))) C) = cv.length + 1:=by rw [hC10]; exact hpl
      rw [m1,m2,hm0,hm1,List.length_append,List.length_dropLast]
      omega
    ·have hks : k ∈ cv.map (·.1) := by
      cases e:Ae cv k with
      | none=>rw [e] at h; cases h
      | some v=>exact K2 e
     refine ⟨es.dropLast,E0,cv,_,rfl,s4',hL4,hes6,hC4,hkp.skip hks,by omega,hans6,?_⟩
     have m1:Fz (H6 L) = es.dropLast.length:=by rw [hL4]; rfl
     have m2:Du (H6 C) = cv.length:=by rw [hC4]; rfl
     rw [m1,m2,hm0,hm1,List.length_dropLast]
     omega
    ·rintro σ'' H7 ⟨es7,E7,cv7,v47,rfl,a1,a2,a3,a4,a5,a6,a7,a8⟩
     exact ⟨⟨es7,E7,cv7,v47,rfl,a1,a2,a3,a4,a5,a6,a7⟩,a8⟩
   ·have hes1 : es = [] := by
     cases es with
     | nil=>rfl
     | cons x xs=>exact absurd rfl hemp
    have hE1:E = []:=by
     have h1:=hes.1
     rw [hes1] at h1
     exact List.length_eq_zero_iff.mp h1.symm
    subst hE1
    refine ⟨C,.dT cv,trivial,hC',_,rfl,C,.dT cv,rfl,trivial,hC',fun o=>?_⟩
    have bF:∀ b ob,b ≠ C -> H' b = some ob -> (upd H' C (.frz o (.dT cv))) b = some ob:=fun b ob n e=>(Ac n).trans e
    have dF:(upd H' C (.frz o (.dT cv))) C = some (.frz o (.dT cv)):=A5
    have fF:∀ b,(upd H' C (.frz o (.dT cv))) b = none -> H' b = none:=fun b hb=>by
     by_cases z:b = C
     ·rw [z,dF] at hb; cases hb
     ·rw [Ac z] at hb; exact hb
    generalize upd H' C (.frz o (.dT cv)) = HF at bF dF fF ⊢
    have tF:Af H' HF:=fun b xs e=>bF b _ (Bl e hC' (by intro z; cases z)) e
    have hTBC:TB ≠ C:=Ah (s2 _ _ eTB) hC2
    have hTBF:HF TB = some (.dT tv):=bF _ _ hTBC (s' _ _ (s2 _ _ eTB))
    refine fun R hR=>?_
    refine Lr (K:=K) (d:=C) (o:=o) (u := .dT cv) (fun i zs H5=>Ad (Hs tv ws cm H5) (cv.take i) zs /\ zs.Nodup /\ H5 R = some (.lst zs) /\ A9 HF H5) ⟨Ad.nil,List.nodup_nil,A5,A9.upd hR⟩ (by rintro i zs H5 _ ⟨_,_,_,s⟩; exact s _ _ dF) ?_ ?_ ?_ ?_
    ·rintro i x y T2 zs H5 hi hit ⟨hzs,hzn,hR5,s5'⟩ hT2
     have hi3:i < cv.length:=hi
     obtain ⟨kk,bb,hkv,rfl,hkk⟩ := hit
     obtain ⟨t,et,ht⟩ := hans _ (List.mem_of_getElem? hkv)
     have ey:y = .ref t:=et
     subst ey
     obtain ⟨⟨hks,⟨m,hm⟩,_⟩,_⟩ := hkp.ent _ (List.mem_of_getElem? hkv)
     have hzl:=hzs.1
     rw [List.length_take] at hzl
     have s6:A9 H5 (upd H5 T2 (.tup [.ref bb,.ref t])):=A9.upd hT2
     have e6:(upd H5 T2 (.tup [.ref bb,.ref t])) T2 = some (.tup [.ref bb,.ref t]):=A5
     generalize upd H5 T2 (.tup [.ref bb,.ref t]) = H6 at s6 e6 ⊢
     have s56:=s5'.trans s6
     have hR6:=s6 _ _ hR5
     simp only [Oy,↓reduceIte]
     refine ⟨_,rfl,_,rfl,_,rfl,TB,.int m,rfl,(by rw [<- hm]; exact D1.t (s56 _ _ hTBF) (show E2 H6 bb kk from hkk.up (Af.of s6))),_,rfl,Bk,fun p hp=>?_⟩
     have s7:A9 H6 (upd H6 p (.tup [.ref bb,.int m,.ref t])):=A9.upd hp
     have e7:(upd H6 p (.tup [.ref bb,.int m,.ref t])) p = some (.tup [.ref bb,.int m,.ref t]):=A5
     generalize upd H6 p (.tup [.ref bb,.int m,.ref t]) = H7 at s7 e7 ⊢
     have hR7:=s7 _ _ hR6
     have tt:Af H7 (upd H7 R (.lst (zs ++ [.ref p]))):=Af.lst hR7
     refine ⟨hR7,Bq (by omega),?_,?_,A5,(s56.trans s7).new hR⟩
     ·rw [List.take_add_one,hkv]
      exact (hzs.imp fun _ _ y=>Hs.up (((Af.of s6).trans (Af.of s7)).trans tt) y).append (Ad.one ⟨p,bb,t,m,rfl,tt _ _ e7,((hkk.up (Af.of s6)).up (Af.of s7)).up tt,hm,rfl,tt _ _ (s7 _ _ (s56 _ _ (tF _ _ ht)))⟩)
     ·refine List.nodup_append.mpr ⟨hzn,by simp,fun u hu v hv z=>?_⟩
      cases List.mem_singleton.mp hv
      subst z
      obtain ⟨i',hi'⟩ := List.mem_iff_getElem?.mp hu
      obtain ⟨_,_,p',_,_,_,e1,e2,_⟩ := hzs.get hi'
      cases e1
      rw [s6 _ _ e2] at hp
      cases hp
    ·rintro σ H1 Q1 Q2 hQ z
     exact hQ _ _ z
    ·rintro σ H1 Q1 Q2 hQ ⟨v,e1,v2,e2,v3,e3,a',w',e4,g,v5,e5,l,f⟩
     exact ⟨v,e1,v2,e2,v3,e3,a',w',e4,g,v5,e5,l,fun p hp=>hQ _ _ (f p hp)⟩
    rintro zs HG ⟨hzs,hzn,hRG,sG⟩
    rw [show cv.take (Dc (.dT cv)) = cv from List.take_length] at hzs
    have hDG:=sG _ _ dF
    refine ⟨o,hDG,?_⟩
    have hRC:R ≠ C:=Bl hRG hDG (by intro z; cases z)
    have s34:A9 H' (upd HG C (.dT cv)):=fun b ob e=>by
     by_cases z:b = C
     ·subst z
      rw [hC'] at e
      cases e
      exact A5
     ·exact (Ac z).trans (sG _ _ (bF b ob z e))
    have tG:Af HG (upd HG C (.dT cv)):=fun b xs e=>by rw [Ac (Bl e hDG (by intro z; cases z))]; exact e
    have hzs4:Ad (Hs tv ws cm (upd HG C (.dT cv))) cv zs:=hzs.imp fun _ _ y=>Hs.up tG y
    have hR4:(upd HG C (.dT cv)) R = some (.lst zs):=(Ac hRC).trans hRG
    generalize upd HG C (.dT cv) = HI at s34 hzs4 hR4 ⊢
    have hzl:=hzs4.1
    let kO:V -> (List Int × Int) × V:=fun u=>cv.getD (zs.idxOf u) (([],0),.non)
    have kAt:∀ (i:Nat) (u:V),zs[i]? = some u -> cv[i]? = some (kO u):=fun i u hu=>by
     obtain ⟨h1,e1⟩ := List.getElem?_eq_some_iff.mp hu
     have e2:zs.idxOf u = i:=by rw [<- e1]; exact List.Nodup.idxOf_getElem hzn i h1
     show _ = some (cv.getD (zs.idxOf u) _)
     rw [e2,List.getD_eq_getElem?_getD,List.getElem?_eq_getElem (by omega)]
     rfl
    have kMem:∀ u ∈ zs,kO u ∈ cv /\ Hs tv ws cm HI (kO u) u:=fun u hu=>by
     obtain ⟨i,hi⟩ := List.mem_iff_getElem?.mp hu
     have h1:=kAt i u hi
     exact ⟨List.mem_of_getElem? h1,hzs4.2 i _ _ h1 hi⟩
    have kMap:zs.map kO = cv:=by
     apply List.ext_getElem?
     intro i
     rw [List.getElem?_map]
     cases hi:zs[i]? with
     | none =>
      have:=List.getElem?_eq_none_iff.mp hi
      rw [List.getElem?_eq_none (by omega)]
      rfl
     | some u=>rw [kAt i u hi]; rfl
    refine ⟨R,zs,false,(fun u=>Ib tv ws cm (kO u)),(fun u=>(Ar ws (qv cm)).idxOf (kO u).1),rfl,Bo.of hR4,by omega,⟨fun u hu=>⟨(kMem u hu).2.rp,⟨dS (kO u).1,_,rfl,by rw [if_neg (by decide)]; exact ⟨_,rfl⟩⟩,Lk _ _ _ _⟩,fun u hu v hv=>Uy (kMem u hu).2.rp (hkp.ent _ (kMem u hu).1).1.1 (hkp.ent _ (kMem v hv).1).1.1⟩,fun p us' hp hperm hsort=>?_⟩
    have sP:A9 HI (upd HI p (.lst us')):=A9.upd hp
    have hpH:H p = none:=by
     cases e:H p with
     | none=>rfl
     | some o=>rw [s34 _ _ (s' _ _ (s12 _ _ e))] at hp; cases hp
    have hcp:(us'.map kO).Perm cv:=by
     have:=hperm.map kO
     rw [kMap] at this
     exact this
    refine q p us' (us'.map kO) tv _ (((s12.trans s').trans s34).trans sP) hpH A5 hrk hnd hv0 (Ul hkp hcp (by rw [List.pairwise_map]; exact hsort)) ⟨by rw [List.length_map],fun i r v e1 e2=>?_⟩
    rw [List.getElem?_map,e2] at e1
    cases e1
    exact Hs.up (Af.of sP) (kMem v (hperm.mem_iff.mp (List.mem_of_getElem? e2))).2
  ·intro σ H0 Q1 Q2 z h1
   obtain ⟨_,e,k,t,h2⟩ := h1
   exact ⟨_,e,k,t,z _ _ h2⟩
noncomputable def Sm (K:PySem.W.Frag):Sp:=fun vs H Q _=>Vd fun (a:Addr) (ns:List Int) (k:Int)=>Kq (vs = [.ref a,.int k]) (Bo K H a (ns.map V.int)) (0 <= k) (Q (.int (Ds ns k)) H)
theorem ci {fd  : FuncData} (T:Gq K mg ad) (F:Fq K "_law_cell" "_law_cell" Mw ad.f_x22 fd):Aj P w K mg base Bp 1 ad.f_x22 fd ["script","k"] (Sm K):=by
 refine F.ok di (fun vs H Q E h=>?_) (fun cdv A outer s H vs Q E hr h=>?_)
 ·rcases h with ⟨a,ns,k,rfl,hS,hk,q⟩ <;> rfl
 ·obtain ⟨a,ns,k,rfl,hS,hk,q⟩ := h
  refine ⟨_,(A6 (Cn (Bd To (pv 1) (Aw (Bw K) (by rfl) T.n_len PySem.boot_len (A0 (pv 0) A7)) (Be _)) (Ab (Ao (B9 (B8 K) (pv 0) (pv 1) (fun _ _=>rfl)))) Av) (Ab (Ao Aa))),?_⟩
  refine ⟨_,rfl,_,rfl,a,_,rfl,.inl hS,_,_,rfl,rfl,_,rfl,?_⟩
  refine Fp (fun hlt=>?_) (fun hlt=>?_)
  ·have hlt':k < ns.length:=by simpa using hlt
   exact ⟨_,rfl,_,rfl,a,_,_,_,rfl,rfl,.inl hS,Zr hk hlt',q⟩
  ·have hlt':¬ k < ns.length:=by simpa using hlt
   rw [V8 hk hlt'] at q
   exact q
noncomputable def So (K:PySem.W.Frag):Sp:=fun vs H Q _=>Yh fun (c:Addr) (xs:List Int)=>Kq (vs = [.ref c]) (H c = some (.lst (xs.map V.int))) (xs.length = 7) (∀ (p:Addr) (ws:List Int) (cm:Option Int) (H':Hp),A9 H H' -> Bm H' p ws cm -> Dg ws cm -> Q (.ref p) H')
theorem f9 {fd  : FuncData} (T:Gq K mg ad) (F:Fq K "_law_wide" "_law_wide" N2 ad.f_x23 fd):Aj P w K mg base Bp 1 ad.f_x23 fd ["cells"] (So K):=by
 refine F.ok Ll (fun vs H Q E h=>?_) (fun cdv A outer s H vs Q E hr h=>?_)
 ·rcases h with ⟨c,xs,rfl,hc,hx7,q⟩ <;> rfl
 ·obtain ⟨c,xs,rfl,hc,hx7,q⟩ := h
  refine ⟨_,(A6 (Al (i:=1) Ll.nd rfl (Or.inl rfl) Aa) (A6 (Al (i:=2) Ll.nd rfl (Or.inl rfl) (D5 A7)) (A6 (Cr PassesOwn.never rfl (Dk (w':=P1 K _) (Dj (Ig (Ih K) (pv 0) K1 (K0 (Ba D4 Aa (Ba Cs (B9 (B8 K) (pv 0) Aa (fun _ _=>rfl)) Aa)))))) (Aq (i:=3) Ll.nd rfl (Or.inl rfl)) (A6 (Co (Dz (u':=Tv K _ _ _ _) (Ez PySem.F.plainAttrs_list PySem.F.slot_list_append PySem.F.type_list_append D0 (pv 2) (A0 (Ba D4 Aa (Ba Cs (pv 3) (Aw (V2 rfl) (by rfl) T.n_min boot_min (A0 (pv 1) (A0 Aa A7))))) A7)))) (Ab (Al (i:=1) Ll.nd rfl (Or.inl rfl) (Ba Gi (pv 1) (B9 (B8 K) (pv 2) (jm g7 Aa) (fun _ _=>rfl))))))) (A6 (Cn (PW.pt (d4 (Bd To (pv 1) Aa (Be _)) (Ww (Bd Fn (Ba Cs (Ba Gi (B9 (B8 K) (pv 0) Aa (fun _ _=>rfl)) Aa) Aa) Aa (Be _))))) (Ab (Ao (Bt (A0 (Cc (Ck K) (by rfl) T.n_tuple boot_tuple (A0 (pv 2) A7)) (A0 D3 A7))))) Av) (Ab (Ao (Bt (A0 (Cc (Ck K) (by rfl) T.n_tuple boot_tuple (A0 (pv 2) A7)) (A0 (Ba D4 Aa (Ba Cs (Ba Gi (B9 (B8 K) (pv 0) Aa (fun _ _=>rfl)) Aa) (Ba Hb (pv 1) Aa))) A7))))))))),?_⟩
  refine ⟨Bk,fun W hW=>?_⟩
  have s1:A9 H (upd H W (.lst [])):=A9.upd hW
  have e1:(upd H W (.lst [])) W = some (.lst []):=A5
  generalize upd H W (.lst []) = H1 at s1 e1 ⊢
  have hc1:=s1 _ _ hc
  have at6:=Hh (xs:=xs) (k:=6) (i:=6) (by omega) rfl
  have hm3:=Bh (xs.getD 6 0) (show (0:Int) < 3 by decide)
  refine ⟨_,rfl,_,rfl,c,_,_,_,rfl,rfl,.inl (Bo.of hc1),at6,_,_,rfl,rfl,(by first | (show (0:Int) < _; decide) | simp),_,_,rfl,rfl,_,rfl,c,_,rfl,Bo.of hc1,fun sl hsl=>?_⟩
  rw [K8 (by omega) (by rw [List.length_map]; omega),<- List.map_take]
  have htl:(xs.take (2 + xs.getD 6 0 % 3).toNat).length = (2 + xs.getD 6 0 % 3).toNat:=by
   rw [List.length_take]
   omega
  generalize xs.take (2 + xs.getD 6 0 % 3).toNat = ys at htl ⊢
  have s2:A9 H1 (upd H1 sl (.lst (ys.map V.int))):=A9.upd hsl
  have e2:(upd H1 sl (.lst (ys.map V.int))) sl = some (.lst (ys.map V.int)):=A5
  generalize upd H1 sl (.lst (ys.map V.int)) = H2 at s2 e2 ⊢
  have hWs:W ≠ sl:=Ah e1 hsl
  have s12:=s1.trans s2
  refine ⟨sl,rfl,.inl ⟨⟨_,Bo.of e2⟩,?_⟩⟩
  refine D6 (K:=K) (a:=sl) (xs:=ys.map V.int) (fun i σ H'=>Vd fun (ws:List Int) (room:Int) (v3:Option V)=>Rf (σ = [some (.ref c),some (.int room),some (.ref W),v3]) (ws.length = i) ((∀ w ∈ ws,1 <= w /\ w <= 40)) (1 <= room) (Ak 1 ws * room <= 150) (H' W = some (.lst (ws.map V.int))) (H' sl = some (.lst (ys.map V.int))) (A9 H H'))
   ⟨[],150,none,rfl,rfl,(fun w hw=>by cases hw),by decide,by decide,s2 _ _ e1,e2,s12⟩ (by rintro i σ H' _ ⟨_,_,_,_,_,_,_,_,_,e,_⟩; exact Bo.of e) ?_ ?_
  ·rintro i y σ H3 hy ⟨ws,room,v3,rfl,hwl,hw1,hro,hpr,hW3,hsl3,s3⟩
   have hi:=(List.getElem?_eq_some_iff.mp hy).1
   rw [List.length_map] at hi
   rw [List.getElem?_map] at hy
   obtain ⟨x,hx,rfl⟩ := Option.map_eq_some_iff.mp hy
   have hmn:(0:Int) < (if 40 < room then 40 else room) /\ (if (40:Int) < room then (40:Int) else room) <= 40 /\ (if (40:Int) < room then (40:Int) else room) <= room:=by split <;> omega
   have hxm:=Bh x hmn.1
   refine ⟨_,rfl,.inl ⟨rfl,_,Bo.of hW3⟩,_,rfl,_,rfl,_,_,rfl,_,_,rfl,rfl,hmn.1,_,_,rfl,rfl,W,_,_,rfl,rfl,hW3,B7 (by rw [List.length_map]; omega),?_⟩
   have hw:1 <= 1 + x % (if (40:Int) < room then (40:Int) else room) /\ 1 + x % (if (40:Int) < room then (40:Int) else room) <= 40 /\ 1 + x % (if (40:Int) < room then (40:Int) else room) <= room:=by omega
   generalize hwd:1 + x % (if (40:Int) < room then (40:Int) else room) = w at hw
   have h4:(upd H3 W (.lst (ws.map V.int ++ [V.int (1 + x % (if (40:Int) < room then (40:Int) else room))]))) W = some (.lst (ws.map V.int ++ [V.int w])):=by rw [A5,hwd]
   have hq:1 <= room / w:=by
    rw [Int.le_ediv_iff_mul_le (by omega)]
    omega
   refine ⟨_,rfl,_,rfl,_,rfl,W,_,_,_,rfl,rfl,.inl (Bo.of h4),X6 _ _,_,_,rfl,rfl,⟨by omega,by omega⟩,?_⟩
   refine ⟨ws ++ [w],room / w,_,rfl,F4 hwl,?_,hq,?_,by rw [h4,G3],(Ac hWs.symm).trans hsl3,s3.new hW⟩
   ·intro z hz
    rcases List.mem_append.mp hz with y | y
    ·exact hw1 z y
    ·cases List.mem_singleton.mp y
     exact ⟨hw.1,hw.2.1⟩
   ·rw [W1]
    have hp0:0 <= Ak 1 ws:=Int.le_trans (by decide) (E5 ws 1 (by decide) fun w hw=>(hw1 w hw).1)
    have h5:w * (room / w) <= room:=Int.mul_ediv_self_le (by omega)
    have h6:Ak 1 ws * (w * (room / w)) <= Ak 1 ws * room:=Int.mul_le_mul_of_nonneg_left h5 hp0
    rw [Int.mul_assoc]
    omega
  rintro σ H3 ⟨ws,room,v3,rfl,hwl,hw1,hro,hpr,hW3,hsl3,s3⟩
  rw [List.length_map] at hwl
  have hc3:=s3 _ _ hc
  have hp1:1 <= Ak 1 ws:=E5 ws 1 (by decide) fun w hw=>(hw1 w hw).1
  have hpb:Ak 1 ws <= 150:=by
   have:Ak 1 ws * 1 <= Ak 1 ws * room:=Int.mul_le_mul_of_nonneg_left hro (by omega)
   omega
  have hwb:∀ w ∈ ws,1 <= w /\ w <= 3000:=fun w hw=>by have:=hw1 w hw; omega
  refine ⟨_,rfl,_,_,rfl,rfl,_,rfl,_,fun _ Q' z=>⟨_,rfl,c,_,_,_,rfl,rfl,.inl (Bo.of hc3),at6,_,_,rfl,rfl,⟨by decide,by decide⟩,_,_,rfl,rfl,(by first | (show (0:Int) < _; decide) | simp),rfl,_,rfl,z⟩,?_⟩
  refine Fp (fun h0=>?_) (fun h0=>?_)
  ·refine ⟨_,rfl,W,_,rfl,.inl ⟨Bo.of hW3,fun t ht=>?_⟩⟩
   have s4:A9 H3 (upd H3 t (.tup (ws.map V.int))):=A9.upd ht
   have e4:(upd H3 t (.tup (ws.map V.int))) t = some (.tup (ws.map V.int)):=A5
   generalize upd H3 t (.tup (ws.map V.int)) = H4 at s4 e4 ⊢
   refine ⟨Bk,fun p hp=>?_⟩
   exact q p ws none _ ((s3.trans s4).trans (A9.upd hp)) ⟨t,A5,(A9.upd hp) _ _ e4⟩ ⟨hwb,(fun c z=>nomatch z),by omega,by omega,by show Ak 1 ws <= 300; omega⟩
  have hr2:2 <= room:=by
   have:¬ (room < 2):=fun z=>by
    apply h0
    rw [decide_eq_true z]
    rfl
   omega
  refine ⟨_,rfl,W,_,rfl,.inl ⟨Bo.of hW3,fun t ht=>?_⟩⟩
  have s4:A9 H3 (upd H3 t (.tup (ws.map V.int))):=A9.upd ht
  have e4:(upd H3 t (.tup (ws.map V.int))) t = some (.tup (ws.map V.int)):=A5
  generalize upd H3 t (.tup (ws.map V.int)) = H4 at s4 e4 ⊢
  have hrm:(0:Int) < room - 1:=by omega
  have hcm:=Bh (xs.getD 6 0 / 6) hrm
  refine ⟨_,rfl,c,_,_,_,rfl,rfl,.inl (Bo.of (s4 _ _ hc3)),at6,_,_,rfl,rfl,⟨by decide,by decide⟩,_,rfl,_,_,rfl,rfl,_,_,rfl,rfl,hrm,_,_,rfl,rfl,Bk,fun p hp=>?_⟩
  have hr150:room <= 150:=by
   have:1 * room <= Ak 1 ws * room:=Int.mul_le_mul_of_nonneg_right hp1 (by omega)
   omega
  refine q p ws (some (1 + xs.getD 6 0 / 6 % (room - 1))) _ ((s3.trans s4).trans (A9.upd hp)) ⟨t,A5,(A9.upd hp) _ _ e4⟩ ⟨hwb,(fun c z=>by cases z; omega),by omega,by omega,?_⟩
  show Ak (1 + xs.getD 6 0 / 6 % (room - 1) + 1) ws <= 300
  have e:Ak (1 + xs.getD 6 0 / 6 % (room - 1) + 1) ws = (1 + xs.getD 6 0 / 6 % (room - 1) + 1) * Ak 1 ws:=by
   rw [<- Ip,Int.mul_one]
  rw [e,Int.mul_comm]
  have h7:Ak 1 ws * (1 + xs.getD 6 0 / 6 % (room - 1) + 1) <= Ak 1 ws * room:=Int.mul_le_mul_of_nonneg_left (by omega) (by omega)
  omega
noncomputable def Rx (K:PySem.W.Frag):Sp:=fun vs H Q _=>Yh fun (a:Addr) (ns:List Int)=>Vo (vs = [.ref a]) (Bo K H a (ns.map V.int)) (∀ (p:Addr) (ws:List Int) (cm:Option Int) (H':Hp),A9 H H' -> Bm H' p ws cm -> Dg ws cm -> Q (.ref p) H')
theorem bv {fd fd_x22 fd_x23:FuncData} (T:Gq K mg ad) (F:Fq K "_law_hall" "_law_hall" Gw ad.f_x24 fd) (G_x22:Aj P w K mg base Bp 1 ad.f_x22 fd_x22 ["script","k"] (Sm K)) (B_x22:Az K fd_x22 ["script","k"] []) (G_x23:Aj P w K mg base Bp 1 ad.f_x23 fd_x23 ["cells"] (So K)) (B_x23:Az K fd_x23 ["cells"] []):Aj P w K mg base Bp 2 ad.f_x24 fd ["script"] (Rx K):=by
 refine F.ok Dn (fun vs H Q E h=>?_) (fun cdv A outer s H vs Q E hr h=>?_)
 ·rcases h with ⟨a,ns,rfl,hS,q⟩ <;> rfl
 ·obtain ⟨a,ns,rfl,hS,q⟩ := h
  refine ⟨_,(A6 (Al (i:=1) Dn.nd rfl (Or.inl rfl) (Ba Cs (Ag G_x22 (hr.mono (by decide)) rfl T.m_x22 T.k_x22 B_x22 .nil B0 (A0 (pv 0) (A0 Aa A7))) Aa)) (A6 (Al (i:=2) Dn.nd rfl (Or.inl rfl) (Ag G_x22 (hr.mono (by decide)) rfl T.m_x22 T.k_x22 B_x22 .nil B0 (A0 (pv 0) (A0 Aa A7)))) (A6 (Cv (i:=3) Dn.nd rfl (Cz (by rfl) T.n_range (A0 Aa A7)) _ rfl Mm rfl rfl (fun _ _ _ _=>(Aq (i:=0) Md rfl (Or.inl rfl))) (fun _ _ _ _=>Cp) (fun _ _ _ _=>(Ag G_x22 (hr.mono (by decide)) rfl T.m_x22 T.k_x22 B_x22 .nil B0 (A0 (pv 1) (A0 (Ba D4 Aa (pv 0)) A7)))) rfl rfl) (A6 (Cn (PW.pt (Ka (Bd Qr (pv 1) Aa (Be _)) (Ij (Bd To (pv 1) Aa (Be _))))) (Ab (Ao (Ag G_x23 (hr.mono (by decide)) rfl T.m_x23 T.k_x23 B_x23 .nil B0 (A0 (pv 3) A7)))) Av) (A6 (Cv (i:=4) Dn.nd rfl (Dk (w':=P1 K _) (Dj (Ig (Ih K) (pv 3) K1 (K0 Aa)))) _ rfl Mk rfl rfl (fun _ _ _ _=>(Aq (i:=0) M9 rfl (Or.inl rfl))) (fun _ _ _ _=>Cp) (fun _ _ _ _=>(Ba D4 Aa (Aw (F9 rfl) (by rfl) T.n_max boot_max (A0 (Ba Cs (pv 0) Aa) (A0 (Ba Cs (Ba Gi (pv 0) Aa) Aa) A7))))) rfl rfl) (A6 (Al (i:=5) Dn.nd rfl (Or.inl rfl) Aa) (A6 (Dp (Bd Qr (pv 1) Aa (Be _)) (A6 (Cv (i:=4) Dn.nd rfl (Dk (w':=P1 K _) (Dj (Ig (Ih K) (pv 3) K1 (K0 Aa)))) _ rfl Mn rfl rfl (fun _ _ _ _=>(Aq (i:=0) Mr rfl (Or.inl rfl))) (fun _ _ _ _=>Cp) (fun _ _ _ _=>(Ba D4 Aa (Aw (F9 rfl) (by rfl) T.n_max boot_max (A0 (Ba Cs (pv 0) Aa) (A0 (Ba Cs (Ba Gi (pv 0) Aa) Aa) A7))))) rfl rfl) (Ab (Al (i:=5) Dn.nd rfl (Or.inl rfl) Aa))) Av) (A6 (Dp (Bd Qr (pv 1) Aa (Be _)) (A6 (Al (i:=4) Dn.nd rfl (Or.inl rfl) (D5 (A0 (Ba D4 Aa (Ba Cs (B9 (B8 K) (pv 3) Aa (fun _ _=>rfl)) Aa)) A7))) (Ab (Al (i:=5) Dn.nd rfl (Or.inl rfl) Aa))) Av) (A6 (Cn (Bd Fn (pv 1) Aa (Be _)) (Ab (Ao (Bt (A0 (Bt (A0 Aa A7)) (A0 (Ba D4 Aa (Ba Cs (pv 2) Aa)) A7))))) Av) (A6 (Cn (Bd Fn (pv 1) Aa (Be _)) (Ab (Ao (Bt (A0 (Cc (Ck K) (by rfl) T.n_tuple boot_tuple (A0 (Ei (Dk (w':=P1 K _) (Dj (Ig (Ih K) (pv 3) K1 (K0 Aa)))) _ rfl Mg rfl rfl (fun _ _ _ _=>(Aq (i:=0) Mb rfl (Or.inl rfl))) (fun _ _ _ _=>Cp) (fun _ _ _ _=>(Ba Hb Aa (Aw (F9 rfl) (by rfl) T.n_max boot_max (A0 Aa (A0 (Ba Hb (Ba Cs (pv 0) Aa) Aa) A7)))))) A7)) (A0 D3 A7))))) Av) (A6 (Dp (Bd Qr (pv 1) Aa (Be _)) (A6 (Al (i:=4) Dn.nd rfl (Or.inl rfl) (Ba ck (D5 (A0 Aa A7)) (Ba D4 Aa (Ba Cs (B9 (B8 K) (pv 3) Aa (fun _ _=>rfl)) Aa)))) (A6 (Cr PassesOwn.never rfl (Cz (by rfl) T.n_range (A0 Aa A7)) (Aq (i:=6) Dn.nd rfl (Or.inl rfl)) (Ab (Wm (Ba D4 Aa (Ba Cs (B9 (B8 K) (pv 3) (Ba D4 Aa (pv 6)) (fun _ _=>rfl)) Aa)) (Wy (pv 4) (Ba Cs (B9 (B8 K) (pv 3) (pv 6) (fun _ _=>rfl)) (Aw (Bw K) (by rfl) T.n_len PySem.boot_len (A0 (pv 4) A7))) Ql)))) (Ab (Al (i:=5) Dn.nd rfl (Or.inl rfl) Aa)))) Av) (A6 (Cn (Bd Fn (Ba Cs (pv 2) Aa) Aa (Be _)) (Ab (Ao (Bt (A0 (Cc (Ck K) (by rfl) T.n_tuple boot_tuple (A0 (pv 4) A7)) (A0 D3 A7))))) Av) (Ab (Ao (Bt (A0 (Cc (Ck K) (by rfl) T.n_tuple boot_tuple (A0 (pv 4) A7)) (A0 (Ba D4 Aa (Ba Cs (Ba Gi (pv 2) Aa) (pv 5))) A7))))))))))))))))),?_⟩
  refine ⟨_,rfl,a,ns,0,rfl,hS,by decide,_,_,rfl,rfl,(by first | (show (0:Int) < _; decide) | simp),?_⟩
  refine ⟨_,rfl,a,ns,1,rfl,hS,by decide,?_⟩
  refine ⟨7,rfl,by decide,by decide,fun C hC=>?_⟩
  refine D9 (fun i ys H'=>∃ (xs:List Int),Kq (ys = xs.map V.int) (xs.length = i) (H' C = some (.lst ys)) (A9 H H')) ⟨[],rfl,rfl,A5,A9.upd hC⟩ ?_ ?_
  ·rintro i ys H' hi ⟨xs,rfl,hxl,hC',s'⟩ Qe hQ
   have hi7:i < 7:=hi
   refine ⟨_,rfl,_,rfl,_,_,rfl,rfl,a,ns,_,rfl,s'.seq hS,by omega,?_⟩
   exact hQ _ _ hC' (B7 (by rw [List.length_map]; omega)) ⟨xs ++ [_],G3 _ _,F4 hxl,A5,s'.new hC⟩
  rintro ys H1 ⟨xs,rfl,hx7',eC,s1⟩
  have hx7:xs.length = 7:=hx7'
  refine ⟨_,rfl,_,_,rfl,rfl,_,rfl,_,fun _ Q' z=>⟨_,rfl,_,_,rfl,rfl,_,rfl,z⟩,?_⟩
  refine Fp (fun _=>?_) (fun _=>?_)
  ·exact ⟨_,rfl,C,xs,rfl,eC,hx7,fun p ws cm H2 s2 h1 h2=>q p ws cm H2 (s1.trans s2) h1 h2⟩
  refine ⟨_,rfl,_,rfl,C,_,rfl,Bo.of eC,fun sa hsa=>?_⟩
  rw [K8 (by decide) (by rw [List.length_map]; omega),<- List.map_take]
  have htlWa:(xs.take (2:Int).toNat).length = 2:=by
   rw [List.length_take]
   omega
  generalize xs.take (2:Int).toNat = ysWa at htlWa ⊢
  have sA:A9 H1 (upd H1 sa (.lst (ysWa.map V.int))):=A9.upd hsa
  have esa:(upd H1 sa (.lst (ysWa.map V.int))) sa = some (.lst (ysWa.map V.int)):=A5
  generalize upd H1 sa (.lst (ysWa.map V.int)) = H2 at sA esa ⊢
  refine ⟨sa,rfl,.inl ⟨⟨_,Bo.of esa⟩,fun Wa hWa=>?_⟩⟩
  refine Ga (K:=K) (a:=sa) (xs:=ysWa.map V.int) (fun i zs H'=>∃ (ws:List Int),Hw (zs = ws.map V.int) (ws.length = i) ((∀ w ∈ ws,1 <= w /\ w <= 6)) (H' Wa = some (.lst zs)) (A9 H2 H')) ⟨[],rfl,rfl,(fun w hw=>by cases hw),A5,A9.upd hWa⟩ (by rintro i zs H' _ ⟨_,_,_,_,_,s⟩; exact Bo.of (s _ _ esa)) ?_ ?_
  ·rintro i y zs H' hy ⟨ws,rfl,hwl,hw1,hW',s'⟩ Qe hQ
   have hi:=(List.getElem?_eq_some_iff.mp hy).1
   rw [List.length_map] at hi
   rw [List.getElem?_map] at hy
   obtain ⟨x,hx,rfl⟩ := Option.map_eq_some_iff.mp hy
   refine ⟨_,rfl,_,_,rfl,rfl,(by first | (show (0:Int) < _; decide) | simp),_,rfl,_,_,rfl,rfl,⟨by decide,by decide⟩,_,_,rfl,rfl,(by first | (show (0:Int) < _; decide) | simp),_,_,rfl,_,_,rfl,rfl,?_⟩
   have hx1:=Bh x (show (0:Int) < 6 by decide)
   have hx2:=Bh (x / 6) (show (0:Int) < 6 by decide)
   refine hQ _ _ hW' (B7 (by rw [List.length_map]; omega)) ⟨ws ++ [_],G3 _ _,F4 hwl,?_,A5,s'.new hWa⟩
   intro w hw
   rcases List.mem_append.mp hw with z | z
   ·exact hw1 w z
   ·rw [List.mem_singleton.mp z]
    show 1 <= 1 + (if x / 6 % 6 > x % 6 then x / 6 % 6 else x % 6) /\ 1 + (if x / 6 % 6 > x % 6 then x / 6 % 6 else x % 6) <= 6
    split <;> omega
  rintro zs H3 ⟨wsWa,rfl,hwlWa,hw1Wa,eWa,s13'⟩
  rw [List.length_map,htlWa] at hwlWa
  have s13:=sA.trans s13'
  have eC3:=s13 _ _ eC
  refine ⟨_,rfl,_,_,rfl,rfl,_,rfl,(fun σ' H'=>Ud fun (W:Addr) (ws:List Int) (most:Int) (v6:Option V)=>Kq (σ' = [some (.ref a),some (.int (Ds ns 0 % 24)),some (.int (Ds ns 1)),some (.ref C),some (.ref W),some (.int most),v6]) (H' W = some (.lst (ws.map V.int))) (Yl ws most) (A9 H3 H')),fun _=>?_,fun _=>⟨Wa,wsWa,2,_,rfl,eWa,Yl.of hw1Wa hwlWa (by decide) (by decide) (by decide) ⟨by decide,by decide⟩ (by decide),A9.refl _⟩,?_⟩
  ·refine ⟨_,rfl,_,rfl,C,_,rfl,Bo.of eC3,fun sb hsb=>?_⟩
   rw [K8 (by decide) (by rw [List.length_map]; omega),<- List.map_take]
   have htlWb:(xs.take (3:Int).toNat).length = 3:=by
    rw [List.length_take]
    omega
   generalize xs.take (3:Int).toNat = ysWb at htlWb ⊢
   have sB:A9 H3 (upd H3 sb (.lst (ysWb.map V.int))):=A9.upd hsb
   have esb:(upd H3 sb (.lst (ysWb.map V.int))) sb = some (.lst (ysWb.map V.int)):=A5
   generalize upd H3 sb (.lst (ysWb.map V.int)) = H4 at sB esb ⊢
   refine ⟨sb,rfl,.inl ⟨⟨_,Bo.of esb⟩,fun Wb hWb=>?_⟩⟩
   refine Ga (K:=K) (a:=sb) (xs:=ysWb.map V.int) (fun i zs H'=>∃ (ws:List Int),Hw (zs = ws.map V.int) (ws.length = i) ((∀ w ∈ ws,1 <= w /\ w <= 4)) (H' Wb = some (.lst zs)) (A9 H4 H')) ⟨[],rfl,rfl,(fun w hw=>by cases hw),A5,A9.upd hWb⟩ (by rintro i zs H' _ ⟨_,_,_,_,_,s⟩; exact Bo.of (s _ _ esb)) ?_ ?_
   ·rintro i y zs H' hy ⟨ws,rfl,hwl,hw1,hW',s'⟩ Qe hQ
    have hi:=(List.getElem?_eq_some_iff.mp hy).1
    rw [List.length_map] at hi
    rw [List.getElem?_map] at hy
    obtain ⟨x,hx,rfl⟩ := Option.map_eq_some_iff.mp hy
    refine ⟨_,rfl,_,_,rfl,rfl,(by first | (show (0:Int) < _; decide) | simp),_,rfl,_,_,rfl,rfl,⟨by decide,by decide⟩,_,_,rfl,rfl,(by first | (show (0:Int) < _; decide) | simp),_,_,rfl,_,_,rfl,rfl,?_⟩
    have hx1:=Bh x (show (0:Int) < 4 by decide)
    have hx2:=Bh (x / 4) (show (0:Int) < 4 by decide)
    refine hQ _ _ hW' (B7 (by rw [List.length_map]; omega)) ⟨ws ++ [_],G3 _ _,F4 hwl,?_,A5,s'.new hWb⟩
    intro w hw
    rcases List.mem_append.mp hw with z | z
    ·exact hw1 w z
    ·rw [List.mem_singleton.mp z]
     show 1 <= 1 + (if x / 4 % 4 > x % 4 then x / 4 % 4 else x % 4) /\ 1 + (if x / 4 % 4 > x % 4 then x / 4 % 4 else x % 4) <= 4
     split <;> omega
   rintro zs H5 ⟨wsWb,rfl,hwlWb,hw1Wb,eWb,s35'⟩
   rw [List.length_map,htlWb] at hwlWb
   have s35:=sB.trans s35'
   exact ⟨Wb,wsWb,1,_,rfl,eWb,Yl.of hw1Wb hwlWb (by decide) (by decide) (by decide) ⟨by decide,by decide⟩ (by decide),s35⟩
  rintro σ H5 ⟨W5,ws5,most5,v65,rfl,eW5,st5,s35⟩
  have eC5:=s35 _ _ eC3
  have at0:=Hh (xs:=xs) (k:=0) (i:=0) (by omega) rfl
  have at6:=Hh (xs:=xs) (k:=6) (i:=6) (by omega) rfl
  refine ⟨_,rfl,_,_,rfl,rfl,_,rfl,(fun σ' H'=>Ud fun (W:Addr) (ws:List Int) (most:Int) (v6:Option V)=>Kq (σ' = [some (.ref a),some (.int (Ds ns 0 % 24)),some (.int (Ds ns 1)),some (.ref C),some (.ref W),some (.int most),v6]) (H' W = some (.lst (ws.map V.int))) (Yl ws most) (A9 H5 H')),fun _=>?_,fun _=>⟨W5,ws5,most5,_,rfl,eW5,st5,A9.refl _⟩,?_⟩
  ·refine ⟨_,rfl,C,_,_,_,rfl,rfl,.inl (Bo.of eC5),at0,_,_,rfl,rfl,(by first | (show (0:Int) < _; decide) | simp),_,_,rfl,rfl,Bk,fun W6 hW6=>?_⟩
   have hm:=Bh (xs.getD 0 0) (show (0:Int) < 12 by decide)
   refine ⟨W6,[1 + xs.getD 0 0 % 12],4,_,rfl,A5,Yl.of (b:=12) (n:=1) (fun w hw=>?_) rfl (by decide) (by decide) (by decide) ⟨by decide,by decide⟩ (by decide),A9.upd hW6⟩
   rw [List.mem_singleton.mp hw]
   omega
  rintro σ H6 ⟨W6,ws6,most6,v66,rfl,eW6,st6,s56⟩
  have s06:=((s1.trans s13).trans s35).trans s56
  have eC6:=s56 _ _ eC5
  refine ⟨_,rfl,rfl,_,rfl,?_⟩
  refine Fp (fun _=>?_) (fun _=>?_)
  ·refine ⟨Bk,fun t ht=>?_⟩
   have hm:=Bh (Ds ns 1) (show (0:Int) < 60 by decide)
   have s7:A9 H6 (upd H6 t (.tup [.int 1])):=A9.upd ht
   have e7:(upd H6 t (.tup [.int 1])) t = some (.tup [.int 1]):=A5
   generalize upd H6 t (.tup [.int 1]) = H7 at s7 e7 ⊢
   refine ⟨_,rfl,_,_,rfl,rfl,(by first | (show (0:Int) < _; decide) | simp),_,_,rfl,rfl,Bk,fun p hp=>?_⟩
   refine q p [1] (some (1 + Ds ns 1 % 60)) _ ((s06.trans s7).trans (A9.upd hp)) ⟨t,A5,(A9.upd hp) _ _ e7⟩ ⟨fun w hw=>?_,(fun c z=>by cases z; omega),by decide,by show 1 <= 8; decide,?_⟩
   ·rw [List.mem_singleton.mp hw]
    decide
   ·show (1 + Ds ns 1 % 60 + 1) * 1 <= 300
    omega
  refine ⟨_,rfl,rfl,_,rfl,?_⟩
  refine Fp (fun _=>?_) (fun _=>?_)
  ·refine ⟨_,rfl,_,rfl,C,_,rfl,Bo.of eC6,fun sl hsl=>?_⟩
   rw [K8 (by decide) (by rw [List.length_map]; omega),<- List.map_take]
   have htl:(xs.take (4:Int).toNat).length = 4:=by
    rw [List.length_take]
    omega
   generalize xs.take (4:Int).toNat = ys at htl ⊢
   have s7:A9 H6 (upd H6 sl (.lst (ys.map V.int))):=A9.upd hsl
   have e7:(upd H6 sl (.lst (ys.map V.int))) sl = some (.lst (ys.map V.int)):=A5
   generalize upd H6 sl (.lst (ys.map V.int)) = H7 at s7 e7 ⊢
   refine ⟨sl,rfl,.inl ⟨⟨_,Bo.of e7⟩,fun W hW=>?_⟩⟩
   refine Ga (K:=K) (a:=sl) (xs:=ys.map V.int) (fun i zs H'=>∃ (ws:List Int),Hw (zs = ws.map V.int) (ws.length = i) ((∀ w ∈ ws,1 <= w /\ w <= 4)) (H' W = some (.lst zs)) (A9 H7 H')) ⟨[],rfl,rfl,(fun w hw=>by cases hw),A5,A9.upd hW⟩ (by rintro i zs H' _ ⟨_,_,_,_,_,s⟩; exact Bo.of (s _ _ e7)) ?_ ?_
   ·rintro i y zs H' hy ⟨ws,rfl,hwl,hw1,hW',s'⟩ Qe hQ
    have hi:=(List.getElem?_eq_some_iff.mp hy).1
    rw [List.length_map] at hi
    rw [List.getElem?_map] at hy
    obtain ⟨x,hx,rfl⟩ := Option.map_eq_some_iff.mp hy
    refine ⟨_,rfl,_,_,rfl,rfl,(by first | (show (0:Int) < _; decide) | simp),_,_,rfl,rfl,_,_,rfl,_,_,rfl,rfl,?_⟩
    have hx1:=Bh x (show (0:Int) < 5 by decide)
    refine hQ _ _ hW' (B7 (by rw [List.length_map]; omega)) ⟨ws ++ [_],G3 _ _,F4 hwl,?_,A5,s'.new hW⟩
    intro w hw
    rcases List.mem_append.mp hw with z | z
    ·exact hw1 w z
    ·rw [List.mem_singleton.mp z]
     show 1 <= 4 - (if x % 5 - 2 > 0 then x % 5 - 2 else 0) /\ 4 - (if x % 5 - 2 > 0 then x % 5 - 2 else 0) <= 4
     split <;> omega
   rintro zs H8 ⟨ws,rfl,hwl,hw1,eW,s8⟩
   rw [List.length_map,htl] at hwl
   refine ⟨W,_,rfl,.inl ⟨Bo.of eW,fun t ht=>?_⟩⟩
   have s9:A9 H8 (upd H8 t (.tup (ws.map V.int))):=A9.upd ht
   have e9:(upd H8 t (.tup (ws.map V.int))) t = some (.tup (ws.map V.int)):=A5
   generalize upd H8 t (.tup (ws.map V.int)) = H9 at s9 e9 ⊢
   refine ⟨Bk,fun p hp=>?_⟩
   have hpw:=Kt ws 1 (by decide) hw1
   rw [hwl] at hpw
   refine q p ws none _ (((s06.trans (s7.trans s8)).trans s9).trans (A9.upd hp)) ⟨t,A5,(A9.upd hp) _ _ e9⟩ ⟨fun w hw=>?_,(fun c z=>nomatch z),by omega,by omega,?_⟩
   ·have:=hw1 w hw
    omega
   ·show Ak 1 ws <= 300
    exact Int.le_trans hpw (by decide)
  refine ⟨_,rfl,_,_,rfl,rfl,_,rfl,(fun σ' H'=>Ud fun (W:Addr) (ws:List Int) (most:Int) (v6:Option V)=>Kq (σ' = [some (.ref a),some (.int (Ds ns 0 % 24)),some (.int (Ds ns 1)),some (.ref C),some (.ref W),some (.int most),v6]) (H' W = some (.lst (ws.map V.int))) (Yl ws most) (A9 H6 H')),fun _=>?_,fun _=>⟨W6,ws6,most6,_,rfl,eW6,st6,A9.refl _⟩,?_⟩
  ·refine ⟨Bk,fun L1 hL1=>?_⟩
   have s7:A9 H6 (upd H6 L1 (.lst [.int 1])):=A9.upd hL1
   have e7:(upd H6 L1 (.lst [.int 1])) L1 = some (.lst [.int 1]):=A5
   generalize upd H6 L1 (.lst [.int 1]) = H7 at s7 e7 ⊢
   have hm5:=Bh (xs.getD 6 0) (show (0:Int) < 5 by decide)
   refine ⟨_,rfl,C,_,_,_,rfl,rfl,.inl (Bo.of (s7 _ _ eC6)),at6,_,_,rfl,rfl,(by first | (show (0:Int) < _; decide) | simp),_,_,rfl,rfl,L1,_,_,rfl,rfl,e7,by omega,by omega,K7 (by simp; omega),fun W7 hW7=>?_⟩
   rw [Qg]
   have s8:A9 H7 (upd H7 W7 (.lst ((List.replicate (4 + xs.getD 6 0 % 5).toNat (1:Int)).map V.int))):=A9.upd hW7
   have e8:(upd H7 W7 (.lst ((List.replicate (4 + xs.getD 6 0 % 5).toNat (1:Int)).map V.int))) W7 = some (.lst ((List.replicate (4 + xs.getD 6 0 % 5).toNat (1:Int)).map V.int)):=A5
   generalize upd H7 W7 (.lst ((List.replicate (4 + xs.getD 6 0 % 5).toNat (1:Int)).map V.int)) = H8 at s8 e8 ⊢
   have s68:=s7.trans s8
   have eC8:=s68 _ _ eC6
   have nW7:H6 W7 = none:=s7.free hW7
   refine ⟨3,rfl,by decide,by decide,?_⟩
   refine J6 (n:=(3:Int).toNat) (fun i σ H'=>Yh fun (ws:List Int) (v6:Option V)=>Qz (σ = [some (.ref a),some (.int (Ds ns 0 % 24)),some (.int (Ds ns 1)),some (.ref C),some (.ref W7),some (.int most6),v6]) (H' W7 = some (.lst (ws.map V.int))) (ws.length = (4 + xs.getD 6 0 % 5).toNat) ((∀ w ∈ ws,1 <= w /\ w <= 3)) (Ak 1 ws <= 3 ^ i) (A9 H6 H'))
    ⟨_,_,rfl,e8,List.length_replicate,(fun w hw=>by rw [(List.mem_replicate.mp hw).2]; decide),by rw [N4]; decide,s68⟩ ?_ ?_
   ·rintro i σ H9 hi ⟨ws,v6,rfl,hW9,hwl,hw1,hpr,s9⟩
    have hi3:i < 3:=hi
    have eC9:=s9 _ _ eC6
    have a1:=Hh (xs:=xs) (k:=3 + i) (i:=3 + (0 + (i:Int))) (by omega) (by omega)
    have a2:=Hh (xs:=xs) (k:=i) (i:=0 + (i:Int)) (by omega) (by omega)
    have hlp:(0:Int) < ((ws.map V.int).length:Nat):=by rw [List.length_map]; omega
    have hix:=Bh (xs.getD i 0) hlp
    have hm3:=Bh (xs.getD (3 + i) 0) (show (0:Int) < 3 by decide)
    obtain ⟨j,hj⟩ : ∃ j:Nat,xs.getD i 0 % ((ws.map V.int).length:Nat) = j:=⟨(xs.getD i 0 % ((ws.map V.int).length:Nat)).toNat,by omega⟩
    have ej:Vw (ws.map V.int).length (xs.getD i 0 % ((ws.map V.int).length:Nat)) = some j:=by
     rw [hj]
     exact Tn (by omega)
    refine ⟨_,rfl,_,rfl,_,_,rfl,rfl,C,_,_,_,rfl,rfl,.inl (Bo.of eC9),a1,_,_,rfl,rfl,(by first | (show (0:Int) < _; decide) | simp),_,_,rfl,rfl,?_⟩
    refine ⟨_,rfl,_,rfl,_,rfl,C,_,_,_,rfl,rfl,.inl (Bo.of eC9),a2,_,rfl,W7,_,rfl,.inl (Bo.of hW9),_,_,rfl,rfl,hlp,W7,_,_,_,rfl,rfl,hW9,ej,?_⟩
    have hx1:1 <= 1 + xs.getD (3 + i) 0 % 3:=by omega
    refine ⟨ws.set j (1 + xs.getD (3 + i) 0 % 3),_,rfl,by rw [A5,List.map_set],by rw [List.length_set]; exact hwl,Ze (P:=fun w=>1 <= w /\ w <= 3) hw1 (by omega),?_,s9.new nW7⟩
    have h1:=Pn hx1 ws 1 j (by decide) fun w hw=>(hw1 w hw).1
    have hp0:0 <= Ak 1 ws:=Int.le_trans (by decide) (E5 ws 1 (by decide) fun w hw=>(hw1 w hw).1)
    have h2:Ak 1 ws * (1 + xs.getD (3 + i) 0 % 3) <= Ak 1 ws * 3:=Int.mul_le_mul_of_nonneg_left (by omega) hp0
    have h3:(3:Int) ^ (i + 1) = 3 ^ i * 3:=Int.pow_succ 3 i
    rw [h3]
    omega
   rintro σ H9 ⟨ws,v6,rfl,hW9,hwl,hw1,hpr,s9⟩
   refine ⟨W7,ws,1,_,rfl,hW9,⟨fun w hw=>by have:=hw1 w hw; omega,by omega,by omega,by decide,by decide,?_⟩,s9⟩
   have:Ak 1 ws <= 27:=hpr
   omega
  rintro σ H7 ⟨W7,ws7,most7,v67,rfl,eW7,st7,s67⟩
  have s07:=s06.trans s67
  obtain ⟨ok1,ok2⟩ := st7.hall
  refine ⟨_,rfl,_,_,rfl,rfl,(by first | (show (0:Int) < _; decide) | simp),rfl,_,rfl,?_⟩
  refine Fp (fun _=>?_) (fun _=>?_)
  ·refine ⟨_,rfl,W7,_,rfl,.inl ⟨Bo.of eW7,fun t ht=>?_⟩⟩
   have s8:A9 H7 (upd H7 t (.tup (ws7.map V.int))):=A9.upd ht
   have e8:(upd H7 t (.tup (ws7.map V.int))) t = some (.tup (ws7.map V.int)):=A5
   generalize upd H7 t (.tup (ws7.map V.int)) = H8 at s8 e8 ⊢
   refine ⟨Bk,fun p hp=>?_⟩
   exact q p ws7 none _ ((s07.trans s8).trans (A9.upd hp)) ⟨t,A5,(A9.upd hp) _ _ e8⟩ ok1
  refine ⟨_,rfl,W7,_,rfl,.inl ⟨Bo.of eW7,fun t ht=>?_⟩⟩
  have s8:A9 H7 (upd H7 t (.tup (ws7.map V.int))):=A9.upd ht
  have e8:(upd H7 t (.tup (ws7.map V.int))) t = some (.tup (ws7.map V.int)):=A5
  generalize upd H7 t (.tup (ws7.map V.int)) = H8 at s8 e8 ⊢
  refine ⟨_,rfl,_,_,rfl,rfl,⟨by decide,by decide⟩,_,rfl,_,_,rfl,rfl,(by show 0 < most7; have:=st7.2.2.2.1; omega),_,_,rfl,rfl,Bk,fun p hp=>?_⟩
  exact q p ws7 (some (1 + Ds ns 1 / 3 % most7)) _ ((s07.trans s8).trans (A9.upd hp)) ⟨t,A5,(A9.upd hp) _ _ e8⟩ (ok2 _)
noncomputable def Tc (K:PySem.W.Frag):Sp:=fun vs H Q _=>mq fun (a b:Addr) (ws ls:List Int) (cm:Option Int) (q w:Int) (who:Nat) (lost:Bool)=>L7 (vs = [.ref a,.ref b,.int w,.bl lost]) (w = (who:Int)) (Bm H a ws cm) (Db H b ls q) (who < ws.length) (ls.length = ws.length) (ws.length <= 8) ((∀ x ∈ ws,1 <= x)) ((lost = true -> cm ≠ none)) (∀ (v:V) (H':Hp),A9 H H' -> D2 H' (Cq ws ls cm q who lost) v -> Q v H')
theorem g8 {fd  : FuncData} (T:Gq K mg ad) (F:Fq K "_law_behind" "_law_behind" Nf ad.f_x15 fd):Aj P w K mg base Bp 1 ad.f_x15 fd ["hall","standing","who","lost"] (Tc K):=by
 refine F.ok Sb (fun vs H Q E h=>?_) (fun cdv A outer s H vs Q E hr h=>?_)
 ·rcases h with ⟨a,b,ws,ls,cm,n,w0,who,lost,rfl,rfl,ha,hb,hw,hl,h8,hw1,hlc,q⟩ <;> rfl
 ·obtain ⟨a,b,ws,ls,cm,n,w0,who,lost,rfl,rfl,ha,hb,hw,hl,h8,hw1,hlc,q⟩ := h
  refine ⟨_,(A6 (Al (i:=4) Sb.nd rfl (Or.inl rfl) (D5 A7)) (A6 (Cr PassesOwn.never rfl (Cz (by rfl) T.n_range (A0 (Aw (Bw K) (by rfl) T.n_len PySem.boot_len (A0 (B9 (B8 K) (pv 0) Aa (fun _ _=>rfl)) A7)) A7)) (Aq (i:=5) Sb.nd rfl (Or.inl rfl)) (Ab (Cn (PW.pt (Ka (Bd Fn (pv 5) (pv 2) (Be _)) (Ij (Fs (Ep (pv 3)))))) (Ab (Co (Dz (u':=Tv K _ _ _ _) (Ez PySem.F.plainAttrs_list PySem.F.slot_list_append PySem.F.type_list_append D0 (pv 4) (A0 (B9 (B8 K) (B9 (B8 K) (pv 0) Aa (fun _ _=>rfl)) (pv 5) (fun _ _=>rfl)) A7))))) (Ab (Cn (Bd Fn (B9 (B8 K) (B9 (B8 K) (pv 1) Aa (fun _ _=>rfl)) (pv 5) (fun _ _=>rfl)) Aa (Be _)) (Ab (Ao D3)) (Ab (Co (Dz (u':=Tv K _ _ _ _) (Ez PySem.F.plainAttrs_list PySem.F.slot_list_append PySem.F.type_list_append D0 (pv 4) (A0 (Ba Hb (B9 (B8 K) (B9 (B8 K) (pv 1) Aa (fun _ _=>rfl)) (pv 5) (fun _ _=>rfl)) Aa) A7)))))))))) (A6 (Cn (Ep (pv 3)) (Ab (Ao (Bt (A0 (Cc (Ck K) (by rfl) T.n_tuple boot_tuple (A0 (pv 4) A7)) (A0 (B9 (B8 K) (pv 0) Aa (fun _ _=>rfl)) A7))))) Av) (Ab (Ao (Bt (A0 (Cc (Ck K) (by rfl) T.n_tuple boot_tuple (A0 (pv 4) A7)) (A0 (Aw (F9 rfl) (by rfl) T.n_max boot_max (A0 Aa (A0 (Ba Hb (B9 (B8 K) (pv 1) Aa (fun _ _=>rfl)) Aa) A7))) A7)))))))),?_⟩
  obtain ⟨wt,ha1,ha2⟩ := id ha
  obtain ⟨ut,hb1,hb2⟩ := id hb
  refine ⟨Bk,fun L hL=>?_⟩
  have s1:A9 H (upd H L (.lst [])):=A9.upd hL
  have e1:(upd H L (.lst [])) L = some (.lst []):=A5
  generalize upd H L (.lst []) = H1 at s1 e1 ⊢
  refine ⟨_,rfl,a,_,_,_,rfl,rfl,.inr (Bx.of (s1 _ _ ha1)),rfl,wt,_,rfl,.inr (Bx.of (s1 _ _ ha2)),_,rfl,by omega,by rw [List.length_map]; omega,?_⟩
  refine J6 (n:=(ws.map V.int).length) (fun i σ H'=>∃ (v5:Option V),Kq (σ = [some (.ref a),some (.ref b),some (.int (who:Nat)),some (.bl lost),some (.ref L),v5]) (H' L = some (.lst (((Bj ws ls who lost).take i).map V.int))) ((0:Int) ∉ (Bj ws ls who lost).take i) (A9 H H'))
   ⟨_,rfl,e1,(fun z=>by rw [List.take_zero] at z; cases z),s1⟩ ?_ ?_
  ·rintro i σ H2 hi ⟨v5,rfl,hL2,hz,s2⟩
   rw [List.length_map] at hi
   have hget:=Nk (ws:=ws) (ls:=ls) (who:=who) (i:=i) (lost:=lost) (by omega)
   have hlen2:(((Bj ws ls who lost).take i).map V.int).length <= 100:=by
    rw [List.length_map,List.length_take]
    omega
   have atw:Pe (ws.map V.int) (0 + (i:Int)) = some (.int (ws.getD i 0)):=Hh hi (Int.zero_add _)
   have atl:Pe (ls.map V.int) (0 + (i:Int)) = some (.int (ls.getD i 0)):=Hh (by omega) (Int.zero_add _)
   have eqi:decide (V.int (0 + (i:Int)) = V.int (who:Int)) = decide (i = who):=by
    rw [Bool.eq_iff_iff]
    simp
    omega
   refine ⟨_,rfl,_,rfl,rfl,_,rfl,_,fun _ Q' z=>⟨_,rfl,_,rfl,z⟩,?_⟩
   rw [eqi]
   have next:∀ (x:Int) (H3:Hp),(Bj ws ls who lost)[i]? = some x -> x ≠ 0 -> A9 H H3 -> (upd H3 L (.lst (((Bj ws ls who lost).take i).map V.int ++ [V.int x]))) L = some (.lst (((Bj ws ls who lost).take (i + 1)).map V.int)) /\ (0:Int) ∉ (Bj ws ls who lost).take (i + 1) /\ A9 H (upd H3 L (.lst (((Bj ws ls who lost).take i).map V.int ++ [V.int x]))):=fun x H3 e hx s=>by
    refine ⟨?_,?_,s.new hL⟩
    ·rw [A5,List.take_add_one,e,List.map_append]
     rfl
    ·rw [List.take_add_one,e]
     intro y
     rcases List.mem_append.mp y with z | z
     ·exact hz z
     ·have:(0:Int) = x:=by simpa using z
      omega
   refine Fp (fun h0=>?_) (fun h0=>?_)
   ·have h0' : i = who /\ lost = false := by
     simp only [Bool.and_eq_true,decide_eq_true_eq,Bool.not_eq_true'] at h0
     exact h0
    rw [if_pos h0'] at hget
    have hge:ws.getD who 0 ≠ 0:=by
     have:=hw1 _ (Ng hw)
     omega
    obtain ⟨n1,n2,n3⟩ := next _ H2 hget hge s2
    have ew:ws.getD i 0 = ws.getD who 0:=by rw [h0'.1]
    rw [ew] at atw
    exact ⟨_,rfl,.inl ⟨rfl,_,Bo.of hL2⟩,_,rfl,a,_,_,_,rfl,rfl,.inr (Bx.of (s2 _ _ ha1)),rfl,_,rfl,wt,_,_,_,rfl,rfl,.inr (Bx.of (s2 _ _ ha2)),atw,L,_,_,rfl,rfl,hL2,B7 (by omega),_,rfl,n1,n2,n3⟩
   ·have h0':¬ (i = who /\ lost = false):=fun z=>h0 (by simp [z.1,z.2])
    rw [if_neg h0'] at hget
    refine ⟨_,rfl,b,_,_,_,rfl,rfl,.inr (Bx.of (s2 _ _ hb1)),rfl,_,rfl,ut,_,_,_,rfl,rfl,.inr (Bx.of (s2 _ _ hb2)),atl,rfl,_,rfl,?_⟩
    refine Fp (fun h1=>?_) (fun h1=>?_)
    ·have h1':ls.getD i 0 = 1:=by simpa using h1
     refine q .non H2 s2 ?_
     unfold Cq
     rw [if_pos ?_]
     ·rfl
     ·rw [h1'] at hget
      exact List.mem_of_getElem? hget
    ·have h1':ls.getD i 0 ≠ 1:=by simpa using h1
     obtain ⟨n1,n2,n3⟩ := next _ H2 hget (by omega) s2
     exact ⟨_,rfl,.inl ⟨rfl,_,Bo.of hL2⟩,_,rfl,b,_,_,_,rfl,rfl,.inr (Bx.of (s2 _ _ hb1)),rfl,_,rfl,ut,_,_,_,rfl,rfl,.inr (Bx.of (s2 _ _ hb2)),atl,_,_,rfl,rfl,L,_,_,rfl,rfl,hL2,B7 (by omega),_,rfl,n1,n2,n3⟩
  rintro σ H2 ⟨v5,rfl,hL2,hz,s2⟩
  have hll:(Bj ws ls who lost).length = (ws.map V.int).length:=by
   rw [Hm,List.length_map]
   exact hl
  rw [<- hll,List.take_length] at hL2 hz
  have eaft:Cq ws ls cm n who lost = some (Bj ws ls who lost,Dd cm n lost):=by
   unfold Cq
   rw [if_neg hz]
  refine ⟨_,rfl,_,rfl,?_⟩
  cases lost with
  | true =>
   refine Lw rfl ?_
   refine ⟨_,rfl,L,_,rfl,.inl ⟨Bo.of hL2,fun t ht=>?_⟩⟩
   have s3:A9 H2 (upd H2 t (.tup ((Bj ws ls who true).map V.int))):=A9.upd ht
   have e3:(upd H2 t (.tup ((Bj ws ls who true).map V.int))) t = some (.tup ((Bj ws ls who true).map V.int)):=A5
   generalize upd H2 t (.tup ((Bj ws ls who true).map V.int)) = H3 at s3 e3 ⊢
   cases cm with
   | none=>exact absurd rfl (hlc rfl)
   | some c =>
    refine ⟨_,rfl,a,_,_,_,rfl,rfl,.inr (Bx.of (s3 _ _ (s2 _ _ ha1))),rfl,Bk,fun p hp=>?_⟩
    refine q (.ref p) _ ((s2.trans s3).trans (A9.upd hp)) ?_
    rw [eaft]
    exact ⟨p,rfl,t,A5,(A9.upd hp) _ _ e3⟩
  | false =>
   refine Fd rfl ?_
   refine ⟨_,rfl,L,_,rfl,.inl ⟨Bo.of hL2,fun t ht=>?_⟩⟩
   have s3:A9 H2 (upd H2 t (.tup ((Bj ws ls who false).map V.int))):=A9.upd ht
   have e3:(upd H2 t (.tup ((Bj ws ls who false).map V.int))) t = some (.tup ((Bj ws ls who false).map V.int)):=A5
   generalize upd H2 t (.tup ((Bj ws ls who false).map V.int)) = H3 at s3 e3 ⊢
   refine ⟨_,rfl,b,_,_,_,rfl,rfl,.inr (Bx.of (s3 _ _ (s2 _ _ hb1))),rfl,_,_,rfl,rfl,_,_,rfl,Bk,fun p hp=>?_⟩
   refine q (.ref p) _ ((s2.trans s3).trans (A9.upd hp)) ?_
   rw [eaft]
   have e:(if n - 1 > 0 then n - 1 else (0:Int)) = Dd cm n false:=by
    unfold Dd
    rw [if_neg Bool.false_ne_true]
    omega
   refine ⟨p,rfl,t,?_,(A9.upd hp) _ _ e3⟩
   rw [<- e]
   exact A5
noncomputable def Re (K:PySem.W.Frag):Sp:=fun vs H Q _=>mq fun (a e:Addr) (ws:List Int) (cm:Option Int) (tv:List ((List Int × Int) × V)) (k:List Int × Int) (bl:List (Option (List Int × Int))) (d:PyData) (n:Int)=>Rj (vs = [.ref a,.ref e]) (Bm H a ws cm) (Et tv ws cm H k bl d n (.ref e)) (k ∈ Ar ws (qv cm)) (ws.length <= 8) ((∀ x ∈ ws,1 <= x)) (∀ (p:Addr) (us:List V) (H':Hp),A9 H H' -> H p = none -> H' p = some (.lst us) -> Ad (D2 H') bl us -> Q (.ref p) H')
theorem fg {fd fd_x15:FuncData} (T:Gq K mg ad) (F:Fq K "_law_next" "_law_next" L3 ad.f_x25 fd) (G_x15:Aj P w K mg base Bp 1 ad.f_x15 fd_x15 ["hall","standing","who","lost"] (Tc K)) (B_x15:Az K fd_x15 ["hall","standing","who","lost"] []):Aj P w K mg base Bp 2 ad.f_x25 fd ["hall","entry"] (Re K):=by
 refine F.ok Sn (fun vs H Q E h=>?_) (fun cdv A outer s H vs Q E hr h=>?_)
 ·rcases h with ⟨a,e,ws,cm,tv,k,bl,d,n0,rfl,ha,hent,hks,h8,hw1,q⟩ <;> rfl
 ·obtain ⟨a,e,ws,cm,tv,k,bl,d,n0,rfl,ha,hent,hks,h8,hw1,q⟩ := h
  refine ⟨_,(A6 (Al (i:=2) Sn.nd rfl (Or.inr rfl) (B9 (B8 K) (pv 1) Aa (fun _ _=>rfl))) (A6 (Cn (Bd Fn (Aw (Bw K) (by rfl) T.n_len PySem.boot_len (A0 (pv 1) A7)) Aa (Be _)) (Ab (Ao (Ei (Cz (by rfl) T.n_range (A0 (Aw (Bw K) (by rfl) T.n_len PySem.boot_len (A0 (B9 (B8 K) (pv 0) Aa (fun _ _=>rfl)) A7)) A7)) _ rfl M7 rfl rfl (fun _ _ _ _=>(Aq (i:=0) Ma rfl (Or.inl rfl))) (fun _ _ _ _=>Cp) (fun _ _ _ _=>(Ag G_x15 (hr.mono (by decide)) rfl T.m_x15 T.k_x15 B_x15 .nil B0 (A0 (pv 1) (A0 (pv 2) (A0 (pv 0) (A0 (B9 (B8 K) (B9 (B8 K) (pv 3) Aa (fun _ _=>rfl)) (pv 0) (fun _ _=>rfl)) A7))))))))) Av) (A6 (Al (i:=3) Sn.nd rfl (Or.inl rfl) (D5 (A0 (Ag G_x15 (hr.mono (by decide)) rfl T.m_x15 T.k_x15 B_x15 .nil B0 (A0 (pv 0) (A0 (pv 2) (A0 (B9 (B8 K) (pv 1) Aa (fun _ _=>rfl)) (A0 Ho A7))))) A7))) (A6 (Dp (PW.pt (Ka (Bd Ii (B9 (B8 K) (pv 0) Aa (fun _ _=>rfl)) D3 (Be _)) (Ij (Bd Fn (B9 (B8 K) (pv 2) Aa (fun _ _=>rfl)) Aa (Be _))))) (Ab (Co (Dz (u':=Tv K _ _ _ _) (Ez PySem.F.plainAttrs_list PySem.F.slot_list_append PySem.F.type_list_append D0 (pv 3) (A0 (Ag G_x15 (hr.mono (by decide)) rfl T.m_x15 T.k_x15 B_x15 .nil B0 (A0 (pv 0) (A0 (pv 2) (A0 (B9 (B8 K) (pv 1) Aa (fun _ _=>rfl)) (A0 Ho A7))))) A7))))) Av) (Ab (Ao (pv 3))))))),?_⟩
  have hkl:k.1.length = ws.length:=(Fa hks).1
  obtain ⟨wt,ha1,ha2⟩ := id ha
  cases hent with
  | @kept _ b j h1 h2 h3 =>
   have hst:Db H b k.1 k.2:=h2
   obtain ⟨bu,hb1,hb2⟩ := id hst
   refine ⟨_,rfl,e,_,_,_,rfl,rfl,.inr (Bx.of h1),rfl,_,rfl,e,_,rfl,.inr (Bx.of h1),rfl,_,rfl,Fd (by simp) ?_⟩
   refine ⟨_,rfl,_,rfl,_,rfl,e,_,_,_,rfl,rfl,.inr (Bx.of h1),rfl,a,b,ws,k.1,cm,k.2,_,j,false,rfl,rfl,ha,hst,h3.1,hkl,h8,hw1,(fun h=>by cases h),fun v1 H1 s1 hv1=>?_⟩
   refine ⟨Bk,fun p hp=>?_⟩
   have s2:A9 H1 (upd H1 p (.lst [v1])):=A9.upd hp
   have e2:(upd H1 p (.lst [v1])) p = some (.lst [v1]):=A5
   generalize upd H1 p (.lst [v1]) = H2 at s2 e2 ⊢
   have s12:=s1.trans s2
   have hb12:=s12 _ _ hb1
   have hH:H p = none:=s1.free hp
   refine ⟨_,rfl,a,_,_,_,rfl,rfl,.inr (Bx.of (s12 _ _ ha1)),rfl,rfl,_,rfl,decide (k.2 = 0),(fun _ Q' z=>⟨_,rfl,b,_,_,_,rfl,rfl,.inr (Bx.of hb12),rfl,rfl,_,rfl,?_⟩),(fun σ' H'=>∃ (us:List V),Kq (σ' = [some (.ref a),some (.ref e),some (.ref b),some (.ref p)]) (A9 H H') (H' p = some (.lst us)) (Ad (D2 H') (Ay ws k.1 cm k.2 j) us)),fun h=>?_,fun h=>?_,?_⟩
   ·have e0:decide (V.int k.2 = V.int 0) = decide (k.2 = 0):=by rw [Bool.eq_iff_iff]; simp
    first
     | exact z
     | (rw [e0]; exact z)
   ·have hc : cm ≠ none /\ k.2 = 0 := by
     rw [Bool.and_eq_true] at h
     refine ⟨fun z=>?_,of_decide_eq_true h.2⟩
     subst z
     simp [vO] at h
    refine ⟨_,rfl,.inl ⟨rfl,_,Bo.of e2⟩,_,rfl,_,rfl,_,rfl,e,_,_,_,rfl,rfl,.inr (Bx.of (s12 _ _ h1)),rfl,a,b,ws,k.1,cm,k.2,_,j,true,rfl,rfl,ha.same s12,hst.same s12,h3.1,hkl,h8,hw1,(fun _=>hc.1),fun v3 H3 s3 hv3=>?_⟩
    have e3:=s3 _ _ e2
    have tt:Af H3 (upd H3 p (.lst ([v1] ++ [v3]))):=Af.lst e3
    refine ⟨p,_,_,rfl,rfl,e3,B7 (by simp),_,rfl,(s12.trans s3).new hH,A5,?_⟩
    rw [Yz hc]
    exact Ad.cons (D2.up (((Af.of s2).trans (Af.of s3)).trans tt) hv1) (Ad.one (D2.up tt hv3))
   ·have hc : ¬ (cm ≠ none /\ k.2 = 0) := fun z => by
     obtain ⟨z1,z2⟩ := z
     cases cm with
     | none=>exact z1 rfl
     | some c=>simp [vO,z2] at h
    refine ⟨_,rfl,s12,e2,?_⟩
    rw [Xv hc]
    exact Ad.one (D2.up (Af.of s2) hv1)
   rintro σ' H' ⟨us,rfl,s',e',hall⟩
   exact ⟨_,rfl,q p us H' s' hH e' hall⟩
  | @broken _ b t m h1 h2 h3 h4 =>
   have hst:Db H b k.1 k.2:=h2
   have hal:=Da tv ws k.1 cm k.2
   refine ⟨_,rfl,e,_,_,_,rfl,rfl,.inr (Bx.of h1),rfl,_,rfl,e,_,rfl,.inr (Bx.of h1),rfl,_,rfl,Lw (by simp) ?_⟩
   refine ⟨_,rfl,a,_,_,_,rfl,rfl,.inr (Bx.of ha1),rfl,wt,_,rfl,.inr (Bx.of ha2),_,rfl,by omega,by rw [List.length_map]; omega,fun D hD=>?_⟩
   refine D9 (cnt:=((ws.map V.int).length:Int).toNat) (fun j ys H'=>ys.length = j /\ Ad (D2 H') (((List.range ws.length).map (Jl tv ws cm k)).take j) ys /\ H' D = some (.lst ys) /\ A9 H H') ⟨rfl,Ad.nil,A5,A9.upd hD⟩ ?_ ?_
   ·rintro j ys H5 hj ⟨hlen,hys,hD5,s5⟩ Qe hQ
    rw [List.length_map] at hj
    have hj':j < ws.length:=by omega
    have atf:Pe ((Dy tv ws k.1 cm k.2).map V.bl) (0 + (j:Int)) = some (.bl (Cg tv ws k.1 cm k.2 j)):=by
     rw [Int.zero_add]
     exact Vz (K4 hj')
    refine ⟨_,rfl,_,rfl,_,rfl,_,rfl,e,_,_,_,rfl,rfl,.inr (Bx.of (s5 _ _ h1)),rfl,_,rfl,t,_,_,_,rfl,rfl,.inr (Bx.of (s5 _ _ h4)),atf,a,b,ws,k.1,cm,k.2,_,j,Cg tv ws k.1 cm k.2 j,rfl,Int.zero_add _,ha.same s5,hst.same s5,hj',hkl,h8,hw1,(fun h=>(Iv h).1),fun v H6 s6 hv=>?_⟩
    have hD6:=s6 _ _ hD5
    have tt:Af H6 (upd H6 D (.lst (ys ++ [v]))):=Af.lst hD6
    refine hQ _ _ hD6 (B7 (by omega)) ⟨F4 hlen,?_,A5,(s5.trans s6).new hD⟩
    have e9:((List.range ws.length).map (Jl tv ws cm k))[j]? = some (Jl tv ws cm k j):=by
     rw [List.getElem?_map,List.getElem?_range hj']
     rfl
    rw [List.take_add_one,e9]
    exact (hys.imp fun _ _ y=>D2.up ((Af.of s6).trans tt) y).append (Ad.one (D2.up tt hv))
   rintro ys H5 ⟨hlen,hys,hD5,s5⟩
   rw [List.take_of_length_le (by rw [List.length_map,List.length_range,List.length_map]; omega)] at hys
   exact q D ys H5 s5 hD hD5 hys
noncomputable def S1 (K:PySem.W.Frag):Sp:=fun vs H Q _=>kr fun (a D:Addr) (ws:List Int) (cm:Option Int) (tv es:List ((List Int × Int) × V)) (F:List Int × Int -> List (Option (List Int × Int)))=>ai (vs = [.ref a,.ref D]) (Bm H a ws cm) (H D = some (.dT es)) ((es.map (·.1)).Nodup) (es.length <= 300) ((∀ k u,Ae es k = some u -> k ∈ Ar ws (qv cm) /\ (F k).length <= 8 /\ ∃ d n e,u = .ref e /\ Et tv ws cm H k (F k) d n u)) ((∀ k ∈ es.map (·.1),∀ k',some k' ∈ F k -> k' ∈ es.map (·.1))) ((ws,0) ∈ es.map (·.1)) ((∀ S:List Int × Int -> Prop,S (ws,0) -> (∀ k k',S k -> some k' ∈ F k -> S k') -> ∀ k ∈ es.map (·.1),S k)) (ws.length <= 8) ((∀ x ∈ ws,1 <= x)) (∀ (p:Addr) (sv:List ((List Int × Int) × V)) (H':Hp),A9 H H' -> H' p = some (.dT sv) -> sv.length = es.length -> Q (.ref p) H')
theorem c6 {fd fd_x25:FuncData} (T:Gq K mg ad) (F:Fq K "_law_come_to" "_law_come_to" Mz ad.f_x11 fd) (G_x25:Aj P w K mg base Bp 2 ad.f_x25 fd_x25 ["hall","entry"] (Re K)) (B_x25:Az K fd_x25 ["hall","entry"] []):Aj P w K mg base Bp 3 ad.f_x11 fd ["hall","entries"] (S1 K):=by
 refine F.ok Lj (fun vs H Q E h=>?_) (fun cdv A outer s H vs Q E hr h=>?_)
 ·rcases h with ⟨a,D,ws,cm,tv,es,F,rfl,ha,hD,hnd,hel,hent,hcl,hbg,hr0,h8,hw1,q⟩ <;> rfl
 ·obtain ⟨a,D,ws,cm,tv,es,F,rfl,ha,hD,hnd,hel,hent,hcl,hbg,hr0,h8,hw1,q⟩ := h
  refine ⟨_,(A6 (Al (i:=2) Lj.nd rfl (Or.inl rfl) (Y6 (Dl hr) (by exact (Bt (A0 (B9 (B8 K) (pv 0) Aa (fun _ _=>rfl)) (A0 Aa A7)))) (by exact Ho))) (A6 (Al (i:=3) Lj.nd rfl (Or.inl rfl) (D5 (A0 (Bt (A0 (B9 (B8 K) (pv 0) Aa (fun _ _=>rfl)) (A0 Aa A7))) A7))) (A6 (Ia PassesOwn.never (Bd (Xh hr) (pv 3) (D5 A7) (Be _)) (A6 (Al (i:=4) Lj.nd rfl (Or.inl rfl) (Dz (u':=Zc K _ _ _) (Ox PySem.F.plainAttrs_list PySem.F.slot_list_pop PySem.F.type_list_pop S8 (pv 3)))) (A6 (Cn (Fk (Ev (Dl hr) (pv 4) (pv 1)) rfl) (Ab (Ao D3)) Av) (Ab (Cr PassesOwn.never rfl (Dk (w':=P1 K _) (Dj (Ag G_x25 (hr.mono (by decide)) rfl T.m_x25 T.k_x25 B_x25 .nil B0 (A0 (pv 0) (A0 (Gn (Dl hr) (pv 1) (pv 4) (fun _ _=>rfl)) A7))))) (Aq (i:=5) Lj.nd rfl (Or.inl rfl)) (Ab (Dp (PW.pt (Yw (Bd Ii (pv 5) D3 (Be _)) (Ij (Fk (Ev (Dl hr) (pv 5) (pv 2)) rfl)))) (A6 (Fh (Dl hr) (pv 2) (pv 5) Ho rfl) (Ab (Co (Dz (u':=Tv K _ _ _ _) (Ez PySem.F.plainAttrs_list PySem.F.slot_list_append PySem.F.type_list_append D0 (pv 3) (A0 (pv 5) A7)))))) Av))))))) (Ab (Ao (pv 2)))))),?_⟩
  obtain ⟨wt,ha1,ha2⟩ := id ha
  refine fun S hS=>?_
  have s1:A9 H (upd H S (.dT [])):=A9.upd hS
  have e1:(upd H S (.dT [])) S = some (.dT []):=A5
  generalize upd H S (.dT []) = H1 at s1 e1 ⊢
  refine ⟨_,rfl,a,_,_,_,rfl,rfl,.inr (Bx.of (s1 _ _ ha1)),rfl,Bk,fun t ht=>?_⟩
  have s2:A9 H1 (upd H1 t (.tup [.ref wt,.int 0])):=A9.upd ht
  have e2:(upd H1 t (.tup [.ref wt,.int 0])) t = some (.tup [.ref wt,.int 0]):=A5
  generalize upd H1 t (.tup [.ref wt,.int 0]) = H2 at s2 e2 ⊢
  have hst2:E2 H2 t (ws,0):=⟨wt,e2,s2 _ _ (s1 _ _ ha2)⟩
  refine ⟨s2 _ _ e1,t,(ws,0),.bl true,rfl,hst2,?_⟩
  have k3:A9 H (upd H2 S (.dT [((ws,0),.bl true)])):=fun b' o e=>(Ac (Ah e hS)).trans (s2 _ _ (s1 _ _ e))
  have e3:(upd H2 S (.dT [((ws,0),.bl true)])) S = some (.dT [((ws,0),.bl true)]):=A5
  generalize upd H2 S (.dT [((ws,0),.bl true)]) = H3 at k3 e3 ⊢
  refine ⟨_,rfl,a,_,_,_,rfl,rfl,.inr (Bx.of (k3 _ _ ha1)),rfl,Bk,fun t2 ht2=>?_⟩
  have s4:A9 H3 (upd H3 t2 (.tup [.ref wt,.int 0])):=A9.upd ht2
  have e4:(upd H3 t2 (.tup [.ref wt,.int 0])) t2 = some (.tup [.ref wt,.int 0]):=A5
  generalize upd H3 t2 (.tup [.ref wt,.int 0]) = H4 at s4 e4 ⊢
  refine ⟨Bk,fun L hL=>?_⟩
  have s5:A9 H4 (upd H4 L (.lst [.ref t2])):=A9.upd hL
  have e5:(upd H4 L (.lst [.ref t2])) L = some (.lst [.ref t2]):=A5
  generalize upd H4 L (.lst [.ref t2]) = H5 at s5 e5 ⊢
  have k5:A9 H H5:=k3.trans (s4.trans s5)
  have hLn:H L = none:=(k3.trans s4).free hL
  have hSL:S ≠ L:=fun z=>by rw [<- z,s4 _ _ e3] at hL; cases hL
  dsimp only
  refine d6 ?_
  refine fi ?_
  refine Hz (fun σ' H'=>gm fun (us:List V) (R:List (List Int × Int)) (sv:List ((List Int × Int) × V)) (v4 v5:Option V)=>Rj (σ' = [some (.ref a),some (.ref D),some (.ref S),some (.ref L),v4,v5]) (A9 H H') (H' L = some (.lst us)) (Ad (Dr H') R us) (H' S = some (.dT sv)) (Sr F es (ws,0) (fun _=>False) sv R) (us.length <= sv.length))
   (fun _ H'=>2 * (301 - Du (H' S)) + Fz (H' L)) ⟨[.ref t2],[(ws,0)],_,none,none,rfl,k5,e5,Ad.one ⟨t2,wt,rfl,s5 _ _ e4,k5 _ _ ha2⟩,s5 _ _ (s4 _ _ e3),Sr.start hbg,Nat.le_refl _⟩ ?_ ?_
  ·rintro σ' H' ⟨us,R,sv,v4,v5,rfl,s',hL',hus,hS',hsr,hule⟩
   have hsl:=hsr.len
   have hul:=hus.1
   refine ⟨_,rfl,Bk,fun x hx=>?_⟩
   have s6:A9 H' (upd H' x (.lst [])):=A9.upd hx
   have e6:(upd H' x (.lst [])) x = some (.lst []):=A5
   generalize upd H' x (.lst []) = H6 at s6 e6 ⊢
   refine ⟨.list (R.map dS),.list [],Xx (s6 _ _ hL') (hus.imp fun _ _ y=>Dr.up (Af.of s6) y).rps,Xx e6 (by unfold RpAll; rfl),Wg _,_,rfl,?_⟩
   refine Fp (fun hne=>?_) (fun hemp=>?_)
   ·have hR : 0 < R.length := by
     cases R with
     | nil=>exact absurd hne (by decide)
     | cons x xs=>simp
    obtain ⟨y,hy⟩ := Og (xs:=us) (by omega)
    have hL6:=s6 _ _ hL'
    have hus6:Ad (Dr H6) R us:=hus.imp fun _ _ y=>Dr.up (Af.of s6) y
    refine ⟨_,rfl,.inl ⟨rfl,_,Bo.of hL6⟩,L,us,y,rfl,rfl,hL6,hy,?_⟩
    obtain ⟨k,hk0,b,b2,rfl,hb21,hb22⟩ := hus6.get hy
    have eE:R = R.take (us.length - 1) ++ [k]:=by
     have h1:=List.take_append_drop (us.length - 1) R
     have h2:R.drop (us.length - 1) = [k]:=by
      rw [List.drop_eq_getElem_cons (by omega),(List.getElem?_eq_some_iff.mp hk0).2,List.drop_of_length_le (by omega)]
     rw [h2] at h1
     exact h1.symm
    have t7:Af H6 (upd H6 L (.lst us.dropLast)):=Af.lst hL6
    have hL7:(upd H6 L (.lst us.dropLast)) L = some (.lst us.dropLast):=A5
    have hS7:(upd H6 L (.lst us.dropLast)) S = some (.dT sv):=(Ac hSL).trans (s6 _ _ hS')
    have s7:A9 H (upd H6 L (.lst us.dropLast)):=(s'.trans s6).new hLn
    generalize upd H6 L (.lst us.dropLast) = H7 at t7 hL7 hS7 s7 ⊢
    have hst7:E2 H7 b k:=⟨b2,t7 _ _ hb21,t7 _ _ hb22⟩
    have hus7:Ad (Dr H7) (R.take (us.length - 1)) us.dropLast:=by
     rw [List.dropLast_eq_take]
     exact (hus6.imp (fun _ _ y=>Dr.up t7 y)).take _
    have hm0:Fz (H' L) = us.length:=by rw [hL']; rfl
    have hm1:Du (H' S) = sv.length:=by rw [hS']; rfl
    rw [eE] at hsr
    have hkes:k ∈ es.map (·.1):=hsr.sub k (hsr.row k (by simp))
    have hsr7:=hsr.pop
    generalize R.take (us.length - 1) = R0 at hsr7 hus7
    obtain ⟨kv,hkv,ek⟩ := List.mem_map.mp hkes
    have hv:=Cb hnd (show (kv.1,kv.2) ∈ es from hkv)
    rw [ek] at hv
    obtain ⟨hks,hF8,d,n,e,eu,hen⟩ := hent k _ hv
    rw [eu] at hv hen
    refine ⟨_,rfl,_,rfl,D,_,rfl,D1.t (s7 _ _ hD) hst7,_,rfl,Fd (by rw [hv]; rfl) ?_⟩
    refine ⟨_,rfl,_,rfl,_,rfl,D,.ref e,rfl,(by rw [<- hv]; exact D1.t (s7 _ _ hD) hst7),a,e,ws,cm,tv,k,F k,d,n,rfl,ha.same s7,hen.up (Af.of s7),hks,h8,hw1,fun p us2 H8 s8 hp e8 hall=>?_⟩
    have hul2:=hall.1
    have hpS:p ≠ S:=fun z=>by rw [z,hS7] at hp; cases hp
    have hpL:p ≠ L:=fun z=>by rw [z,hL7] at hp; cases hp
    refine ⟨p,rfl,.inl ⟨⟨_,Bo.of e8⟩,?_⟩⟩
    refine D6 (K:=K) (a:=p) (xs:=us2) (fun i σ H9=>Ud fun (us9:List V) (R9:List (List Int × Int)) (sv9:List ((List Int × Int) × V)) (v5:Option V)=>Ke (σ = [some (.ref a),some (.ref D),some (.ref S),some (.ref L),some (.ref b),v5]) (A9 H H9) (H9 L = some (.lst us9)) (Ad (Dr H9) R9 us9) (H9 S = some (.dT sv9)) (Sr F es (ws,0) (fun z=>z = k) sv9 R9) ((∀ k',some k' ∈ (F k).take i -> k' ∈ sv9.map (·.1))) (H9 p = some (.lst us2)) (Ad (D2 H9) (F k) us2) (us9.length <= sv9.length) (2 * (301 - sv9.length) + us9.length < 2 * (301 - Du (H' S)) + Fz (H' L)))
     ⟨us.dropLast,R0,sv,v5,rfl,s7.trans s8,s8 _ _ hL7,hus7.imp (fun _ _ y=>Dr.up (Af.of s8) y),s8 _ _ hS7,hsr7,(fun k' h=>by rw [List.take_zero] at h; cases h),e8,hall,?_,?_⟩ (by rintro i σ H9 _ ⟨_,_,_,_,_,_,_,_,_,_,_,z,_⟩; exact Bo.of z) ?_ ?_
    ·rw [List.length_dropLast]
     omega
    ·rw [hm0,hm1,List.length_dropLast]
     omega
    ·rintro i y σ H9 hy9 ⟨us9,R9,sv9,v9,rfl,s9,hL9,hus9,hS9,hsr9,hnow,hp9,hall9,hul9,hm9⟩
     have hsl9:=hsr9.len
     obtain ⟨r,hr9,hb9⟩ := hall9.get hy9
     have hrm:r ∈ F k:=List.mem_of_getElem? hr9
     have etk:(F k).take (i + 1) = (F k).take i ++ [r]:=by rw [List.take_add_one,hr9]; rfl
     have hnx:∀ sv':List ((List Int × Int) × V),(∀ x ∈ sv9.map (·.1),x ∈ sv'.map (·.1)) -> (∀ x,r = some x -> x ∈ sv'.map (·.1)) -> ∀ k',some k' ∈ (F k).take (i + 1) -> k' ∈ sv'.map (·.1):=fun sv' h1 h2 k' hk'=>by
      rw [etk] at hk'
      rcases List.mem_append.mp hk' with z | z
      ·exact h1 _ (hnow k' z)
      ·exact h2 k' (List.mem_singleton.mp z).symm
     cases r with
     | none =>
      have ey:y = .non:=hb9
      subst ey
      refine ⟨_,rfl,rfl,_,rfl,(fun d H'=>d = false /\ H' = H9),(fun _=>⟨rfl,rfl⟩),(fun h=>by simp at h),fun d H10 hd=>?_⟩
      obtain ⟨rfl,rfl⟩ := hd
      refine ⟨_,(fun h=>by cases h),(fun _=>?_),fun _ _ z=>z⟩
      exact ⟨us9,R9,sv9,_,rfl,s9,hL9,hus9,hS9,hsr9,hnx sv9 (fun _ z=>z) (fun x h=>nomatch h),hp9,hall9,hul9,hm9⟩
     | some k' =>
      obtain ⟨b',rfl,hb'⟩ := hb9
      have hb'':E2 H9 b' k':=hb'
      refine ⟨_,rfl,rfl,_,rfl,(fun d H'=>d = (!(Ae sv9 k').isSome) /\ H' = H9),(fun h=>by simp at h),(fun _=>⟨_,rfl,_,rfl,S,_,rfl,D1.t hS9 hb'',_,rfl,rfl,rfl⟩),fun d H10 hd=>?_⟩
      obtain ⟨ed,rfl⟩ := hd
      refine ⟨(fun σ H9=>Ud fun (us9:List V) (R9:List (List Int × Int)) (sv9:List ((List Int × Int) × V)) (v5:Option V)=>Ke (σ = [some (.ref a),some (.ref D),some (.ref S),some (.ref L),some (.ref b),v5]) (A9 H H9) (H9 L = some (.lst us9)) (Ad (Dr H9) R9 us9) (H9 S = some (.dT sv9)) (Sr F es (ws,0) (fun z=>z = k) sv9 R9) ((∀ k',some k' ∈ (F k).take (i + 1) -> k' ∈ sv9.map (·.1))) (H9 p = some (.lst us2)) (Ad (D2 H9) (F k) us2) (us9.length <= sv9.length) (2 * (301 - sv9.length) + us9.length < 2 * (301 - Du (H' S)) + Fz (H' L))),(fun h=>?_),(fun h=>?_),fun _ _ z=>z⟩
      ·have hvn : Ae sv9 k' = none := by
        cases e9:Ae sv9 k' with
        | none=>rfl
        | some w=>rw [ed,e9] at h; cases h
       have hke:=hcl k hkes k' hrm
       refine ⟨_,rfl,_,rfl,S,_,rfl,Mq.t hS9 hb'' (Bq (by omega)),?_⟩
       have k11:∀ b o,b ≠ S -> H10 b = some o -> (upd H10 S (.dT (Bb sv9 k' (.bl true)))) b = some o:=fun b o n e=>(Ac n).trans e
       have hS11:(upd H10 S (.dT (Bb sv9 k' (.bl true)))) S = some (.dT (Bb sv9 k' (.bl true))):=A5
       have s11:A9 H (upd H10 S (.dT (Bb sv9 k' (.bl true)))):=s9.new hS
       generalize upd H10 S (.dT (Bb sv9 k' (.bl true))) = H11 at k11 hS11 s11 ⊢
       have t11:Af H10 H11:=fun b xs e=>k11 b _ (Bl e hS9 (by intro z; cases z)) e
       have hL11:=k11 _ _ (fun z=>hSL z.symm) hL9
       refine ⟨_,rfl,.inl ⟨rfl,_,Bo.of hL11⟩,_,rfl,L,_,_,rfl,rfl,hL11,B7 (by omega),?_⟩
       have t12:Af H11 (upd H11 L (.lst (us9 ++ [.ref b']))):=Af.lst hL11
       have tt:=t11.trans t12
       have hpl:(Bb sv9 k' (.bl true)).length = sv9.length + 1:=by rw [C5 _ hvn,List.length_append,List.length_singleton]
       have hin:∀ x ∈ sv9.map (·.1),x ∈ (Bb sv9 k' (.bl true)).map (·.1):=fun x hx=>by
        rw [C5 _ hvn,List.map_append]
        exact List.mem_append_left _ hx
       obtain ⟨bu,hbu1,hbu2⟩ := hb''
       have hsr12:=hsr9.put (v := .bl true) hvn hke
       have hsl12:=hsr12.len
       refine ⟨us9 ++ [.ref b'],R9 ++ [k'],Bb sv9 k' (.bl true),_,rfl,s11.new hLn,A5,(hus9.imp fun _ _ y=>Dr.up tt y).append (Ad.one ⟨b',bu,rfl,tt _ _ hbu1,tt _ _ hbu2⟩),(Ac hSL).trans hS11,hsr12,hnx _ hin (fun x h=>?_),(Ac hpL).trans (k11 _ _ hpS hp9),hall9.imp (fun _ _ y=>D2.up tt y),?_,?_⟩
       ·cases h
        rw [C5 _ hvn,List.map_append]
        exact List.mem_append_right _ (by simp)
       ·rw [List.length_append,List.length_singleton,hpl]
        omega
       ·rw [List.length_append,List.length_singleton,hpl]
        omega
      ·have hin : k' ∈ sv9.map (·.1) := by
        cases e9:Ae sv9 k' with
        | none=>rw [ed,e9] at h; cases h
        | some w=>exact K2 e9
       exact ⟨us9,R9,sv9,_,rfl,s9,hL9,hus9,hS9,hsr9,hnx sv9 (fun _ z=>z) (fun x h=>by cases h; exact hin),hp9,hall9,hul9,hm9⟩
    rintro σ H9 ⟨us9,R9,sv9,v9,rfl,s9,hL9,hus9,hS9,hsr9,hnow,hp9,hall9,hul9,hm9⟩
    rw [List.take_of_length_le (by omega)] at hnow
    refine ⟨⟨us9,R9,sv9,_,v9,rfl,s9,hL9,hus9,hS9,hsr9.close hnow,hul9⟩,?_⟩
    have m1:Fz (H9 L) = us9.length:=by rw [hL9]; rfl
    have m2:Du (H9 S) = sv9.length:=by rw [hS9]; rfl
    rw [m1,m2]
    exact hm9
   ·have hR : R = [] := by
     cases R with
     | nil=>rfl
     | cons x xs=>exact absurd (by rfl) hemp
    subst hR
    exact ⟨_,rfl,q S sv H6 (s'.trans s6) (s6 _ _ hS') (hsr.fin hnd hr0)⟩
  ·intro σ H0 Q1 Q2 z h1
   obtain ⟨v,e,hl,h2⟩ := h1
   refine ⟨v,e,hl,fun x hx=>?_⟩
   obtain ⟨d,e',r1,r2,hd,b,eb,h3⟩ := h2 x hx
   exact ⟨d,e',r1,r2,hd,b,eb,z _ _ h3⟩
noncomputable def Tf (K:PySem.W.Frag):Sp:=fun vs H Q _=>i5 fun (a TB e:Addr) (ws:List Int) (cm:Option Int) (tv tv2:List ((List Int × Int) × V)) (k:List Int × Int) (bl:List (Option (List Int × Int))) (d:PyData) (n:Int)=>Ke (vs = [.ref a,.ref TB,.ref e]) (Bm H a ws cm) (H TB = some (.dT tv2)) (Oa tv2) ((∀ k,Ae tv2 k = Ae tv k)) (Et tv ws cm H k bl d n (.ref e)) (k ∈ Ar ws (qv cm)) (0 < ws.length) (ws.length <= 8) ((∀ x ∈ ws,1 <= x)) (∀ (v:V) (H':Hp),A9 H H' -> Rp H' d v -> Q v H')
theorem ee {fd fd_x6 fd_x18:FuncData} (T:Gq K mg ad) (F:Fq K "_law_due" "_law_due" Kc ad.f_x27 fd) (G_x6:Aj P w K mg base Bp 5 ad.f_x6 fd_x6 ["hall","table","standing","who"] (Tq K)) (B_x6:Az K fd_x6 ["hall","table","standing","who"] []) (G_x18:Aj P w K mg base Bp 7 ad.f_x18 fd_x18 ["hall","table","standing"] (Od K)) (B_x18:Az K fd_x18 ["hall","table","standing"] []):Aj P w K mg base Bp 8 ad.f_x27 fd ["hall","table","entry"] (Tf K):=by
 refine F.ok S2 (fun vs H Q E h=>?_) (fun cdv A outer s H vs Q E hr h=>?_)
 ·rcases h with ⟨a,TB,e,ws,cm,tv,tv2,k,bl,d,n0,rfl,ha,hT,hti,heq,hent,hks,hn0,h8,hw1,q⟩ <;> rfl
 ·obtain ⟨a,TB,e,ws,cm,tv,tv2,k,bl,d,n0,rfl,ha,hT,hti,heq,hent,hks,hn0,h8,hw1,q⟩ := h
  refine ⟨_,(A6 (Al (i:=3) S2.nd rfl (Or.inr rfl) (B9 (B8 K) (pv 2) Aa (fun _ _=>rfl))) (A6 (Cn (Bd Fn (Aw (Bw K) (by rfl) T.n_len PySem.boot_len (A0 (pv 2) A7)) Aa (Be _)) (Ab (Ao (Bt (A0 (pv 3) (A0 (Ag G_x18 (hr.mono (by decide)) rfl T.m_x18 T.k_x18 B_x18 .nil B0 (A0 (pv 0) (A0 (pv 1) (A0 (pv 3) A7)))) A7))))) Av) (A6 (Cv (i:=4) S2.nd rfl (Cz (by rfl) T.n_range (A0 (Aw (Bw K) (by rfl) T.n_len PySem.boot_len (A0 (B9 (B8 K) (pv 0) Aa (fun _ _=>rfl)) A7)) A7)) _ rfl Oc rfl rfl (fun _ _ _ _=>(Aq (i:=0) Pa rfl (Or.inl rfl))) (fun _ _ _ _=>Cp) (fun _ _ _ _=>(Ag G_x6 (hr.mono (by decide)) rfl T.m_x6 T.k_x6 B_x6 .nil B0 (A0 (pv 1) (A0 (pv 2) (A0 (pv 3) (A0 (pv 0) A7)))))) rfl rfl) (Ab (Ao (Bt (A0 (pv 3) (A0 (Yf (Dl hr) (pv 1) (pv 3) ⟨rfl,rfl,rfl,rfl⟩) (A0 (Cc (Ck K) (by rfl) T.n_tuple boot_tuple (A0 (pv 4) A7)) A7))))))))),?_⟩
  have hkl:k.1.length = ws.length:=(Fa hks).1
  obtain ⟨wt,ha1,ha2⟩ := id ha
  cases hent with
  | @kept _ b j h1 h2 h3 =>
   have hst:Db H b k.1 k.2:=h2
   refine ⟨_,rfl,e,_,_,_,rfl,rfl,.inr (Bx.of h1),rfl,_,rfl,e,_,rfl,.inr (Bx.of h1),rfl,_,rfl,Lw (by simp) ?_⟩
   refine ⟨_,rfl,_,rfl,_,rfl,_,rfl,a,TB,b,ws,k.1,cm,k.2,tv2,rfl,ha,hst,hT,hti,hn0,hkl,h8,hw1,fun j2 H1 s1 hb2=>?_⟩
   rw [show (fun i=>Fw tv2 ws k.1 cm k.2 i) = (fun i=>Fw tv ws k.1 cm k.2 i) from funext fun i=>fw heq ws _ cm _ i] at hb2
   have ej:=Dx.uniq hb2 h3
   subst ej
   refine ⟨Bk,fun p hp=>?_⟩
   exact q _ _ (s1.trans (A9.upd hp)) (Et.rp (Et.kept (tv:=tv) (ws:=ws) (cm:=cm) A5 (h2.up (Af.of (s1.trans (A9.upd hp)))) h3))
  | @broken _ b t m h1 h2 h3 h4 =>
   have hst:Db H b k.1 k.2:=h2
   refine ⟨_,rfl,e,_,_,_,rfl,rfl,.inr (Bx.of h1),rfl,_,rfl,e,_,rfl,.inr (Bx.of h1),rfl,_,rfl,Fd (by simp) ?_⟩
   refine ⟨_,rfl,a,_,_,_,rfl,rfl,.inr (Bx.of ha1),rfl,wt,_,rfl,.inr (Bx.of ha2),_,rfl,by omega,by rw [List.length_map]; omega,fun D hD=>?_⟩
   refine D9 (cnt:=((ws.map V.int).length:Int).toNat) (fun j ys H'=>ys = ((Dy tv ws k.1 cm k.2).take j).map V.bl /\ H' D = some (.lst ys) /\ A9 H H') ⟨rfl,A5,A9.upd hD⟩ ?_ ?_
   ·rintro j ys H5 hj ⟨rfl,hD5,s5⟩ Qe hQ
    rw [List.length_map] at hj
    have hj':j < ws.length:=by omega
    have hal:=Da tv ws k.1 cm k.2
    refine ⟨_,rfl,_,rfl,_,rfl,_,rfl,a,TB,b,ws,k.1,cm,k.2,_,j,tv2,rfl,Int.zero_add _,ha.same s5,hst.same s5,s5 _ _ hT,hti,hj',hkl,h8,fun H6 s6=>?_⟩
    rw [Y5 heq]
    have hD6:=s6 _ _ hD5
    refine hQ _ _ hD6 (B7 (by rw [List.length_map,List.length_take]; omega)) ⟨?_,A5,(s5.trans s6).new hD⟩
    rw [List.take_add_one,K4 hj',List.map_append]
    rfl
   rintro ys H5 ⟨rfl,hD5,s5⟩
   have e9:(Dy tv ws k.1 cm k.2).take ((ws.map V.int).length:Int).toNat = Dy tv ws k.1 cm k.2:=List.take_of_length_le (by rw [Da,List.length_map]; omega)
   rw [e9] at hD5
   refine ⟨_,rfl,_,rfl,TB,rfl,.inr ⟨_,.inl (s5 _ _ hT)⟩,_,rfl,some (.int m),(by rw [<- h3,<- heq k]; exact D1.t (s5 _ _ hT) (h2.up (Af.of s5))),?_⟩
   refine ⟨_,rfl,D,_,rfl,.inl ⟨Bo.of hD5,fun t2 ht2=>?_⟩⟩
   have s6:A9 H5 (upd H5 t2 (.tup ((Dy tv ws k.1 cm k.2).map V.bl))):=A9.upd ht2
   have e6:(upd H5 t2 (.tup ((Dy tv ws k.1 cm k.2).map V.bl))) t2 = some (.tup ((Dy tv ws k.1 cm k.2).map V.bl)):=A5
   generalize upd H5 t2 (.tup ((Dy tv ws k.1 cm k.2).map V.bl)) = H6 at s6 e6 ⊢
   refine ⟨Bk,fun p hp=>?_⟩
   have s56:=s5.trans s6
   exact q _ _ (s56.trans (A9.upd hp)) (Et.rp (Et.broken (tv:=tv) (ws:=ws) (cm:=cm) A5 (h2.up (Af.of (s56.trans (A9.upd hp)))) h3 (A9.upd hp _ _ e6)))
noncomputable def Ov (K:PySem.W.Frag):Sp:=fun vs H Q _=>Yh fun (a:Addr) (ns:List Int)=>Hw (vs = [.ref a]) (Bo K H a (ns.map V.int)) (ns.length <= 63) ((∀ z ∈ ns,intBits z <= 2 ^ 20)) (∀ H',Q (.bl true) H')
theorem gj {fd fd_x24 fd_x29 fd_x14 fd_x11 fd_x7 fd_x27:FuncData} (T:Gq K mg ad) (F:Fq K "law" "law" Im ad.f_law fd) (G_x24:Aj P w K mg base Bp 2 ad.f_x24 fd_x24 ["script"] (Rx K)) (B_x24:Az K fd_x24 ["script"] []) (G_x29:Aj P w K mg base Bp 7 ad.f_x29 fd_x29 ["hall"] (Ln K)) (B_x29:Az K fd_x29 ["hall"] []) (G_x14:Aj P w K mg base Bp 8 ad.f_x14 fd_x14 ["hall"] (Ro K)) (B_x14:Az K fd_x14 ["hall"] []) (G_x11:Aj P w K mg base Bp 3 ad.f_x11 fd_x11 ["hall","entries"] (S1 K)) (B_x11:Az K fd_x11 ["hall","entries"] []) (G_x7:Aj P w K mg base Bp 8 ad.f_x7 fd_x7 ["hall"] (We K)) (B_x7:Az K fd_x7 ["hall"] []) (G_x27:Aj P w K mg base Bp 8 ad.f_x27 fd_x27 ["hall","table","entry"] (Tf K)) (B_x27:Az K fd_x27 ["hall","table","entry"] []):Aj P w K mg base Bp 9 ad.f_law fd ["script"] (Ov K):=by
 refine F.ok G6 (fun vs H Q E h=>?_) (fun cdv A outer s H vs Q E hr h=>?_)
 ·rcases h with ⟨a,ns,rfl,hS,hlen,hbig,q⟩ <;> rfl
 ·obtain ⟨a,ns,rfl,hS,hlen,hbig,q⟩ := h
  refine ⟨_,(A6 (Al (i:=1) G6.nd rfl (Or.inl rfl) (Ag G_x24 (hr.mono (by decide)) rfl T.m_x24 T.k_x24 B_x24 .nil B0 (A0 (pv 0) A7))) (A6 (Al (i:=2) G6.nd rfl (Or.inl rfl) (Ag G_x29 (hr.mono (by decide)) rfl T.m_x29 T.k_x29 B_x29 .nil B0 (A0 (pv 1) A7))) (A6 (Al (i:=3) G6.nd rfl (Or.inl rfl) (Rq (Ag G_x14 (hr.mono (by decide)) rfl T.m_x14 T.k_x14 B_x14 .nil B0 (A0 (pv 1) A7)))) (A6 (Dp (Fk (Lz (Dl hr) (Bt (A0 (B9 (B8 K) (pv 1) Aa (fun _ _=>rfl)) (A0 Aa A7))) (pv 2)) rfl) (Ab (Al (i:=3) G6.nd rfl (Or.inl rfl) (Ag G_x7 (hr.mono (by decide)) rfl T.m_x7 T.k_x7 B_x7 .nil B0 (A0 (pv 1) A7)))) Av) (A6 (Cn (Fs (Ep (Aw (Vi K) (by rfl) T.n_isinstance boot_isinstance (A0 (pv 3) (A0 (im (by rfl) T.n_list boot_list) A7))))) (Ab (Ao Ho)) Av) (A6 (Al (i:=4) G6.nd rfl (Or.inl rfl) F6) (A6 (Cr PassesOwn.never rfl (Dk (w':=P1 K _) (Dj (pv 3))) (Aq (i:=5) G6.nd rfl (Or.inl rfl)) (A6 (Cn (PW.pt (cr (Bd (Xh hr) (pv 5) (Ag G_x27 (hr.mono (by decide)) rfl T.m_x27 T.k_x27 B_x27 .nil B0 (A0 (pv 1) (A0 (pv 2) (A0 (pv 5) A7)))) (Be _)) (Ww (Bd ju (Aw (Bw K) (by rfl) T.n_len PySem.boot_len (A0 (pv 5) A7)) (Ba D4 Aa (Cc Uq (by rfl) T.n_int boot_int (A0 (ez (Lz (Dl hr) (Bt (A0 (B9 (B8 K) (pv 1) Aa (fun _ _=>rfl)) (A0 Aa A7))) (pv 2)) rfl) A7))) (Be _))))) (Ab (Ao Ho)) Av) (Ab (Fh (Dl hr) (pv 4) (B9 (B8 K) (pv 5) Aa (fun _ _=>rfl)) (pv 5) rfl)))) (A6 (Al (i:=6) G6.nd rfl (Or.inl rfl) (Ag G_x11 (hr.mono (by decide)) rfl T.m_x11 T.k_x11 B_x11 .nil B0 (A0 (pv 1) (A0 (pv 4) A7)))) (Ab (Ao (U3 (Ej Ii (pv 6) D3 (Be _)) (U3 (Ej Fn (Aw Jc (by rfl) T.n_len PySem.boot_len (A0 (pv 6) A7)) (Aw Jc (by rfl) T.n_len PySem.boot_len (A0 (pv 4) A7)) (Be _)) (Ru (Ej Fn (Aw Jc (by rfl) T.n_len PySem.boot_len (A0 (pv 4) A7)) (Aw (Bw K) (by rfl) T.n_len PySem.boot_len (A0 (pv 3) A7)) (Be _))))))))))))))),?_⟩
  refine ⟨_,rfl,a,ns,rfl,hS,fun hp ws cm H1 s1 ha hok=>?_⟩
  have hq:=hok.qv
  have h8:=hok.2.2.2.1
  have hn0:=hok.2.2.1
  have hw1:∀ x ∈ ws,1 <= x:=fun x hx=>(hok.1 x hx).1
  refine ⟨_,rfl,hp,ws,cm,rfl,ha,(fun w hw=>(hok.1 w hw).1),hq.1,(fun w hw=>F8 (by have:=hok.1 w hw; omega) (hok.1 w hw).2),F8 (by omega) hq.2,hok.2.2.2.1,(by have:=hok.2.2.2.2; omega),fun TB tv2 H2 hTB s2 eTB hrk2 _ _=>?_⟩
  have hti:Oa tv2:=fun k v hv=>by
   obtain ⟨m,e,_⟩ := hrk2.1 k v hv
   exact ⟨m,e⟩
  have ha2:=ha.same s2
  refine ⟨(fun v H3=>A9 H2 H3 /\ ((v = .non /\ (Ae tv2 (ws,0)).isSome = true) \/ ∃ (p:Addr) (us:List V) (ps tv:List ((List Int × Int) × V)),v = .ref p /\ Ae tv2 (ws,0) = none /\ Bz ws cm tv /\ H3 p = some (.lst us) /\ Um ws cm tv ps /\ Ad (Yc H3) ps us)),⟨_,rfl,hp,ws,cm,rfl,ha2,hok,(fun tv H3 s3 hr _ hv=>⟨s3,.inl ⟨rfl,by rw [K6 hrk2 hr]; exact hv⟩⟩),fun p us ps tv H3 s3 hpn ep hr _ hv hk hall=>⟨s3,.inr ⟨p,us,ps,tv,rfl,by rw [K6 hrk2 hr]; exact hv,hr,ep,hk,hall⟩⟩⟩,fun v3 H3 ⟨s3,hv3⟩=>?_⟩
  obtain ⟨wt,ha31,ha32⟩ := id (ha2.same s3)
  refine ⟨_,rfl,hp,_,_,_,rfl,rfl,.inr (Bx.of ha31),rfl,Bk,fun t ht=>?_⟩
  have s4:A9 H3 (upd H3 t (.tup [.ref wt,.int 0])):=A9.upd ht
  have e4:(upd H3 t (.tup [.ref wt,.int 0])) t = some (.tup [.ref wt,.int 0]):=A5
  generalize upd H3 t (.tup [.ref wt,.int 0]) = H4 at s4 e4 ⊢
  have s24:=s3.trans s4
  refine ⟨_,rfl,TB,_,rfl,D1.t (s24 _ _ eTB) (show E2 H4 t (ws,0) from ⟨wt,e4,s4 _ _ ha32⟩),_,rfl,(fun σ' H'=>gm fun (p:Addr) (us:List V) (ps tv:List ((List Int × Int) × V)) (F:List Int × Int -> List (Option (List Int × Int)))=>Hw (σ' = [some (.ref a),some (.ref hp),some (.ref TB),some (.ref p),none,none,none]) (A9 H2 H') (Bz ws cm tv) (H' p = some (.lst us)) (gq tv ws cm F (2 + if (Ae tv2 (ws,0)).isSome = true then 1 else 0) H' ps us)),(fun h=>?_),(fun h=>?_),?_⟩
  ·refine ⟨_,rfl,hp,ws,cm,rfl,ha2.same s24,hok,(fun tv H5 s5 hr _ hv=>?_),fun p us ps tv H5 s5 hpn ep hr _ hv hb hall=>?_⟩
   ·exact (d0 hrk2 hr h hv).elim
   ·refine ⟨p,us,ps,tv,(fun k=>(List.range ws.length).map (Jl tv ws cm k)),rfl,s24.trans s5,hr,ep,?_⟩
    rw [if_pos h]
    exact Rl hok hb hall
  ·rcases hv3 with ⟨rfl,z⟩ | ⟨p,us,ps,tv,rfl,z,hr,ep,hk,hall⟩
   ·rw [z] at h
    cases h
   ·refine ⟨p,us,ps,tv,(fun k=>Ay ws k.1 cm k.2 (ky ps k)),rfl,s24,hr,s4 _ _ ep,?_⟩
    rw [if_neg (by rw [z]; simp)]
    exact X0 hok hk (hall.imp fun _ _ y=>Yc.up (Af.of s4) y)
  rintro σ' H5 ⟨p,us,ps,tv,F,rfl,s5,hr,ep,hpap⟩
  have heq:∀ k,Ae tv2 k = Ae tv k:=K6 hrk2 hr
  refine ⟨_,rfl,_,"list","list",true,rfl,.lst ep,Of,_,rfl,Fd rfl ?_⟩
  refine fun D hD=>?_
  have s6:A9 H5 (upd H5 D (.dT [])):=A9.upd hD
  have e6:(upd H5 D (.dT [])) D = some (.dT []):=A5
  generalize upd H5 D (.dT []) = H6 at s6 e6 ⊢
  have hpD:p ≠ D:=fun z=>by rw [z,hD] at ep; cases ep
  have hul:=hpap.ent.1
  refine ⟨_,rfl,p,rfl,.inl ⟨⟨_,Bo.of (s6 _ _ ep)⟩,?_⟩⟩
  refine D6 (K:=K) (a:=p) (xs:=us) (fun i σ H'=>∃ (v5:Option V),Vo (σ = [some (.ref a),some (.ref hp),some (.ref TB),some (.ref p),some (.ref D),v5,none]) (A9 H5 H') (H' D = some (.dT ((M8 ps us).take i)))) ⟨none,rfl,s6,e6⟩ (by rintro i σ H' _ ⟨_,_,s,_⟩; exact Bo.of (s _ _ ep)) ?_ ?_
  ·rintro i u σ H7 hu ⟨v5,rfl,s7,hD7⟩
   obtain ⟨kv,hkv,d,e,rfl,hen⟩ := hpap.ent.get hu
   have hkm:=List.mem_of_getElem? hkv
   have s27:=s5.trans s7
   have hen7:=hen.up (Af.of s7)
   refine ⟨_,rfl,_,rfl,_,rfl,_,rfl,hp,TB,e,ws,cm,tv,tv2,kv.1,F kv.1,d,_,rfl,ha2.same s27,s27 _ _ eTB,hti,heq,hen7,hpap.stn kv hkm,hn0,h8,hw1,fun v8 H8 s8 hrp=>?_⟩
   have s28:=s27.trans s8
   have hen8:=hen7.up (Af.of s8)
   have rpE:=hen8.rp
   have ed:PyData.eqv d d = true:=PySem.SeqAt.eqv_refl _ (Cl _ _ rpE)
   refine ⟨_,_,rpE,hrp,(by have:=hen8.depth; omega),_,rfl,(fun z H'=>z = false /\ A9 H8 H'),(fun h=>?_),(fun _=>?_),fun z H9 hz=>?_⟩
   ·simp [ed] at h
   ·obtain ⟨b,xs,hb1,hb2,hbn⟩ := hen8.tup
    obtain ⟨wt8,ha81,ha82⟩ := id (ha2.same s28)
    refine ⟨_,rfl,e,_,rfl,.inr (Bx.of hb1),_,rfl,hp,_,_,_,rfl,rfl,.inr (Bx.of ha81),rfl,Bk,fun t9 ht9=>?_⟩
    have sn:A9 H8 (upd H8 t9 (.tup [.ref wt8,.int 0])):=A9.upd ht9
    have en:(upd H8 t9 (.tup [.ref wt8,.int 0])) t9 = some (.tup [.ref wt8,.int 0]):=A5
    generalize upd H8 t9 (.tup [.ref wt8,.int 0]) = HN at sn en ⊢
    refine ⟨_,rfl,TB,_,rfl,D1.t (sn _ _ (s28 _ _ eTB)) (show E2 HN t9 (ws,0) from ⟨wt8,en,sn _ _ ha82⟩),.inr ⟨_,rfl,_,_,rfl,rfl,rfl,_,rfl,?_,sn⟩⟩
    rw [hbn]
    simp
   obtain ⟨rfl,s9⟩ := hz
   refine Fd rfl ?_
   have s89:=s8.trans s9
   obtain ⟨b,xs,hb1,hb2,hbn⟩ := (hen8.up (Af.of s9)).tup
   have hD9:=s89 _ _ hD7
   refine ⟨_,rfl,_,rfl,_,rfl,e,_,_,_,rfl,rfl,.inr (Bx.of hb1),(show Pe (V.ref b :: xs) 0 = some (V.ref b) by unfold Pe Vw; rw [if_pos (by decide),if_pos (by rw [List.length_cons]; omega)]; rfl),D,_,rfl,Mq.t hD9 hb2 (Bq (by rw [List.length_take,Hq hul]; have:=hpap.few; omega)),?_⟩
   refine ⟨_,rfl,(s7.trans s89).new hD,?_⟩
   have hz:=Yx hkv hu
   have hnew:Ae ((M8 ps us).take i) kv.1 = none:=by
    cases e9:Ae ((M8 ps us).take i) kv.1 with
    | none=>rfl
    | some v =>
     have h1:=K2 e9
     rw [List.map_take,Gj hul] at h1
     exact absurd h1 (Iz hpap.nd (by rw [List.getElem?_map,hkv]; rfl))
   rw [A5,C5 _ hnew,List.take_add_one,hz]
   rfl
  rintro σ H7 ⟨v5,rfl,s7,hD7⟩
  rw [List.take_of_length_le (by rw [Hq hul]; omega)] at hD7
  have s27:=s5.trans s7
  have hpap7:=hpap.up (Af.of s7)
  have ek:=Gj hul
  refine ⟨_,rfl,_,rfl,hp,D,ws,cm,tv,M8 ps us,F,rfl,ha2.same s27,hD7,(by rw [ek]; exact hpap.nd),(by rw [Hq hul]; exact hpap.few),(fun k u hku=>?_),(by rw [ek]; exact hpap.cls),(by rw [ek]; exact hpap.beg),(by rw [ek]; exact hpap.rch),h8,hw1,fun P sv H8 s8 eP hsv=>?_⟩
  ·obtain ⟨i,hi⟩ := List.mem_iff_getElem?.mp (Bf hku)
   have hi':=hi
   unfold M8 at hi
   rw [List.getElem?_zipWith] at hi
   cases e1:ps[i]? with
   | none=>rw [e1] at hi; simp at hi
   | some kv =>
    cases e2:us[i]? with
    | none=>rw [e1,e2] at hi; simp at hi
    | some u2 =>
     rw [e1,e2] at hi
     simp only [Option.some.injEq,Prod.mk.injEq] at hi
     obtain ⟨rfl,rfl⟩ := hi
     obtain ⟨d,e,rfl,hen⟩ := hpap7.ent.2 i kv u2 e1 e2
     exact ⟨hpap.stn kv (List.mem_of_getElem? e1),hpap.wid h8 _,d,_,e,rfl,hen⟩
  refine ⟨_,rfl,rfl,_,(fun d H'=>d = true),rfl,(fun h=>by simp at h),(fun _=>?_),fun d H' hd=>?_⟩
  ·refine ⟨_,rfl,P,_,rfl,eP,_,rfl,D,_,rfl,s8 _ _ hD7,rfl,_,(fun d H'=>d = true),rfl,(fun h=>?_),(fun _=>?_),fun d H' hd=>⟨_,rfl,hd⟩⟩
   ·simp [hsv] at h
   ·refine ⟨_,rfl,D,_,rfl,s8 _ _ hD7,_,rfl,p,_,rfl,.inl (Bo.of (s8 _ _ (s7 _ _ ep))),rfl,_,rfl,?_⟩
    simp [Hq hul,hul]
  ·subst hd
   exact q _
end
theorem all_mk {l : PySem.W.OpenLaw} {w : World} {K : PySem.W.Frag} {h : Heap} {mg : Str -> Option Value} {fa : Addr} (X : K.In h) (G : h.Ns mainGlobals mg) (hfa : mg "law" = some (.ref fa)) {f_x16 f_x19 f_x8 f_x1 f_x9 f_x4 f_x28 f_x12 f_x5 f_x20 f_x21 f_x17 f_x2 f_x26 f_x0 f_x29 f_x30 f_x13 f_x18 f_x6 f_x14 f_x10 f_x3 f_x7 f_x22 f_x23 f_x24 f_x15 f_x25 f_x11 f_x27 f_law : Addr} {od_x16 an_x16 : Option Addr} {sl_x16 : Array (Option Value)} {oc_x16 kV_x16 dc_x16 pm_x16 cd_x16 ct_x16 : Value} {od_x19 an_x19 : Option Addr} {sl_x19 : Array (Option Value)} {oc_x19 kV_x19 dc_x19 pm_x19 cd_x19 ct_x19 : Value} {od_x8 an_x8 : Option Addr} {sl_x8 : Array (Option Value)} {oc_x8 kV_x8 dc_x8 pm_x8 cd_x8 ct_x8 : Value} {od_x1 an_x1 : Option Addr} {sl_x1 : Array (Option Value)} {oc_x1 kV_x1 dc_x1 pm_x1 cd_x1 ct_x1 : Value} {od_x9 an_x9 : Option Addr} {sl_x9 : Array (Option Value)} {oc_x9 kV_x9 dc_x9 pm_x9 cd_x9 ct_x9 : Value} {od_x4 an_x4 : Option Addr} {sl_x4 : Array (Option Value)} {oc_x4 kV_x4 dc_x4 pm_x4 cd_x4 ct_x4 : Value} {od_x28 an_x28 : Option Addr} {sl_x28 : Array (Option Value)} {oc_x28 kV_x28 dc_x28 pm_x28 cd_x28 ct_x28 : Value} {od_x12 an_x12 : Option Addr} {sl_x12 : Array (Option Value)} {oc_x12 kV_x12 dc_x12 pm_x12 cd_x12 ct_x12 : Value} {od_x5 an_x5 : Option Addr} {sl_x5 : Array (Option Value)} {oc_x5 kV_x5 dc_x5 pm_x5 cd_x5 ct_x5 : Value} {od_x20 an_x20 : Option Addr} {sl_x20 : Array (Option Value)} {oc_x20 kV_x20 dc_x20 pm_x20 cd_x20 ct_x20 : Value} {od_x21 an_x21 : Option Addr} {sl_x21 : Array (Option Value)} {oc_x21 kV_x21 dc_x21 pm_x21 cd_x21 ct_x21 : Value} {od_x17 an_x17 : Option Addr} {sl_x17 : Array (Option Value)} {oc_x17 kV_x17 dc_x17 pm_x17 cd_x17 ct_x17 : Value} {od_x2 an_x2 : Option Addr} {sl_x2 : Array (Option Value)} {oc_x2 kV_x2 dc_x2 pm_x2 cd_x2 ct_x2 : Value} {od_x26 an_x26 : Option Addr} {sl_x26 : Array (Option Value)} {oc_x26 kV_x26 dc_x26 pm_x26 cd_x26 ct_x26 : Value} {od_x0 an_x0 : Option Addr} {sl_x0 : Array (Option Value)} {oc_x0 kV_x0 dc_x0 pm_x0 cd_x0 ct_x0 : Value} {od_x29 an_x29 : Option Addr} {sl_x29 : Array (Option Value)} {oc_x29 kV_x29 dc_x29 pm_x29 cd_x29 ct_x29 : Value} {od_x30 an_x30 : Option Addr} {sl_x30 : Array (Option Value)} {oc_x30 kV_x30 dc_x30 pm_x30 cd_x30 ct_x30 : Value} {od_x13 an_x13 : Option Addr} {sl_x13 : Array (Option Value)} {oc_x13 kV_x13 dc_x13 pm_x13 cd_x13 ct_x13 : Value} {od_x18 an_x18 : Option Addr} {sl_x18 : Array (Option Value)} {oc_x18 kV_x18 dc_x18 pm_x18 cd_x18 ct_x18 : Value} {od_x6 an_x6 : Option Addr} {sl_x6 : Array (Option Value)} {oc_x6 kV_x6 dc_x6 pm_x6 cd_x6 ct_x6 : Value} {od_x14 an_x14 : Option Addr} {sl_x14 : Array (Option Value)} {oc_x14 kV_x14 dc_x14 pm_x14 cd_x14 ct_x14 : Value} {od_x10 an_x10 : Option Addr} {sl_x10 : Array (Option Value)} {oc_x10 kV_x10 dc_x10 pm_x10 cd_x10 ct_x10 : Value} {od_x3 an_x3 : Option Addr} {sl_x3 : Array (Option Value)} {oc_x3 kV_x3 dc_x3 pm_x3 cd_x3 ct_x3 : Value} {od_x7 an_x7 : Option Addr} {sl_x7 : Array (Option Value)} {oc_x7 kV_x7 dc_x7 pm_x7 cd_x7 ct_x7 : Value} {od_x22 an_x22 : Option Addr} {sl_x22 : Array (Option Value)} {oc_x22 kV_x22 dc_x22 pm_x22 cd_x22 ct_x22 : Value} {od_x23 an_x23 : Option Addr} {sl_x23 : Array (Option Value)} {oc_x23 kV_x23 dc_x23 pm_x23 cd_x23 ct_x23 : Value} {od_x24 an_x24 : Option Addr} {sl_x24 : Array (Option Value)} {oc_x24 kV_x24 dc_x24 pm_x24 cd_x24 ct_x24 : Value} {od_x15 an_x15 : Option Addr} {sl_x15 : Array (Option Value)} {oc_x15 kV_x15 dc_x15 pm_x15 cd_x15 ct_x15 : Value} {od_x25 an_x25 : Option Addr} {sl_x25 : Array (Option Value)} {oc_x25 kV_x25 dc_x25 pm_x25 cd_x25 ct_x25 : Value} {od_x11 an_x11 : Option Addr} {sl_x11 : Array (Option Value)} {oc_x11 kV_x11 dc_x11 pm_x11 cd_x11 ct_x11 : Value} {od_x27 an_x27 : Option Addr} {sl_x27 : Array (Option Value)} {oc_x27 kV_x27 dc_x27 pm_x27 cd_x27 ct_x27 : Value} {od_law an_law : Option Addr} {sl_law : Array (Option Value)} {oc_law kV_law dc_law pm_law cd_law ct_law : Value} {dt_x28 : Addr} {tc_x28 : Value} {td_x28 : Option Addr} {tn_x28 : Nat} {ts_x28 : Array (Option Value)}
  (a_x16:PySem.W.nsIn K mainGlobals "beginning" = some (some (.ref f_x16))) (l_x16:K.lookup f_x16 = some ⟨oc_x16,od_x16,.func (PySem.W.fnOf "beginning" "beginning" (Ap Nd) (Am Nd) (A8 Nd) .none kV_x16 dc_x16 pm_x16 an_x16 cd_x16 ct_x16),sl_x16⟩) (c_x16:PySem.W.codeIn K cd_x16 "beginning" = true) (k_x16:PySem.W.keepIn K (.ref f_x16) = true)
  (a_x19:PySem.W.nsIn K mainGlobals "may_lose" = some (some (.ref f_x19))) (l_x19:K.lookup f_x19 = some ⟨oc_x19,od_x19,.func (PySem.W.fnOf "may_lose" "may_lose" (Ap N6) (Am N6) (A8 N6) .none kV_x19 dc_x19 pm_x19 an_x19 cd_x19 ct_x19),sl_x19⟩) (c_x19:PySem.W.codeIn K cd_x19 "may_lose" = true) (k_x19:PySem.W.keepIn K (.ref f_x19) = true)
  (a_x8:PySem.W.nsIn K mainGlobals "is_listener" = some (some (.ref f_x8))) (l_x8:K.lookup f_x8 = some ⟨oc_x8,od_x8,.func (PySem.W.fnOf "is_listener" "is_listener" (Ap Uu) (Am Uu) (A8 Uu) .none kV_x8 dc_x8 pm_x8 an_x8 cd_x8 ct_x8),sl_x8⟩) (c_x8:PySem.W.codeIn K cd_x8 "is_listener" = true) (k_x8:PySem.W.keepIn K (.ref f_x8) = true)
  (a_x1:PySem.W.nsIn K mainGlobals "refuse_wrong_turn" = some (some (.ref f_x1))) (l_x1:K.lookup f_x1 = some ⟨oc_x1,od_x1,.func (PySem.W.fnOf "refuse_wrong_turn" "refuse_wrong_turn" (Ap Vt) (Am Vt) (A8 Vt) .none kV_x1 dc_x1 pm_x1 an_x1 cd_x1 ct_x1),sl_x1⟩) (c_x1:PySem.W.codeIn K cd_x1 "refuse_wrong_turn" = true) (k_x1:PySem.W.keepIn K (.ref f_x1) = true)
  (a_x9:PySem.W.nsIn K mainGlobals "left_behind" = some (some (.ref f_x9))) (l_x9:K.lookup f_x9 = some ⟨oc_x9,od_x9,.func (PySem.W.fnOf "left_behind" "left_behind" (Ap Rn) (Am Rn) (A8 Rn) .none kV_x9 dc_x9 pm_x9 an_x9 cd_x9 ct_x9),sl_x9⟩) (c_x9:PySem.W.codeIn K cd_x9 "left_behind" = true) (k_x9:PySem.W.keepIn K (.ref f_x9) = true)
  (a_x4:PySem.W.nsIn K mainGlobals "quiet_behind" = some (some (.ref f_x4))) (l_x4:K.lookup f_x4 = some ⟨oc_x4,od_x4,.func (PySem.W.fnOf "quiet_behind" "quiet_behind" (Ap W3) (Am W3) (A8 W3) .none kV_x4 dc_x4 pm_x4 an_x4 cd_x4 ct_x4),sl_x4⟩) (c_x4:PySem.W.codeIn K cd_x4 "quiet_behind" = true) (k_x4:PySem.W.keepIn K (.ref f_x4) = true)
  (a_x28:PySem.W.nsIn K mainGlobals "after" = some (some (.ref f_x28))) (l_x28:K.lookup f_x28 = some ⟨oc_x28,od_x28,.func (PySem.W.fnOf "after" "after" (Ap Fo) (Am Fo) (A8 Fo) (.ref dt_x28) kV_x28 dc_x28 pm_x28 an_x28 cd_x28 ct_x28),sl_x28⟩) (c_x28:PySem.W.codeIn K cd_x28 "after" = true) (k_x28:PySem.W.keepIn K (.ref f_x28) = true) (t_x28:K.lookup dt_x28 = some ⟨tc_x28,td_x28,.seq #[Value.bool false] tn_x28,ts_x28⟩)
  (a_x12:PySem.W.nsIn K mainGlobals "all_behind" = some (some (.ref f_x12))) (l_x12:K.lookup f_x12 = some ⟨oc_x12,od_x12,.func (PySem.W.fnOf "all_behind" "all_behind" (Ap No) (Am No) (A8 No) .none kV_x12 dc_x12 pm_x12 an_x12 cd_x12 ct_x12),sl_x12⟩) (c_x12:PySem.W.codeIn K cd_x12 "all_behind" = true) (k_x12:PySem.W.keepIn K (.ref f_x12) = true)
  (a_x5:PySem.W.nsIn K mainGlobals "quiet_values" = some (some (.ref f_x5))) (l_x5:K.lookup f_x5 = some ⟨oc_x5,od_x5,.func (PySem.W.fnOf "quiet_values" "quiet_values" (Ap Va) (Am Va) (A8 Va) .none kV_x5 dc_x5 pm_x5 an_x5 cd_x5 ct_x5),sl_x5⟩) (c_x5:PySem.W.codeIn K cd_x5 "quiet_values" = true) (k_x5:PySem.W.keepIn K (.ref f_x5) = true)
  (a_x20:PySem.W.nsIn K mainGlobals "how_many" = some (some (.ref f_x20))) (l_x20:K.lookup f_x20 = some ⟨oc_x20,od_x20,.func (PySem.W.fnOf "how_many" "how_many" (Ap My) (Am My) (A8 My) .none kV_x20 dc_x20 pm_x20 an_x20 cd_x20 ct_x20),sl_x20⟩) (c_x20:PySem.W.codeIn K cd_x20 "how_many" = true) (k_x20:PySem.W.keepIn K (.ref f_x20) = true)
  (a_x21:PySem.W.nsIn K mainGlobals "all_left" = some (some (.ref f_x21))) (l_x21:K.lookup f_x21 = some ⟨oc_x21,od_x21,.func (PySem.W.fnOf "all_left" "all_left" (Ap Lv) (Am Lv) (A8 Lv) .none kV_x21 dc_x21 pm_x21 an_x21 cd_x21 ct_x21),sl_x21⟩) (c_x21:PySem.W.codeIn K cd_x21 "all_left" = true) (k_x21:PySem.W.keepIn K (.ref f_x21) = true)
  (a_x17:PySem.W.nsIn K mainGlobals "standings" = some (some (.ref f_x17))) (l_x17:K.lookup f_x17 = some ⟨oc_x17,od_x17,.func (PySem.W.fnOf "standings" "standings" (Ap Ku) (Am Ku) (A8 Ku) .none kV_x17 dc_x17 pm_x17 an_x17 cd_x17 ct_x17),sl_x17⟩) (c_x17:PySem.W.codeIn K cd_x17 "standings" = true) (k_x17:PySem.W.keepIn K (.ref f_x17) = true)
  (a_x2:PySem.W.nsIn K mainGlobals "calls_by_standing" = some (some (.ref f_x2))) (l_x2:K.lookup f_x2 = some ⟨oc_x2,od_x2,.func (PySem.W.fnOf "calls_by_standing" "calls_by_standing" (Ap Vp) (Am Vp) (A8 Vp) .none kV_x2 dc_x2 pm_x2 an_x2 cd_x2 ct_x2),sl_x2⟩) (c_x2:PySem.W.codeIn K cd_x2 "calls_by_standing" = true) (k_x2:PySem.W.keepIn K (.ref f_x2) = true)
  (a_x26:PySem.W.nsIn K mainGlobals "ways_to" = some (some (.ref f_x26))) (l_x26:K.lookup f_x26 = some ⟨oc_x26,od_x26,.func (PySem.W.fnOf "ways_to" "ways_to" (Ap O3) (Am O3) (A8 O3) .none kV_x26 dc_x26 pm_x26 an_x26 cd_x26 ct_x26),sl_x26⟩) (c_x26:PySem.W.codeIn K cd_x26 "ways_to" = true) (k_x26:PySem.W.keepIn K (.ref f_x26) = true)
  (a_x0:PySem.W.nsIn K mainGlobals "without_calls_left" = some (some (.ref f_x0))) (l_x0:K.lookup f_x0 = some ⟨oc_x0,od_x0,.func (PySem.W.fnOf "without_calls_left" "without_calls_left" (Ap V9) (Am V9) (A8 V9) .none kV_x0 dc_x0 pm_x0 an_x0 cd_x0 ct_x0),sl_x0⟩) (c_x0:PySem.W.codeIn K cd_x0 "without_calls_left" = true) (k_x0:PySem.W.keepIn K (.ref f_x0) = true)
  (a_x29:PySem.W.nsIn K mainGlobals "ranks" = some (some (.ref f_x29))) (l_x29:K.lookup f_x29 = some ⟨oc_x29,od_x29,.func (PySem.W.fnOf "ranks" "ranks" (Ap Ko) (Am Ko) (A8 Ko) .none kV_x29 dc_x29 pm_x29 an_x29 cd_x29 ct_x29),sl_x29⟩) (c_x29:PySem.W.codeIn K cd_x29 "ranks" = true) (k_x29:PySem.W.keepIn K (.ref f_x29) = true)
  (a_x30:PySem.W.nsIn K mainGlobals "worth" = some (some (.ref f_x30))) (l_x30:K.lookup f_x30 = some ⟨oc_x30,od_x30,.func (PySem.W.fnOf "worth" "worth" (Ap O5) (Am O5) (A8 O5) .none kV_x30 dc_x30 pm_x30 an_x30 cd_x30 ct_x30),sl_x30⟩) (c_x30:PySem.W.codeIn K cd_x30 "worth" = true) (k_x30:PySem.W.keepIn K (.ref f_x30) = true)
  (a_x13:PySem.W.nsIn K mainGlobals "call_worth" = some (some (.ref f_x13))) (l_x13:K.lookup f_x13 = some ⟨oc_x13,od_x13,.func (PySem.W.fnOf "call_worth" "call_worth" (Ap Ls) (Am Ls) (A8 Ls) .none kV_x13 dc_x13 pm_x13 an_x13 cd_x13 ct_x13),sl_x13⟩) (c_x13:PySem.W.codeIn K cd_x13 "call_worth" = true) (k_x13:PySem.W.keepIn K (.ref f_x13) = true)
  (a_x18:PySem.W.nsIn K mainGlobals "best_call" = some (some (.ref f_x18))) (l_x18:K.lookup f_x18 = some ⟨oc_x18,od_x18,.func (PySem.W.fnOf "best_call" "best_call" (Ap Kw) (Am Kw) (A8 Kw) .none kV_x18 dc_x18 pm_x18 an_x18 cd_x18 ct_x18),sl_x18⟩) (c_x18:PySem.W.codeIn K cd_x18 "best_call" = true) (k_x18:PySem.W.keepIn K (.ref f_x18) = true)
  (a_x6:PySem.W.nsIn K mainGlobals "worst_answer" = some (some (.ref f_x6))) (l_x6:K.lookup f_x6 = some ⟨oc_x6,od_x6,.func (PySem.W.fnOf "worst_answer" "worst_answer" (Ap Ut) (Am Ut) (A8 Ut) .none kV_x6 dc_x6 pm_x6 an_x6 cd_x6 ct_x6),sl_x6⟩) (c_x6:PySem.W.codeIn K cd_x6 "worst_answer" = true) (k_x6:PySem.W.keepIn K (.ref f_x6) = true)
  (a_x14:PySem.W.nsIn K mainGlobals "kept_paper" = some (some (.ref f_x14))) (l_x14:K.lookup f_x14 = some ⟨oc_x14,od_x14,.func (PySem.W.fnOf "kept_paper" "kept_paper" (Ap Nv) (Am Nv) (A8 Nv) .none kV_x14 dc_x14 pm_x14 an_x14 cd_x14 ct_x14),sl_x14⟩) (c_x14:PySem.W.codeIn K cd_x14 "kept_paper" = true) (k_x14:PySem.W.keepIn K (.ref f_x14) = true)
  (a_x10:PySem.W.nsIn K mainGlobals "all_answers" = some (some (.ref f_x10))) (l_x10:K.lookup f_x10 = some ⟨oc_x10,od_x10,.func (PySem.W.fnOf "all_answers" "all_answers" (Ap Kz) (Am Kz) (A8 Kz) .none kV_x10 dc_x10 pm_x10 an_x10 cd_x10 ct_x10),sl_x10⟩) (c_x10:PySem.W.codeIn K cd_x10 "all_answers" = true) (k_x10:PySem.W.keepIn K (.ref f_x10) = true)
  (a_x3:PySem.W.nsIn K mainGlobals "unbroken_behind" = some (some (.ref f_x3))) (l_x3:K.lookup f_x3 = some ⟨oc_x3,od_x3,.func (PySem.W.fnOf "unbroken_behind" "unbroken_behind" (Ap Px) (Am Px) (A8 Px) .none kV_x3 dc_x3 pm_x3 an_x3 cd_x3 ct_x3),sl_x3⟩) (c_x3:PySem.W.codeIn K cd_x3 "unbroken_behind" = true) (k_x3:PySem.W.keepIn K (.ref f_x3) = true)
  (a_x7:PySem.W.nsIn K mainGlobals "broken_paper" = some (some (.ref f_x7))) (l_x7:K.lookup f_x7 = some ⟨oc_x7,od_x7,.func (PySem.W.fnOf "broken_paper" "broken_paper" (Ap Sl) (Am Sl) (A8 Sl) .none kV_x7 dc_x7 pm_x7 an_x7 cd_x7 ct_x7),sl_x7⟩) (c_x7:PySem.W.codeIn K cd_x7 "broken_paper" = true) (k_x7:PySem.W.keepIn K (.ref f_x7) = true)
  (a_x22:PySem.W.nsIn K mainGlobals "_law_cell" = some (some (.ref f_x22))) (l_x22:K.lookup f_x22 = some ⟨oc_x22,od_x22,.func (PySem.W.fnOf "_law_cell" "_law_cell" (Ap Mw) (Am Mw) (A8 Mw) .none kV_x22 dc_x22 pm_x22 an_x22 cd_x22 ct_x22),sl_x22⟩) (c_x22:PySem.W.codeIn K cd_x22 "_law_cell" = true) (k_x22:PySem.W.keepIn K (.ref f_x22) = true)
  (a_x23:PySem.W.nsIn K mainGlobals "_law_wide" = some (some (.ref f_x23))) (l_x23:K.lookup f_x23 = some ⟨oc_x23,od_x23,.func (PySem.W.fnOf "_law_wide" "_law_wide" (Ap N2) (Am N2) (A8 N2) .none kV_x23 dc_x23 pm_x23 an_x23 cd_x23 ct_x23),sl_x23⟩) (c_x23:PySem.W.codeIn K cd_x23 "_law_wide" = true) (k_x23:PySem.W.keepIn K (.ref f_x23) = true)
  (a_x24:PySem.W.nsIn K mainGlobals "_law_hall" = some (some (.ref f_x24))) (l_x24:K.lookup f_x24 = some ⟨oc_x24,od_x24,.func (PySem.W.fnOf "_law_hall" "_law_hall" (Ap Gw) (Am Gw) (A8 Gw) .none kV_x24 dc_x24 pm_x24 an_x24 cd_x24 ct_x24),sl_x24⟩) (c_x24:PySem.W.codeIn K cd_x24 "_law_hall" = true) (k_x24:PySem.W.keepIn K (.ref f_x24) = true)
  (a_x15:PySem.W.nsIn K mainGlobals "_law_behind" = some (some (.ref f_x15))) (l_x15:K.lookup f_x15 = some ⟨oc_x15,od_x15,.func (PySem.W.fnOf "_law_behind" "_law_behind" (Ap Nf) (Am Nf) (A8 Nf) .none kV_x15 dc_x15 pm_x15 an_x15 cd_x15 ct_x15),sl_x15⟩) (c_x15:PySem.W.codeIn K cd_x15 "_law_behind" = true) (k_x15:PySem.W.keepIn K (.ref f_x15) = true)
  (a_x25:PySem.W.nsIn K mainGlobals "_law_next" = some (some (.ref f_x25))) (l_x25:K.lookup f_x25 = some ⟨oc_x25,od_x25,.func (PySem.W.fnOf "_law_next" "_law_next" (Ap L3) (Am L3) (A8 L3) .none kV_x25 dc_x25 pm_x25 an_x25 cd_x25 ct_x25),sl_x25⟩) (c_x25:PySem.W.codeIn K cd_x25 "_law_next" = true) (k_x25:PySem.W.keepIn K (.ref f_x25) = true)
  (a_x11:PySem.W.nsIn K mainGlobals "_law_come_to" = some (some (.ref f_x11))) (l_x11:K.lookup f_x11 = some ⟨oc_x11,od_x11,.func (PySem.W.fnOf "_law_come_to" "_law_come_to" (Ap Mz) (Am Mz) (A8 Mz) .none kV_x11 dc_x11 pm_x11 an_x11 cd_x11 ct_x11),sl_x11⟩) (c_x11:PySem.W.codeIn K cd_x11 "_law_come_to" = true) (k_x11:PySem.W.keepIn K (.ref f_x11) = true)
  (a_x27:PySem.W.nsIn K mainGlobals "_law_due" = some (some (.ref f_x27))) (l_x27:K.lookup f_x27 = some ⟨oc_x27,od_x27,.func (PySem.W.fnOf "_law_due" "_law_due" (Ap Kc) (Am Kc) (A8 Kc) .none kV_x27 dc_x27 pm_x27 an_x27 cd_x27 ct_x27),sl_x27⟩) (c_x27:PySem.W.codeIn K cd_x27 "_law_due" = true) (k_x27:PySem.W.keepIn K (.ref f_x27) = true)
  (a_law:PySem.W.nsIn K mainGlobals "law" = some (some (.ref f_law))) (l_law:K.lookup f_law = some ⟨oc_law,od_law,.func (PySem.W.fnOf "law" "law" (Ap Im) (Am Im) (A8 Im) .none kV_law dc_law pm_law an_law cd_law ct_law),sl_law⟩) (c_law:PySem.W.codeIn K cd_law "law" = true) (k_law:PySem.W.keepIn K (.ref f_law) = true)
  {tk_MOST_STANDINGS:Nat} (y_MOST_STANDINGS:PySem.W.nsIn K mainGlobals "MOST_STANDINGS" = some (some (.int 3000 tk_MOST_STANDINGS))) (z_len:PySem.W.nsIn K mainGlobals "len" = some none) (z_max:PySem.W.nsIn K mainGlobals "max" = some none) (z_tuple:PySem.W.nsIn K mainGlobals "tuple" = some none) (z_range:PySem.W.nsIn K mainGlobals "range" = some none) (z_min:PySem.W.nsIn K mainGlobals "min" = some none) (z_sorted:PySem.W.nsIn K mainGlobals "sorted" = some none) (z_enumerate:PySem.W.nsIn K mainGlobals "enumerate" = some none) (z_isinstance:PySem.W.nsIn K mainGlobals "isinstance" = some none) (z_list:PySem.W.nsIn K mainGlobals "list" = some none) (z_int:PySem.W.nsIn K mainGlobals "int" = some none)   :
  ∃ fd:FuncData,(∀ (s:Shared) (v:Value),BindsTo s fd ⟨[v],[]⟩ [("script",v)]) /\ ∀ base:Heap,K.In base -> base.Ns mainGlobals mg -> Aj l.prog w K mg base Bp 9 fa fd ["script"] (Ov K):=by
 have e:=hfa.symm.trans (PySem.W.mg_of X G a_law)
 cases e
 have T:Gq K mg ⟨f_x16,f_x19,f_x8,f_x1,f_x9,f_x4,f_x28,f_x12,f_x5,f_x20,f_x21,f_x17,f_x2,f_x26,f_x0,f_x29,f_x30,f_x13,f_x18,f_x6,f_x14,f_x10,f_x3,f_x7,f_x22,f_x23,f_x24,f_x15,f_x25,f_x11,f_x27,fa⟩ := ⟨PySem.W.mg_of X G a_x16,k_x16,PySem.W.mg_of X G a_x19,k_x19,PySem.W.mg_of X G a_x8,k_x8,PySem.W.mg_of X G a_x1,k_x1,PySem.W.mg_of X G a_x9,k_x9,PySem.W.mg_of X G a_x4,k_x4,PySem.W.mg_of X G a_x28,k_x28,PySem.W.mg_of X G a_x12,k_x12,PySem.W.mg_of X G a_x5,k_x5,PySem.W.mg_of X G a_x20,k_x20,PySem.W.mg_of X G a_x21,k_x21,PySem.W.mg_of X G a_x17,k_x17,PySem.W.mg_of X G a_x2,k_x2,PySem.W.mg_of X G a_x26,k_x26,PySem.W.mg_of X G a_x0,k_x0,PySem.W.mg_of X G a_x29,k_x29,PySem.W.mg_of X G a_x30,k_x30,PySem.W.mg_of X G a_x13,k_x13,PySem.W.mg_of X G a_x18,k_x18,PySem.W.mg_of X G a_x6,k_x6,PySem.W.mg_of X G a_x14,k_x14,PySem.W.mg_of X G a_x10,k_x10,PySem.W.mg_of X G a_x3,k_x3,PySem.W.mg_of X G a_x7,k_x7,PySem.W.mg_of X G a_x22,k_x22,PySem.W.mg_of X G a_x23,k_x23,PySem.W.mg_of X G a_x24,k_x24,PySem.W.mg_of X G a_x15,k_x15,PySem.W.mg_of X G a_x25,k_x25,PySem.W.mg_of X G a_x11,k_x11,PySem.W.mg_of X G a_x27,k_x27,PySem.W.mg_of X G a_law,k_law,PySem.W.mg_none_of X G z_len,PySem.W.mg_none_of X G z_max,PySem.W.mg_none_of X G z_tuple,PySem.W.mg_none_of X G z_range,PySem.W.mg_none_of X G z_min,PySem.W.mg_none_of X G z_sorted,PySem.W.mg_none_of X G z_enumerate,PySem.W.mg_none_of X G z_isinstance,PySem.W.mg_none_of X G z_list,PySem.W.mg_none_of X G z_int,⟨_,PySem.W.mg_of X G y_MOST_STANDINGS⟩⟩
 have F_x16:=Bi (st:=Nd) l_x16 c_x16 k_x16
 have F_x19:=Bi (st:=N6) l_x19 c_x19 k_x19
 have F_x8:=Bi (st:=Uu) l_x8 c_x8 k_x8
 have F_x1:=Bi (st:=Vt) l_x1 c_x1 k_x1
 have F_x9:=Bi (st:=Rn) l_x9 c_x9 k_x9
 have F_x4:=Bi (st:=W3) l_x4 c_x4 k_x4
 have F_x28:Zb K "after" "after" Fo f_x28 _:=⟨⟨_,_,_,_,_,_,_,_,_,_,rfl,l_x28,c_x28⟩⟩
 have F_x12:=Bi (st:=No) l_x12 c_x12 k_x12
 have F_x5:=Bi (st:=Va) l_x5 c_x5 k_x5
 have F_x20:=Bi (st:=My) l_x20 c_x20 k_x20
 have F_x21:=Bi (st:=Lv) l_x21 c_x21 k_x21
 have F_x17:=Bi (st:=Ku) l_x17 c_x17 k_x17
 have F_x2:=Bi (st:=Vp) l_x2 c_x2 k_x2
 have F_x26:=Bi (st:=O3) l_x26 c_x26 k_x26
 have F_x0:=Bi (st:=V9) l_x0 c_x0 k_x0
 have F_x29:=Bi (st:=Ko) l_x29 c_x29 k_x29
 have F_x30:=Bi (st:=O5) l_x30 c_x30 k_x30
 have F_x13:=Bi (st:=Ls) l_x13 c_x13 k_x13
 have F_x18:=Bi (st:=Kw) l_x18 c_x18 k_x18
 have F_x6:=Bi (st:=Ut) l_x6 c_x6 k_x6
 have F_x14:=Bi (st:=Nv) l_x14 c_x14 k_x14
 have F_x10:=Bi (st:=Kz) l_x10 c_x10 k_x10
 have F_x3:=Bi (st:=Px) l_x3 c_x3 k_x3
 have F_x7:=Bi (st:=Sl) l_x7 c_x7 k_x7
 have F_x22:=Bi (st:=Mw) l_x22 c_x22 k_x22
 have F_x23:=Bi (st:=N2) l_x23 c_x23 k_x23
 have F_x24:=Bi (st:=Gw) l_x24 c_x24 k_x24
 have F_x15:=Bi (st:=Nf) l_x15 c_x15 k_x15
 have F_x25:=Bi (st:=L3) l_x25 c_x25 k_x25
 have F_x11:=Bi (st:=Mz) l_x11 c_x11 k_x11
 have F_x27:=Bi (st:=Kc) l_x27 c_x27 k_x27
 have F_law:=Bi (st:=Im) l_law c_law k_law
 have B_x16:=F_x16.binds (ps:=["hall"]) fun _ _ _ _ _ _ us hl=>by obtain ⟨_,rfl⟩ := Je hl; rfl
 have B_x19:=F_x19.binds (ps:=["hall","standing"]) fun _ _ _ _ _ _ us hl=>by obtain ⟨_,_,rfl⟩ := S4 hl; rfl
 have B_x8:=F_x8.binds (ps:=["hall","who"]) fun _ _ _ _ _ _ us hl=>by obtain ⟨_,_,rfl⟩ := S4 hl; rfl
 have B_x1:=F_x1.binds (ps:=["hall","standing","who","lost"]) fun _ _ _ _ _ _ us hl=>by obtain ⟨_,_,_,_,rfl⟩ := Us hl; rfl
 have B_x9:=F_x9.binds (ps:=["hall","standing","who","lost"]) fun _ _ _ _ _ _ us hl=>by obtain ⟨_,_,_,_,rfl⟩ := Us hl; rfl
 have B_x4:=F_x4.binds (ps:=["hall","standing","lost"]) fun _ _ _ _ _ _ us hl=>by obtain ⟨_,_,_,rfl⟩ := P9 hl; rfl
 have B_x28:Az K (PySem.W.fnOf "after" "after" (Ap Fo) (Am Fo) (A8 Fo) (.ref dt_x28) kV_x28 dc_x28 pm_x28 an_x28 cd_x28 ct_x28) ["hall","standing","who","lost"] []:=fun s us hK hl=>by
  have h4:us.length = 4:=by simpa using hl
  obtain ⟨_,_,_,_,rfl⟩ := Us h4
  exact BindsTo.of_defaults rfl (hK _ _ t_x28) rfl rfl rfl
 have B_after_d:Az K (PySem.W.fnOf "after" "after" (Ap Fo) (Am Fo) (A8 Fo) (.ref dt_x28) kV_x28 dc_x28 pm_x28 an_x28 cd_x28 ct_x28) ["hall","standing","who","lost"] [Value.bool false]:=fun s us hK hl=>by
  have h4:us.length = 3:=by simpa using hl
  obtain ⟨_,_,_,rfl⟩ := P9 h4
  exact BindsTo.of_defaults rfl (hK _ _ t_x28) rfl rfl rfl
 have B_x12:=F_x12.binds (ps:=["hall","standing","who"]) fun _ _ _ _ _ _ us hl=>by obtain ⟨_,_,_,rfl⟩ := P9 hl; rfl
 have B_x5:=F_x5.binds (ps:=["hall"]) fun _ _ _ _ _ _ us hl=>by obtain ⟨_,rfl⟩ := Je hl; rfl
 have B_x20:=F_x20.binds (ps:=["hall"]) fun _ _ _ _ _ _ us hl=>by obtain ⟨_,rfl⟩ := Je hl; rfl
 have B_x21:=F_x21.binds (ps:=["waits"]) fun _ _ _ _ _ _ us hl=>by obtain ⟨_,rfl⟩ := Je hl; rfl
 have B_x17:=F_x17.binds (ps:=["hall"]) fun _ _ _ _ _ _ us hl=>by obtain ⟨_,rfl⟩ := Je hl; rfl
 have B_x2:=F_x2.binds (ps:=["hall"]) fun _ _ _ _ _ _ us hl=>by obtain ⟨_,rfl⟩ := Je hl; rfl
 have B_x26:=F_x26.binds (ps:=["pending"]) fun _ _ _ _ _ _ us hl=>by obtain ⟨_,rfl⟩ := Je hl; rfl
 have B_x0:=F_x0.binds (ps:=["pending","ways","ranked"]) fun _ _ _ _ _ _ us hl=>by obtain ⟨_,_,_,rfl⟩ := P9 hl; rfl
 have B_x29:=F_x29.binds (ps:=["hall"]) fun _ _ _ _ _ _ us hl=>by obtain ⟨_,rfl⟩ := Je hl; rfl
 have B_x30:=F_x30.binds (ps:=["table","behind"]) fun _ _ _ _ _ _ us hl=>by obtain ⟨_,_,rfl⟩ := S4 hl; rfl
 have B_x13:=F_x13.binds (ps:=["hall","table","standing","who"]) fun _ _ _ _ _ _ us hl=>by obtain ⟨_,_,_,_,rfl⟩ := Us hl; rfl
 have B_x18:=F_x18.binds (ps:=["hall","table","standing"]) fun _ _ _ _ _ _ us hl=>by obtain ⟨_,_,_,rfl⟩ := P9 hl; rfl
 have B_x6:=F_x6.binds (ps:=["hall","table","standing","who"]) fun _ _ _ _ _ _ us hl=>by obtain ⟨_,_,_,_,rfl⟩ := Us hl; rfl
 have B_x14:=F_x14.binds (ps:=["hall"]) fun _ _ _ _ _ _ us hl=>by obtain ⟨_,rfl⟩ := Je hl; rfl
 have B_x10:=F_x10.binds (ps:=["hall","table","standing"]) fun _ _ _ _ _ _ us hl=>by obtain ⟨_,_,_,rfl⟩ := P9 hl; rfl
 have B_x3:=F_x3.binds (ps:=["hall","standing","answers"]) fun _ _ _ _ _ _ us hl=>by obtain ⟨_,_,_,rfl⟩ := P9 hl; rfl
 have B_x7:=F_x7.binds (ps:=["hall"]) fun _ _ _ _ _ _ us hl=>by obtain ⟨_,rfl⟩ := Je hl; rfl
 have B_x22:=F_x22.binds (ps:=["script","k"]) fun _ _ _ _ _ _ us hl=>by obtain ⟨_,_,rfl⟩ := S4 hl; rfl
 have B_x23:=F_x23.binds (ps:=["cells"]) fun _ _ _ _ _ _ us hl=>by obtain ⟨_,rfl⟩ := Je hl; rfl
 have B_x24:=F_x24.binds (ps:=["script"]) fun _ _ _ _ _ _ us hl=>by obtain ⟨_,rfl⟩ := Je hl; rfl
 have B_x15:=F_x15.binds (ps:=["hall","standing","who","lost"]) fun _ _ _ _ _ _ us hl=>by obtain ⟨_,_,_,_,rfl⟩ := Us hl; rfl
 have B_x25:=F_x25.binds (ps:=["hall","entry"]) fun _ _ _ _ _ _ us hl=>by obtain ⟨_,_,rfl⟩ := S4 hl; rfl
 have B_x11:=F_x11.binds (ps:=["hall","entries"]) fun _ _ _ _ _ _ us hl=>by obtain ⟨_,_,rfl⟩ := S4 hl; rfl
 have B_x27:=F_x27.binds (ps:=["hall","table","entry"]) fun _ _ _ _ _ _ us hl=>by obtain ⟨_,_,_,rfl⟩ := P9 hl; rfl
 refine ⟨PySem.W.fnOf "law" "law" (Ap Im) (Am Im) (A8 Im) .none kV_law dc_law pm_law an_law cd_law ct_law,fun s v=>.of_eq rfl,fun base _ _=>?_⟩
 have G_x16:Aj l.prog w K mg base Bp 1 _ _ ["hall"] (Oo K):=d3 T F_x16
 have G_x19:Aj l.prog w K mg base Bp 1 _ _ ["hall","standing"] (Lq K):=dy T F_x19
 have G_x8:Aj l.prog w K mg base Bp 1 _ _ ["hall","who"] (Wi K):=ij T F_x8
 have G_x1:Aj l.prog w K mg base Bp 2 _ _ ["hall","standing","who","lost"] (X1 K):=jt T F_x1 G_x8 B_x8 G_x19 B_x19
 have G_x9:Aj l.prog w K mg base Bp 3 _ _ ["hall","standing","who","lost"] (Ye K):=kj T F_x9 G_x1 B_x1
 have G_x4:Aj l.prog w K mg base Bp 1 _ _ ["hall","standing","lost"] (Wd K):=ki T F_x4
 have G_x28:Aj l.prog w K mg base Bp 4 _ _ ["hall","standing","who","lost"] (L4 K):=dq T F_x28 G_x9 B_x9 G_x4 B_x4
 have G_x12:Aj l.prog w K mg base Bp 5 _ _ ["hall","standing","who"] (Lm K):=f8 T F_x12 G_x19 B_x19 G_x28 B_x28 B_after_d
 have G_x5:Aj l.prog w K mg base Bp 1 _ _ ["hall"] (Uh K):=ie T F_x5
 have G_x20:Aj l.prog w K mg base Bp 2 _ _ ["hall"] (Rv K):=fz T F_x20 G_x5 B_x5
 have G_x21:Aj l.prog w K mg base Bp 1 _ _ ["waits"] (Tg K):=de T F_x21
 have G_x17:Aj l.prog w K mg base Bp 3 _ _ ["hall"] (Si K):=b7 T F_x17 G_x21 B_x21 G_x20 B_x20 G_x5 B_x5
 have G_x2:Aj l.prog w K mg base Bp 6 _ _ ["hall"] (Wz K):=iu T F_x2 G_x17 B_x17 G_x12 B_x12
 have G_x26:Aj l.prog w K mg base Bp 1 _ _ ["pending"] (Rk K):=cz T F_x26
 have G_x0:Aj l.prog w K mg base Bp 1 _ _ ["pending","ways","ranked"] (Xm K):=j0 T F_x0
 have G_x29:Aj l.prog w K mg base Bp 7 _ _ ["hall"] (Ln K):=dk T F_x29 G_x2 B_x2 G_x26 B_x26 G_x0 B_x0
 have G_x30:Aj l.prog w K mg base Bp 1 _ _ ["table","behind"] (P7 K):=dr T F_x30
 have G_x13:Aj l.prog w K mg base Bp 6 _ _ ["hall","table","standing","who"] (Td K):=bn T F_x13 G_x30 B_x30 G_x12 B_x12
 have G_x18:Aj l.prog w K mg base Bp 7 _ _ ["hall","table","standing"] (Od K):=bq T F_x18 G_x13 B_x13
 have G_x6:Aj l.prog w K mg base Bp 5 _ _ ["hall","table","standing","who"] (Tq K):=jy T F_x6 G_x30 B_x30 G_x28 B_x28 B_after_d G_x19 B_x19
 have G_x14:Aj l.prog w K mg base Bp 8 _ _ ["hall"] (Ro K):=dm T F_x14 G_x29 B_x29 G_x16 B_x16 G_x18 B_x18 G_x12 B_x12
 have G_x10:Aj l.prog w K mg base Bp 6 _ _ ["hall","table","standing"] (Rs K):=dw T F_x10 G_x6 B_x6
 have G_x3:Aj l.prog w K mg base Bp 5 _ _ ["hall","standing","answers"] (Ya K):=ir T F_x3 G_x28 B_x28 B_after_d
 have G_x7:Aj l.prog w K mg base Bp 8 _ _ ["hall"] (We K):=ix T F_x7 G_x29 B_x29 G_x16 B_x16 G_x10 B_x10 G_x3 B_x3
 have G_x22:Aj l.prog w K mg base Bp 1 _ _ ["script","k"] (Sm K):=ci T F_x22
 have G_x23:Aj l.prog w K mg base Bp 1 _ _ ["cells"] (So K):=f9 T F_x23
 have G_x24:Aj l.prog w K mg base Bp 2 _ _ ["script"] (Rx K):=bv T F_x24 G_x22 B_x22 G_x23 B_x23
 have G_x15:Aj l.prog w K mg base Bp 1 _ _ ["hall","standing","who","lost"] (Tc K):=g8 T F_x15
 have G_x25:Aj l.prog w K mg base Bp 2 _ _ ["hall","entry"] (Re K):=fg T F_x25 G_x15 B_x15
 have G_x11:Aj l.prog w K mg base Bp 3 _ _ ["hall","entries"] (S1 K):=c6 T F_x11 G_x25 B_x25
 have G_x27:Aj l.prog w K mg base Bp 8 _ _ ["hall","table","entry"] (Tf K):=ee T F_x27 G_x6 B_x6 G_x18 B_x18
 exact gj T F_law G_x24 B_x24 G_x29 B_x29 G_x14 B_x14 G_x11 B_x11 G_x7 B_x7 G_x27 B_x27
theorem walk {l : PySem.W.OpenLaw} {q : Program} {loose : List Str} {XP : (Str -> Option Value) -> Heap -> Prop} {YP : World -> Heap -> Prop} {d : DefRec} {K : Params -> PySem.W.Frag} (hn : l.most = some 63) (hdf : d.params.defaults = [])
  (hY:∀ (w:World) (h:Heap),YP w h -> (K w.params).In h)
  (F:∀ (w:World) (mg:Str -> Option Value) (fa:Addr) (h:Heap),(K w.params).In h -> h.Ns mainGlobals mg -> mg d.name = some (.ref fa) ->
   ∃ fd:FuncData,(∀ (s:Shared) (u:Value),BindsTo s fd ⟨[u],[]⟩ [("script",u)]) /\ ∀ base:Heap,(K w.params).In base -> base.Ns mainGlobals mg -> Aj l.prog w (K w.params) mg base Bp 9 fa fd ["script"] (Ov (K w.params))) :
  PySem.W.WalkO q loose XP YP l.row.toRowW d [] (fun f vs=>PySem.call f vs) :=
 L2.walk_ofB (n:=63) (k:=9) (x := "script") (CX:=fun _=>Bp) (sp:=fun w=>Ov (K w.params)) hn (by decide) hdf ⟨rfl,by decide,by decide⟩ hY F (fun _ _ a ns hl hb _ hS=>⟨a,ns,rfl,hS,hl,hb,fun _=>rfl⟩) fun _ _ _ _ _ z=>z
end Law
theorem PySem.W.Fast.tw13493775385577385651:True:=trivial
theorem PySem.W.Fast.tw2270704059508509492:True:=trivial
theorem PySem.W.Fast.tw6081135498944663423:True:=trivial
theorem PySem.W.Fast.tw8360161983242649449:True:=trivial
theorem PySem.W.Fast.tw16168808822046409207:True:=trivial
theorem PySem.W.Fast.tw16240181376455590623:True:=trivial
theorem PySem.W.Fast.tw799764136088582975:True:=trivial
theorem PySem.W.Fast.tw3329873772538734649:True:=trivial
theorem PySem.W.Fast.tw13428989780232652295:True:=trivial
theorem PySem.W.Fast.tw9630194705305364715:True:=trivial
theorem PySem.W.Fast.tw4880657546600744235:True:=trivial
theorem PySem.W.Fast.tw9540724668672314044:True:=trivial
theorem PySem.W.Fast.tw10555545308998824063:True:=trivial
theorem PySem.W.Fast.tw5999629356961516619:True:=trivial
theorem PySem.W.Fast.tw17406929449927216004:True:=trivial
theorem PySem.W.Fast.tw6241815178583770990:True:=trivial
theorem PySem.W.Fast.tw4412226789996747893:True:=trivial
theorem PySem.W.Fast.tw1505209104432242698:True:=trivial
theorem PySem.W.Fast.tw16444812836768388968:True:=trivial
theorem PySem.W.Fast.tw5349964223088767165:True:=trivial
theorem PySem.W.Fast.tw12607122904578593153:True:=trivial
theorem PySem.W.Fast.tw12962345588415951839:True:=trivial
theorem PySem.W.Fast.tw14770317922479649398:True:=trivial
theorem PySem.W.Fast.tw12957970673286227818:True:=trivial
theorem PySem.W.Fast.tw5907856029611433400:True:=trivial
theorem PySem.W.Fast.tw12154672529553044019:True:=trivial
theorem PySem.W.Fast.tw18297487170020069311:True:=trivial
theorem PySem.W.Fast.tw16614390950440535398:True:=trivial
theorem PySem.W.Fast.tw13245747517105147032:True:=trivial
theorem PySem.W.Fast.tw16004450953969973631:True:=trivial
theorem PySem.W.Fast.tw12021437832510037457:True:=trivial
theorem PySem.W.Fast.tw11298977755216027369:True:=trivial
theorem PySem.W.Fast.tw17600736406770394456:True:=trivial
theorem PySem.W.Fast.tw2149477594357216238:True:=trivial
theorem PySem.W.Fast.tw299355256269723498:True:=trivial
theorem PySem.W.Fast.tw13820884377034451786:True:=trivial
theorem PySem.W.Fast.tw8995525047892263220:True:=trivial
theorem PySem.W.Fast.tw1191878046958735879:True:=trivial
theorem PySem.W.Fast.tw17559525100048454809:True:=trivial
theorem PySem.W.Fast.tw1097946608815181767:True:=trivial
theorem PySem.W.Fast.tw18038774596887207424:True:=trivial
theorem PySem.W.Fast.tw16701032567530090917:True:=trivial
theorem PySem.W.Fast.tw9130943108194828486:True:=trivial
theorem PySem.W.Fast.tw10028682563667758660:True:=trivial
theorem PySem.W.Fast.tw8868994845191032438:True:=trivial
theorem PySem.W.Fast.tw7512994182992540501:True:=trivial
theorem PySem.W.Fast.tw6389962749522540786:True:=trivial
theorem PySem.W.Fast.tw14546984998039789951:True:=trivial
theorem PySem.W.Fast.tw14076913820096702355:True:=trivial
theorem PySem.W.Fast.tw15911778361183509235:True:=trivial
theorem PySem.W.Fast.tw14044273090840575685:True:=trivial
theorem PySem.W.Fast.tw10258583919761714582:True:=trivial
theorem PySem.W.Fast.tw6235716471392077967:True:=trivial
theorem PySem.W.Fast.tw11725351978187732346:True:=trivial
theorem PySem.W.Fast.tw4795083367601486195:True:=trivial
theorem PySem.W.Fast.tw14032260979905602510:True:=trivial
theorem PySem.W.Fast.tw18436631504757936554:True:=trivial
theorem PySem.W.Fast.tw2431884310752119463:True:=trivial
theorem PySem.W.Fast.tw5259485807090096494:True:=trivial
theorem PySem.W.Fast.tw3049738924221768560:True:=trivial
theorem PySem.W.Fast.tw5368750400194431603:True:=trivial
theorem PySem.W.Fast.tw6468728473075249481:True:=trivial
theorem PySem.W.Fast.tw7752943366553800407:True:=trivial
theorem PySem.W.Fast.tw9695814106669881349:True:=trivial
theorem PySem.W.Fast.tw15031534483827524473:True:=trivial
theorem PySem.W.Fast.tw18132454332356067383:True:=trivial
theorem PySem.W.Fast.tw13937240762397973399:True:=trivial
theorem PySem.W.Fast.tw1564364140992719056:True:=trivial
theorem PySem.W.Fast.tw12033116124034379545:True:=trivial
theorem PySem.W.Fast.tw16521531344887477121:True:=trivial
theorem PySem.W.Fast.tw14372522642142499770:True:=trivial
theorem PySem.W.Fast.tw13070714107343140166:True:=trivial
theorem PySem.W.Fast.tw4360946015445246938:True:=trivial
theorem PySem.W.Fast.tw17353587249206108798:True:=trivial
theorem PySem.W.Fast.tw7372136345376593958:True:=trivial
theorem PySem.W.Fast.tw11729919361836637818:True:=trivial
theorem PySem.W.Fast.tw11945866552378488514:True:=trivial
theorem PySem.W.Fast.tw9781068186092107815:True:=trivial
open PySem PySem.W PyProof.Rows
set_option maxRecDepth 100000 in
set_option maxHeartbeats 0 in
theorem PySem.Challenge.cw_roundcall_k34_all_that_is_come_to_holds : PySem.Challenge.rw_roundcall_k34_all_that_is_come_to.Holds := by
 w_on; o_law; k_head; (case hw=>w_witness2)
 k_fill
 refine Law.walk (l:=PySem.Challenge.rw_roundcall_k34_all_that_is_come_to) rfl rfl (fun w h Y=>PySem.W.kIn_of Y) ?F
 case F =>
  intro w mg fa h KX G hmg
  refine' Law.all_mk KX G hmg ?a_x16 ?l_x16 ?c_x16 ?k_x16 ?a_x19 ?l_x19 ?c_x19 ?k_x19 ?a_x8 ?l_x8 ?c_x8 ?k_x8 ?a_x1 ?l_x1 ?c_x1 ?k_x1 ?a_x9 ?l_x9 ?c_x9 ?k_x9 ?a_x4 ?l_x4 ?c_x4 ?k_x4 ?a_x28 ?l_x28 ?c_x28 ?k_x28 ?t_x28 ?a_x12 ?l_x12 ?c_x12 ?k_x12 ?a_x5 ?l_x5 ?c_x5 ?k_x5 ?a_x20 ?l_x20 ?c_x20 ?k_x20 ?a_x21 ?l_x21 ?c_x21 ?k_x21 ?a_x17 ?l_x17 ?c_x17 ?k_x17 ?a_x2 ?l_x2 ?c_x2 ?k_x2 ?a_x26 ?l_x26 ?c_x26 ?k_x26 ?a_x0 ?l_x0 ?c_x0 ?k_x0 ?a_x29 ?l_x29 ?c_x29 ?k_x29 ?a_x30 ?l_x30 ?c_x30 ?k_x30 ?a_x13 ?l_x13 ?c_x13 ?k_x13 ?a_x18 ?l_x18 ?c_x18 ?k_x18 ?a_x6 ?l_x6 ?c_x6 ?k_x6 ?a_x14 ?l_x14 ?c_x14 ?k_x14 ?a_x10 ?l_x10 ?c_x10 ?k_x10 ?a_x3 ?l_x3 ?c_x3 ?k_x3 ?a_x7 ?l_x7 ?c_x7 ?k_x7 ?a_x22 ?l_x22 ?c_x22 ?k_x22 ?a_x23 ?l_x23 ?c_x23 ?k_x23 ?a_x24 ?l_x24 ?c_x24 ?k_x24 ?a_x15 ?l_x15 ?c_x15 ?k_x15 ?a_x25 ?l_x25 ?c_x25 ?k_x25 ?a_x11 ?l_x11 ?c_x11 ?k_x11 ?a_x27 ?l_x27 ?c_x27 ?k_x27 ?a_law ?l_law ?c_law ?k_law ?y_MOST_STANDINGS ?z_len ?z_max ?z_tuple ?z_range ?z_min ?z_sorted ?z_enumerate ?z_isinstance ?z_list ?z_int
  (case a_x16=>k_is)
  (case l_x16=>k_is)
  (case c_x16=>k_is)
  (case k_x16=>k_is)
  (case a_x19=>k_is)
  (case l_x19=>k_is)
  (case c_x19=>k_is)
  (case k_x19=>k_is)
  (case a_x8=>k_is)
  (case l_x8=>k_is)
  (case c_x8=>k_is)
  (case k_x8=>k_is)
  (case a_x1=>k_is)
  (case l_x1=>k_is)
  (case c_x1=>k_is)
  (case k_x1=>k_is)
  (case a_x9=>k_is)
  (case l_x9=>k_is)
  (case c_x9=>k_is)
  (case k_x9=>k_is)
  (case a_x4=>k_is)
  (case l_x4=>k_is)
  (case c_x4=>k_is)
  (case k_x4=>k_is)
  (case a_x28=>k_is)
  (case l_x28=>k_is)
  (case c_x28=>k_is)
  (case k_x28=>k_is)
  (case t_x28=>k_is)
  (case a_x12=>k_is)
  (case l_x12=>k_is)
  (case c_x12=>k_is)
  (case k_x12=>k_is)
  (case a_x5=>k_is)
  (case l_x5=>k_is)
  (case c_x5=>k_is)
  (case k_x5=>k_is)
  (case a_x20=>k_is)
  (case l_x20=>k_is)
  (case c_x20=>k_is)
  (case k_x20=>k_is)
  (case a_x21=>k_is)
  (case l_x21=>k_is)
  (case c_x21=>k_is)
  (case k_x21=>k_is)
  (case a_x17=>k_is)
  (case l_x17=>k_is)
  (case c_x17=>k_is)
  (case k_x17=>k_is)
  (case a_x2=>k_is)
  (case l_x2=>k_is)
  (case c_x2=>k_is)
  (case k_x2=>k_is)
  (case a_x26=>k_is)
  (case l_x26=>k_is)
  (case c_x26=>k_is)
  (case k_x26=>k_is)
  (case a_x0=>k_is)
  (case l_x0=>k_is)
  (case c_x0=>k_is)
  (case k_x0=>k_is)
  (case a_x29=>k_is)
  (case l_x29=>k_is)
  (case c_x29=>k_is)
  (case k_x29=>k_is)
  (case a_x30=>k_is)
  (case l_x30=>k_is)
  (case c_x30=>k_is)
  (case k_x30=>k_is)
  (case a_x13=>k_is)
  (case l_x13=>k_is)
  (case c_x13=>k_is)
  (case k_x13=>k_is)
  (case a_x18=>k_is)
  (case l_x18=>k_is)
  (case c_x18=>k_is)
  (case k_x18=>k_is)
  (case a_x6=>k_is)
  (case l_x6=>k_is)
  (case c_x6=>k_is)
  (case k_x6=>k_is)
  (case a_x14=>k_is)
  (case l_x14=>k_is)
  (case c_x14=>k_is)
  (case k_x14=>k_is)
  (case a_x10=>k_is)
  (case l_x10=>k_is)
  (case c_x10=>k_is)
  (case k_x10=>k_is)
  (case a_x3=>k_is)
  (case l_x3=>k_is)
  (case c_x3=>k_is)
  (case k_x3=>k_is)
  (case a_x7=>k_is)
  (case l_x7=>k_is)
  (case c_x7=>k_is)
  (case k_x7=>k_is)
  (case a_x22=>k_is)
  (case l_x22=>k_is)
  (case c_x22=>k_is)
  (case k_x22=>k_is)
  (case a_x23=>k_is)
  (case l_x23=>k_is)
  (case c_x23=>k_is)
  (case k_x23=>k_is)
  (case a_x24=>k_is)
  (case l_x24=>k_is)
  (case c_x24=>k_is)
  (case k_x24=>k_is)
  (case a_x15=>k_is)
  (case l_x15=>k_is)
  (case c_x15=>k_is)
  (case k_x15=>k_is)
  (case a_x25=>k_is)
  (case l_x25=>k_is)
  (case c_x25=>k_is)
  (case k_x25=>k_is)
  (case a_x11=>k_is)
  (case l_x11=>k_is)
  (case c_x11=>k_is)
  (case k_x11=>k_is)
  (case a_x27=>k_is)
  (case l_x27=>k_is)
  (case c_x27=>k_is)
  (case k_x27=>k_is)
  (case a_law=>k_is)
  (case l_law=>k_is)
  (case c_law=>k_is)
  (case k_law=>k_is)
  (case y_MOST_STANDINGS=>k_is)
  (case z_len=>k_is)
  (case z_max=>k_is)
  (case z_tuple=>k_is)
  (case z_range=>k_is)
  (case z_min=>k_is)
  (case z_sorted=>k_is)
  (case z_enumerate=>k_is)
  (case z_isinstance=>k_is)
  (case z_list=>k_is)
  (case z_int=>k_is)
