import PyProof.Rows.All
import Wide.All
import OpenK.AllK
import Wide.FinOn
import Lean
import PyProof.EqAt
import PyProof.EqKinds
import PyProof.TupleCall
import PySem.Challenge.RW_roundcall_k88_joining_refused
/-! THE HAND LAYER, for ints, bools, texts, own classes, LISTS and tuples (index, slices, in, append, pop ..), calls, loops. Paste it whole ahead of your own text; what your proof does not reach may be deleted. -/
set_option Elab.async false
set_option linter.all false
set_option maxRecDepth 100000
set_option maxHeartbeats 4000000
set_option bootstrap.genMatcherCode false
namespace L2
local macro_rules | `(tactic| omega) => `(tactic| lia)
open PySem PySem.Spec PyProof.Rows

/-- a key: an int or a str -/
noncomputable abbrev Key := Sum Int Str
noncomputable def keyIs : Key → Value → Bool
  | .inl k, v => Value.isInt k v
  | .inr x, v => Value.isStrOf x v
noncomputable def keyH (w : World) : Key → Int
  | .inl k => hashInt k
  | .inr x => hashStr w x
theorem keyIs_shape : ∀ {k : Key} {v : Value}, keyIs k v = true → (∃ i t, k = Sum.inl i ∧ v = Value.int i t) ∨ (∃ x t, k = Sum.inr x ∧ v = Value.str x t)
  | .inl i, v, h => by
    obtain ⟨t, e⟩ := Value.isInt_shape (k := i) (v := v) h
    exact .inl ⟨i, t, rfl, e⟩
  | .inr x, v, h => by
    obtain ⟨t, e⟩ := Value.isStrOf_shape (x := x) (v := v) h
    exact .inr ⟨x, t, rfl, e⟩
theorem keyIs_int (i : Int) (t : Tok) : keyIs (.inl i) (.int i t) = true := by simp [keyIs, Value.isInt]
theorem keyIs_str (x : Str) (t : Tok) : keyIs (.inr x) (.str x t) = true := by simp [keyIs, Value.isStrOf]
theorem key_ll (a b : Int) : decide ((Sum.inl a : Key) = Sum.inl b) = (a == b) := by
  by_cases e : a = b
  · subst e; simp
  · have h : ¬ (Sum.inl a : Key) = Sum.inl b := fun q => e (Sum.inl.inj q)
    rw [decide_eq_false h]
    exact (beq_eq_false_iff_ne.mpr e).symm
theorem key_rr (a b : Str) : decide ((Sum.inr a : Key) = Sum.inr b) = decide (a = b) := by
  by_cases e : a = b
  · subst e; simp
  · have h : ¬ (Sum.inr a : Key) = Sum.inr b := fun q => e (Sum.inr.inj q)
    rw [decide_eq_false h, decide_eq_false e]
theorem key_lr (a : Int) (b : Str) : decide ((Sum.inl a : Key) = Sum.inr b) = false := decide_eq_false (fun q => nomatch q)
theorem key_rl (a : Str) (b : Int) : decide ((Sum.inr a : Key) = Sum.inl b) = false := decide_eq_false (fun q => nomatch q)

noncomputable def mixKind (prog : Program) (w : World) : PySem.KeyKind prog w Key where
  is := keyIs
  hash := keyH w
  inj := fun v a b ha hb => by
    rcases keyIs_shape ha with ⟨i, t, rfl, rfl⟩ | ⟨x, t, rfl, rfl⟩
    · rcases keyIs_shape hb with ⟨j, u, rfl, e⟩ | ⟨y, u, rfl, e⟩
      · injection e with e1 _; rw [e1]
      · exact nomatch e
    · rcases keyIs_shape hb with ⟨j, u, rfl, e⟩ | ⟨y, u, rfl, e⟩
      · exact nomatch e
      · injection e with e1 _; rw [e1]
  byValue := fun k v h => by
    rcases keyIs_shape h with ⟨i, t, rfl, rfl⟩ | ⟨x, t, rfl, rfl⟩ <;> rfl
  pyHash := fun hv h => by
    rcases keyIs_shape hv with ⟨i, t, rfl, rfl⟩ | ⟨x, t, rfl, rfl⟩
    · exact wpAny_pyHash_int h
    · exact wpAny_pyHash_str h
  eqBool := fun hu hv h => by
    rcases keyIs_shape hu with ⟨i, t, rfl, rfl⟩ | ⟨x, t, rfl, rfl⟩
    · rcases keyIs_shape hv with ⟨j, u, rfl, rfl⟩ | ⟨y, u, rfl, rfl⟩
      · rw [key_ll] at h; exact wpAny_eqBool_int h
      · rw [key_lr] at h; exact SeqAt.EqAt.int_str i t y u _ _ _ _ h
    · rcases keyIs_shape hv with ⟨j, u, rfl, rfl⟩ | ⟨y, u, rfl, rfl⟩
      · rw [key_rl] at h; exact SeqAt.EqAt.str_int x t j u _ _ _ _ h
      · rw [key_rr] at h; exact wpAny_eqBool_str h
  «strs» := fun k x t v h => by
    rcases keyIs_shape h with ⟨i, u, rfl, e⟩ | ⟨y, u, rfl, e⟩
    · exact nomatch e
    · injection e with e1 _
      subst e1
      cases v <;> rfl

theorem mixKind_int (prog : Program) (w : World) (i : Int) (t : Tok) : (mixKind prog w).is (.inl i) (.int i t) = true := keyIs_int i t
theorem mixKind_str (prog : Program) (w : World) (x : Str) (t : Tok) : (mixKind prog w).is (.inr x) (.str x t) = true := keyIs_str x t

/-- a value, without the heap -/
inductive V where
  | non | bl (b : Bool) | int (i : Int) | str (x : Str) | byt (b : Array UInt8) | flt (b : UInt64) | ref (a : Addr) | ty (n : String)
  deriving DecidableEq

noncomputable def RelV : V → Value → Prop
  | .non, u => u = Value.none
  | .bl b, u => u = Value.bool b
  | .int i, u => ∃ t, u = Value.int i t
  | .str x, u => ∃ t, u = Value.str x t
  | .byt b, u => ∃ t, u = Value.bytes b t
  | .flt b, u => ∃ t, u = Value.float b t
  | .ref a, u => u = Value.ref a
  | .ty n, u => u = Value.type n

noncomputable abbrev Vals : List V → List Value → Prop := Paired RelV
theorem Vals.length {xs : List V} {us : List Value} (r : Vals xs us) : xs.length = us.length := Paired.length r
theorem Vals.get : ∀ {xs : List V} {us : List Value} {i : Nat} {x : V}, Vals xs us → xs[i]? = some x → ∃ u, us[i]? = some u ∧ RelV x u
  | _, _, _, _, .nil, e => by simp at e
  | _, _, 0, _, .cons r _, e => by simp at e; subst e; exact ⟨_, rfl, r⟩
  | _, _, i + 1, x, .cons _ t, e => by
    obtain ⟨u, h1, h2⟩ := Vals.get (i := i) (x := x) t (by simpa using e)
    exact ⟨u, by simpa using h1, h2⟩
theorem Vals.set {x : V} {u : Value} (r : RelV x u) : ∀ {xs : List V} {us : List Value} (i : Nat), Vals xs us → Vals (xs.set i x) (us.set i u)
  | _, _, _, .nil => .nil
  | _, _, 0, .cons _ t => .cons r t
  | _, _, i + 1, .cons q t => .cons q (Vals.set r i t)
theorem Vals.append {xs ys : List V} {us ws : List Value} (h : Vals xs us) (s : Vals ys ws) : Vals (xs ++ ys) (us ++ ws) := by
  induction h with
  | nil => exact s
  | cons r t ih => exact .cons r ih
theorem Vals.take : ∀ {xs : List V} {us : List Value} (n : Nat), Vals xs us → Vals (xs.take n) (us.take n)
  | _, _, 0, _ => .nil
  | _, _, _ + 1, .nil => .nil
  | _, _, n + 1, .cons r t => .cons r (Vals.take n t)
theorem Vals.drop : ∀ {xs : List V} {us : List Value} (n : Nat), Vals xs us → Vals (xs.drop n) (us.drop n)
  | _, _, 0, r => r
  | _, _, _ + 1, .nil => .nil
  | _, _, n + 1, .cons _ t => Vals.drop n t
noncomputable def RelO : Option V → Option Value → Prop
  | some v, some u => RelV v u
  | none, none => True
  | _, _ => False
noncomputable def KV {κ : Type} : List (κ × V) → List (κ × Value) → Prop := Paired fun (p : κ × V) (q : κ × Value) => p.1 = q.1 ∧ RelV p.2 q.2

/-- a key of a dict (00_mix): an int or a text -/
noncomputable def kV : Key → V
  | .inl i => .int i
  | .inr x => .str x

section
variable {prog : Program} {w : World}
/-- a standing: a tuple of a tuple of ints and an int -/
noncomputable def IsStand (prog : Program) (w : World) (h : Heap) (k : List Int × Int) (a : Addr) : Prop :=
  ∃ o n u t, h.get? a = some o ∧ o.cls = .type "tuple" ∧ o.data = .seq #[.ref u, .int k.2 t] n ∧ IsTupleKey (intKind prog w) h k.1 u
theorem IsStand.typeIs {s : Shared} {k : List Int × Int} {a : Addr} (x : IsStand prog w s.heap k a) : s.TypeIs (.ref a) "tuple" := let ⟨o, _, _, _, ho, hc, _⟩ := x; ⟨o, ho, hc⟩
theorem IsStand.inj {h : Heap} {a : Addr} {x y : List Int × Int} (hx : IsStand prog w h x a) (hy : IsStand prog w h y a) : x = y := by
  obtain ⟨o, n, u, t, ho, _, hd, hi⟩ := hx
  obtain ⟨o', n', u', t', ho', _, hd', hi'⟩ := hy
  obtain rfl : o = o' := Option.some.inj (ho.symm.trans ho')
  rw [hd] at hd'
  injection hd' with h1 _
  simp only [Array.mk.injEq, List.cons.injEq, Value.ref.injEq, Value.int.injEq, and_true] at h1
  obtain ⟨rfl, h2, _⟩ := h1
  exact Prod.ext (hi.inj hi') h2
theorem IsStand.keeps {h h' : Heap} {k : List Int × Int} {a d : Addr} {o : Obj} {es ep} (x : IsStand prog w h k a) (ho : h.get? d = some o) (hd : o.data = .dict es ep) (hs : Heap.SameBut d h h') : IsStand prog w h' k a := by
  obtain ⟨o', n, u, t, ho', hc, hd', hi⟩ := x
  have hne : a ≠ d := by
    rintro rfl
    obtain rfl : o' = o := Option.some.inj (ho'.symm.trans ho)
    rw [hd] at hd'
    exact nomatch hd'
  exact ⟨o', n, u, t, (hs.2 a hne).trans ho', hc, hd', hi.keeps ho hd hs⟩
noncomputable def standHash (prog : Program) (w : World) (k : List Int × Int) : Int := reduceHash (Builtin.Tuple.tupleHashOf [tupleKeyHash (intKind prog w) k.1, (intKind prog w).hash k.2])
theorem stand_hash {A : Around} {E : Value → Shared → Prop} {s : Shared} {k : List Int × Int} {a : Addr} {Q : Int → Shared → Prop} (hu : A.units + 8 < cLine) (hk : IsStand prog w s.heap k a) (h : Q (standHash prog w k) { s with toks := s.toks + (k.1.length + 3) }) :
    wpAny (model prog w) A (pyHash (.ref a)) Q E s := by
  have hT := hk.typeIs
  obtain ⟨o, n, u, t, ho, _, hd, hi⟩ := hk
  unfold pyHash
  first | unfold pyHashByItsType | skip
  first | refine wpAny_bind (wpAny_cRoomFor_or (.inr (by omega)) ?_) | skip
  refine wpAny_bind (wpAny_specialOf hT F.slot_tuple_hash.lookup ?_)
  show wpAny _ _ (if (some (Value.builtin "tuple.__hash__") == some Value.none) = true then _ else _) Q E s
  rw [if_neg (by rw [beq_builtin_none]; exact Bool.false_ne_true)]
  refine wpAny_bind (wpAny_specialOf hT F.slot_tuple_hash.lookup ?_)
  show wpAny _ _ (callSpecialIfBoundUnlessNone? (.ref a) "__hash__" _ >>= _) Q E s
  refine wpAny_bind (wpAny_callSpecialIfBoundUnlessNone?_slot hT F.slot_tuple_hash (wpAny_call_entry F.slot_tuple_hash hT F.entry_tuple_hash ?_ (F.args_tuple_hash_1 _)))
  show wpAny _ _ (Builtin.Tuple.tupleItemsOf (.ref a) >>= _) _ _ s
  refine wpAny_bind (wpAny_tupleItemsOf ho hd ?_)
  refine wpAny_bind ?_
  rw [← Array.forIn_toList]
  show wpAny _ _ (forIn [Value.ref u, Value.int k.2 t] _ _) _ _ _
  rw [List.forIn_cons]
  have hin : A.in1.units < cLine := by
    first | (show A.units + 1 < cLine; omega) | (show A.units < cLine; omega) | (simp only [Around.in1]; omega)
  refine wpAny_bind (wpAny_bind (wpAny_pyHash_tuple (knd := intKind prog w) hin hi ?_))
  refine wpAny_pure ?_
  show wpAny _ _ (forIn [Value.int k.2 t] _ _) _ _ _
  rw [List.forIn_cons]
  refine wpAny_bind (wpAny_bind ((intKind prog w).pyHash (k := k.2) (by simp [intKind, Value.isInt]) ?_))
  refine wpAny_pure ?_
  show wpAny _ _ (forIn [] _ _) _ _ _
  rw [List.forIn_nil]
  refine wpAny_pure ?_
  show wpAny _ _ (retInt (Builtin.Tuple.tupleHashOf [tupleKeyHash (intKind prog w) k.1, (intKind prog w).hash k.2])) _ _ _
  refine wpAny_ret_mkInt ?_
  generalize e : Builtin.Tuple.tupleHashOf [tupleKeyHash (intKind prog w) k.1, (intKind prog w).hash k.2] = z
  show wpAny _ _ (if (decide (-(2 : Int) ^ 63 ≤ z) && decide (z < 2 ^ 63)) = true then _ else _) Q E _
  unfold standHash reduceHash at h
  rw [e] at h
  by_cases hr : (decide (-(2 : Int) ^ 63 ≤ z) && decide (z < 2 ^ 63)) = true
  · rw [if_pos hr]
    rw [if_pos hr] at h
    exact wpAny_pure (by simpa [Nat.add_assoc] using h)
  · rw [if_neg hr]
    rw [if_neg hr] at h
    exact wpAny_bind (wpAny_rule (wpAny_pure (by simpa [Nat.add_assoc] using h)))
theorem stand_eq {A : Around} {E : Value → Shared → Prop} {s : Shared} {x y : List Int × Int} {a b : Addr} {Q : Bool → Shared → Prop} (hu : A.units + 8 < cLine) (hx : IsStand prog w s.heap x a) (hy : IsStand prog w s.heap y b) (h : Q (decide (x = y)) s) :
    wpAny (model prog w) A (eqBool (.ref a) (.ref b)) Q E s := by
  unfold eqBool
  try with_reducible refine wpAny_holding ?_
  show wpAny _ _ (if (Value.ref a == Value.ref b) = true then _ else _) Q E s
  by_cases hab : (Value.ref a == Value.ref b) = true
  · rw [if_pos hab]
    have e : a = b := by have := eq_of_beq hab; injection this
    subst e
    obtain rfl := hx.inj hy
    exact wpAny_bind (wpAny_rule (wpAny_pure (by simpa using h)))
  · rw [if_neg hab]
    refine wpAny_bind (wpAny_richCompare_same_room (op := .Eq) hx.typeIs hy.typeIs F.slot_tuple_eq
      (wpAny_call_entry F.slot_tuple_eq hx.typeIs F.entry_tuple_eq ?_ (F.args_tuple_eq_2 _ _)) (by omega))
    have hTb := hy.typeIs
    obtain ⟨oa, na, ua, ta, hoa, _, hda, hia⟩ := hx
    obtain ⟨ob, nb, ub, tb, hob, _, hdb, hib⟩ := hy
    show wpAny _ _ (isInstance (.ref b) (.type "tuple") >>= _) _ _ s
    refine wpAny_bind (wpAny_isInstance hTb isSubtype_tuple_tuple ?_)
    simp only [Bool.not_true, Bool.false_eq_true, if_false]
    refine wpAny_bind (wpAny_tupleItemsOf hoa hda ?_)
    refine wpAny_bind (wpAny_tupleItemsOf hob hdb ?_)
    refine wpAny_bind ?_
    show wpAny _ _ (forIn [(Value.ref ua, Value.ref ub), (Value.int x.2 ta, Value.int y.2 tb)] _ _) _ _ _
    rw [List.forIn_cons]
    have hin : A.in1.units < cLine := by
      first | (show A.units + 1 < cLine; omega) | (show A.units < cLine; omega) | (simp only [Around.in1]; omega)
    refine wpAny_bind (wpAny_bind (wpAny_eqBool_tuple (knd := intKind prog w) hin hia hib ?_))
    by_cases h1 : x.1 = y.1
    · rw [decide_eq_true h1]
      simp only [Bool.not_true, Bool.false_eq_true, if_false]
      refine wpAny_pure ?_
      show wpAny _ _ (forIn [(Value.int x.2 ta, Value.int y.2 tb)] _ _) _ _ _
      rw [List.forIn_cons]
      refine wpAny_bind (wpAny_bind ((intKind prog w).eqBool (a := x.2) (b := y.2) (by simp [intKind, Value.isInt]) (by simp [intKind, Value.isInt]) ?_))
      by_cases h2 : x.2 = y.2
      · rw [decide_eq_true h2]
        simp only [Bool.not_true, Bool.false_eq_true, if_false]
        refine wpAny_pure ?_
        show wpAny _ _ (forIn [] _ _) _ _ _
        rw [List.forIn_nil]
        refine wpAny_pure ?_
        have e : decide (x = y) = true := decide_eq_true (Prod.ext h1 h2)
        rw [e] at h
        exact wpAny_pure ⟨_, rfl, (fun e => nomatch e), wpAny_truthy_bool h⟩
      · rw [decide_eq_false h2]
        simp only [Bool.not_false, if_true]
        have e : decide (x = y) = false := decide_eq_false fun z => h2 (by rw [z])
        rw [e] at h
        exact wpAny_bind (wpAny_pure (wpAny_pure (wpAny_pure (wpAny_pure ⟨_, rfl, (fun e => nomatch e), wpAny_truthy_bool h⟩))))
    · rw [decide_eq_false h1]
      simp only [Bool.not_false, if_true]
      have e : decide (x = y) = false := decide_eq_false fun z => h1 (by rw [z])
      rw [e] at h
      exact wpAny_bind (wpAny_pure (wpAny_pure (wpAny_pure (wpAny_pure ⟨_, rfl, (fun e => nomatch e), wpAny_truthy_bool h⟩))))
theorem quiet7 {A : Around} {E : Value → Shared → Prop} {s : Shared} {ks : List Int} {a : Addr} {Q : Bool → Shared → Prop} (hk : IsTupleKey (intKind prog w) s.heap ks a) (h : Q true s) : wpAny (model prog w) A (eqIsQuiet 7 (.ref a)) Q E s := by
  have hT := hk.typeIs
  obtain ⟨o, items, n, ho, _, hd, hi⟩ := hk
  unfold eqIsQuiet
  refine wpAny_bind (wpAny_specialOf hT F.slot_tuple_eq.lookup ?_)
  show wpAny _ _ (isInstance (.ref a) (.type "tuple") >>= _) _ _ s
  refine wpAny_bind (wpAny_isInstance hT isSubtype_tuple_tuple ?_)
  simp only [Bool.not_true, Bool.false_eq_true, if_false]
  refine wpAny_bind (wpAny_seqItems ho hd ?_)
  refine wpAny_bind ?_
  show wpAny _ _ (forIn items _ _) _ _ s
  rw [← Array.forIn_toList]
  refine wpAny_forIn_list _ (fun rest r s' => r.1 = none ∧ s' = s ∧ ∀ v ∈ rest, carriedByValue v = true) _ ?_ ?_ _ _ ⟨rfl, rfl, hi.byValue⟩
  · rintro v rest r s' ⟨hr, rfl, hall⟩
    rw [eqIsQuiet_byValue _ (hall v List.mem_cons_self)]
    refine wpAny_bind (wpAny_pure ?_)
    simp only [Bool.not_true, Bool.false_eq_true, if_false]
    exact wpAny_pure ⟨rfl, rfl, fun u hu' => hall u (List.mem_cons_of_mem _ hu')⟩
  · rintro ⟨r1, r2⟩ s' ⟨hr, rfl, _⟩
    simp only at hr
    subst hr
    exact wpAny_pure h
theorem stand_quiet {A : Around} {E : Value → Shared → Prop} {s : Shared} {k : List Int × Int} {a : Addr} {Q : Bool → Shared → Prop} (hk : IsStand prog w s.heap k a) (h : Q true s) : wpAny (model prog w) A (eqIsQuiet 8 (.ref a)) Q E s := by
  have hT := hk.typeIs
  obtain ⟨o, n, u, t, ho, _, hd, hi⟩ := hk
  unfold eqIsQuiet
  refine wpAny_bind (wpAny_specialOf hT F.slot_tuple_eq.lookup ?_)
  show wpAny _ _ (isInstance (.ref a) (.type "tuple") >>= _) _ _ s
  refine wpAny_bind (wpAny_isInstance hT isSubtype_tuple_tuple ?_)
  simp only [Bool.not_true, Bool.false_eq_true, if_false]
  refine wpAny_bind (wpAny_seqItems ho hd ?_)
  refine wpAny_bind ?_
  show wpAny _ _ (forIn #[Value.ref u, Value.int k.2 t] _ _) _ _ s
  rw [← Array.forIn_toList]
  show wpAny _ _ (forIn [Value.ref u, Value.int k.2 t] _ _) _ _ s
  rw [List.forIn_cons]
  refine wpAny_bind (wpAny_bind (quiet7 hi ?_))
  simp only [Bool.not_true, Bool.false_eq_true, if_false]
  refine wpAny_pure ?_
  show wpAny _ _ (forIn [Value.int k.2 t] _ _) _ _ s
  rw [List.forIn_cons, eqIsQuiet_byValue _ rfl]
  refine wpAny_bind (wpAny_bind (wpAny_pure ?_))
  simp only [Bool.not_true, Bool.false_eq_true, if_false]
  refine wpAny_pure ?_
  show wpAny _ _ (forIn [] _ _) _ _ s
  rw [List.forIn_nil]
  exact wpAny_pure (wpAny_pure h)
noncomputable def standKind (prog : Program) (w : World) : HeapKind prog w (List Int × Int) where
  is := IsStand prog w
  hash := standHash prog w
  draws := fun k => k.1.length + 3
  room := fun A => A.units + 8 < cLine
  inj := fun hx hy => hx.inj hy
  keeps := fun x ho hd hs => x.keeps ho hd hs
  pyHash := fun hu hk h => stand_hash hu hk h
  eqBool := fun hu hx hy h => stand_eq hu hx hy h
  quiet := fun hk h => stand_quiet hk h
end
set_option genInjectivity false in
set_option genSizeOf false in
/-- what stands at a tracked address -/
inductive HO where
  /-- a list -/
  | lst (xs : List V)
  /-- a tuple (never changes) -/
  | tup (xs : List V)
  /-- a dict whose keys are ints and texts; one whose keys are tuples of ints and texts (the empty one is both) -/
  | dK (kvs : List (Key × V)) | dT (kvs : List ((List Int × Int) × V))
  /-- a set of ints: its members, its size -/
  | set (S : Int → Bool) (n : Nat)
  /-- an instance of the class at C, its dict at dx, its attributes -/
  | ins (C dx : Addr) (fs : List (Str × V))
  /-- the dict of the instance at x -/
  | own (x : Addr)
  /-- the dict of an exception -/
  | xd (fs : List (Str × V))
  /-- a bound method, f of x -/
  | met (f x : Addr)
  /-- a range object lo, lo + 1, .. below hi -/
  | rng (lo hi : Int)
  /-- a thing that is known to the object (the script; a dict while a loop walks it): read, never written while it is so -/
  | frz (o : Obj) (u : HO)
  /-- a code object's table -/
  | tbl (ps : Array Value)
  /-- any other thing, by what is true of its one object (a def of one's own: SetO a S n := HO.ext fun h => ..) -/
  | ext (φ : Heap → Prop)

noncomputable abbrev Hp := Addr → Option HO
/-- a standing lies at b -/
noncomputable def StH (H : Hp) (b : Addr) (k : List Int × Int) : Prop := ∃ u, H b = some (.tup [.ref u, .int k.2]) ∧ H u = some (.tup (k.1.map V.int))
theorem StH.up {H H2 : Hp} {b : Addr} {k : List Int × Int} (ht : ∀ b xs, H b = some (.tup xs) → H2 b = some (.tup xs)) (h : StH H b k) : StH H2 b k := let ⟨u, a1, a2⟩ := h; ⟨u, ht _ _ a1, ht _ _ a2⟩
noncomputable def upd (H : Hp) (a : Addr) (o : HO) : Hp := fun b => if b = a then some o else H b
theorem upd_same {H : Hp} {a : Addr} {o : HO} : upd H a o a = some o := by unfold upd; rw [if_pos rfl]
theorem upd_ne {H : Hp} {a b : Addr} {o : HO} (h : b ≠ a) : upd H a o b = H b := by unfold upd; rw [if_neg h]
/-- two objects of different content stand apart -/
theorem ne_of {H : Hp} {a b : Addr} {o u : HO} (h : H a = some o) (h' : H b = some u) (d : o ≠ u) : a ≠ b := by
  intro e; subst e; rw [h] at h'; exact d (Option.some.inj h')
theorem ne_of_none {H : Hp} {a b : Addr} {o : HO} (h : H a = some o) (h' : H b = none) : a ≠ b := by
  intro e; subst e; rw [h] at h'; cases h'

section
variable (P : Program) (w : World)
noncomputable def ObjOk (H : Hp) (h : Heap) (a : Addr) : HO → Prop
  | .lst xs => xs.length ≤ sizeLine ∧ ∃ (its : List Value) (n : Nat), Vals xs its ∧ h.get? a = some { cls := .type "list", data := .seq its.toArray n }
  | .tup xs => (xs.length ≤ sizeLine ∧ ∃ o, h.get? a = some o ∧ o.dict = none) ∧ ∃ its : List Value, Vals xs its ∧ IsTup h a its.toArray
  | .dK kvs => kvs.length ≤ sizeLine ∧ (a == sysModules) = false ∧ ∃ vs, KV kvs vs ∧ h.DictOf (mixKind P w) a vs
  | .dT kvs => kvs.length ≤ sizeLine ∧ (a == sysModules) = false ∧ ∃ xs : List ((List Int × Int) × Addr × Value),
      Paired (fun (p : (List Int × Int) × V) (q : (List Int × Int) × Addr × Value) => p.1 = q.1 ∧ StH H q.2.1 p.1 ∧ RelV p.2 q.2.2) kvs xs ∧
      ∃ o es ep, h.get? a = some o ∧ o.ExactDict ∧ o.data = .dict es ep ∧ es.toList = xs.map (entryOfKey (standKind P w)) ∧ (xs.map (·.1)).Nodup
  | .set S n => h.SetOf (intKind P w) a S n
  | .ins C dx fs => H dx = some (.own a) ∧ fs.length ≤ 1000 ∧ dx ≠ a ∧ h.get? a = some (PySem.W.instObj C dx) ∧
      ∃ mA, h.Ns1 dx mA ∧ (∀ f, RelO (fs.lookup f) (mA f)) ∧ PySem.Within mA (fs.map (·.1))
  | .own _ => ∃ o, h.get? a = some o
  | .xd fs => ∃ mA, h.Ns1 a mA ∧ ∀ f, RelO (fs.lookup f) (mA f)
  | .rng lo hi => ∃ t u v, h.get? a = some { cls := .type "range", data := .fields #[.int lo t, .int hi u, .int 1 v] }
  | .frz o u => h.get? a = some o ∧ ObjOk H h a u
  | .tbl ps => h.get? a = some { cls := .none, data := .fields ps }
  | .met f x => h.get? a = some (PySem.W.methodObj (.ref f) (.ref x))
  | .ext φ => φ h ∧ (∃ o, h.get? a = some o) ∧ ∀ h1 h2 : Heap, φ h1 → (∀ o, h1.get? a = some o → h2.get? a = some o) → φ h2
/-- the abstract heap is held -/
noncomputable def HOk (H : Hp) (h : Heap) : Prop := ∀ a o, H a = some o → ObjOk P w H h a o
end

section
variable {P : Program} {w : World} {H H' : Hp} {h h' : Heap} {a : Addr} {o : HO}
theorem ObjOk.lt (x : ObjOk P w H h a o) : a < h.objs.size := by
  cases o with
  | lst xs => obtain ⟨_, _, _, _, e⟩ := x; exact Heap.lt_size e
  | tup xs => obtain ⟨_, _, _, p⟩ := x; exact p.lt
  | dK kvs => obtain ⟨_, _, _, _, o, _, _, e, _⟩ := x; exact Heap.lt_size e
  | dT kvs => obtain ⟨_, _, _, _, o, _, _, e, _⟩ := x; exact Heap.lt_size e
  | set S n => obtain ⟨o, _, _, _, e, _⟩ := x; exact Heap.lt_size e
  | ins C dx fs => obtain ⟨_, _, _, e, _⟩ := x; exact Heap.lt_size e
  | own y => obtain ⟨_, e⟩ := x; exact Heap.lt_size e
  | xd fs => obtain ⟨_, ⟨_, _, _, e, _⟩, _⟩ := x; exact Heap.lt_size e
  | rng lo hi => obtain ⟨_, _, _, e⟩ := x; exact Heap.lt_size e
  | frz ob u => obtain ⟨e, _⟩ := x; exact Heap.lt_size e
  | tbl ps => exact Heap.lt_size (show h.get? a = some _ from x)
  | met f y => exact Heap.lt_size (show h.get? a = some _ from x)
  | ext φ => obtain ⟨_, ⟨_, e⟩, _⟩ := x; exact Heap.lt_size e
theorem Paired.mapP {α β : Type} {F G : α → β → Prop} {l₁ : List α} {l₂ : List β} (h : Paired F l₁ l₂) (f : ∀ a b, F a b → G a b) : Paired G l₁ l₂ := by
  induction h with
  | nil => exact .nil
  | cons r t ih => exact .cons (f _ _ r) ih
/-- what an object's description leans on: its own object, its own dict, the tuples -/
theorem ObjOk.stay (x : ObjOk P w H h a o) (k : ∀ b u, (b = a ∨ H b = some (.own a)) → h.get? b = some u → h'.get? b = some u)
    (ho : ∀ b, H b = some (.own a) → H' b = some (.own a)) (ht : ∀ b xs, H b = some (.tup xs) → H' b = some (.tup xs)) : ObjOk P w H' h' a o := by
  induction o with
  | lst xs => obtain ⟨z, its, n, r, e⟩ := x; exact ⟨z, its, n, r, k _ _ (.inl rfl) e⟩
  | tup xs => obtain ⟨z, its, r, ob, e, c⟩ := x; exact ⟨⟨z.1, let ⟨o, e2, d⟩ := z.2; ⟨o, k _ _ (.inl rfl) e2, d⟩⟩, its, r, ob, k _ _ (.inl rfl) e, c⟩
  | dK kvs => obtain ⟨z, y, vs, r, ob, es, ep, e, c⟩ := x; exact ⟨z, y, vs, r, ob, es, ep, k _ _ (.inl rfl) e, c⟩
  | dT kvs =>
    obtain ⟨z, y, xs, r, ob, es, ep, e, c⟩ := x
    exact ⟨z, y, xs, Paired.mapP r fun p q z => ⟨z.1, z.2.1.up ht, z.2.2⟩, ob, es, ep, k _ _ (.inl rfl) e, c⟩
  | set S n => obtain ⟨ob, es, ep, t, e, c⟩ := x; exact ⟨ob, es, ep, t, k _ _ (.inl rfl) e, c⟩
  | ins C dx fs =>
    obtain ⟨d, z, ne, e, mA, ⟨od, es, ep, e2, c⟩, r⟩ := x
    exact ⟨ho _ d, z, ne, k _ _ (.inl rfl) e, mA, ⟨od, es, ep, k _ _ (.inr d) e2, c⟩, r⟩
  | own y => obtain ⟨ob, e⟩ := x; exact ⟨ob, k _ _ (.inl rfl) e⟩
  | xd fs => obtain ⟨mA, ⟨od, es, ep, e, c⟩, r⟩ := x; exact ⟨mA, ⟨od, es, ep, k _ _ (.inl rfl) e, c⟩, r⟩
  | rng lo hi => obtain ⟨t, u, v, e⟩ := x; exact ⟨t, u, v, k _ _ (.inl rfl) e⟩
  | frz ob u ih => obtain ⟨e, q⟩ := x; exact ⟨k _ _ (.inl rfl) e, ih q⟩
  | tbl ps =>
    have e : h.get? a = some { cls := .none, data := .fields ps } := x
    show h'.get? a = some { cls := .none, data := .fields ps }
    exact k a _ (.inl rfl) e
  | met f y =>
    have e : h.get? a = some (PySem.W.methodObj (.ref f) (.ref y)) := x
    show h'.get? a = some (PySem.W.methodObj (.ref f) (.ref y))
    exact k a _ (.inl rfl) e
  | ext φ => obtain ⟨p, ⟨o, e⟩, st⟩ := x; exact ⟨st _ _ p fun o q => k _ _ (.inl rfl) q, ⟨o, k _ _ (.inl rfl) e⟩, st⟩
theorem HOk.lt (x : HOk P w H h) (e : H a = some o) : a < h.objs.size := (x a o e).lt
theorem HOk.fresh (x : HOk P w H h) (e : h.objs.size ≤ a) : H a = none := by
  cases q : H a with
  | none => rfl
  | some u => exact absurd (Nat.lt_of_lt_of_le (x.lt q) e) (Nat.lt_irrefl _)
/-- every object of the heap is kept -/
theorem HOk.kept (x : HOk P w H h) (k : ∀ b u, h.get? b = some u → h'.get? b = some u) : HOk P w H h' := fun a o e =>
  (x a o e).stay (fun b u _ q => k b u q) (fun _ q => q) fun _ _ q => q
/-- a new object is laid and tracked -/
theorem HOk.laid (x : HOk P w H h) (k : ∀ b u, h.get? b = some u → h'.get? b = some u) (hp : h.objs.size ≤ a) (new : ObjOk P w (upd H a o) h' a o) : HOk P w (upd H a o) h' := fun b u e => by
  have hn := x.fresh hp
  by_cases hb : b = a
  · subst hb; rw [upd_same] at e; cases e; exact new
  · rw [upd_ne hb] at e
    exact (x b u e).stay (fun c v _ q => k c v q) (fun c q => by rw [upd_ne (ne_of_none q hn)]; exact q) fun c xs q => by rw [upd_ne (ne_of_none q hn)]; exact q
end

/-- what may be read as u: it is u, or a known u -/
noncomputable def Rd (H : Hp) (a : Addr) (u : HO) : Prop := H a = some u ∨ ∃ o, H a = some (.frz o u)
theorem Rd.of {H : Hp} {a : Addr} {u : HO} (h : H a = some u) : Rd H a u := .inl h
theorem Rd.ok {P : Program} {w : World} {H : Hp} {h : Heap} {a : Addr} {u : HO} (r : Rd H a u) (x : HOk P w H h) : ObjOk P w H h a u := by
  rcases r with r | ⟨o, r⟩
  · exact x a u r
  · obtain ⟨_, q⟩ := x a _ r
    exact q
/-- what may be written -/
noncomputable def Mut : Option HO → Prop
  | some (.lst _) => True
  | some (.dK _) => True
  | some (.dT _) => True
  | some (.set _ _) => True
  | some (.ins _ _ _) => True
  | some (.ext _) => True
  | _ => False
section
variable {P : Program} {w : World} {H : Hp} {h h' : Heap} {x e : Addr} {o' : HO}
/-- the object at e is changed: x itself, or the dict of the instance x -/
theorem HOk.write (ok : HOk P w H h) (mu : Mut (H x)) (he : e = x ∨ H e = some (.own x)) (k : ∀ b u, b ≠ e → h.get? b = some u → h'.get? b = some u) (heo : ∃ u, h'.get? e = some u)
    (new : ObjOk P w (upd H x o') h' x o') : HOk P w (upd H x o') h' := fun b u q => by
  have nown : ∀ c y, H c = some (.own y) → c ≠ x := fun c y r z => by subst z; rw [r] at mu; exact mu
  have ntup : ∀ c xs, H c = some (.tup xs) → c ≠ x := fun c xs r z => by subst z; rw [r] at mu; exact mu
  by_cases hb : b = x
  · subst hb; rw [upd_same] at q; cases q; exact new
  · rw [upd_ne hb] at q
    by_cases hbe : b = e
    · have q' : H b = some (.own x) := by
        rcases he with z | z
        · exact absurd (hbe.trans z) hb
        · rw [hbe]; exact z
      rw [q] at q'; cases q'
      obtain ⟨v, hv⟩ := heo
      exact ⟨v, by rw [hbe]; exact hv⟩
    · refine (ok b u q).stay (fun c v hc r => k c v ?_ r) (fun c r => by rw [upd_ne (nown c b r)]; exact r) fun c xs r => by rw [upd_ne (ntup c xs r)]; exact r
      rcases hc with rfl | hc
      · exact hbe
      · rintro rfl
        rcases he with z | z
        · exact nown c b hc z
        · rw [hc] at z; cases z; exact hb rfl
end

/-! ### kept unless tracked; of the frames at fs (the callers') the slots may change (an exception that passes writes there); of the records at ex (iterators) nothing is said -/
structure Un (fs ex : List Addr) (H H' : Hp) (h h' : Heap) : Prop where
  keep : ∀ b o, h.get? b = some o → H b = none → b ∉ fs → b ∉ ex → h'.get? b = some o
  slot : ∀ b o, h.get? b = some o → H b = none → b ∈ fs → b ∉ ex → ∃ sl, h'.get? b = some { o with slots := sl }
  free : ∀ b o, h.get? b = some o → H b = none → b ∉ ex → H' b = none
  there : ∀ b o, h.get? b = some o → b ∉ ex → ∃ o', h'.get? b = some o'
  tups : ∀ b xs, H b = some (.tup xs) → H' b = some (.tup xs)
  frzs : ∀ b o u, H b = some (.frz o u) → H' b = some (.frz o u)
  tbls : ∀ b ps, H b = some (.tbl ps) → ∃ more, H' b = some (.tbl (ps ++ more))
section
variable {fs fs' ex ex' : List Addr} {H H1 H2 : Hp} {h h1 h2 h' : Heap} {a x e : Addr} {o : HO}
theorem Un.any (u : Un fs ex H H1 h h1) {b : Addr} {ob : Obj} (q : h.get? b = some ob) (n : H b = none) (hx : b ∉ ex) : ∃ sl, h1.get? b = some { ob with slots := sl } := by
  by_cases hb : b ∈ fs
  · exact u.slot b ob q n hb hx
  · exact ⟨ob.slots, u.keep b ob q n hb hx⟩
theorem Un.trans (a : Un fs ex H H1 h h1) (b : Un fs ex H1 H2 h1 h2) : Un fs ex H H2 h h2 where
  keep := fun c ob q n hc hx => b.keep c ob (a.keep c ob q n hc hx) (a.free c ob q n hx) hc hx
  slot := fun c ob q n hc hx => by
    obtain ⟨sl, e1⟩ := a.slot c ob q n hc hx
    obtain ⟨sl', e2⟩ := b.slot c _ e1 (a.free c ob q n hx) hc hx
    exact ⟨sl', e2⟩
  free := fun c ob q n hx => by
    obtain ⟨o', e1⟩ := a.there c ob q hx
    exact b.free c o' e1 (a.free c ob q n hx) hx
  there := fun c ob q hx => by
    obtain ⟨o', e1⟩ := a.there c ob q hx
    exact b.there c o' e1 hx
  tups := fun c xs q => b.tups c xs (a.tups c xs q)
  frzs := fun c ob xs q => b.frzs c ob xs (a.frzs c ob xs q)
  tbls := fun c ps q => by
    obtain ⟨m1, e1⟩ := a.tbls c ps q
    obtain ⟨m2, e2⟩ := b.tbls c _ e1
    exact ⟨m1 ++ m2, by rw [e2, Array.append_assoc]⟩
theorem Un.kept (k : ∀ b u, h.get? b = some u → h'.get? b = some u) : Un fs ex H H h h' :=
  ⟨fun b ob q _ _ _ => k b ob q, fun b ob q _ _ _ => ⟨ob.slots, k b ob q⟩, fun _ _ _ n _ => n, fun b ob q _ => ⟨ob, k b ob q⟩, fun _ _ q => q, fun _ _ _ q => q, fun _ ps q => ⟨#[], by rw [q]; simp⟩⟩
theorem Un.refl : Un fs ex H H h h := Un.kept fun _ _ q => q
theorem Un.laid (k : ∀ b u, h.get? b = some u → h'.get? b = some u) (hp : h.objs.size ≤ a) (hn : H a = none) : Un fs ex H (upd H a o) h h' where
  keep := fun b u q _ _ _ => k b u q
  slot := fun b u q _ _ _ => ⟨u.slots, k b u q⟩
  free := fun b u q n _ => by rw [upd_ne (Nat.ne_of_lt (Nat.lt_of_lt_of_le (Heap.lt_size q) hp))]; exact n
  there := fun b u q _ => ⟨u, k b u q⟩
  tups := fun b xs q => by rw [upd_ne (ne_of_none q hn)]; exact q
  frzs := fun b u xs q => by rw [upd_ne (ne_of_none q hn)]; exact q
  tbls := fun b ps q => ⟨#[], by rw [upd_ne (ne_of_none q hn), q]; simp⟩
theorem Un.write (mu : Mut (H x)) (he : e = x ∨ H e = some (.own x)) (k : ∀ b u, b ≠ e → h.get? b = some u → h'.get? b = some u) (heo : ∃ u, h'.get? e = some u) : Un fs ex H (upd H x o) h h' := by
  have hx : ∀ b, H b = none → b ≠ x := fun b n z => by subst z; rw [n] at mu; exact mu
  have hb : ∀ b, H b = none → b ≠ e := fun b n z => by
    subst z
    rcases he with r | r
    · exact hx b n r
    · rw [n] at r; cases r
  have hm : ∀ b u, H b = some u → ¬ Mut (some u) → b ≠ x := fun b u q nm z => by subst z; rw [q] at mu; exact nm mu
  refine ⟨fun b u q n _ _ => k b u (hb b n) q, fun b u q n _ _ => ⟨u.slots, k b u (hb b n) q⟩, fun b u q n _ => by rw [upd_ne (hx b n)]; exact n, fun b u q _ => ?_,
    fun b xs q => by rw [upd_ne (hm b _ q fun z => z)]; exact q, fun b u xs q => by rw [upd_ne (hm b _ q fun z => z)]; exact q, fun b ps q => ⟨#[], by rw [upd_ne (hm b _ q fun z => z), q]; simp⟩⟩
  by_cases hbe : b = e
  · subst hbe; exact heo
  · exact ⟨u, k b u hbe q⟩
theorem Un.mono (u : Un fs ex H H1 h h1) (hs : ∀ b ∈ fs, b ∈ fs') (hx : ∀ b ∈ ex, b ∈ ex') : Un fs' ex' H H1 h h1 :=
  ⟨fun b ob q n hb he => u.keep b ob q n (fun z => hb (hs b z)) fun z => he (hx b z), fun _ _ q n _ he => u.any q n fun z => he (hx _ z), fun b ob q n he => u.free b ob q n fun z => he (hx b z), fun b ob q he => u.there b ob q fun z => he (hx b z), u.tups, u.frzs, u.tbls⟩
end

/-! ### the heap without what is tracked -/
noncomputable def trk (h : Heap) (H : Hp) : List Addr := (List.range h.objs.size).filter fun a => (H a).isSome
noncomputable def hidT (h : Heap) (H : Hp) : Heap := PySem.W.hideAll h (trk h H)
theorem hidT_size (h : Heap) (H : Hp) : (hidT h H).objs.size = h.objs.size := PySem.W.hideAll_size _ _
theorem hidT_get {h : Heap} {H : Hp} {b : Addr} {o : Obj} (e : h.get? b = some o) (n : H b = none) : (hidT h H).get? b = some o :=
  PySem.W.hideAll_get _ e fun hm => by
    have q : (H b).isSome = true := (List.mem_filter.mp hm).2
    rw [n] at q; simp at q
theorem of_hidT {h : Heap} {H : Hp} {b : Addr} {o : Obj} (e : (hidT h H).get? b = some o) : h.get? b = some o ∧ H b = none := by
  have e' : h.get? b = some o := PySem.W.of_hideAll (trk h H) e
  refine ⟨e', ?_⟩
  cases q : H b with
  | none => rfl
  | some x =>
    have hm : b ∈ trk h H := List.mem_filter.mpr ⟨List.mem_range.mpr (Heap.lt_size e'), by simp [q]⟩
    have z : (hidT h H).get? b = none := PySem.W.hideAll_none (trk h H) hm
    rw [z] at e; cases e

/-! ### OpenK's ledger, filled with every new object but one -/
noncomputable def allNews (g h : Heap) (L : Addr) : List (Addr × Obj) := (List.range h.objs.size).filterMap fun a => if a = L ∨ (g.get? a).isSome = true then none else (h.get? a).map fun o => (a, o)
noncomputable def rest (g h : Heap) (L d : Addr) : List (Addr × Obj) := (allNews g h L).filter fun p => decide (p.1 ≠ d)

/-- the module's facts, over the base: the heap at the law's entry without what is tracked there -/
structure Mod (K : PySem.W.Frag) (mg : Str → Option Value) (base : Heap) : Prop where
  kin : K.In base
  glob : base.Ns mainGlobals mg
  blt : ∃ mb, base.Ns builtinsNs mb ∧ ∀ x : Str, x ≠ "__name__" → mb x = bootBuiltins x
  nolimit : base.NoLimit

set_option genInjectivity false in
set_option genSizeOf false in
/-- the context: a def's body (or a comprehension's block) running. base: fixed through the whole law; s₀, H₀: the entry; outer: the frames whose slots others may change (a def's callers); stack: all frames that run;
   ex: iterators that were made ahead of the entry and are walked here (a comprehension's); fn: the names whose cells were made at the entry (a def: all; a comprehension's block: its own); calm: not within an except suite; pn: pins that every state bears; xe: what is wanted of an exception that leaves the code -/
structure Cx where
  prog : Program
  w : World
  K : PySem.W.Frag
  mg : Str → Option Value
  base : Heap
  A : Around
  N : List Str
  s₀ : Shared
  H₀ : Hp
  env : Env
  outer : List Env
  stack : List Env
  ex : List Addr
  fn : Str → Bool
  calm : Bool
  pn : List (Addr × Obj)
  xe : Value → Shared → Prop
/-- the callers' frames -/
noncomputable def frs (l : List Env) : List Addr := l.filterMap (·.frame)
noncomputable abbrev Cx.fs (X : Cx) : List Addr := frs X.outer

noncomputable def Vis (sc : Scope) (x : Str) : Prop := sc.names.lookup x = some .local ∨ sc.names.lookup x = some .cell ∨ sc.names.lookup x = some .free
noncomputable def Loc (sc : Scope) (x : Str) : Prop := sc.names.lookup x = some .local ∨ sc.names.lookup x = some .cell
noncomputable def Look (env : Env) (h : Heap) (m : Str → Option Value) (x : Str) (u : Value) : Prop :=
  (env.kindOf x = some .local ∧ m x = some u) ∨ ((env.kindOf x = some .cell ∨ env.kindOf x = some .free) ∧ ∃ c, env.cells.lookup x = some c ∧ h.IsCell c (some u))

structure Cx.Ok (X : Cx) : Prop where
  mod : Mod X.K X.mg X.base
  kind : X.env.scope.kind = .function
  glob : X.env.globals = mainGlobals
  blt : X.env.builtins = builtinsNs
  above : X.s₀.heap.objs.size ≤ X.env.locals
  inj : ∀ x y c, X.env.cells.lookup x = some c → X.env.cells.lookup y = some c → x = y
  has : ∀ x, (X.env.kindOf x = some .cell ∨ X.env.kindOf x = some .free) → ∃ c, X.env.cells.lookup x = some c
  cab : ∀ x c, X.fn x = true → X.env.cells.lookup x = some c → X.s₀.heap.objs.size ≤ c
  hd : X.calm = true → X.A.handled = none
  frames : X.A.frames = some X.stack
  stk : X.stack = X.outer ∨ (X.stack = X.env :: X.outer ∧ X.env.frame = some X.env.locals)
  exf : ∀ b ∈ X.ex, b ≠ X.env.locals ∧ ∀ x c, X.env.cells.lookup x = some c → c ≠ b
  bs : ∀ b o, X.base.get? b = some o → X.s₀.heap.get? b = some o ∧ X.H₀ b = none
  bsz : X.base.objs.size ≤ X.s₀.heap.objs.size
  noex : ∀ b o, X.base.get? b = some o → b ∉ X.ex
  exfs : ∀ b ∈ X.ex, b ∉ X.fs
  funs : X.s₀.heap.FunFrames X.base X.outer
  frf : ∀ b ∈ X.fs, X.H₀ b = none

structure Inv (X : Cx) (pins : List (Addr × Obj)) (σ : List (Option V)) (H : Hp) (s : Shared) : Prop where
  ok : X.Ok
  os : s.os = X.s₀.os
  bare : AllBare s.gens
  base : Un X.fs X.ex X.H₀ H X.s₀.heap s.heap
  loc : ∃ m, s.heap.Ns X.env.locals m ∧ ∀ (i : Nat) (x : Str) (v : V), X.N[i]? = some x → σ[i]? = some (some v) → Vis X.env.scope x → ∃ u, RelV v u ∧ Look X.env s.heap m x u
  cell : ∀ x c, X.env.cells.lookup x = some c → ∃ v, s.heap.IsCell c v
  free : H X.env.locals = none
  freeC : ∀ x c, X.env.cells.lookup x = some c → H c = none
  pin : ∀ p ∈ X.pn ++ pins, s.heap.get? p.1 = some p.2 ∧ H p.1 = none ∧ p.1 ≠ X.env.locals ∧ p.1 ∉ X.fs ∧ ∀ v, p.2.data ≠ .cell v
  hok : HOk X.prog X.w H s.heap
  len : σ.length = X.N.length

section
variable {X : Cx} {pins : List (Addr × Obj)} {σ : List (Option V)} {H H' : Hp} {s : Shared} {h' : Heap}

theorem Cx.Ok.nofr (ok : X.Ok) {b : Addr} {o : Obj} (e : X.base.get? b = some o) : b ∉ X.fs := fun hb => by
  have := (ok.funs.mem hb).1
  rw [e] at this; cases this
theorem Inv.bs (I : Inv X pins σ H s) : ∀ b o, X.base.get? b = some o → s.heap.get? b = some o ∧ H b = none := fun b o e =>
  ⟨I.base.keep b o (I.ok.bs b o e).1 (I.ok.bs b o e).2 (I.ok.nofr e) (I.ok.noex b o e), I.base.free b o (I.ok.bs b o e).1 (I.ok.bs b o e).2 (I.ok.noex b o e)⟩
theorem Inv.bk (I : Inv X pins σ H s) : ∀ b o, X.base.get? b = some o → s.heap.get? b = some o := fun b o e => (I.bs b o e).1
theorem Inv.mod (I : Inv X pins σ H s) : Mod X.K X.mg X.base := I.ok.mod
theorem Inv.kIn (I : Inv X pins σ H s) : X.K.In s.heap := I.ok.mod.kin.keeps I.bk
theorem Inv.nolimit (I : Inv X pins σ H s) : s.heap.NoLimit := I.ok.mod.nolimit.keeps I.bk
/-- the frame over the base: for OpenK's rules (K.In X.base is I.mod.kin) -/
theorem Inv.fr (I : Inv X pins σ H s) : ∃ m, Fr X.base X.env.locals s.heap m :=
  let ⟨m, hn, _⟩ := I.loc
  ⟨m, hn, I.bk, Nat.le_trans I.ok.bsz I.ok.above⟩
theorem Inv.lt (I : Inv X pins σ H s) : X.env.locals < s.heap.objs.size := let ⟨_, hn, _⟩ := I.loc; hn.lt
theorem Inv.sz (I : Inv X pins σ H s) : X.s₀.heap.objs.size ≤ s.heap.objs.size := Nat.le_trans I.ok.above (Nat.le_of_lt I.lt)
theorem Inv.nofs (I : Inv X pins σ H s) {a : Addr} (h : s.heap.objs.size ≤ a) : a ∉ X.fs := fun hb => by
  obtain ⟨_, o, ho, _⟩ := I.ok.funs.mem hb
  exact absurd (Nat.lt_of_lt_of_le (Heap.lt_size ho) (Nat.le_trans I.sz h)) (Nat.lt_irrefl _)
theorem Inv.cne (I : Inv X pins σ H s) : ∀ x c, X.env.cells.lookup x = some c → c ≠ X.env.locals := fun x c e z => by
  obtain ⟨v, o, ho, hd⟩ := I.cell x c e
  obtain ⟨m, ⟨o', es, ep, ho', hd', _⟩, _⟩ := I.loc
  rw [z, ho'] at ho; cases ho; rw [hd'] at hd; cases hd
theorem Inv.funs (I : Inv X pins σ H s) : s.heap.FunFrames X.base X.outer := by
  have all : ∀ (l : List Env), (∀ b ∈ frs l, b ∈ X.fs) → X.s₀.heap.FunFrames X.base l → s.heap.FunFrames X.base l := by
    intro l
    induction l with
    | nil => intro _ _; trivial
    | cons env r ih =>
      intro hs hl
      obtain ⟨hk, ⟨L, o, hf, hn, ho, hd⟩, hr⟩ := hl
      have hL : L ∈ X.fs := hs L (by unfold frs; rw [List.filterMap_cons, hf]; exact List.mem_cons_self)
      obtain ⟨sl, e⟩ := I.base.slot L o ho (I.ok.frf L hL) hL fun z => I.ok.exfs L z hL
      exact ⟨hk, ⟨L, _, hf, hn, e, hd⟩, ih (fun b hb => hs b (by unfold frs; rw [List.filterMap_cons, hf]; exact List.mem_cons_of_mem _ hb)) hr⟩
  exact all X.outer (fun _ hb => hb) I.ok.funs

/-- the frames that run, for a call -/
theorem Inv.stack (I : Inv X pins σ H s) : s.heap.FunFrames X.base X.stack := by
  rcases I.ok.stk with e | ⟨e, hf⟩
  · rw [e]; exact I.funs
  · rw [e]
    obtain ⟨m, hn, _⟩ := I.loc
    refine .cons (by rw [I.ok.kind]; decide) hf hn ?_ I.funs
    exact Heap.get?_none_of_le (Nat.le_trans I.ok.bsz I.ok.above)
theorem Inv.stkSub (I : Inv X pins σ H s) : ∀ b ∈ frs X.stack, b ∈ X.env.locals :: X.fs := fun b hb => by
  rcases I.ok.stk with e | ⟨e, hf⟩
  · rw [e] at hb; exact List.mem_cons_of_mem _ hb
  · rw [e] at hb
    unfold frs at hb
    rw [List.filterMap_cons, hf] at hb
    exact hb
theorem Inv.stkFree (I : Inv X pins σ H s) : ∀ b ∈ frs X.stack, H b = none := fun b hb => by
  rcases List.mem_cons.mp (I.stkSub b hb) with e | hb
  · rw [e]; exact I.free
  · obtain ⟨_, o, ho, _⟩ := I.ok.funs.mem hb
    exact I.base.free b o ho (I.ok.frf b hb) fun z => I.ok.exfs b z hb

/-- THE STEP: the untracked objects but the frame and the records at ch are kept (the callers' frames up to slots), the frame's map is kept, the new abstract heap is held -/
theorem Inv.step {g' : Array GenState} {t' : Nat} {d' : Drawn} {ch : List Addr} (I : Inv X pins σ H s)
    (hch : ∀ b ∈ ch, (b ∈ X.ex ∨ X.s₀.heap.objs.size ≤ b) ∧ b ≠ X.env.locals ∧ (∀ x c, X.env.cells.lookup x = some c → c ≠ b) ∧ ∀ p ∈ X.pn ++ pins, p.1 ≠ b)
    (keep : ∀ b o, b ≠ X.env.locals → b ∉ X.fs → b ∉ ch → s.heap.get? b = some o → H b = none → h'.get? b = some o)
    (slot : ∀ b o, b ≠ X.env.locals → b ∈ X.fs → b ∉ ch → s.heap.get? b = some o → H b = none → ∃ sl, h'.get? b = some { o with slots := sl }) (free : ∀ b o, b ∉ ch → s.heap.get? b = some o → H b = none → H' b = none)
    (there : ∀ b o, b ∉ ch → s.heap.get? b = some o → ∃ o', h'.get? b = some o')
    (tups : ∀ b xs, H b = some (.tup xs) → H' b = some (.tup xs)) (frzs : ∀ b o u, H b = some (.frz o u) → H' b = some (.frz o u)) (tbls : ∀ b ps, H b = some (.tbl ps) → ∃ more, H' b = some (.tbl (ps ++ more)))
    (ns : ∀ m, s.heap.Ns X.env.locals m → h'.Ns X.env.locals m) (hok : HOk X.prog X.w H' h') (hg : AllBare g') :
    Inv X pins σ H' { s with heap := h', gens := g', drawn := d', toks := t' } := by
  have neL : ∀ b o, X.s₀.heap.get? b = some o → b ≠ X.env.locals := fun b o e => Nat.ne_of_lt (Nat.lt_of_lt_of_le (Heap.lt_size e) I.ok.above)
  have neC : ∀ b o, X.s₀.heap.get? b = some o → b ∉ X.ex → b ∉ ch := fun b o e hx hb => by
    rcases (hch b hb).1 with z | z
    · exact hx z
    · exact absurd (Nat.lt_of_lt_of_le (Heap.lt_size e) z) (Nat.lt_irrefl _)
  have cellK : ∀ x c, X.env.cells.lookup x = some c → ∀ v, s.heap.IsCell c v → h'.IsCell c v := fun x c e v ⟨o, ho, hd⟩ => by
    have nch : c ∉ ch := fun z => (hch c z).2.2.1 x c e rfl
    by_cases hc : c ∈ X.fs
    · obtain ⟨sl, q⟩ := slot c o (I.cne x c e) hc nch ho (I.freeC x c e)
      exact ⟨_, q, hd⟩
    · exact ⟨o, keep c o (I.cne x c e) hc nch ho (I.freeC x c e), hd⟩
  refine ⟨I.ok, I.os, hg, ⟨fun b o e n hb hx => ?_, fun b o e n hb hx => ?_, fun b o e n hx => ?_, fun b o e hx => ?_, fun b xs e => tups b xs (I.base.tups b xs e), fun b o xs e => frzs b o xs (I.base.frzs b o xs e), fun b ps e => ?_⟩, ?_, fun x c e => ?_, ?_, fun x c e => ?_, fun p hp => ?_, hok, I.len⟩
  · exact keep b o (neL b o e) hb (neC b o e hx) (I.base.keep b o e n hb hx) (I.base.free b o e n hx)
  · obtain ⟨sl, e1⟩ := I.base.slot b o e n hb hx
    obtain ⟨sl', e2⟩ := slot b _ (neL b o e) hb (neC b o e hx) e1 (I.base.free b o e n hx)
    exact ⟨sl', e2⟩
  · obtain ⟨o', e1⟩ := I.base.there b o e hx
    exact free b o' (neC b o e hx) e1 (I.base.free b o e n hx)
  · obtain ⟨o', e1⟩ := I.base.there b o e hx
    exact there b o' (neC b o e hx) e1
  · obtain ⟨m1, e1⟩ := I.base.tbls b ps e
    obtain ⟨m2, e2⟩ := tbls b _ e1
    exact ⟨m1 ++ m2, by rw [e2, Array.append_assoc]⟩
  · obtain ⟨m, hn, hl⟩ := I.loc
    refine ⟨m, ns m hn, fun i x v e1 e2 e3 => ?_⟩
    obtain ⟨u, r, l⟩ := hl i x v e1 e2 e3
    refine ⟨u, r, ?_⟩
    rcases l with l | ⟨k, c, e, z⟩
    · exact .inl l
    · exact .inr ⟨k, c, e, cellK x c e _ z⟩
  · obtain ⟨v, z⟩ := I.cell x c e
    exact ⟨v, cellK x c e v z⟩
  · obtain ⟨m, ⟨o, _, _, ho, _⟩, _⟩ := I.loc
    exact free _ o (fun z => (hch _ z).2.1 rfl) ho I.free
  · obtain ⟨v, o, ho, hd⟩ := I.cell x c e
    exact free c o (fun z => (hch c z).2.2.1 x c e rfl) ho (I.freeC x c e)
  · obtain ⟨e, n, ne, nf, d⟩ := I.pin p hp
    have nch : p.1 ∉ ch := fun z => (hch p.1 z).2.2.2 p hp rfl
    exact ⟨keep p.1 p.2 ne nf nch e n, free p.1 p.2 nch e n, ne, nf, d⟩
/-- .. where the frame's own object is kept too -/
theorem Inv.un {t' : Nat} (I : Inv X pins σ H s) (u : Un X.fs [] H H' s.heap h') (hok : HOk X.prog X.w H' h') : Inv X pins σ H' { s with heap := h', toks := t' } := by
  obtain ⟨m, ⟨o, es, ep, ho, r⟩, _⟩ := id I.loc
  obtain ⟨sl, hL⟩ := u.any ho I.free (by simp)
  exact I.step (g' := s.gens) (d' := s.drawn) (ch := []) (fun _ z => nomatch z) (fun b o _ hb _ e n => u.keep b o e n hb (by simp)) (fun b o _ hb _ e n => u.slot b o e n hb (by simp)) (fun b o _ e n => u.free b o e n (by simp)) (fun b o _ e => u.there b o e (by simp)) u.tups u.frzs u.tbls (fun m' hm => by
    obtain ⟨o', es', ep', ho', r'⟩ := hm
    rw [ho] at ho'; cases ho'
    exact ⟨_, es', ep', hL, r'⟩) hok I.bare
/-- behind a call (or a comprehension's block): the slots of this frame may have changed too, the records at ch may have turned -/
theorem Inv.call {g' : Array GenState} {t' : Nat} {d' : Drawn} {ch : List Addr} (I : Inv X pins σ H s) (u : Un (frs X.stack) ch H H' s.heap h') (hok : HOk X.prog X.w H' h') (hg : AllBare g')
    (hch : ∀ b ∈ ch, (b ∈ X.ex ∨ X.s₀.heap.objs.size ≤ b) ∧ b ≠ X.env.locals ∧ (∀ x c, X.env.cells.lookup x = some c → c ≠ b) ∧ ∀ p ∈ X.pn ++ pins, p.1 ≠ b) :
    Inv X pins σ H' { s with heap := h', gens := g', drawn := d', toks := t' } := by
  obtain ⟨m, ⟨o, es, ep, ho, r⟩, _⟩ := id I.loc
  obtain ⟨sl, hL⟩ := u.any ho I.free fun z => (hch _ z).2.1 rfl
  exact I.step (ch := ch) hch (fun b o hL hb hc e n => u.keep b o e n (fun z => (List.mem_cons.mp (I.stkSub b z)).elim hL hb) hc) (fun b o _ _ hc e n => u.any e n hc) (fun b o hc e n => u.free b o e n hc) (fun b o hc e => u.there b o e hc) u.tups u.frzs u.tbls (fun m' hm => by
    obtain ⟨o', es', ep', ho', r'⟩ := hm
    rw [ho] at ho'; cases ho'
    exact ⟨_, es', ep', hL, r'⟩) hok hg
/-- an untracked record of ours (an iterator) has turned -/
theorem Inv.turned {t' : Nat} {it : Addr} (I : Inv X pins σ H s) (k : ∀ b o, b ≠ it → s.heap.get? b = some o → h'.get? b = some o) (hn : H it = none) (hL : it ≠ X.env.locals)
    (h1 : it ∈ X.ex ∨ X.s₀.heap.objs.size ≤ it) (h2 : ∀ x c, X.env.cells.lookup x = some c → c ≠ it) (h3 : ∀ p ∈ X.pn ++ pins, p.1 ≠ it) : Inv X pins σ H { s with heap := h', toks := t' } := by
  have nit : ∀ b u, H b = some u → b ≠ it := fun b u e z => by rw [z, hn] at e; cases e
  refine I.step (g' := s.gens) (d' := s.drawn) (ch := [it]) (fun b hb => ?_) (fun b o _ _ hc e _ => k b o (fun z => hc (by simp [z])) e) (fun b o _ _ hc e _ => ⟨o.slots, k b o (fun z => hc (by simp [z])) e⟩) (fun _ _ _ _ n => n)
    (fun b o hc e => ⟨o, k b o (fun z => hc (by simp [z])) e⟩) (fun _ _ e => e) (fun _ _ _ e => e) (fun b ps e => ⟨#[], by rw [e]; simp⟩) (fun m hm => ?_) (fun b u e => ?_) I.bare
  · have e : b = it := by simpa using hb
    subst e
    exact ⟨h1, hL, h2, h3⟩
  · obtain ⟨o, es, ep, ho, r⟩ := hm
    exact ⟨o, es, ep, k _ o (Ne.symm hL) ho, r⟩
  · refine (I.hok b u e).stay (fun c v hc q => k c v ?_ q) (fun _ q => q) fun _ _ q => q
    rcases hc with z | z
    · rw [z]; exact nit b u e
    · exact nit c _ z
theorem Inv.tok (I : Inv X pins σ H s) (t : Nat) : Inv X pins σ H { s with toks := t } := I.un (h' := s.heap) (t' := t) Un.refl I.hok
/-- all objects kept -/
theorem Inv.kept {t' : Nat} (I : Inv X pins σ H s) (k : ∀ b u, s.heap.get? b = some u → h'.get? b = some u) : Inv X pins σ H { s with heap := h', toks := t' } := I.un (Un.kept k) (I.hok.kept k)
/-- a new object laid and tracked -/
theorem Inv.laid {a : Addr} {o : HO} {t' : Nat} (I : Inv X pins σ H s) (k : ∀ b u, s.heap.get? b = some u → h'.get? b = some u) (hp : s.heap.objs.size ≤ a) (new : ObjOk X.prog X.w (upd H a o) h' a o) :
    Inv X pins σ (upd H a o) { s with heap := h', toks := t' } := I.un (Un.laid k hp (I.hok.fresh hp)) (I.hok.laid k hp new)
/-- an object written -/
theorem Inv.write {x e : Addr} {o : HO} {t' : Nat} (I : Inv X pins σ H s) (mu : Mut (H x)) (he : e = x ∨ H e = some (.own x)) (k : ∀ b u, b ≠ e → s.heap.get? b = some u → h'.get? b = some u) (heo : ∃ u, h'.get? e = some u)
    (new : ObjOk X.prog X.w (upd H x o) h' x o) : Inv X pins σ (upd H x o) { s with heap := h', toks := t' } := I.un (Un.write mu he k heo) (I.hok.write mu he k heo new)
/-- forgetting slots, pins -/
theorem Inv.weak {σ' : List (Option V)} (I : Inv X pins σ H s) (hl : σ'.length = σ.length) (w : ∀ (i : Nat) v, σ'[i]? = some (some v) → σ[i]? = some (some v)) : Inv X pins σ' H s :=
  ⟨I.ok, I.os, I.bare, I.base, let ⟨m, hn, hl'⟩ := I.loc; ⟨m, hn, fun i x v e1 e2 e3 => hl' i x v e1 (w i v e2) e3⟩, I.cell, I.free, I.freeC, I.pin, I.hok, hl.trans I.len⟩
theorem Inv.pins_of {pins' : List (Addr × Obj)} (I : Inv X pins σ H s) (h : ∀ p ∈ pins', s.heap.get? p.1 = some p.2 ∧ H p.1 = none ∧ p.1 ≠ X.env.locals ∧ p.1 ∉ X.fs ∧ ∀ v, p.2.data ≠ .cell v) : Inv X pins' σ H s :=
  ⟨I.ok, I.os, I.bare, I.base, I.loc, I.cell, I.free, I.freeC, fun p hp => (List.mem_append.mp hp).elim (fun z => I.pin p (List.mem_append_left _ z)) (h p), I.hok, I.len⟩

theorem nodup_ix {N : List Str} (hN : N.Nodup) {i j : Nat} {x : Str} (a : N[i]? = some x) (b : N[j]? = some x) : i = j := by
  obtain ⟨h1, e1⟩ := List.getElem?_eq_some_iff.mp a
  obtain ⟨h2, e2⟩ := List.getElem?_eq_some_iff.mp b
  exact (List.getElem_inj hN).mp (e1.trans e2.symm)

/-- a name is stored; what changed -/
theorem store_ok2 {M : Model} {A : Around} {E : Value → Shared → Prop} {i : Nat} {x : Str} {v : V} {u : Value} {Q : Unit → Shared → Prop} (I : Inv X pins σ H s) (hN : X.N.Nodup) (hi : X.N[i]? = some x) (hx : Loc X.env.scope x) (r : RelV v u)
    (h : ∀ s', Inv X pins (σ.set i (some v)) H s' → (∃ a, Heap.SameBut a s.heap s'.heap ∧ (a = X.env.locals ∨ X.env.cells.lookup x = some a)) → Q () s') (hf : X.fn x = true ∨ X.env.scope.names.lookup x = some .local := by first | exact .inl rfl | exact .inr rfl | assumption) : wpAny M A (storeName X.env x u) Q E s := by
  obtain ⟨m, hn, hl⟩ := id I.loc
  have hcls : (X.env.scope.kind == .class || (X.env.scope.kind == .module && X.env.locals != X.env.globals)) = false := by rw [I.ok.kind]; rfl
  have hiσ : i < σ.length := by rw [I.len]; exact (List.getElem?_eq_some_iff.mp hi).1
  have cne := I.cne
  have tracked : ∀ {a : Addr} {h' : Heap}, (∃ o, s.heap.get? a = some o ∧ H a = none) → Heap.SameBut a s.heap h' → HOk X.prog X.w H h' := fun {a h'} ha hs b ob e => by
    obtain ⟨_, _, hfree⟩ := ha
    refine (I.hok b ob e).stay (fun c w' hc q => (hs.2 c ?_).trans q) (fun _ q => q) fun _ _ q => q
    rintro rfl
    rcases hc with rfl | hc
    · rw [hfree] at e; cases e
    · rw [hfree] at hc; cases hc
  rcases hx with hk | hk
  · refine wpAny_storeName_local hk hn (fun h' hn' hs => ?_) hcls
    obtain ⟨oL, _, _, hoL, _⟩ := id hn
    refine h _ ⟨I.ok, I.os, I.bare, ⟨fun b o e n hb hx => ?_, fun b o e n hb hx => ?_, I.base.free, fun b o e hx => ?_, I.base.tups, I.base.frzs, I.base.tbls⟩, ⟨_, hn', fun j y v' e1 e2 e3 => ?_⟩, fun y c e => ?_, I.free, I.freeC, fun p hp => ?_, tracked ⟨oL, hoL, I.free⟩ hs, by simpa using I.len⟩ ⟨_, hs, .inl rfl⟩
    · exact (hs.2 b (Nat.ne_of_lt (Nat.lt_of_lt_of_le (Heap.lt_size e) I.ok.above))).trans (I.base.keep b o e n hb hx)
    · obtain ⟨sl, e1⟩ := I.base.slot b o e n hb hx
      exact ⟨sl, (hs.2 b (Nat.ne_of_lt (Nat.lt_of_lt_of_le (Heap.lt_size e) I.ok.above))).trans e1⟩
    · obtain ⟨o', e1⟩ := I.base.there b o e hx
      exact ⟨o', (hs.2 b (Nat.ne_of_lt (Nat.lt_of_lt_of_le (Heap.lt_size e) I.ok.above))).trans e1⟩
    · by_cases hj : j = i
      · subst hj
        rw [hi] at e1; cases e1
        rw [List.getElem?_set_self hiσ] at e2
        cases e2
        exact ⟨u, r, .inl ⟨hk, by simp⟩⟩
      · rw [List.getElem?_set_ne (Ne.symm hj)] at e2
        obtain ⟨u', r', q⟩ := hl j y v' e1 e2 e3
        refine ⟨u', r', ?_⟩
        rcases q with ⟨k, e⟩ | ⟨k, c, e, z⟩
        · refine .inl ⟨k, ?_⟩
          have : y ≠ x := fun e => hj (nodup_ix hN e1 (e ▸ hi))
          simp [this, e]
        · exact .inr ⟨k, c, e, z.sameBut hs (cne y c e)⟩
    · obtain ⟨w', z⟩ := I.cell y c e
      exact ⟨w', z.sameBut hs (cne y c e)⟩
    · obtain ⟨e, n, ne, nf, d⟩ := I.pin p hp
      exact ⟨(hs.2 p.1 ne).trans e, n, ne, nf, d⟩
  · have hfn : X.fn x = true := by
      rcases hf with z | z
      · exact z
      · rw [z] at hk; cases hk
    obtain ⟨c, hc⟩ := I.ok.has x (.inl hk)
    obtain ⟨w', z⟩ := I.cell x c hc
    refine wpAny_storeName_cell I.ok.kind hk hc z (fun h' hc' hs => ?_)
    obtain ⟨oc, hoc, hocd⟩ := id z
    refine h { s with heap := h' } ⟨I.ok, I.os, I.bare, ⟨fun b o e n hb hx => ?_, fun b o e n hb hx => ?_, I.base.free, fun b o e hx => ?_, I.base.tups, I.base.frzs, I.base.tbls⟩, ⟨m, hn.sameBut hs (Ne.symm (cne x c hc)), fun j y v' e1 e2 e3 => ?_⟩, fun y c' e => ?_, I.free, I.freeC, fun p hp => ?_, tracked ⟨oc, hoc, I.freeC x c hc⟩ hs, by simpa using I.len⟩ ⟨c, hs, .inr hc⟩
    · exact (hs.2 b (Nat.ne_of_lt (Nat.lt_of_lt_of_le (Heap.lt_size e) (I.ok.cab x c hfn hc)))).trans (I.base.keep b o e n hb hx)
    · obtain ⟨sl, e1⟩ := I.base.slot b o e n hb hx
      exact ⟨sl, (hs.2 b (Nat.ne_of_lt (Nat.lt_of_lt_of_le (Heap.lt_size e) (I.ok.cab x c hfn hc)))).trans e1⟩
    · obtain ⟨o', e1⟩ := I.base.there b o e hx
      exact ⟨o', (hs.2 b (Nat.ne_of_lt (Nat.lt_of_lt_of_le (Heap.lt_size e) (I.ok.cab x c hfn hc)))).trans e1⟩
    · by_cases hj : j = i
      · subst hj
        rw [hi] at e1; cases e1
        rw [List.getElem?_set_self hiσ] at e2
        cases e2
        exact ⟨u, r, .inr ⟨.inl hk, c, hc, hc'⟩⟩
      · rw [List.getElem?_set_ne (Ne.symm hj)] at e2
        obtain ⟨u', r', q⟩ := hl j y v' e1 e2 e3
        refine ⟨u', r', ?_⟩
        rcases q with q | ⟨k, c', e, z'⟩
        · exact .inl q
        · refine .inr ⟨k, c', e, z'.sameBut hs ?_⟩
          rintro rfl
          exact hj (nodup_ix hN e1 (I.ok.inj _ _ _ e hc ▸ hi))
    · by_cases hcc : c' = c
      · subst hcc; exact ⟨_, hc'⟩
      · obtain ⟨w2, z2⟩ := I.cell y c' e
        exact ⟨w2, z2.sameBut hs hcc⟩
    · obtain ⟨e, n, ne, nf, d⟩ := I.pin p hp
      refine ⟨(hs.2 p.1 ?_).trans e, n, ne, nf, d⟩
      intro q
      rw [q, hoc] at e
      have q' : oc = p.2 := Option.some.inj e
      exact d w' (by rw [← q']; exact hocd)
theorem store_ok {M : Model} {A : Around} {E : Value → Shared → Prop} {i : Nat} {x : Str} {v : V} {u : Value} {Q : Unit → Shared → Prop} (I : Inv X pins σ H s) (hN : X.N.Nodup) (hi : X.N[i]? = some x) (hx : Loc X.env.scope x) (r : RelV v u)
    (h : ∀ s', Inv X pins (σ.set i (some v)) H s' → Q () s') (hf : X.fn x = true ∨ X.env.scope.names.lookup x = some .local := by first | exact .inl rfl | exact .inr rfl | assumption) : wpAny M A (storeName X.env x u) Q E s :=
  store_ok2 I hN hi hx r (fun s' I' _ => h s' I') hf
/-- behind a call or a block, the state as it is -/
theorem Inv.call' {s' : Shared} {ch : List Addr} (I : Inv X pins σ H s) (ho : s'.os = s.os) (u : Un (frs X.stack) ch H H' s.heap s'.heap) (hok : HOk X.prog X.w H' s'.heap) (hg : AllBare s'.gens)
    (hch : ∀ b ∈ ch, (b ∈ X.ex ∨ X.s₀.heap.objs.size ≤ b) ∧ b ≠ X.env.locals ∧ (∀ x c, X.env.cells.lookup x = some c → c ≠ b) ∧ ∀ p ∈ X.pn ++ pins, p.1 ≠ b) : Inv X pins σ H' s' := by
  obtain ⟨h', g', d', t', o'⟩ := s'
  have e : o' = s.os := ho
  subst e
  exact I.call (g' := g') (t' := t') (d' := d') u hok hg hch
end

/-! ### the judgements -/
/-- an exception: its class, its own dict's address (where it has one), the abstract heap behind it -/
noncomputable abbrev XK := Value → Option Addr → Hp → Prop
noncomputable abbrev St := List (Option V)
noncomputable abbrev VK := V → Hp → Prop
/-- an expression's reading; a test's; an argument list's -/
noncomputable abbrev TE := St → Hp → VK → Prop
noncomputable abbrev TT := St → Hp → (Bool → Hp → Prop) → Prop
noncomputable abbrev TA := St → Hp → (List V → Hp → Prop) → Prop
set_option genInjectivity false in
set_option genSizeOf false in
/-- what is wanted behind a statement -/
structure Ends where
  nx : St → Hp → Prop
  rt : VK
  bk : St → Hp → Prop := fun _ _ => False
  ct : St → Hp → Prop := fun _ _ => False
noncomputable abbrev TS := Ends → St → Hp → Prop

noncomputable def EP (X : Cx) (pins : List (Addr × Obj)) (σ : St) (Q : VK) (u : Value) (s' : Shared) : Prop := ∃ v H', Inv X pins σ H' s' ∧ RelV v u ∧ Q v H'
noncomputable def TP (X : Cx) (pins : List (Addr × Obj)) (σ : St) (Q : Bool → Hp → Prop) (b : Bool) (s' : Shared) : Prop := ∃ H', Inv X pins σ H' s' ∧ Q b H'
noncomputable def AP (X : Cx) (pins : List (Addr × Obj)) (σ : St) (Q : List V → Hp → Prop) (us : List Value) (s' : Shared) : Prop := ∃ vs H', Inv X pins σ H' s' ∧ Vals vs us ∧ Q vs H'
noncomputable def SP (X : Cx) (pins : List (Addr × Obj)) (D : Ends) (f : Flow) (s' : Shared) : Prop :=
  match f with
  | .next => ∃ σ' H', Inv X pins σ' H' s' ∧ D.nx σ' H'
  | .brk => ∃ σ' H', Inv X pins σ' H' s' ∧ D.bk σ' H'
  | .cont => ∃ σ' H', Inv X pins σ' H' s' ∧ D.ct σ' H'
  | .ret u => ∃ v σ' H', Inv X pins σ' H' s' ∧ RelV v u ∧ D.rt v H'

noncomputable def PE (X : Cx) (e : Expr) (t : TE) : Prop :=
  ∀ (pins : List (Addr × Obj)) (s : Shared) (σ : St) (H : Hp) (Q : VK), Inv X pins σ H s → t σ H Q → wpAny (model X.prog X.w) X.A (eval e X.env) (EP X pins σ Q) X.xe s
noncomputable def PT (X : Cx) (e : Expr) (t : TT) : Prop :=
  ∀ (pins : List (Addr × Obj)) (s : Shared) (σ : St) (H : Hp) (Q : Bool → Hp → Prop), Inv X pins σ H s → t σ H Q → wpAny (model X.prog X.w) X.A (isTrue e X.env (eval e X.env)) (TP X pins σ Q) X.xe s
/-- a test whatever its 'whole' is (and, or) -/
noncomputable def PW (X : Cx) (e : Expr) (t : TT) : Prop :=
  ∀ (whole : Sem Value) (pins : List (Addr × Obj)) (s : Shared) (σ : St) (H : Hp) (Q : Bool → Hp → Prop), Inv X pins σ H s → t σ H Q → wpAny (model X.prog X.w) X.A (isTrue e X.env whole) (TP X pins σ Q) X.xe s
theorem PW.pt {X : Cx} {e : Expr} {t : TT} (h : PW X e t) : PT X e t := h _
/-- an argument list (no star), from the left -/
noncomputable def PA (X : Cx) (es : List Expr) (t : TA) : Prop :=
  ∀ (pos : Pos) (pins : List (Addr × Obj)) (s : Shared) (σ : St) (H : Hp) (Q : List V → Hp → Prop), Inv X pins σ H s → t σ H Q → wpAny (model X.prog X.w) X.A (spliced (backTo pos (starEach es X.env))) (AP X pins σ Q) X.xe s
noncomputable def PS (X : Cx) (st : Stmt) (t : TS) : Prop :=
  ∀ (pins : List (Addr × Obj)) (s : Shared) (σ : St) (H : Hp) (D : Ends), Inv X pins σ H s → t D σ H → wpAny (model X.prog X.w) X.A (exec st X.env) (SP X pins D) X.xe s
noncomputable def PSs (X : Cx) (st : List Stmt) (t : TS) : Prop :=
  ∀ (pins : List (Addr × Obj)) (s : Shared) (σ : St) (H : Hp) (D : Ends), Inv X pins σ H s → t D σ H → wpAny (model X.prog X.w) X.A (execs st X.env) (SP X pins D) X.xe s
/-- weaken the end -/
theorem thn {α : Type} {t : Sem α} {Q Q' : α → Shared → Prop} {M : Model} {A : Around} {E : Value → Shared → Prop} {s : Shared} (h : wpAny M A t Q E s) (hQ : ∀ a s, Q a s → Q' a s) : wpAny M A t Q' E s := wpAny_mono h hQ fun _ _ x => x
section
variable {X : Cx}

/-! ### names and constants -/
noncomputable def tVar (i : Nat) : TE := fun σ H Q => ∃ v, σ[i]? = some (some v) ∧ Q v H
noncomputable def tC (v : V) : TE := fun _ H Q => Q v H
theorem pe_var {i : Nat} {x : Str} {pos : Pos} (hN : X.N[i]? = some x) (hv : Vis X.env.scope x) (hd : (x == ("__debug__" : Str)) = false := by decide) (hcd : (x == ("__classdict__" : Str)) = false := by decide) : PE X (.Name x pos) (tVar i) := by
  intro pins s σ H Q I h
  obtain ⟨v, e, h⟩ := h
  obtain ⟨m, hn, hl⟩ := I.loc
  obtain ⟨u, r, l⟩ := hl i x v hN e hv
  have fin : EP X pins σ Q u s := ⟨v, H, I, r, h⟩
  rcases l with ⟨hk, hm⟩ | ⟨hk, c, hc, hcell⟩
  · exact wpAny_Name (wpAny_loadName_local I.ok.kind hk hn hm fin) hd
  · rcases hk with hk | hk
    · exact wpAny_Name (wpAny_loadName_cell I.ok.kind hk hc hcell fin) hd
    · exact wpAny_Name (wpAny_loadName_free I.ok.kind hk hc hcell fin hcd) hd
theorem pe_int {i j pos} : PE X (.Constant (.int i) j pos) (tC (.int i)) := fun _ _ _ H _ I h => wpAny_Constant_int ⟨.int i, H, I.tok _, ⟨_, rfl⟩, h⟩
theorem pe_bl {b j pos} : PE X (.Constant (.bool b) j pos) (tC (.bl b)) := fun _ _ _ H _ I h => Constant_bool ⟨.bl b, H, I, rfl, h⟩
theorem pe_non {j pos} : PE X (.Constant .none j pos) (tC .non) := fun _ _ _ H _ I h => Constant_none ⟨.non, H, I, rfl, h⟩
theorem pe_str {x j pos} : PE X (.Constant (.str x) j pos) (tC (.str x)) := fun _ _ _ H _ I h => Calls.Constant_str ⟨.str x, H, I.tok _, ⟨_, rfl⟩, h⟩

/-- a global name of the def -/
noncomputable def Gl (X : Cx) (x : Str) : Prop := X.env.kindOf x = some .globalImplicit
theorem ld_glob {E : Value → Shared → Prop} {pins : List (Addr × Obj)} {s : Shared} {σ : St} {H : Hp} {x : Str} {u : Value} {pos : Pos} {Q : Value → Shared → Prop} (I : Inv X pins σ H s) (hg : Gl X x) (hm : X.mg x = some u) (h : Q u s)
    (hd : (x == ("__debug__" : Str)) = false := by decide) : wpAny (model X.prog X.w) X.A (eval (.Name x pos) X.env) Q E s :=
  Calls.Name_function_global I.ok.kind hg (Calls.loadGlobal_global (by rw [I.ok.glob]; exact I.mod.glob.keeps I.bk) hm h) hd
theorem ld_blt {E : Value → Shared → Prop} {pins : List (Addr × Obj)} {s : Shared} {σ : St} {H : Hp} {x : Str} {u : Value} {pos : Pos} {Q : Value → Shared → Prop} (I : Inv X pins σ H s) (hg : Gl X x) (hm : X.mg x = none) (hv : bootBuiltins x = some u) (h : Q u s)
    (hn : x ≠ "__name__" := by decide) (hd : (x == ("__debug__" : Str)) = false := by decide) : wpAny (model X.prog X.w) X.A (eval (.Name x pos) X.env) Q E s := by
  obtain ⟨mb, h1, h2⟩ := I.mod.blt
  exact Calls.Name_function_global I.ok.kind hg (Calls.loadGlobal_builtin (by rw [I.ok.glob]; exact I.mod.glob.keeps I.bk) hm (by rw [I.ok.blt]; exact h1.keeps I.bk) ((h2 x hn).trans hv) h) hd
/-- a module's constant, a class, a function, as a value -/
theorem pe_glob {x : Str} {v : V} {u : Value} {pos : Pos} (hg : Gl X x) (hm : X.mg x = some u) (r : RelV v u) (hd : (x == ("__debug__" : Str)) = false := by decide) : PE X (.Name x pos) (tC v) :=
  fun _ _ _ H _ I h => ld_glob I hg hm ⟨v, H, I, r, h⟩ hd
theorem pe_bltn {x : Str} {v : V} {u : Value} {pos : Pos} (hg : Gl X x) (hm : X.mg x = none) (hv : bootBuiltins x = some u) (r : RelV v u) (hn : x ≠ "__name__" := by decide) (hd : (x == ("__debug__" : Str)) = false := by decide) : PE X (.Name x pos) (tC v) :=
  fun _ _ _ H _ I h => ld_blt I hg hm hv ⟨v, H, I, r, h⟩ hn hd

/-! ### arithmetic -/
/-- two ints -/
noncomputable def t2I (ta tb : TE) (k : Int → Int → Hp → Prop) : St → Hp → Prop := fun σ H => ta σ H fun x H1 => tb σ H1 fun y H2 => ∃ i j, x = .int i ∧ y = .int j ∧ k i j H2
noncomputable def tAdd (ta tb : TE) : TE := fun σ H Q => t2I ta tb (fun i j H2 => Q (.int (i + j)) H2) σ H
noncomputable def tSub (ta tb : TE) : TE := fun σ H Q => t2I ta tb (fun i j H2 => Q (.int (i - j)) H2) σ H
/-- the left factor below 2^64 -/
noncomputable def tMul (ta tb : TE) : TE := fun σ H Q => t2I ta tb (fun i j H2 => (-(2 ^ 64) < i ∧ i < 2 ^ 64) ∧ Q (.int (i * j)) H2) σ H
variable {a b : Expr} {ta tb : TE} {pos : Pos}
/-! ### comparisons -/
noncomputable def PC (X : Cx) (op : CmpOp) (a b : Expr) (t : TE) : Prop :=
  ∀ (pins : List (Addr × Obj)) (s : Shared) (σ : St) (H : Hp) (Q : VK), Inv X pins σ H s → t σ H Q →
    wpAny (model X.prog X.w) X.A (eval a X.env) (fun v s₁ => wpAny (model X.prog X.w) X.A (eval b X.env) (fun u s₂ => wpAny (model X.prog X.w) X.A (compareOp op v u) (EP X pins σ Q) X.xe s₂) X.xe s₁) X.xe s
theorem nobehind (b : Expr) {op : CmpOp} (h : op ≠ .In) (h2 : op ≠ .NotIn) : behindInMarks op b = false := by
  have e1 : (op == CmpOp.In) = false := by cases op <;> first | rfl | exact absurd rfl h
  have e2 : (op == CmpOp.NotIn) = false := by cases op <;> first | rfl | exact absurd rfl h2
  cases b <;> simp [behindInMarks, e1, e2]
noncomputable def tCmp (p : Int → Int → Bool) (ta tb : TE) : TE := fun σ H Q => t2I ta tb (fun i j H2 => Q (.bl (p i j)) H2) σ H
noncomputable abbrev tLt : TE → TE → TE := tCmp fun i j => decide (i < j)
noncomputable abbrev tLe : TE → TE → TE := tCmp fun i j => decide (i ≤ j)
noncomputable abbrev tGt : TE → TE → TE := tCmp fun i j => decide (j < i)
noncomputable abbrev tGe : TE → TE → TE := tCmp fun i j => decide (j ≤ i)
noncomputable abbrev tEqI : TE → TE → TE := tCmp fun i j => decide (i = j)
noncomputable abbrev tNeI : TE → TE → TE := tCmp fun i j => !decide (i = j)
/-- is None -/
noncomputable def tIsN (ta : TE) : TE := fun σ H Q => ta σ H fun x H1 => Q (.bl (decide (x = .non))) H1
noncomputable def tNotN (ta : TE) : TE := fun σ H Q => ta σ H fun x H1 => Q (.bl (!decide (x = .non))) H1
/-- a comparison as a value, as a test -/
noncomputable def tB (t : TE) : TT := fun σ H Q => t σ H fun x H1 => ∃ c, x = .bl c ∧ Q c H1
theorem pe_cmp {op : CmpOp} {t : TE} (h : PC X op a b t) (h1 : behindInMarks op b = false := by first | exact nobehind _ (by decide) (by decide) | rfl) : PE X (.Compare a [op] [b] pos) t := fun pins s σ H Q I hw => wpAny_Compare1 (h pins s σ H Q I hw) h1
theorem pt_cmp {op : CmpOp} {t : TE} (h : PC X op a b t) (h1 : behindInMarks op b = false := by first | exact nobehind _ (by decide) (by decide) | rfl) : PT X (.Compare a [op] [b] pos) (tB t) := by
  intro pins s σ H Q I hw
  refine wpAny_isTrue_Compare1 (thn (h pins s σ H _ I hw) fun v s1 h1 => thn h1 fun u s2 h2 => thn h2 fun c s3 ⟨x, H1, I1, r1, q1⟩ => ?_) h1
  obtain ⟨d, rfl, q⟩ := q1
  cases r1
  exact wpAny_truthy_bool ⟨H1, I1, q⟩
/-- an expression whose value is a bool, as a test -/
theorem pt_val {e : Expr} {t : TE} (h : PE X e t) (he : ∀ whole, isTrue e X.env whole = (do let v ← whole; standAt e.pos; holding [v] (truthy v)) := by intro _; rfl) : PT X e (tB t) := by
  intro pins s σ H Q I hw
  refine isTrue_plain (thn (h pins s σ H _ I hw) fun v s1 ⟨x, H1, I1, r1, q1⟩ => ?_) (he _)
  obtain ⟨d, rfl, q⟩ := q1
  cases r1
  exact wpAny_truthy_bool ⟨H1, I1, q⟩

/-! ### and, or, not -/
variable {tA tB' : TT} {rest : List Expr}
noncomputable def tAnd (t u : TT) : TT := fun σ H Q => t σ H fun c H1 => if c = true then u σ H1 Q else Q false H1
noncomputable def tOr (t u : TT) : TT := fun σ H Q => t σ H fun c H1 => if c = true then Q true H1 else u σ H1 Q
noncomputable def tNot (t : TT) : TT := fun σ H Q => t σ H fun c H1 => Q (!c) H1
theorem pw_and1 (ha : PT X a tA) : PW X (.BoolOp .And [a] pos) tA := by
  intro wh pins s σ H Q I h
  refine isTrue_and (thn (ha pins s σ H Q I h) fun c s1 e => ?_)
  cases c with
  | true => exact isTrue_and_nil e
  | false => exact e
theorem pw_or1 (ha : PT X a tA) : PW X (.BoolOp .Or [a] pos) tA := by
  intro wh pins s σ H Q I h
  refine isTrue_or (thn (ha pins s σ H Q I h) fun c s1 e => ?_)
  cases c with
  | false => exact isTrue_or_nil e
  | true => exact e
theorem pt_not (ha : PT X a tA) : PT X (.UnaryOp .Not a pos) (tNot tA) := by
  intro pins s σ H Q I h
  exact isTrue_not (ha pins s σ H (fun c H1 => Q (!c) H1) I h)
/-- .. as values (bools) -/
noncomputable def tAndV (ta tb : TE) : TE := fun σ H Q => ta σ H fun x H1 => ∃ c, x = .bl c ∧ if c = true then tb σ H1 Q else Q (.bl false) H1
noncomputable def tOrV (ta tb : TE) : TE := fun σ H Q => ta σ H fun x H1 => ∃ c, x = .bl c ∧ if c = true then Q (.bl true) H1 else tb σ H1 Q
noncomputable def tNotV (ta : TE) : TE := fun σ H Q => ta σ H fun x H1 => ∃ c, x = .bl c ∧ Q (.bl (!c)) H1
theorem pe_one {op} {t : TE} (h : PE X a t) : PE X (.BoolOp op [a] pos) t := fun pins s σ H Q I hw => BoolOp_one (h pins s σ H Q I hw)
/-- a if t else b -/
noncomputable def tIf (t : TT) (ta tb : TE) : TE := fun σ H Q => t σ H fun c H1 => if c = true then ta σ H1 Q else tb σ H1 Q
theorem pe_ifExp {c : Expr} (hc : PT X c tA) (ha : PE X a ta) (hb : PE X b tb) : PE X (.IfExp c a b pos) (tIf tA ta tb) := by
  intro pins s σ H Q I h
  refine wpAny_IfExp (thn (hc pins s σ H _ I h) fun d s1 hz0 => ?_)
  obtain ⟨H1, I1, q1⟩ := hz0
  cases d with
  | true => exact ha pins s1 σ H1 Q I1 q1
  | false => exact hb pins s1 σ H1 Q I1 q1
end

/-! ### a list, a tuple that is read: tracked, frozen, or an object of the module -/
noncomputable def SqL (K : PySem.W.Frag) (H : Hp) (a : Addr) (xs : List V) : Prop :=
  Rd H a (.lst xs) ∨
    ∃ (o : Obj) (its : Array Value) (n : Nat), K.lookup a = some o ∧ o.cls = .type "list" ∧ o.dict = none ∧ o.data = .seq its n ∧ its.size ≤ sizeLine ∧ Vals xs its.toList
noncomputable def SqT (K : PySem.W.Frag) (H : Hp) (a : Addr) (xs : List V) : Prop :=
  Rd H a (.tup xs) ∨
    ∃ (o : Obj) (its : Array Value) (n : Nat), K.lookup a = some o ∧ o.cls = .type "tuple" ∧ o.data = .seq its n ∧ its.size ≤ sizeLine ∧ Vals xs its.toList
noncomputable def absV : Value → Option V
  | .none => some .non
  | .bool b => some (.bl b)
  | .int i _ => some (.int i)
  | .str x _ => some (.str x)
  | .bytes b _ => some (.byt b)
  | .float b _ => some (.flt b)
  | .ref a => some (.ref a)
  | .type n => some (.ty n)
  | _ => none
theorem RelV.abs {x : V} {u : Value} (r : RelV x u) : absV u = some x := by
  cases x with
  | non => cases r; rfl
  | bl _ => cases r; rfl
  | int _ => obtain ⟨t, rfl⟩ := r; rfl
  | str _ => obtain ⟨t, rfl⟩ := r; rfl
  | byt _ => obtain ⟨t, rfl⟩ := r; rfl
  | flt _ => obtain ⟨t, rfl⟩ := r; rfl
  | ref _ => cases r; rfl
  | ty _ => cases r; rfl
theorem RelV.inj {x y : V} {u : Value} (r : RelV x u) (q : RelV y u) : x = y := Option.some.inj (r.abs.symm.trans q.abs)
theorem Vals.inj {xs ys : List V} {us : List Value} (h : Vals xs us) (g : Vals ys us) : xs = ys := by
  induction h generalizing ys with
  | nil =>
    cases g
    rfl
  | cons r t ih =>
    cases g with
    | cons r' t' => rw [r.inj r', ih t']
section
variable {X : Cx} {pins : List (Addr × Obj)} {σ : St} {H : Hp} {s : Shared} {a : Addr} {xs ys : List V}
theorem SqL.of {K : PySem.W.Frag} (h : H a = some (.lst xs)) : SqL K H a xs := .inl (.inl h)
theorem SqT.of {K : PySem.W.Frag} (h : H a = some (.tup xs)) : SqT K H a xs := .inl (.inl h)
theorem Inv.list (I : Inv X pins σ H s) (h : SqL X.K H a xs) : ∃ its : List Value, Vals xs its ∧ PlainL s.heap a its.toArray ∧ xs.length ≤ sizeLine := by
  rcases h with h | ⟨o, its, n, hk, hc, hd, hs, hz, r⟩
  · obtain ⟨z, its, n, r, e⟩ := h.ok I.hok
    exact ⟨its, r, ⟨_, n, e, rfl, rfl, rfl⟩, z⟩
  · refine ⟨its.toList, r, ⟨o, n, I.kIn a o hk, hc, hd, by simpa using hs⟩, ?_⟩
    have e := r.length
    simp only [Array.length_toList] at e
    omega
theorem Inv.tuple (I : Inv X pins σ H s) (h : SqT X.K H a xs) : ∃ its : List Value, Vals xs its ∧ IsTup s.heap a its.toArray ∧ xs.length ≤ sizeLine := by
  rcases h with h | ⟨o, its, n, hk, hc, hs, hz, r⟩
  · obtain ⟨z, its, r, p⟩ := h.ok I.hok
    exact ⟨its, r, p, z.1⟩
  · refine ⟨its.toList, r, ⟨o, I.kIn a o hk, hc, n, by simpa using hs⟩, ?_⟩
    have e := r.length
    simp only [Array.length_toList] at e
    omega
theorem Inv.list_inj (I : Inv X pins σ H s) (h : SqL X.K H a xs) (h' : SqL X.K H a ys) : xs = ys := by
  obtain ⟨its, r, ⟨o, n, e, _, _, d⟩, _⟩ := I.list h
  obtain ⟨its', r', ⟨o', n', e', _, _, d'⟩, _⟩ := I.list h'
  rw [e] at e'; cases e'
  rw [d] at d'
  injection d' with d1 _
  have : its = its' := by simpa using congrArg Array.toList d1
  subst this
  exact r.inj r'
theorem Inv.tuple_inj (I : Inv X pins σ H s) (h : SqT X.K H a xs) (h' : SqT X.K H a ys) : xs = ys := by
  obtain ⟨its, r, ⟨o, e, _, n, d⟩, _⟩ := I.tuple h
  obtain ⟨its', r', ⟨o', e', _, n', d'⟩, _⟩ := I.tuple h'
  rw [e] at e'; cases e'
  rw [d] at d'
  injection d' with d1 _
  have : its = its' := by simpa using congrArg Array.toList d1
  subst this
  exact r.inj r'
end

/-! ### another wish about exceptions -/
noncomputable abbrev Cx.wish (X : Cx) (E : Value → Shared → Prop) : Cx := { X with xe := E }
/-- no exception leaves -/
noncomputable abbrev Cx.nox (X : Cx) : Cx := X.wish fun _ _ => False
theorem Cx.Ok.wish {X : Cx} (ok : X.Ok) (E : Value → Shared → Prop) : (X.wish E).Ok :=
  ⟨ok.mod, ok.kind, ok.glob, ok.blt, ok.above, ok.inj, ok.has, ok.cab, ok.hd, ok.frames, ok.stk, ok.exf, ok.bs, ok.bsz, ok.noex, ok.exfs, ok.funs, ok.frf⟩
theorem Cx.Ok.unwish {X : Cx} {E : Value → Shared → Prop} (ok : (X.wish E).Ok) : X.Ok :=
  ⟨ok.mod, ok.kind, ok.glob, ok.blt, ok.above, ok.inj, ok.has, ok.cab, ok.hd, ok.frames, ok.stk, ok.exf, ok.bs, ok.bsz, ok.noex, ok.exfs, ok.funs, ok.frf⟩
section
variable {X : Cx} {pins : List (Addr × Obj)} {σ : St} {H : Hp} {s : Shared} {E : Value → Shared → Prop}
theorem Inv.wish (I : Inv X pins σ H s) (E : Value → Shared → Prop) : Inv (X.wish E) pins σ H s := ⟨I.ok.wish E, I.os, I.bare, I.base, I.loc, I.cell, I.free, I.freeC, I.pin, I.hok, I.len⟩
theorem Inv.unwish (I : Inv (X.wish E) pins σ H s) : Inv X pins σ H s := ⟨I.ok.unwish, I.os, I.bare, I.base, I.loc, I.cell, I.free, I.freeC, I.pin, I.hok, I.len⟩
theorem SP.unwish {D : Ends} {f : Flow} {s' : Shared} (h : SP (X.wish E) pins D f s') : SP X pins D f s' := by
  cases f with
  | next => obtain ⟨σ', H', I, q⟩ := h; exact ⟨σ', H', I.unwish, q⟩
  | brk => obtain ⟨σ', H', I, q⟩ := h; exact ⟨σ', H', I.unwish, q⟩
  | cont => obtain ⟨σ', H', I, q⟩ := h; exact ⟨σ', H', I.unwish, q⟩
  | ret u => obtain ⟨v, σ', H', I, r, q⟩ := h; exact ⟨v, σ', H', I.unwish, r, q⟩
theorem PE.nox {e : Expr} {t : TE} (h : PE X.nox e t) : PE X e t := fun pins s σ H Q I hw =>
  wpAny_mono (h pins s σ H Q (I.wish _) hw) (fun _ _ ⟨v, H', I', r, q⟩ => ⟨v, H', I'.unwish, r, q⟩) fun _ _ z => False.elim z
theorem PT.nox {e : Expr} {t : TT} (h : PT X.nox e t) : PT X e t := fun pins s σ H Q I hw =>
  wpAny_mono (h pins s σ H Q (I.wish _) hw) (fun _ _ ⟨H', I', q⟩ => ⟨H', I'.unwish, q⟩) fun _ _ z => False.elim z
theorem PSs.nox {st : List Stmt} {t : TS} (h : PSs X.nox st t) : PSs X st t := fun pins s σ H D I hw =>
  wpAny_mono (h pins s σ H D (I.wish _) hw) (fun _ _ q => q.unwish) fun _ _ z => False.elim z
end

/-! ### blocks and small statements -/
section
variable {X : Cx} {st : Stmt} {rest : List Stmt} {t u : TS} {e : Expr} {te : TE} {pos : Pos}
noncomputable def tNext : TS := fun D σ H => D.nx σ H
noncomputable def tSeq (t u : TS) : TS := fun D σ H => t { D with nx := u D } σ H
theorem pss_nil : PSs X [] tNext := fun _ _ σ H _ I h => wpAny_execs_nil ⟨σ, H, I, h⟩
theorem pss_cons (h1 : PS X st t) (h2 : PSs X rest u) : PSs X (st :: rest) (tSeq t u) := by
  intro pins s σ H D I h
  refine wpAny_execs_cons (thn (h1 pins s σ H { D with nx := u D } I h) fun f s1 q => ?_)
  cases f with
  | next =>
    obtain ⟨σ', H', I', q⟩ := q
    exact h2 pins s1 σ' H' D I' q
  | ret v => exact q
  | brk => exact q
  | cont => exact q
theorem pss_one (h1 : PS X st t) : PSs X [st] t := by
  intro pins s σ H D I h
  refine wpAny_execs_cons (thn (h1 pins s σ H D I h) fun f s1 q => ?_)
  cases f with
  | next => exact wpAny_execs_nil q
  | ret v => exact q
  | brk => exact q
  | cont => exact q
noncomputable def tBreak : TS := fun D σ H => D.bk σ H
noncomputable def tCont : TS := fun D σ H => D.ct σ H
/-- in a def's body nothing is shown -/
theorem Inv.quiet {pins : List (Addr × Obj)} {σ : St} {H : Hp} {s : Shared} (I : Inv X pins σ H s) : interactive X.env = false := by simp [interactive, I.ok.kind]
/-- an expression whose value is dropped -/
noncomputable def tDrop (te : TE) : TS := fun D σ H => te σ H fun _ H1 => D.nx σ H1
theorem ps_expr (he : PE X e te) (hs : swapsWith e none pos.line X.env = pure false := by rfl) : PS X (.Expr e pos) (tDrop te) := by
  intro pins s σ H D I h
  exact wpAny_Expr_any (thn (he pins s σ H _ I h) fun v s1 ⟨x, H1, I1, r1, q1⟩ => ⟨σ, H1, I1, q1⟩) I.quiet hs
noncomputable def tRet (te : TE) : TS := fun D σ H => te σ H D.rt
theorem ps_ret (he : PE X e te) : PS X (.Return (some e) pos) (tRet te) := by
  intro pins s σ H D I h
  exact wpAny_Return_some (thn (he pins s σ H _ I h) fun v s1 ⟨x, H1, I1, r1, q1⟩ => ⟨x, σ, H1, I1, r1, q1⟩)
noncomputable def tRetN : TS := fun D _ H => D.rt .non H
noncomputable def tIfS (c : TT) (t u : TS) : TS := fun D σ H => c σ H fun b H1 => if b = true then t D σ H1 else u D σ H1
theorem ps_if {c : Expr} {a b : List Stmt} {tc : TT} (hc : PT X c tc) (ha : PSs X a t) (hb : PSs X b u) : PS X (.If c a b pos) (tIfS tc t u) := by
  intro pins s σ H D I h
  refine wpAny_If (thn (hc pins s σ H _ I h) fun d s1 hz0 => ?_)
  obtain ⟨H1, I1, q1⟩ := hz0
  cases d with
  | true => exact ha pins s1 σ H1 D I1 q1
  | false => exact hb pins s1 σ H1 D I1 q1
/-- code that the proof never comes to -/
noncomputable def tNever : TS := fun _ _ _ => False
theorem ps_never : PS X st tNever := fun _ _ _ _ _ _ h => h.elim
end

/-! ### targets -/
noncomputable abbrev TG := V → St → Hp → (St → Hp → Prop) → Prop
noncomputable abbrev TGs := List V → St → Hp → (St → Hp → Prop) → Prop
noncomputable def PG (X : Cx) (target : Expr) (t : TG) : Prop :=
  ∀ (pins : List (Addr × Obj)) (s : Shared) (σ : St) (H : Hp) (v : V) (u : Value) (Q : St → Hp → Prop), Inv X pins σ H s → RelV v u → t v σ H Q →
    wpAny (model X.prog X.w) X.A (assign target X.env u) (fun _ s' => ∃ σ' H', Inv X pins σ' H' s' ∧ Q σ' H') X.xe s
/-- several targets, one after another -/
noncomputable def PGs (X : Cx) (ts : List Expr) (t : TGs) : Prop :=
  ∀ (pins : List (Addr × Obj)) (s : Shared) (σ : St) (H : Hp) (vs : List V) (us : List Value) (Q : St → Hp → Prop), Inv X pins σ H s → Vals vs us → t vs σ H Q →
    wpAny (model X.prog X.w) X.A (assignInOrder ((assignEach ts X.env).map (·.2)) us) (fun _ s' => ∃ σ' H', Inv X pins σ' H' s' ∧ Q σ' H') X.xe s
/-- o[i] = v, by values -/
noncomputable abbrev TSet := V → V → V → Hp → (Hp → Prop) → Prop
noncomputable def PSet (X : Cx) (t : TSet) : Prop :=
  ∀ (pins : List (Addr × Obj)) (s : Shared) (σ : St) (H : Hp) (o i v : V) (ov iv u : Value) (Q : Hp → Prop), Inv X pins σ H s → RelV o ov → RelV i iv → RelV v u → t o i v H Q →
    wpAny (model X.prog X.w) X.A (setItem ov iv u) (fun _ s' => ∃ H', Inv X pins σ H' s' ∧ Q H') X.xe s
/-- a op= b, by values -/
noncomputable abbrev TIp := V → V → Hp → VK → Prop
noncomputable def PIp (X : Cx) (op : Operator) (t : TIp) : Prop :=
  ∀ (pins : List (Addr × Obj)) (s : Shared) (σ : St) (H : Hp) (x y : V) (v u : Value) (Q : VK), Inv X pins σ H s → RelV x v → RelV y u → t x y H Q →
    wpAny (model X.prog X.w) X.A (inplaceOp op v u) (EP X pins σ Q) X.xe s
section
variable {X : Cx} {pos : Pos}
noncomputable def gName (i : Nat) : TG := fun v σ H Q => Q (σ.set i (some v)) H
theorem pg_name {i : Nat} {x : Str} (hN : X.N.Nodup) (hi : X.N[i]? = some x) (hx : Loc X.env.scope x) (hf : X.fn x = true ∨ X.env.scope.names.lookup x = some .local := by first | exact .inl rfl | exact .inr rfl | assumption) : PG X (.Name x pos) (gName i) := by
  intro pins s σ H v u Q I r h
  exact wpAny_assign_Name (store_ok I hN hi hx r (fun s' I' => ⟨_, H, I', h⟩) hf)
noncomputable def gNil : TGs := fun vs σ H Q => vs = [] ∧ Q σ H
noncomputable def gCons (t : TG) (u : TGs) : TGs := fun vs σ H Q => ∃ v r, vs = v :: r ∧ t v σ H fun σ' H' => u r σ' H' Q
theorem pgs_nil : PGs X [] gNil := by
  intro pins s σ H vs us Q I r h
  obtain ⟨e, h⟩ := h
  subst e
  cases r
  exact assignInOrder_nil ⟨σ, H, I, h⟩
theorem pgs_cons {e : Expr} {es : List Expr} {t : TG} {u : TGs} (h1 : PG X e t) (h2 : PGs X es u)
    (hs : (assignEach (e :: es) X.env).map (·.2) = assign e X.env :: (assignEach es X.env).map (·.2) := by rfl) : PGs X (e :: es) (gCons t u) := by
  intro pins s σ H vs us Q I r h
  obtain ⟨v, vr, e1, h⟩ := h
  subst e1
  cases r with
  | cons r rr =>
    rw [hs]
    refine assignInOrder_cons (thn (h1 pins s σ H _ _ _ I r h) fun _ s1 hz0 => ?_)
    obtain ⟨σ1, H1, I1, q1⟩ := hz0
    exact h2 pins s1 σ1 H1 _ _ Q I1 rr q1
/-- (a, b, ..) = a tuple of that length -/
noncomputable def gTup (K : PySem.W.Frag) (n : Nat) (t : TGs) : TG := fun v σ H Q => ∃ a xs, v = .ref a ∧ SqT K H a xs ∧ xs.length = n ∧ t xs σ H Q
theorem pg_tup {es : List Expr} {k : Nat} {t : TGs} {n : Nat} (hc : X.calm = true) (h : PGs X es t)
    (hn : (assignEach es X.env).length = n := by rfl) (hst : (assignEach es X.env).findIdx? (·.1) = none := by rfl) : PG X (.Tuple es k pos) (gTup X.K n t) := by
  intro pins s σ H v u Q I r hw
  obtain ⟨a, xs, e1, hq, hl, hw⟩ := hw
  subst e1
  cases r
  obtain ⟨its, rv, ht, hz⟩ := I.tuple hq
  refine assign_Tuple_tuple (I.ok.hd hc) ht (by simp [hn, ← hl, rv.length]) hst fun h' hx => ?_
  have I1 : Inv X pins σ H { s with heap := h' } := I.kept (t' := s.toks) fun b o e => hx b o (Nat.ne_of_lt (Heap.lt_size e)) e
  exact h pins _ σ H xs _ Q I1 (by simpa using rv) hw
/-- o[i] = .. -/
noncomputable def gSub (to ti : TE) (t : TSet) : TG := fun v σ H Q => to σ H fun o H1 => ti σ H1 fun i H2 => t o i v H2 fun H3 => Q σ H3
theorem pg_sub {o i : Expr} {to ti : TE} {t : TSet} (ho : PE X o to) (hi : PE X i ti) (hs : PSet X t)
    (ha : ∀ v, assign (.Subscript o i pos) X.env v = (do
      let ov ← holding [v] (eval o X.env)
      let iv ← holding [v, ov] (eval i X.env)
      standAt pos
      holding [v, ov, iv] (setItem ov iv v)
      release [v, ov, iv] []) := by intro _; rfl) : PG X (.Subscript o i pos) (gSub to ti t) := by
  intro pins s σ H v u Q I r h
  rw [ha]
  refine wpAny_bind (wpAny_holding (thn (ho pins s σ H _ I h) fun ov s1 hz0 => ?_))
  obtain ⟨x, H1, I1, r1, q1⟩ := hz0
  refine wpAny_bind (wpAny_holding (thn (hi pins s1 σ H1 _ I1 q1) fun iv s2 hz0 => ?_))
  obtain ⟨y, H2, I2, r2, q2⟩ := hz0
  refine wpAny_bind (wpAny_standAt (wpAny_bind (wpAny_holding (thn (hs pins s2 σ H2 x y v ov iv u _ I2 r1 r2 r q2) fun _ s3 hz0 => ?_))))
  obtain ⟨H3, I3, q3⟩ := hz0
  exact wpAny_release ⟨σ, H3, I3, q3⟩
/-- target = value -/
noncomputable def tAsg (te : TE) (g : TG) : TS := fun D σ H => te σ H fun x H1 => g x σ H1 D.nx
theorem ps_asg {tg e : Expr} {te : TE} {g : TG} (he : PE X e te) (hg : PG X tg g) (hs : swapsWithSole [tg] e pos.line X.env = pure false := by rfl) (hw : swappedStores [tg] e X.env = pure none := by rfl)
    (h1 : (assignEach [tg] X.env).map (·.2) = [assign tg X.env] := by rfl) : PS X (.Assign [tg] e pos) (tAsg te g) := by
  intro pins s σ H D I h
  refine wpAny_Assign_stores (thn (he pins s σ H _ I h) fun v s1 ⟨x, H1, I1, r1, q1⟩ => ?_) hs hw
  rw [h1]
  exact thn (hg pins s1 σ H1 x v _ I1 r1 q1) fun _ s2 q => q
/-- name = value -/
theorem ps_set {i : Nat} {x : Str} {e : Expr} {te : TE} {pos' : Pos} (hN : X.N.Nodup) (hi : X.N[i]? = some x) (hx : Loc X.env.scope x) (he : PE X e te) (hs : swapsWith e (some (.Name x pos')) pos.line X.env = pure false := by rfl) (hf : X.fn x = true ∨ X.env.scope.names.lookup x = some .local := by first | exact .inl rfl | exact .inr rfl | assumption) :
    PS X (.Assign [.Name x pos'] e pos) (tAsg te (gName i)) := by
  intro pins s σ H D I h
  refine wpAny_Assign_Name (thn (he pins s σ H _ I h) fun v s1 ⟨y, H1, I1, r1, q1⟩ => ?_) hs
  exact store_ok I1 hN hi hx r1 (fun s2 I2 => ⟨_, H1, I2, q1⟩) hf
/-- a, b = x, y with plain local names: stored from the right; the pair itself is not tracked (the opening rows as in PyProof/Rows/TupAssign.lean:23) -/
noncomputable def tPar (i j : Nat) (ta : TA) : TS := fun D σ H => ta σ H fun vs H1 => ∃ v w, vs = [v, w] ∧ D.nx ((σ.set i (some v)).set j (some w)) H1
/-- name op= e -/
noncomputable def tAug (i : Nat) (te : TE) (ti : TIp) : TS := fun D σ H => ∃ x, σ[i]? = some (some x) ∧ te σ H fun y H1 => ti x y H1 fun z H2 => D.nx (σ.set i (some z)) H2
/-- o[i] op= e -/
noncomputable def tAugS (to ti te : TE) (tget : V → V → Hp → VK → Prop) (tip : TIp) (tset : TSet) : TS := fun D σ H => to σ H fun o H1 => ti σ H1 fun i H2 => tget o i H2 fun x H3 => te σ H3 fun y H4 => tip x y H4 fun z H5 => tset o i z H5 fun H6 => D.nx σ H6
/-- o[i], by values -/
noncomputable def PGet (X : Cx) (t : V → V → Hp → VK → Prop) : Prop :=
  ∀ (pins : List (Addr × Obj)) (s : Shared) (σ : St) (H : Hp) (o i : V) (ov iv : Value) (Q : VK), Inv X pins σ H s → RelV o ov → RelV i iv → t o i H Q →
    wpAny (model X.prog X.w) X.A (getItem ov iv) (EP X pins σ Q) X.xe s
/-- ints -/
noncomputable def ipI (f : Int → Int → Int) : TIp := fun x y H Q => ∃ i j, x = .int i ∧ y = .int j ∧ Q (.int (f i j)) H
end

/-! ### while -/
section
variable {X : Cx} {pos : Pos}
/-- the invariant W with its measure -/
noncomputable def tWhile (c : TT) (tb : TS) : TS := fun D σ H => ∃ W : Nat → St → Hp → Prop, (∃ m, W m σ H) ∧ ∀ m σ H, W m σ H →
  c σ H fun b H1 => if b = true then ∃ N : St → Hp → Prop, (∀ σ' H', N σ' H' → ∃ m', m' < m ∧ W m' σ' H') ∧ tb { D with nx := N, ct := N, bk := D.nx } σ H1 else D.nx σ H1
theorem ps_while {c : Expr} {body : List Stmt} {tc : TT} {tb : TS} (hp : PassesOwn (model X.prog X.w) X.A X.env X.xe) (hc : PT X c tc) (hb : PSs X body tb) : PS X (.While c body [] pos) (tWhile tc tb) := by
  intro pins s σ H D I h
  obtain ⟨W, ⟨m0, w0⟩, turn⟩ := h
  refine wpAny_While (codeAny_whileLoop (fun n s' => ∃ σ' H', Inv X pins σ' H' s' ∧ W n σ' H') ?_ m0 ⟨σ, H, I, w0⟩)
  rintro n s1 ⟨σ1, H1, I1, w1⟩
  refine wpAny_passesOwn hp (thn (hc pins s1 σ1 H1 _ I1 (turn n σ1 H1 w1)) fun b s2 hz0 => ?_)
  obtain ⟨H2, I2, q2⟩ := hz0
  cases b with
  | true =>
    obtain ⟨N, hN, q2⟩ := q2
    rw [if_pos rfl]
    refine wpAny_passesOwn hp (thn (hb pins s2 σ1 H2 _ I2 q2) fun f s3 q3 => ?_)
    cases f with
    | next =>
      obtain ⟨σ3, H3, I3, n3⟩ := q3
      obtain ⟨m', hm, w3⟩ := hN σ3 H3 n3
      exact ⟨m', hm, σ3, H3, I3, w3⟩
    | cont =>
      obtain ⟨σ3, H3, I3, n3⟩ := q3
      obtain ⟨m', hm, w3⟩ := hN σ3 H3 n3
      exact ⟨m', hm, σ3, H3, I3, w3⟩
    | brk => exact q3
    | ret v => exact q3
  | false =>
    rw [if_neg Bool.false_ne_true]
    exact wpAny_execs_nil ⟨σ1, H2, I2, q2⟩
end

/-! ### what a loop or a comprehension walks -/
set_option genInjectivity false in
set_option genSizeOf false in
/-- at turn i: it yields x (the heap may grow), or it stops -/
structure It where
  go : Nat → Hp → Prop
  yld : Nat → Hp → V → Hp → Prop
  stop : Nat → Hp → Prop
/-- the iterator's own objects may turn: they are not the frame's, not pinned, younger than the entry (or a comprehension's own) -/
noncomputable def FpOk (X : Cx) (pins : List (Addr × Obj)) (H : Hp) (b : Addr) : Prop :=
  H b = none ∧ b ≠ X.env.locals ∧ b ∉ X.fs ∧ (b ∈ X.ex ∨ X.s₀.heap.objs.size ≤ b) ∧ (∀ x c, X.env.cells.lookup x = some c → c ≠ b) ∧ ∀ p ∈ X.pn ++ pins, p.1 ≠ b
theorem Inv.fpOk {X : Cx} {pins : List (Addr × Obj)} {σ : St} {H H' : Hp} {s : Shared} {b : Addr} (I : Inv X pins σ H s) (hb : s.heap.objs.size ≤ b) (hn : H' b = none) : FpOk X pins H' b := by
  refine ⟨hn, Nat.ne_of_gt (Nat.lt_of_lt_of_le I.lt hb), I.nofs hb, .inr (Nat.le_trans I.sz hb), fun x c e z => ?_, fun p hp z => ?_⟩
  · obtain ⟨v, q⟩ := I.cell x c e
    exact absurd (Nat.lt_of_lt_of_le q.lt (by rw [z]; exact hb)) (Nat.lt_irrefl _)
  · exact absurd (Nat.lt_of_lt_of_le (Heap.lt_size (I.pin p hp).1) (by rw [z]; exact hb)) (Nat.lt_irrefl _)
structure Turn (P : Program) (w : World) (K : PySem.W.Frag) (tg : Expr) (J : It) (fp : List Addr) (it : Addr) (tn : Nat → Heap → Prop) : Prop where
  mem : it ∈ fp
  obj : ∀ i h, tn i h → ∀ b ∈ fp, ∃ o, h.get? b = some o ∧ ∀ v, o.data ≠ .cell v
  keep : ∀ i h h', tn i h → (∀ b ∈ fp, ∀ o, h.get? b = some o → h'.get? b = some o) → tn i h'
  item : ∀ (X : Cx), X.prog = P → X.w = w → X.K = K → X.calm = true → ∀ (i : Nat) (pins : List (Addr × Obj)) (s : Shared) (σ : St) (H : Hp) (E : Value → Shared → Prop), Inv X pins σ H s → (∀ b ∈ fp, FpOk X pins H b) → tn i s.heap → J.go i H →
    wpAny (model P w) X.A (pyNext (.ref it)) (fun r s1 => ∃ u, r = some u ∧
      wpAny (model P w) X.A (letOwnedTupleGo tg (.ref it) u) (fun _ s2 => ∃ x H', Inv X pins σ H' s2 ∧ RelV x u ∧ J.yld i H x H' ∧ tn (i + 1) s2.heap ∧ ∀ b ∈ fp, H' b = none) E s1) E s
  done : ∀ (X : Cx), X.prog = P → X.w = w → X.K = K → X.calm = true → ∀ (i : Nat) (pins : List (Addr × Obj)) (s : Shared) (σ : St) (H : Hp) (E : Value → Shared → Prop), Inv X pins σ H s → (∀ b ∈ fp, FpOk X pins H b) → tn i s.heap → J.stop i H →
    wpAny (model P w) X.A (pyNext (.ref it)) (fun r s1 => r = none ∧ Inv X pins σ H s1) E s
  self : ∀ (A : Around) (i : Nat) (s : Shared) (Q : Value → Shared → Prop) (E : Value → Shared → Prop), tn i s.heap → Q (.ref it) s → wpAny (model P w) A (pyIter (.ref it)) Q E s
noncomputable abbrev TI := St → Hp → (It → Hp → Prop) → Prop
/-- an iterator has come -/
noncomputable def PIE (X : Cx) (pins : List (Addr × Obj)) (σ : St) (tg : Expr) (R : It → Hp → Prop) (itv : Value) (s2 : Shared) : Prop :=
  ∃ (it : Addr) (fp : List Addr) (tn : Nat → Heap → Prop) (J : It) (H' : Hp), itv = .ref it ∧ Inv X pins σ H' s2 ∧ Turn X.prog X.w X.K tg J fp it tn ∧ tn 0 s2.heap ∧ (∀ b ∈ fp, FpOk X pins H' b) ∧ R J H'
noncomputable def PI (X : Cx) (tg iter : Expr) (wi : TI) : Prop :=
  ∀ (pins : List (Addr × Obj)) (s : Shared) (σ : St) (H : Hp) (R : It → Hp → Prop), Inv X pins σ H s → wi σ H R →
    wpAny (model X.prog X.w) X.A (eval iter X.env) (fun v s1 => wpAny (model X.prog X.w) X.A (pyIter v) (PIE X pins σ tg R) X.xe s1) X.xe s

/-- the step ahead of the store is nothing for an iterator that keeps no tuple -/
theorem go_of {M : Model} {A : Around} {E : Value → Shared → Prop} {s : Shared} {tg : Expr} {it : Addr} {u : Value} {o : Obj} {n : String} {vs : Array Value} {Q : Unit → Shared → Prop} (ho : s.heap.get? it = some o) (hc : o.cls = .type n) (hd : o.data = .fields vs)
    (hn : ["enumerate", "zip", "dict_itemiterator", "dict_reverseitemiterator", "odict_iterator", "itertools.zip_longest", "itertools.pairwise"].contains n = false) (hQ : Q () s) : wpAny M A (letOwnedTupleGo tg (.ref it) u) Q E s := by
  unfold letOwnedTupleGo
  cases tg <;> first
    | exact wpAny_pure hQ
    | (cases u <;> first
        | exact wpAny_pure hQ
        | (refine wpAny_bind (wpAny_load ho ?_)
           rw [hc, hd]
           show wpAny M A (if (["enumerate", "zip", "dict_itemiterator", "dict_reverseitemiterator", "odict_iterator", "itertools.zip_longest", "itertools.pairwise"].contains n && vs[0]? == some (rawInt _)) = true then _ else _) Q E s
           rw [if_neg (by intro h; rw [hn, Bool.false_and] at h; cases h)]
           exact wpAny_pure hQ))

/-- the list at a, as it stands at each turn (a loop may append to it) -/
noncomputable def Itl (K : PySem.W.Frag) (a : Addr) : It :=
  ⟨fun i H => ∃ xs x, SqL K H a xs ∧ xs[i]? = some x, fun i H x H' => H' = H ∧ ∀ xs, SqL K H a xs → xs[i]? = some x, fun i H => ∃ xs, SqL K H a xs ∧ xs.length ≤ i⟩
noncomputable def Itt (K : PySem.W.Frag) (a : Addr) : It :=
  ⟨fun i H => ∃ xs x, SqT K H a xs ∧ xs[i]? = some x, fun i H x H' => H' = H ∧ ∀ xs, SqT K H a xs → xs[i]? = some x, fun i H => ∃ xs, SqT K H a xs ∧ xs.length ≤ i⟩
/-- lo, lo + 1, .. (n of them) -/
noncomputable def Itr (lo : Int) (n : Nat) : It := ⟨fun i _ => i < n, fun i H x H' => H' = H ∧ x = .int (lo + i), fun i _ => n ≤ i⟩
theorem turn_list {P : Program} {w : World} {K : PySem.W.Frag} {tg : Expr} (a it : Addr) : Turn P w K tg (Itl K a) [it] it (fun i h => h.IsListIter it a i) where
  mem := by simp
  obj := fun i h st b hb => by
    have e : b = it := by simpa using hb
    subst e
    obtain ⟨o, e, c, d⟩ := st
    exact ⟨o, e, fun v z => by rw [d] at z; cases z⟩
  keep := fun i h h' st k => st.at fun o e => k it (by simp) o e
  item := by
    intro X hP hw hK hc i pins s σ H E I hf st hg
    subst hP hw hK
    obtain ⟨xs, x, hq, hx⟩ := hg
    obtain ⟨its, rv, p, hz⟩ := I.list hq
    obtain ⟨u, hu, ru⟩ := rv.get hx
    obtain ⟨f0, f1, f2, f3, f4, f5⟩ := hf it (by simp)
    refine wpAny_pyNext_list_item st p.isList (x := u) (by simpa using hu) fun h' st' sb => ?_
    have I1 : Inv X pins σ H { s with heap := h' } := I.turned (t' := s.toks) (fun b o hb e => (sb.2 b hb).trans e) f0 f1 f3 f4 f5
    obtain ⟨o, e, c, d⟩ := id st'
    exact ⟨u, rfl, go_of (s := { s with heap := h' }) e c d (by decide) ⟨x, H, I1, ru, ⟨rfl, fun ys hy => by rw [I.list_inj hy hq]; exact hx⟩, st', fun b hb => (hf b hb).1⟩⟩
  done := by
    intro X hP hw hK hc i pins s σ H E I hf st hg
    subst hP hw hK
    obtain ⟨xs, hq, hx⟩ := hg
    obtain ⟨its, rv, p, hz⟩ := I.list hq
    obtain ⟨f0, f1, f2, f3, f4, f5⟩ := hf it (by simp)
    have hl := rv.length
    exact wpAny_pyNext_list_end (I.ok.hd hc) st p.isList (by simp; omega) fun h' eb => ⟨rfl, I.turned (t' := s.toks) (fun b o hb e => eb b o hb e) f0 f1 f3 f4 f5⟩
  self := fun _ _ _ _ _ st h => wpAny_pyIter_listiter st h
theorem turn_tuple {P : Program} {w : World} {K : PySem.W.Frag} {tg : Expr} (a it : Addr) : Turn P w K tg (Itt K a) [it] it (fun i h => h.IsTupleIter it a i) where
  mem := by simp
  obj := fun i h st b hb => by
    have e : b = it := by simpa using hb
    subst e
    obtain ⟨o, e, c, d⟩ := st
    exact ⟨o, e, fun v z => by rw [d] at z; cases z⟩
  keep := fun i h h' st k => st.at fun o e => k it (by simp) o e
  item := by
    intro X hP hw hK hc i pins s σ H E I hf st hg
    subst hP hw hK
    obtain ⟨xs, x, hq, hx⟩ := hg
    obtain ⟨its, rv, p, hz⟩ := I.tuple hq
    obtain ⟨u, hu, ru⟩ := rv.get hx
    obtain ⟨f0, f1, f2, f3, f4, f5⟩ := hf it (by simp)
    refine wpAny_pyNext_tuple_item st (show s.heap.IsTuple a its.toArray from p) (x := u) (by simpa using hu) fun h' st' sb => ?_
    have I1 : Inv X pins σ H { s with heap := h' } := I.turned (t' := s.toks) (fun b o hb e => (sb.2 b hb).trans e) f0 f1 f3 f4 f5
    obtain ⟨o, e, c, d⟩ := id st'
    exact ⟨u, rfl, go_of (s := { s with heap := h' }) e c d (by decide) ⟨x, H, I1, ru, ⟨rfl, fun ys hy => by rw [I.tuple_inj hy hq]; exact hx⟩, st', fun b hb => (hf b hb).1⟩⟩
  done := by
    intro X hP hw hK hc i pins s σ H E I hf st hg
    subst hP hw hK
    obtain ⟨xs, hq, hx⟩ := hg
    obtain ⟨its, rv, p, hz⟩ := I.tuple hq
    obtain ⟨f0, f1, f2, f3, f4, f5⟩ := hf it (by simp)
    have hl := rv.length
    exact wpAny_pyNext_tuple_end (I.ok.hd hc) st (show s.heap.IsTuple a its.toArray from p) (by simp; omega) fun h' eb => ⟨rfl, I.turned (t' := s.toks) (fun b o hb e => eb b o hb e) f0 f1 f3 f4 f5⟩
  self := fun _ _ _ _ _ st h => wpAny_pyIter_tupleiter st h
theorem turn_range {P : Program} {w : World} {K : PySem.W.Frag} {tg : Expr} (it : Addr) (lo : Int) (n : Nat) : Turn P w K tg (Itr lo n) [it] it (fun i h => IsRangeIter h it (lo + (i : Nat) * 1) ((n : Int) - (i : Nat)) 1) where
  mem := by simp
  obj := fun i h st b hb => by
    have e : b = it := by simpa using hb
    subst e
    exact ⟨_, st, fun v z => by
      have z' : Data.fields _ = Data.cell v := z
      cases z'⟩
  keep := fun i h h' st k => k it (by simp) _ st
  item := by
    intro X hP hw hK hc i pins s σ H E I hf st hg
    subst hP hw hK
    obtain ⟨f0, f1, f2, f3, f4, f5⟩ := hf it (by simp)
    have W := Walks.range (prog := X.prog) (w := X.w) (I.ok.hd hc) it lo 1 n
    refine W.item i s _ _ hg st fun v h' tk hv st' kk => ?_
    obtain ⟨t, rfl⟩ := hv
    have I1 : Inv X pins σ H { s with heap := h', toks := tk } := I.turned (fun b o hb e => kk b o (by simpa using hb) e) f0 f1 f3 f4 f5
    refine ⟨_, rfl, go_of (s := { s with heap := h', toks := tk }) (n := "range_iterator") st' rfl rfl (by decide) ⟨.int (lo + i), H, I1, ⟨t, ?_⟩, ⟨rfl, rfl⟩, st', fun b hb => (hf b hb).1⟩⟩
    rw [Int.mul_one]
  done := by
    intro X hP hw hK hc i pins s σ H E I hf st hg
    subst hP hw hK
    obtain ⟨f0, f1, f2, f3, f4, f5⟩ := hf it (by simp)
    exact wpAny_pyNext_range_end (I.ok.hd hc) st (by have : n ≤ i := hg; omega) fun h' eb => ⟨rfl, I.turned (t' := s.toks) (fun b o hb e => eb b o hb e) f0 f1 f3 f4 f5⟩
  self := fun _ _ _ _ _ st h => wpAny_pyIter_rangeiter st h
section
variable {X : Cx} {tg : Expr}
noncomputable def iList (K : PySem.W.Frag) (tl : TE) : TI := fun σ H R => tl σ H fun x H1 => ∃ a, x = .ref a ∧ (∃ xs, SqL K H1 a xs) ∧ R (Itl K a) H1
noncomputable def iTup (K : PySem.W.Frag) (tl : TE) : TI := fun σ H R => tl σ H fun x H1 => ∃ a, x = .ref a ∧ (∃ xs, SqT K H1 a xs) ∧ R (Itt K a) H1
/-- a range object just made, walked -/
theorem range_it {pins : List (Addr × Obj)} {σ : St} {H : Hp} {s : Shared} {R : It → Hp → Prop} {E : Value → Shared → Prop} {lo hi : Int} {t u v : Tok} {tk : Nat} (I : Inv X pins σ H s) (h1 : -(2 ^ 62) ≤ lo) (h2 : lo < 2 ^ 62) (h3 : -(2 ^ 62) ≤ hi) (h4 : hi < 2 ^ 62)
    (q : R (Itr lo (hi - lo).toNat) H) : wpAny (model X.prog X.w) X.A (pyIter (.ref s.heap.objs.size)) (PIE X pins σ tg R) E { s with heap := s.heap.push { cls := .type "range", data := .fields #[.int lo t, .int hi u, .int 1 v] }, toks := tk } := by
  refine wpAny_pyIter_range (IsRange.new ..) (small_one h1 h2 h3 h4) ?_
  have I1 : Inv X pins σ H { s with heap := s.heap.push { cls := .type "range", data := .fields #[.int lo t, .int hi u, .int 1 v] }, toks := tk } := I.kept fun b o e => Heap.get?_push_of_some _ e
  refine ⟨(s.heap.push { cls := .type "range", data := .fields #[.int lo t, .int hi u, .int 1 v] }).objs.size, [(s.heap.push { cls := .type "range", data := .fields #[.int lo t, .int hi u, .int 1 v] }).objs.size], _, _, H, rfl,
    I1.kept (t' := tk) fun b o e => Heap.get?_push_of_some _ e, turn_range _ lo (hi - lo).toNat, ?_, fun b hb => ?_, q⟩
  · have e1 : lo + ((0 : Nat) : Int) * 1 = lo := by simp
    have e2 : (((hi - lo).toNat : Nat) : Int) - ((0 : Nat) : Int) = Builtin.Range.rangeSize lo hi 1 := by rw [rangeSize_one]; split <;> omega
    show IsRangeIter _ _ (lo + ((0 : Nat) : Int) * 1) ((((hi - lo).toNat : Nat) : Int) - ((0 : Nat) : Int)) 1
    rw [e1, e2]
    exact Heap.get?_push_size _ rfl
  · have e : b = (s.heap.push { cls := .type "range", data := .fields #[.int lo t, .int hi u, .int 1 v] }).objs.size := by simpa using hb
    subst e
    exact I1.fpOk (Nat.le_refl _) (I1.hok.fresh (Nat.le_refl _))
noncomputable def iRng1 (ta : TA) : TI := fun σ H R => ta σ H fun vs H1 => ∃ j : Int, vs = [.int j] ∧ -(2 ^ 62) ≤ j ∧ j < 2 ^ 62 ∧ R (Itr 0 j.toNat) H1
noncomputable def iRng2 (ta : TA) : TI := fun σ H R => ta σ H fun vs H1 => ∃ i j : Int, vs = [.int i, .int j] ∧ (-(2 ^ 62) ≤ i ∧ i < 2 ^ 62 ∧ -(2 ^ 62) ≤ j ∧ j < 2 ^ 62) ∧ R (Itr i (j - i).toNat) H1
theorem pi_range1 {a : Expr} {ta : TA} {p pos : Pos} (hg : Gl X "range") (hm : X.mg "range" = none) (ha : PA X [a] ta) (hs : starEach [a] X.env = [(false, eval a X.env)] := by rfl) : PI X tg (.Call (.Name "range" p) [a] [] pos) (iRng1 ta) := by
  intro pins s σ H R I h
  refine Call_ (ld_blt I hg hm boot_range (PyProof.Rows.callWith_type1 (thn (ha pos pins s σ H _ I h) fun us s1 ⟨vs, H1, I1, r1, q1⟩ => ?_) hs rfl))
  obtain ⟨j, e, q1, q2, q⟩ := q1
  subst e
  cases r1 with
  | cons r rr =>
    cases rr
    obtain ⟨t, rfl⟩ := r
    exact call_range_1 (range_it I1 (by omega) (by omega) q1 q2 (by simpa using q))
theorem pi_range2 {a b : Expr} {ta : TA} {p pos : Pos} (hg : Gl X "range") (hm : X.mg "range" = none) (ha : PA X [a, b] ta) (hs : starEach [a, b] X.env = [(false, eval a X.env), (false, eval b X.env)] := by rfl) (hs2 : starEach [b] X.env = [(false, eval b X.env)] := by rfl) :
    PI X tg (.Call (.Name "range" p) [a, b] [] pos) (iRng2 ta) := by
  intro pins s σ H R I h
  refine Call_ (ld_blt I hg hm boot_range (PyProof.Rows.callWith_type1 (thn (ha pos pins s σ H _ I h) fun us s1 ⟨vs, H1, I1, r1, q1⟩ => ?_) (by rw [hs, hs2]) (by rw [hs2]; rfl)))
  obtain ⟨i, j, e, ⟨q1, q2, q3, q4⟩, q⟩ := q1
  subst e
  cases r1 with
  | cons r rr =>
    cases rr with
    | cons r' rr =>
      cases rr
      obtain ⟨t, rfl⟩ := r
      obtain ⟨t', rfl⟩ := r'
      exact call_range_2 (range_it I1 q1 q2 q3 q4 q)

/-! ### for -/
/-- W: the invariant by the turn and a measure; N: what the body is to reach -/
noncomputable def tFor (wi : TI) (g : TG) (tb : TS) : TS := fun D σ H => wi σ H fun J H1 => ∃ W : Nat → Nat → St → Hp → Prop, (∃ m, W 0 m σ H1) ∧ ∀ i m σ H, W i m σ H →
  (J.stop i H ∧ D.nx σ H) ∨ (J.go i H ∧ ∃ N : St → Hp → Prop, (∀ σ' H', N σ' H' → ∃ m', m' < m ∧ W (i + 1) m' σ' H') ∧ ∀ x H', J.yld i H x H' → g x σ H' fun σ2 H2 => tb { D with nx := N, ct := N, bk := D.nx } σ2 H2)
/-- the records at fp as they stand -/
noncomputable def pinsAt (fp : List Addr) (h : Heap) : List (Addr × Obj) := fp.filterMap fun b => (h.get? b).map fun o => (b, o)
theorem mem_pinsAt {fp : List Addr} {h : Heap} {b : Addr} {o : Obj} (hb : b ∈ fp) (e : h.get? b = some o) : (b, o) ∈ pinsAt fp h := List.mem_filterMap.mpr ⟨b, hb, by rw [e]; rfl⟩
theorem of_pinsAt {fp : List Addr} {h : Heap} {p : Addr × Obj} (hp : p ∈ pinsAt fp h) : p.1 ∈ fp ∧ h.get? p.1 = some p.2 := by
  obtain ⟨b, hb, e⟩ := List.mem_filterMap.mp hp
  cases q : h.get? b with
  | none => rw [q] at e; cases e
  | some o =>
    rw [q] at e
    have e' : (b, o) = p := Option.some.inj e
    subst e'
    exact ⟨hb, q⟩
theorem Inv.pinned {pins : List (Addr × Obj)} {σ : St} {H : Hp} {s : Shared} {fp : List Addr} (I : Inv X pins σ H s) (hf : ∀ b ∈ fp, FpOk X pins H b) (ho : ∀ b ∈ fp, ∃ o, s.heap.get? b = some o ∧ ∀ v, o.data ≠ .cell v) : Inv X (pins ++ pinsAt fp s.heap) σ H s :=
  I.pins_of fun p hp => (List.mem_append.mp hp).elim (fun z => I.pin p (List.mem_append_right _ z)) fun z => by
    obtain ⟨hb, e⟩ := of_pinsAt z
    obtain ⟨f0, f1, f2, _⟩ := hf p.1 hb
    obtain ⟨o, e', d⟩ := ho p.1 hb
    rw [e] at e'; cases e'
    exact ⟨e, f0, f1, f2, d⟩
theorem Inv.unpinned {pins pl : List (Addr × Obj)} {σ : St} {H : Hp} {s : Shared} (I : Inv X (pins ++ pl) σ H s) : Inv X pins σ H s := I.pins_of fun p hp => I.pin p (List.mem_append_right _ (List.mem_append_left _ hp))
theorem ps_for {iter : Expr} {body : List Stmt} {wi : TI} {g : TG} {tb : TS} {pos : Pos} (hp : PassesOwn (model X.prog X.w) X.A X.env X.xe) (hc : X.calm = true) (hi : PI X tg iter wi) (hg : PG X tg g) (hb : PSs X body tb)
    (hs : ∀ x, foldedSetIterable iter X.env x = pure x := by intro _; rfl) : PS X (.For tg iter body [] pos) (tFor wi g tb) := by
  intro pins s σ H D I h
  refine wpAny_For (thn (hi pins s σ H _ I h) fun v s1 h1 => thn h1 fun itv s2 h2 => ?_) hs
  obtain ⟨it, fp, tn, J, H2, e, I2, T, st2, f2, W, ⟨m0, w0⟩, turn⟩ := h2
  subst e
  -- what stays true of the iterator's objects through the loop
  have stat : ∀ {H' : Hp}, (∀ b ∈ fp, H' b = none) → ∀ b ∈ fp, FpOk X pins H' b := fun hn b hb => ⟨hn b hb, (f2 b hb).2⟩
  refine codeAny_forLoop_any (fun n s' => ∃ i σ' H', Inv X pins σ' H' s' ∧ tn i s'.heap ∧ (∀ b ∈ fp, H' b = none) ∧ W i n σ' H') ?_ m0 ⟨0, σ, H2, I2, st2, fun b hb => (f2 b hb).1, w0⟩
  rintro n s3 ⟨i, σ3, H3, I3, st3, fr3, w3⟩
  rcases turn i n σ3 H3 w3 with ⟨stop, qn⟩ | ⟨go, N, hN, step⟩
  · refine wpAny_passesOwn hp (thn (T.done X rfl rfl rfl hc i pins s3 σ3 H3 X.xe I3 (stat fr3) st3 stop) fun r s4 hz0 => ?_)
    obtain ⟨hr, I4⟩ := hz0
    subst hr
    exact wpAny_execs_nil ⟨σ3, H3, I4, qn⟩
  · refine wpAny_passesOwn hp (thn (T.item X rfl rfl rfl hc i pins s3 σ3 H3 X.xe I3 (stat fr3) st3 go) fun r s4 hz0 => ?_)
    obtain ⟨u, hr, h4⟩ := hz0
    subst hr
    refine wpAny_passesOwn hp (thn h4 fun _ s5 hz0 => ?_)
    obtain ⟨x, H5, I5, r5, y5, st5, fr5⟩ := hz0
    have I5' := I5.pinned (stat fr5) (T.obj _ _ st5)
    refine wpAny_passesOwn hp (thn (hg _ s5 σ3 H5 x u _ I5' r5 (step x H5 y5)) fun _ s6 hz0 => ?_)
    obtain ⟨σ6, H6, I6, q6⟩ := hz0
    refine wpAny_passesOwn hp (thn (hb _ s6 σ6 H6 _ I6 q6) fun f s7 q7 => ?_)
    have again : ∀ {σ7 : St} {H7 : Hp}, Inv X (pins ++ pinsAt fp s5.heap) σ7 H7 s7 → N σ7 H7 → ∃ m, m < n ∧ ∃ i σ' H', Inv X pins σ' H' s7 ∧ tn i s7.heap ∧ (∀ b ∈ fp, H' b = none) ∧ W i m σ' H' := fun {σ7 H7} I7 n7 => by
      obtain ⟨m', hm, w7⟩ := hN σ7 H7 n7
      refine ⟨m', hm, i + 1, σ7, H7, I7.unpinned, T.keep _ _ _ st5 fun b hb o e => (I7.pin (b, o) (List.mem_append_right _ (List.mem_append_right _ (mem_pinsAt hb e)))).1, fun b hb => ?_, w7⟩
      obtain ⟨o, e, d⟩ := T.obj _ _ st5 b hb
      exact (I7.pin (b, o) (List.mem_append_right _ (List.mem_append_right _ (mem_pinsAt hb e)))).2.1
    cases f with
    | next => obtain ⟨σ7, H7, I7, n7⟩ := q7; exact again I7 n7
    | cont => obtain ⟨σ7, H7, I7, n7⟩ := q7; exact again I7 n7
    | brk => obtain ⟨σ7, H7, I7, q7⟩ := q7; exact ⟨σ7, H7, I7.unpinned, q7⟩
    | ret v => obtain ⟨x7, σ7, H7, I7, r7, q7⟩ := q7; exact ⟨x7, σ7, H7, I7.unpinned, r7, q7⟩
end

/-! ### the forms one uses -/
/-- over a list that the body leaves as it is -/
theorem for_list {K : PySem.W.Frag} {a : Addr} {xs : List V} {g : TG} {tb : TS} {D : Ends} {σ : St} {H : Hp} (Pv : Nat → St → Hp → Prop) (h0 : Pv 0 σ H) (hl : ∀ i σ H, i ≤ xs.length → Pv i σ H → SqL K H a xs)
    (hs : ∀ i x σ H, xs[i]? = some x → Pv i σ H → g x σ H fun σ2 H2 => tb { D with nx := Pv (i + 1), ct := Pv (i + 1), bk := D.nx } σ2 H2) (hd : ∀ σ H, Pv xs.length σ H → D.nx σ H) :
    ∃ W : Nat → Nat → St → Hp → Prop, (∃ m, W 0 m σ H) ∧ ∀ i m σ H, W i m σ H →
      ((Itl K a).stop i H ∧ D.nx σ H) ∨ ((Itl K a).go i H ∧ ∃ N : St → Hp → Prop, (∀ σ' H', N σ' H' → ∃ m', m' < m ∧ W (i + 1) m' σ' H') ∧ ∀ x H', (Itl K a).yld i H x H' → g x σ H' fun σ2 H2 => tb { D with nx := N, ct := N, bk := D.nx } σ2 H2) := by
  refine ⟨fun i m σ H => m = xs.length - i ∧ i ≤ xs.length ∧ Pv i σ H, ⟨xs.length, by simp, Nat.zero_le _, h0⟩, ?_⟩
  rintro i m σ H ⟨rfl, hi, p⟩
  have q := hl i σ H hi p
  by_cases hlt : i < xs.length
  · refine .inr ⟨⟨xs, xs[i], q, by simp [hlt]⟩, Pv (i + 1), fun σ' H' p' => ⟨xs.length - (i + 1), by omega, rfl, hlt, p'⟩, fun x H' y => ?_⟩
    obtain ⟨e, y⟩ := y
    subst e
    exact hs i x σ _ (y xs q) p
  · have e : i = xs.length := by omega
    subst e
    exact .inl ⟨⟨xs, q, Nat.le_refl _⟩, hd σ H p⟩
theorem for_tup {K : PySem.W.Frag} {a : Addr} {xs : List V} {g : TG} {tb : TS} {D : Ends} {σ : St} {H : Hp} (Pv : Nat → St → Hp → Prop) (h0 : Pv 0 σ H) (hl : ∀ i σ H, i ≤ xs.length → Pv i σ H → SqT K H a xs)
    (hs : ∀ i x σ H, xs[i]? = some x → Pv i σ H → g x σ H fun σ2 H2 => tb { D with nx := Pv (i + 1), ct := Pv (i + 1), bk := D.nx } σ2 H2) (hd : ∀ σ H, Pv xs.length σ H → D.nx σ H) :
    ∃ W : Nat → Nat → St → Hp → Prop, (∃ m, W 0 m σ H) ∧ ∀ i m σ H, W i m σ H →
      ((Itt K a).stop i H ∧ D.nx σ H) ∨ ((Itt K a).go i H ∧ ∃ N : St → Hp → Prop, (∀ σ' H', N σ' H' → ∃ m', m' < m ∧ W (i + 1) m' σ' H') ∧ ∀ x H', (Itt K a).yld i H x H' → g x σ H' fun σ2 H2 => tb { D with nx := N, ct := N, bk := D.nx } σ2 H2) := by
  refine ⟨fun i m σ H => m = xs.length - i ∧ i ≤ xs.length ∧ Pv i σ H, ⟨xs.length, by simp, Nat.zero_le _, h0⟩, ?_⟩
  rintro i m σ H ⟨rfl, hi, p⟩
  have q := hl i σ H hi p
  by_cases hlt : i < xs.length
  · refine .inr ⟨⟨xs, xs[i], q, by simp [hlt]⟩, Pv (i + 1), fun σ' H' p' => ⟨xs.length - (i + 1), by omega, rfl, hlt, p'⟩, fun x H' y => ?_⟩
    obtain ⟨e, y⟩ := y
    subst e
    exact hs i x σ _ (y xs q) p
  · have e : i = xs.length := by omega
    subst e
    exact .inl ⟨⟨xs, q, Nat.le_refl _⟩, hd σ H p⟩
theorem for_range {lo : Int} {n : Nat} {g : TG} {tb : TS} {D : Ends} {σ : St} {H : Hp} (Pv : Nat → St → Hp → Prop) (h0 : Pv 0 σ H)
    (hs : ∀ i σ H, i < n → Pv i σ H → g (.int (lo + i)) σ H fun σ2 H2 => tb { D with nx := Pv (i + 1), ct := Pv (i + 1), bk := D.nx } σ2 H2) (hd : ∀ σ H, Pv n σ H → D.nx σ H) :
    ∃ W : Nat → Nat → St → Hp → Prop, (∃ m, W 0 m σ H) ∧ ∀ i m σ H, W i m σ H →
      ((Itr lo n).stop i H ∧ D.nx σ H) ∨ ((Itr lo n).go i H ∧ ∃ N : St → Hp → Prop, (∀ σ' H', N σ' H' → ∃ m', m' < m ∧ W (i + 1) m' σ' H') ∧ ∀ x H', (Itr lo n).yld i H x H' → g x σ H' fun σ2 H2 => tb { D with nx := N, ct := N, bk := D.nx } σ2 H2) := by
  refine ⟨fun i m σ H => m = n - i ∧ i ≤ n ∧ Pv i σ H, ⟨n, by simp, Nat.zero_le _, h0⟩, ?_⟩
  rintro i m σ H ⟨rfl, hi, p⟩
  by_cases hlt : i < n
  · refine .inr ⟨hlt, Pv (i + 1), fun σ' H' p' => ⟨n - (i + 1), by omega, rfl, hlt, p'⟩, fun x H' y => ?_⟩
    obtain ⟨e, y⟩ := y
    subst e y
    exact hs i σ _ hlt p
  · have e : i = n := by omega
    subst e
    exact .inl ⟨Nat.le_refl _, hd σ H p⟩
/-- while, by a word and a measure of the state -/
theorem while_by {c : TT} {tb : TS} {D : Ends} {σ : St} {H : Hp} (Pv : St → Hp → Prop) (μ : St → Hp → Nat) (h0 : Pv σ H)
    (hs : ∀ σ H, Pv σ H → c σ H fun b H1 => if b = true then tb { D with nx := fun σ' H' => Pv σ' H' ∧ μ σ' H' < μ σ H, ct := fun σ' H' => Pv σ' H' ∧ μ σ' H' < μ σ H, bk := D.nx } σ H1 else D.nx σ H1)
    (mono : ∀ σ H Q Q', (∀ b H1, Q b H1 → Q' b H1) → c σ H Q → c σ H Q') : tWhile c tb D σ H := by
  refine ⟨fun m σ H => m = μ σ H ∧ Pv σ H, ⟨_, rfl, h0⟩, ?_⟩
  rintro m σ H ⟨rfl, p⟩
  refine mono σ H _ _ (fun b H1 q => ?_) (hs σ H p)
  cases b with
  | true => exact ⟨_, fun σ' H' ⟨p', l⟩ => ⟨_, l, rfl, p'⟩, q⟩
  | false => exact q

noncomputable abbrev R2 := V → V → Hp → VK → Prop
/-- a two-place operation on values: f is binaryOp op, inplaceOp op or compareOp op -/
noncomputable def OpR (X : Cx) (f : Value → Value → Sem Value) (r : R2) : Prop :=
  ∀ (pins : List (Addr × Obj)) (s : Shared) (σ : St) (H : Hp) (x y : V) (v u : Value) (Q : VK), Inv X pins σ H s → RelV x v → RelV y u → r x y H Q →
    wpAny (model X.prog X.w) X.A (f v u) (EP X pins σ Q) X.xe s
/-- a one-place operation -/
noncomputable def UnR (X : Cx) (f : Value → Sem Value) (r : V → Hp → VK → Prop) : Prop :=
  ∀ (pins : List (Addr × Obj)) (s : Shared) (σ : St) (H : Hp) (x : V) (v : Value) (Q : VK), Inv X pins σ H s → RelV x v → r x H Q →
    wpAny (model X.prog X.w) X.A (f v) (EP X pins σ Q) X.xe s
/-- a call of a value that is known (a builtin, a type) with values -/
noncomputable def CallR (X : Cx) (f : Value) (r : List V → Hp → VK → Prop) : Prop :=
  ∀ (pins : List (Addr × Obj)) (s : Shared) (σ : St) (H : Hp) (xs : List V) (us : List Value) (Q : VK), Inv X pins σ H s → Vals xs us → r xs H Q →
    wpAny (model X.prog X.w) X.A (call f us) (EP X pins σ Q) X.xe s
/-- a value's truth -/
noncomputable def TruR (X : Cx) (r : V → Hp → (Bool → Hp → Prop) → Prop) : Prop :=
  ∀ (pins : List (Addr × Obj)) (s : Shared) (σ : St) (H : Hp) (x : V) (v : Value) (Q : Bool → Hp → Prop), Inv X pins σ H s → RelV x v → r x H Q →
    wpAny (model X.prog X.w) X.A (truthy v) (TP X pins σ Q) X.xe s

noncomputable def tOp (r : R2) (ta tb : TE) : TE := fun σ H Q => ta σ H fun x H1 => tb σ H1 fun y H2 => r x y H2 Q
noncomputable def tUn (r : V → Hp → VK → Prop) (ta : TE) : TE := fun σ H Q => ta σ H fun x H1 => r x H1 Q
/-- ints in, under C, and a value out -/
noncomputable def rI (C : Int → Int → Prop) (g : Int → Int → V) : R2 := fun x y H Q => ∃ i j, x = .int i ∧ y = .int j ∧ C i j ∧ Q (g i j) H
noncomputable def rI0 (g : Int → Int → V) : R2 := fun x y H Q => ∃ i j, x = .int i ∧ y = .int j ∧ Q (g i j) H
noncomputable def rU (g : Int → V) : V → Hp → VK → Prop := fun x H Q => ∃ i, x = .int i ∧ Q (g i) H

section
variable {X : Cx} {a b c : Expr} {ta tb tc : TE} {pos : Pos}

theorem binT (ha : PE X a ta) (hb : PE X b tb) {pins : List (Addr × Obj)} {s : Shared} {σ : St} {H : Hp} {R : V → V → Hp → Prop} (I : Inv X pins σ H s)
    (h : ta σ H fun x H1 => tb σ H1 fun y H2 => R x y H2) {Q : Value → Shared → Prop} {f : Value → Value → Sem Value}
    (hf : ∀ v u s2 x y H2, Inv X pins σ H2 s2 → RelV x v → RelV y u → R x y H2 → wpAny (model X.prog X.w) X.A (f v u) Q X.xe s2) :
    wpAny (model X.prog X.w) X.A (eval a X.env) (fun v s₁ => wpAny (model X.prog X.w) X.A (eval b X.env) (fun u s₂ => wpAny (model X.prog X.w) X.A (f v u) Q X.xe s₂) X.xe s₁) X.xe s := by
  refine thn (ha pins s σ H _ I h) fun v s1 hz0 => ?_
  obtain ⟨x, H1, I1, r1, q1⟩ := hz0
  refine thn (hb pins s1 σ H1 _ I1 q1) fun u s2 hz0 => ?_
  obtain ⟨y, H2, I2, r2, q2⟩ := hz0
  exact hf v u s2 x y H2 I2 r1 r2 q2

theorem pe_op {op : Operator} {r : R2} (ho : OpR X (binaryOp op) r) (ha : PE X a ta) (hb : PE X b tb) : PE X (.BinOp a op b pos) (tOp r ta tb) := by
  intro pins s σ H Q I h
  exact wpAny_BinOp (binT ha hb I h fun v u s2 x y H2 I2 rx ry q => ho pins s2 σ H2 x y v u Q I2 rx ry q)
/-! ### ints -/
theorem opI {f : Value → Value → Sem Value} {C : Int → Int → Prop} {g : Int → Int → Int}
    (rule : ∀ (i j : Int) (t u : Tok) (s : Shared) (Q : Value → Shared → Prop) (E : Value → Shared → Prop), C i j → Q (.int (g i j) s.toks) { s with toks := s.toks + 1 } → wpAny (model X.prog X.w) X.A (f (.int i t) (.int j u)) Q E s) :
    OpR X f (rI C fun i j => .int (g i j)) := by
  intro pins s σ H x y v u Q I rx ry h
  obtain ⟨i, j, rfl, rfl, hc, q⟩ := h
  obtain ⟨t, rfl⟩ := rx
  obtain ⟨t', rfl⟩ := ry
  exact rule i j t t' s _ _ hc ⟨.int (g i j), H, I.tok _, ⟨_, rfl⟩, q⟩
theorem opI0 {f : Value → Value → Sem Value} {g : Int → Int → Int}
    (rule : ∀ (i j : Int) (t u : Tok) (s : Shared) (Q : Value → Shared → Prop) (E : Value → Shared → Prop), Q (.int (g i j) s.toks) { s with toks := s.toks + 1 } → wpAny (model X.prog X.w) X.A (f (.int i t) (.int j u)) Q E s) :
    OpR X f (rI0 fun i j => .int (g i j)) := by
  intro pins s σ H x y v u Q I rx ry h
  obtain ⟨i, j, rfl, rfl, q⟩ := h
  obtain ⟨t, rfl⟩ := rx
  obtain ⟨t', rfl⟩ := ry
  exact rule i j t t' s _ _ ⟨.int (g i j), H, I.tok _, ⟨_, rfl⟩, q⟩
theorem opB0 {f : Value → Value → Sem Value} {g : Int → Int → Bool}
    (rule : ∀ (i j : Int) (t u : Tok) (s : Shared) (Q : Value → Shared → Prop) (E : Value → Shared → Prop), Q (.bool (g i j)) s → wpAny (model X.prog X.w) X.A (f (.int i t) (.int j u)) Q E s) :
    OpR X f (rI0 fun i j => .bl (g i j)) := by
  intro pins s σ H x y v u Q I rx ry h
  obtain ⟨i, j, rfl, rfl, q⟩ := h
  obtain ⟨t, rfl⟩ := rx
  obtain ⟨t', rfl⟩ := ry
  exact rule i j t t' s _ _ ⟨.bl (g i j), H, I, rfl, q⟩

noncomputable def CDiv (i j : Int) : Prop := 0 < j ∧ j < 1073741824
noncomputable def CDivN (i j : Int) : Prop := j ≠ 0 ∧ j.natAbs < 1073741824
noncomputable def CPow (i j : Int) : Prop := 0 ≤ j ∧ j ≤ 1000000 ∧ i.natAbs < 2 ^ 64
noncomputable def CMul (i j : Int) : Prop := (-(2 ^ 64) < i ∧ i < 2 ^ 64) ∨ (-(2 ^ 64) < j ∧ j < 2 ^ 64)
theorem CMul.ok {i j : Int} (h : CMul i j) : IntMulOk i j := by
  rcases h with ⟨h1, h2⟩ | ⟨h1, h2⟩
  · exact .of_left (intBits_le_64 h1 h2)
  · exact .of_right (intBits_le_64 h1 h2)
theorem op_add : OpR X (binaryOp .Add) (rI0 fun i j => .int (i + j)) := opI0 fun _ _ _ _ _ _ _ q => add_int q
theorem op_sub : OpR X (binaryOp .Sub) (rI0 fun i j => .int (i - j)) := opI0 fun _ _ _ _ _ _ _ q => sub_int q
/-- // by a positive divisor -/
theorem op_fdiv : OpR X (binaryOp .FloorDiv) (rI CDiv fun i j => .int (i / j)) := opI fun i j _ _ _ _ _ hc q => by
  have h1 : (0 : Int) < j := hc.1
  have h2 : j < 1073741824 := hc.2
  exact floordiv_int (by omega) (by rw [Int.fdiv_eq_ediv_of_nonneg i (by omega)]; exact q) (.inl (PyProof.noPylong_small (by omega)))
/-- % by a positive divisor of any size -/
theorem op_mod : OpR X (binaryOp .Mod) (rI (fun _ j => 0 < j) fun i j => .int (i % j)) := opI fun i j _ _ _ _ _ hc q => by
  have h1 : (0 : Int) < j := hc
  exact mod_int' (by omega) (by rw [Int.fmod_eq_emod_of_nonneg i (by omega)]; exact q)
theorem op_pow : OpR X (binaryOp .Pow) (rI CPow fun i j => .int (i ^ j.toNat)) := opI fun _ _ _ _ _ _ _ hc q => pow_int_small hc.1 hc.2.1 hc.2.2 q
/-! ### bools among ints: n += (a < b) -/
end

/-! ### comparisons -/
/-- the scalars that == tells apart as data does -/
noncomputable def scal : V → V → Bool
  | .non, .non => true | .non, .int _ => true | .int _, .non => true | .non, .bl _ => true | .bl _, .non => true | .non, .str _ => true | .str _, .non => true
  | .int _, .int _ => true | .bl _, .bl _ => true | .str _, .str _ => true | .byt _, .byt _ => true
  | .int _, .str _ => true | .str _, .int _ => true | .bl _, .str _ => true | .str _, .bl _ => true
  | _, _ => false
noncomputable def rEq : R2 := fun x y H Q => scal x y = true ∧ Q (.bl (decide (x = y))) H
noncomputable def rNe : R2 := fun x y H Q => scal x y = true ∧ Q (.bl (!decide (x = y))) H

theorem dec_int {i j : Int} : decide (V.int i = V.int j) = (i == j) := by
  rw [Bool.eq_iff_iff]
  simp
theorem dec_bl {i j : Bool} : decide (V.bl i = V.bl j) = (i == j) := by
  rw [Bool.eq_iff_iff]
  simp
theorem dec_str {i j : Str} : decide (V.str i = V.str j) = (i == j) := by
  rw [Bool.eq_iff_iff]
  simp
theorem dec_byt {i j : Array UInt8} : decide (V.byt i = V.byt j) = (i.toList == j.toList) := by
  rw [Bool.eq_iff_iff]
  cases i
  cases j
  simp

section
variable {X : Cx} {a b c : Expr} {ta tb tc : TE} {pos : Pos}
theorem fin_bl {pins : List (Addr × Obj)} {σ : St} {H : Hp} {s : Shared} {Q : VK} {k k' : Bool} (I : Inv X pins σ H s) (q : Q (.bl k) H) (e : k = k') : EP X pins σ Q (.bool k') s := by
  subst e
  exact ⟨.bl k, H, I, rfl, q⟩
theorem op_eq : OpR X (compareOp .Eq) rEq := by
  intro pins s σ H x y v u Q I rx ry h
  obtain ⟨hs, q⟩ := h
  cases x with
  | non =>
    cases rx
    cases y with
    | non => cases ry; exact PySem.EqNone.eq_none_none (fin_bl I q (by simp))
    | bl j => cases ry; exact PySem.EqNone.eq_none_bool (fin_bl I q (by simp))
    | int j => obtain ⟨t', rfl⟩ := ry; exact PySem.EqNone.eq_none_int (fin_bl I q (by simp))
    | str j => obtain ⟨t', rfl⟩ := ry; exact PySem.EqNone.eq_none_str (fin_bl I q (by simp))
    | _ => exact absurd (show false = true from hs) Bool.false_ne_true
  | bl i =>
    cases rx
    cases y with
    | non => cases ry; exact PySem.EqNone.eq_bool_none (fin_bl I q (by simp))
    | bl j => cases ry; exact eq_bool (fin_bl I q dec_bl)
    | str j => obtain ⟨t', rfl⟩ := ry; exact PySem.EqMixed.eq_bool_str (fin_bl I q (by simp))
    | _ => exact absurd (show false = true from hs) Bool.false_ne_true
  | int i =>
    obtain ⟨t, rfl⟩ := rx
    cases y with
    | non => cases ry; exact PySem.EqNone.eq_int_none (fin_bl I q (by simp))
    | int j => obtain ⟨t', rfl⟩ := ry; exact eq_int (fin_bl I q dec_int)
    | str j => obtain ⟨t', rfl⟩ := ry; exact PySem.EqMixed.eq_int_str (fin_bl I q (by simp))
    | _ => exact absurd (show false = true from hs) Bool.false_ne_true
  | str i =>
    obtain ⟨t, rfl⟩ := rx
    cases y with
    | non => cases ry; exact PySem.EqNone.eq_str_none (fin_bl I q (by simp))
    | bl j => cases ry; exact PySem.EqMixed.eq_str_bool (fin_bl I q (by simp))
    | int j => obtain ⟨t', rfl⟩ := ry; exact PySem.EqMixed.eq_str_int (fin_bl I q (by simp))
    | str j => obtain ⟨t', rfl⟩ := ry; exact eq_str (fin_bl I q dec_str)
    | _ => exact absurd (show false = true from hs) Bool.false_ne_true
  | byt i =>
    obtain ⟨t, rfl⟩ := rx
    cases y with
    | byt j => obtain ⟨t', rfl⟩ := ry; exact PySem.W.eq_bytes (fin_bl I q dec_byt)
    | _ => exact absurd (show false = true from hs) Bool.false_ne_true
  | _ => cases y <;> exact absurd (show false = true from hs) Bool.false_ne_true
theorem op_ne : OpR X (compareOp .NotEq) rNe := by
  intro pins s σ H x y v u Q I rx ry h
  obtain ⟨hs, q⟩ := h
  cases x with
  | non =>
    cases rx
    cases y with
    | non => cases ry; exact PySem.EqNone.ne_none_none (fin_bl I q (by simp))
    | bl j => cases ry; exact PySem.EqNone.ne_none_bool (fin_bl I q (by simp))
    | int j => obtain ⟨t', rfl⟩ := ry; exact PySem.EqNone.ne_none_int (fin_bl I q (by simp))
    | str j => obtain ⟨t', rfl⟩ := ry; exact PySem.EqNone.ne_none_str (fin_bl I q (by simp))
    | _ => exact absurd (show false = true from hs) Bool.false_ne_true
  | bl i =>
    cases rx
    cases y with
    | non => cases ry; exact PySem.EqNone.ne_bool_none (fin_bl I q (by simp))
    | bl j => cases ry; exact ne_bool (fin_bl I q (congrArg not dec_bl))
    | str j => obtain ⟨t', rfl⟩ := ry; exact PySem.EqMixed.ne_bool_str (fin_bl I q (by simp))
    | _ => exact absurd (show false = true from hs) Bool.false_ne_true
  | int i =>
    obtain ⟨t, rfl⟩ := rx
    cases y with
    | non => cases ry; exact PySem.EqNone.ne_int_none (fin_bl I q (by simp))
    | int j => obtain ⟨t', rfl⟩ := ry; exact ne_int (fin_bl I q (congrArg not dec_int))
    | str j => obtain ⟨t', rfl⟩ := ry; exact PySem.EqMixed.ne_int_str (fin_bl I q (by simp))
    | _ => exact absurd (show false = true from hs) Bool.false_ne_true
  | str i =>
    obtain ⟨t, rfl⟩ := rx
    cases y with
    | non => cases ry; exact PySem.EqNone.ne_str_none (fin_bl I q (by simp))
    | bl j => cases ry; exact PySem.EqMixed.ne_str_bool (fin_bl I q (by simp))
    | int j => obtain ⟨t', rfl⟩ := ry; exact PySem.EqMixed.ne_str_int (fin_bl I q (by simp))
    | str j => obtain ⟨t', rfl⟩ := ry; exact ne_str (fin_bl I q (congrArg not dec_str))
    | _ => exact absurd (show false = true from hs) Bool.false_ne_true
  | byt i =>
    obtain ⟨t, rfl⟩ := rx
    cases y with
    | byt j => obtain ⟨t', rfl⟩ := ry; exact PySem.W.ne_bytes (fin_bl I q (congrArg not dec_byt))
    | _ => exact absurd (show false = true from hs) Bool.false_ne_true
  | _ => cases y <;> exact absurd (show false = true from hs) Bool.false_ne_true

theorem op_lt : OpR X (compareOp .Lt) (rI0 fun i j => .bl (decide (i < j))) := opB0 fun _ _ _ _ _ _ _ q => lt_int q
theorem op_gt : OpR X (compareOp .Gt) (rI0 fun i j => .bl (decide (j < i))) := opB0 fun _ _ _ _ _ _ _ q => gt_int q
theorem op_ge : OpR X (compareOp .GtE) (rI0 fun i j => .bl (decide (j ≤ i))) := opB0 fun _ _ _ _ _ _ _ q => ge_int q
/-- is None, is not None: the right side a value none -/
theorem op_isN : OpR X (compareOp .Is) (fun x y H Q => y = .non ∧ Q (.bl (decide (x = .non))) H) := by
  intro pins s σ H x y v u Q I rx ry h
  obtain ⟨rfl, q⟩ := h
  cases ry
  refine is_none_gen (fin_bl I q ?_)
  cases x <;> first
    | (cases rx; rfl)
    | (obtain ⟨t, rfl⟩ := rx; rfl)
theorem op_notN : OpR X (compareOp .IsNot) (fun x y H Q => y = .non ∧ Q (.bl (!decide (x = .non))) H) := by
  intro pins s σ H x y v u Q I rx ry h
  obtain ⟨rfl, q⟩ := h
  cases ry
  refine isnot_none_gen (fin_bl I q ?_)
  cases x <;> first
    | (cases rx; rfl)
    | (obtain ⟨t, rfl⟩ := rx; rfl)

/-- is, is not of two objects that are tracked lists or instances -/
noncomputable def isObj : HO → Bool
  | .lst _ => true
  | .ins _ _ _ => true
  | _ => false
theorem nomark (b : Expr) {op : CmpOp} (h : op ≠ .In := by decide) (h2 : op ≠ .NotIn := by decide) : behindInMarks op b = false := by
  have e1 : (op == CmpOp.In) = false := by cases op <;> first | rfl | exact absurd rfl h
  have e2 : (op == CmpOp.NotIn) = false := by cases op <;> first | rfl | exact absurd rfl h2
  cases b <;> simp [behindInMarks, e1, e2]
/-- a comparison as a value; hm: nomark b, or (for in, not in) by with_unfolding_all rfl -/
theorem pe_cmpR {op : CmpOp} {r : R2} (ho : OpR X (compareOp op) r) (ha : PE X a ta) (hb : PE X b tb) (hm : behindInMarks op b = false) : PE X (.Compare a [op] [b] pos) (tOp r ta tb) := by
  intro pins s σ H Q I h
  exact wpAny_Compare1 (binT ha hb I h fun v u s2 x y H2 I2 rx ry q => ho pins s2 σ H2 x y v u Q I2 rx ry q) hm
/-- a reading of a value as a test -/
noncomputable def tTest (t : TE) : TT := fun σ H Q => t σ H fun x H' => ∃ k, x = .bl k ∧ Q k H'
theorem pt_cmpR {op : CmpOp} {r : R2} (ho : OpR X (compareOp op) r) (ha : PE X a ta) (hb : PE X b tb) (hm : behindInMarks op b = false) : PT X (.Compare a [op] [b] pos) (tTest (tOp r ta tb)) := by
  intro pins s σ H Q I h
  refine wpAny_isTrue_Compare1 (thn (ha pins s σ H _ I h) fun v s1 ⟨x, H1, I1, r1, q1⟩ => thn (hb pins s1 σ H1 _ I1 q1) fun u s2 ⟨y, H2, I2, r2, q2⟩ =>
    thn (ho pins s2 σ H2 x y v u _ I2 r1 r2 q2) fun c s3 ⟨z, H3, I3, r3, k, e, q3⟩ => ?_) hm
  subst e
  cases r3
  exact wpAny_truthy_bool ⟨H3, I3, q3⟩
/-- a op1 b op2 c -/
noncomputable def tChain (r r' : R2) (ta tb tc : TE) : TE := fun σ H Q => ta σ H fun x H1 => tb σ H1 fun y H2 => r x y H2 fun z H3 => ∃ k, z = .bl k ∧
  (if k = true then tc σ H3 fun w' H4 => r' y w' H4 Q else Q (.bl false) H3)
/-! ### truth -/
/-- a value's truth by the abstract heap -/
noncomputable def TruV (K : PySem.W.Frag) (x : V) (H : Hp) (k : Bool) : Prop :=
  match x with
  | .non => k = false
  | .bl b => k = b
  | .int i => k = (i != 0)
  | .str y => y.length ≤ sizeLine ∧ k = ((y.length : Int) != 0)
  | .byt y => y.size ≤ sizeLine ∧ k = ((y.size : Int) != 0)
  | .ref p => (∃ xs, SqL K H p xs ∧ k = !xs.isEmpty) ∨ (∃ xs, SqT K H p xs ∧ k = !xs.isEmpty) ∨ ∃ kvs, H p = some (.dK kvs) ∧ k = !kvs.isEmpty
  | _ => False
theorem isEmpty_kv {κ : Type} {kvs : List (κ × V)} {vs : List (κ × Value)} (r : KV kvs vs) : (!vs.isEmpty) = !kvs.isEmpty := by
  cases r <;> rfl
theorem isEmpty_of {xs : List V} {its : List Value} (r : Vals xs its) : (!its.toArray.isEmpty) = !xs.isEmpty := by
  cases r <;> simp
theorem line63 : (sizeLine : Nat) < 2 ^ 63 := by rw [sizeLine_eq]; decide
theorem tru_ok : TruR X (fun x H Q => ∃ k, TruV X.K x H k ∧ Q k H) := by
  intro pins s σ H x v Q I rx h
  obtain ⟨k, e, q⟩ := h
  have hl := line63
  have hs : sizeLine = 16777216 := sizeLine_eq
  cases x with
  | non =>
    cases rx
    have e' : k = false := e
    subst e'
    exact truthy_none ⟨H, I, q⟩
  | bl b =>
    cases rx
    have e' : k = b := e
    subst e'
    exact wpAny_truthy_bool ⟨H, I, q⟩
  | int i =>
    obtain ⟨t, rfl⟩ := rx
    have e' : k = (i != 0) := e
    subst e'
    exact PySem.P.truthy_int ⟨H, I, q⟩
  | str y =>
    obtain ⟨t, rfl⟩ := rx
    obtain ⟨hy, e'⟩ : y.length ≤ sizeLine ∧ k = ((y.length : Int) != 0) := e
    subst e'
    exact PySem.P.truthy_str (by omega) ⟨H, I.tok _, q⟩
  | byt y =>
    obtain ⟨t, rfl⟩ := rx
    obtain ⟨hy, e'⟩ : y.size ≤ sizeLine ∧ k = ((y.size : Int) != 0) := e
    subst e'
    exact PySem.W.truthy_bytes (by omega) ⟨H, I.tok _, q⟩
  | ref p =>
    cases rx
    have e' : (∃ xs, SqL X.K H p xs ∧ k = !xs.isEmpty) ∨ (∃ xs, SqT X.K H p xs ∧ k = !xs.isEmpty) ∨ ∃ kvs, H p = some (.dK kvs) ∧ k = !kvs.isEmpty := e
    rcases e' with ⟨xs, hx, e'⟩ | ⟨xs, hx, e'⟩ | ⟨kvs, hx, e'⟩
    · subst e'
      obtain ⟨its, r, pl, hz⟩ := I.list hx
      have hlen := r.length
      exact wpAny_truthy_list pl.isList (by simp only [List.size_toArray]; omega) ⟨H, I.tok _, by rw [isEmpty_of r]; exact q⟩
    · subst e'
      obtain ⟨its, r, pl, hz⟩ := I.tuple hx
      have hlen := r.length
      exact truthy_tuple pl (by simp only [List.size_toArray]; omega) ⟨H, I.tok _, by rw [isEmpty_of r]; exact q⟩
    · subst e'
      obtain ⟨hz, hS, vs, r, m⟩ : kvs.length ≤ sizeLine ∧ (p == sysModules) = false ∧ ∃ vs, KV kvs vs ∧ s.heap.DictOf (mixKind X.prog X.w) p vs := I.hok p _ hx
      have hlen : kvs.length = vs.length := Paired.length r
      exact wpAny_truthy_dict hS m (by omega) ⟨H, I.tok _, by rw [isEmpty_kv r]; exact q⟩
  | _ => exact (show False from e).elim
/-- any expression whose test is its value's truth (a name, a call, a subscript, a field ..: he by fun _ => rfl) -/
theorem pt_truth (ha : PE X a ta) (he : ∀ whole, isTrue a X.env whole = (do let v ← whole; standAt a.pos; holding [v] (truthy v))) :
    PT X a (fun σ H Q => ta σ H fun x H' => ∃ k, TruV X.K x H' k ∧ Q k H') := by
  intro pins s σ H Q I h
  exact isTrue_plain (thn (ha pins s σ H _ I h) fun v s1 ⟨x, H1, I1, r1, q1⟩ => tru_ok pins s1 σ H1 x v Q I1 r1 q1) (he _)

/-! ### strs and bytes -/
noncomputable def PlainIxT (b : Expr) : Prop := ∀ o i, subscripted b false o i = operate [o, i] (getItem o i)
/-! ### scalar builtins, by CallR -/
theorem vals1 {x : V} {us : List Value} (r : Vals [x] us) : ∃ u, us = [u] ∧ RelV x u := by
  cases r with
  | cons r1 r2 => cases r2; exact ⟨_, rfl, r1⟩
theorem vals2 {x y : V} {us : List Value} (r : Vals [x, y] us) : ∃ u w', us = [u, w'] ∧ RelV x u ∧ RelV y w' := by
  cases r with
  | cons r1 r2 =>
    cases r2 with
    | cons r3 r4 => cases r4; exact ⟨_, _, rfl, r1, r3⟩
theorem call_max2 (hc : X.calm = true) : CallR X (.builtin "max") (fun xs H Q => ∃ i j, xs = [.int i, .int j] ∧ Q (.int (if j > i then j else i)) H) := by
  intro pins s σ H xs us Q I r h
  obtain ⟨i, j, rfl, q⟩ := h
  obtain ⟨u, w', rfl, ⟨t, rfl⟩, ⟨t', rfl⟩⟩ := vals2 r
  refine max_two_ints (I.ok.hd hc) fun h' tk k => ⟨_, H, I.kept k, ?_, q⟩
  by_cases hj : j > i
  · rw [if_pos hj, if_pos hj]; exact ⟨_, rfl⟩
  · rw [if_neg hj, if_neg hj]; exact ⟨_, rfl⟩
/-- len of a str, a bytes, a list, a tuple -/
noncomputable def LenV (K : PySem.W.Frag) (x : V) (H : Hp) (n : Nat) : Prop :=
  match x with
  | .str y => y.length ≤ sizeLine ∧ n = y.length
  | .byt y => y.size ≤ sizeLine ∧ n = y.size
  | .ref p => (∃ xs, SqL K H p xs ∧ n = xs.length) ∨ ∃ xs, SqT K H p xs ∧ n = xs.length
  | _ => False
end

/-! ### an instance, its attributes a map -/
structure ObjM (h : Heap) (x dx C : Addr) (mA : Str → Option Value) : Prop where
  obj : h.get? x = some (PySem.W.instObj C dx)
  ns : h.Ns1 dx mA
  ne : dx ≠ x

section
variable {prog : Program} {w : World} {A : Around} {E : Value → Shared → Prop} {s : Shared} {K : PySem.W.Frag} {x dx C f : Addr} {mA : Str → Option Value} {name : Str} {v : Value}

end

/-! ### the attributes as a list of pairs -/
noncomputable def putF (f : Str) (v : V) : List (Str × V) → List (Str × V)
  | [] => [(f, v)]
  | (g, x) :: r => if g = f then (g, v) :: r else (g, x) :: putF f v r
theorem RelO.some_of {v : V} {o : Option Value} (r : RelO (some v) o) : ∃ u, o = some u ∧ RelV v u := by
  cases o with
  | none => exact (show False from r).elim
  | some u => exact ⟨u, rfl, r⟩
section
variable {P : Program} {w : World} {H H' : Hp} {h h' : Heap} {a C dx : Addr} {fs fs' : List (Str × V)}
end

/-! ### what of the text a class must have -/
structure Cls (K : PySem.W.Frag) (C : Addr) : Prop where
  pg : PySem.W.plainGet K C Str.empty = true
  hd : PySem.W.hasDictIn K C = true
  po : PySem.W.plainOver K C = true
  sa : PySem.W.findIn K (.ref C) "__setattr__" = some (some (.builtin "object.__setattr__"))
theorem Cls.get {K : PySem.W.Frag} {C : Addr} (c : Cls K C) (f : Str) : PySem.W.plainGet K C f = true := c.pg
/-- no class of it has the name -/
noncomputable def NoAttr (K : PySem.W.Frag) (C : Addr) (f : Str) : Prop := PySem.W.findIn K (.ref C) f = some none
/-- a constant of the class -/
structure Con (K : PySem.W.Frag) (C : Addr) (f : Str) (v : V) (u : Value) : Prop where
  at_ : PySem.W.findIn K (.ref C) f = some (some u)
  rel : RelV v u
  get : PySem.W.specialIn K u "__get__" = some none
  cp : PySem.W.copiedNames.contains f = false
/-- a method: a plain def of the class or of one above it -/
structure Meth (K : PySem.W.Frag) (C : Addr) (m : Str) (f : Addr) : Prop where
  at_ : PySem.W.findIn K (.ref C) m = some (some (.ref f))
  fn : PySem.W.isFn K (.ref f) = true
  kp : PySem.W.keepIn K (.ref f) = true

section
variable {X : Cx} {pins : List (Addr × Obj)} {σ : St} {H : Hp} {s : Shared} {a C dx : Addr} {fs : List (Str × V)} {f : Str} {v : V} {A : Around} {E : Value → Shared → Prop}

end

/-! ### readings and rules -/
/-- e.f, an attribute of the instance -/
noncomputable def tFld (K : PySem.W.Frag) (ta : TE) (f : Str) : TE := fun σ H Q => ta σ H fun x H1 => ∃ a C dx fs v, x = .ref a ∧ H1 a = some (.ins C dx fs) ∧ Cls K C ∧ NoAttr K C f ∧ fs.lookup f = some v ∧ Q v H1
/-- e.f, a constant of the class -/
noncomputable def tCon (K : PySem.W.Frag) (ta : TE) (f : Str) : TE := fun σ H Q => ta σ H fun x H1 => ∃ a C dx fs v u, x = .ref a ∧ H1 a = some (.ins C dx fs) ∧ Cls K C ∧ Con K C f v u ∧ fs.lookup f = none ∧ Q v H1
/-- e.f = value -/
noncomputable def sFld (K : PySem.W.Frag) (ta tv : TE) (f : Str) : TS := fun D σ H => tv σ H fun y H1 => ta σ H1 fun x H2 => ∃ a C dx fs, x = .ref a ∧ H2 a = some (.ins C dx fs) ∧ Cls K C ∧ NoAttr K C f ∧ fs.length < 1000 ∧
  D.nx σ (upd H2 a (.ins C dx (putF f y fs)))
/-- an augmented operator on two values -/
noncomputable def InOp (X : Cx) (op : Operator) (rd : V → V → Hp → VK → Prop) : Prop :=
  ∀ (pins : List (Addr × Obj)) (s : Shared) (σ : St) (H : Hp) (x y : V) (u v : Value) (Q : VK), Inv X pins σ H s → RelV x u → RelV y v → rd x y H Q → wpAny (model X.prog X.w) X.A (inplaceOp op u v) (EP X pins σ Q) X.xe s
/-- e.f op= value -/
noncomputable def sFldAug (K : PySem.W.Frag) (ta tv : TE) (rd : V → V → Hp → VK → Prop) (f : Str) : TS := fun D σ H => ta σ H fun x H1 => ∃ a C dx fs v, x = .ref a ∧ H1 a = some (.ins C dx fs) ∧ Cls K C ∧ NoAttr K C f ∧ fs.lookup f = some v ∧
  tv σ H1 fun y H2 => rd v y H2 fun z H3 => ∃ dx' fs', H3 a = some (.ins C dx' fs') ∧ fs'.length < 1000 ∧ D.nx σ (upd H3 a (.ins C dx' (putF f z fs')))

section
variable {X : Cx} {o e value : Expr} {f : Str} {pos pos' tpos : Pos} {ta tv : TE}
noncomputable def rAdd : V → V → Hp → VK → Prop := fun x y H Q => ∃ i j, x = .int i ∧ y = .int j ∧ Q (.int (i + j)) H
noncomputable def rSub : V → V → Hp → VK → Prop := fun x y H Q => ∃ i j, x = .int i ∧ y = .int j ∧ Q (.int (i - j)) H
end

/-! ### isinstance -/
section
variable {X : Cx} {pins : List (Addr × Obj)} {σ : St} {H : Hp} {s : Shared} {A : Around} {E : Value → Shared → Prop} {Q : Value → Shared → Prop} {c : Value} {b : Bool}
/-- the type of a value, as the fragment's deciders take it; for an instance its class -/
inductive TyOf (K : PySem.W.Frag) (H : Hp) : V → Value → Prop where
  | non : TyOf K H .non (.type "NoneType")
  | bl (x : Bool) : TyOf K H (.bl x) (.type "bool")
  | int (i : Int) : TyOf K H (.int i) (.type "int")
  | str (x : Str) : TyOf K H (.str x) (.type "str")
  | flt (x : UInt64) : TyOf K H (.flt x) (.type "float")
  | lst {a : Addr} {xs : List V} (e : H a = some (.lst xs)) : TyOf K H (.ref a) (.type "list")
  | frz {a : Addr} {o : Obj} {xs : List V} (e : H a = some (.frz o (.lst xs))) : TyOf K H (.ref a) (.type "list")
  | tup {a : Addr} {xs : List V} (e : H a = some (.tup xs)) : TyOf K H (.ref a) (.type "tuple")
  | dK {a : Addr} {kvs : List (Key × V)} (e : H a = some (.dK kvs)) : TyOf K H (.ref a) (.type "dict")
  | dT {a : Addr} {kvs : List ((List Int × Int) × V)} (e : H a = some (.dT kvs)) : TyOf K H (.ref a) (.type "dict")
  | ins {a C dx : Addr} {fs : List (Str × V)} (e : H a = some (.ins C dx fs)) (cl : Cls K C) (ha : PySem.W.findIn K (.ref C) "__class__" = some (some (.builtin "object.__class__")))
      (hn : PySem.W.specialIn K (.builtin "object.__class__") "__get__" = some (some (.builtin "getset_descriptor.__get__"))) (htk : PySem.W.takesIn K (.builtin "object.__class__") = some true)
      (hm : PySem.W.mroIn K C (.type "object") = some true) : TyOf K H (.ref a) (.ref C)
end

/-! ### room -/
structure Room (k : Nat) (A : Around) : Prop where
  hd : A.handled = none
  dp : A.depth + 3 * k + 5 < recursionLimit
  un : A.units + 16 * k + 200 < cLine
theorem Room.mono {j k : Nat} {A : Around} (r : Room k A) (h : j ≤ k) : Room j A := ⟨r.hd, by have := r.dp; omega, by have := r.un; omega⟩
theorem Room.deeper {k : Nat} {A : Around} (r : Room (k + 1) A) (env : Env) : Room k (A.deeper env) :=
  ⟨r.hd, by have := r.dp; show A.depth + 1 + 3 * k + 5 < _; omega, by have := r.un; show A.units + 3 + 16 * k + 200 < _; omega⟩
theorem Room.in1 {k : Nat} {A : Around} (r : Room (k + 1) A) : Room k A.in1 :=
  ⟨r.hd, by have := r.dp; show A.depth + 3 * k + 5 < _; omega, by have := r.un; show A.units + 1 + 16 * k + 200 < _; omega⟩
theorem Room.depth {k : Nat} {A : Around} (r : Room k A) : A.depth < recursionLimit := by have := r.dp; omega
theorem Room.units {k : Nat} {A : Around} (r : Room k A) : A.units + 64 < cLine := by have := r.un; omega
/-! ### argument lists and displays -/
noncomputable def tNil : TA := fun _ H Q => Q [] H
noncomputable def tCons (ta : TE) (tr : TA) : TA := fun σ H Q => ta σ H fun x H1 => tr σ H1 fun xs H2 => Q (x :: xs) H2
section
variable {X : Cx} {e : Expr} {es : List Expr} {te : TE} {t : TA} {pos : Pos}
theorem pa_nil : PA X [] tNil := fun _ _ _ _ H Q I h => Calls.spliced_nil ⟨[], H, I, .nil, h⟩
theorem pa_cons (ha : PE X e te) (hr : PA X es t) (hs : starEach (e :: es) X.env = (false, eval e X.env) :: starEach es X.env := by rfl) : PA X (e :: es) (tCons te t) := by
  intro pos pins s σ H Q I h
  rw [hs]
  show wpAny _ _ (spliced ((false, eval e X.env) :: backTo pos (starEach es X.env))) _ _ s
  refine Calls.spliced_cons (thn (ha pins s σ H _ I h) fun u s1 hz0 => ?_)
  obtain ⟨x, H1, I1, r1, q1⟩ := hz0
  exact thn (hr pos pins s1 σ H1 _ I1 q1) fun us s2 ⟨xs, H2, I2, r2, q2⟩ => ⟨x :: xs, H2, I2, .cons r1 r2, q2⟩

/-- a tuple, a list of written items -/
noncomputable def tTup (t : TA) : TE := fun σ H Q => t σ H fun xs H1 => xs.length ≤ sizeLine ∧ ∀ p, H1 p = none → Q (.ref p) (upd H1 p (.tup xs))
noncomputable def tLst (t : TA) : TE := fun σ H Q => t σ H fun xs H1 => xs.length ≤ sizeLine ∧ ∀ p, H1 p = none → Q (.ref p) (upd H1 p (.lst xs))
theorem pe_tup {x1} (h : PA X es t) : PE X (.Tuple es x1 pos) (tTup t) := by
  intro pins s σ H Q I hq
  refine wpAny_Tuple_spliced (thn (h pos pins s σ H _ I hq) fun us s1 ⟨xs, H1, I1, r, z, q⟩ => ⟨by rw [← r.length]; exact z, ?_⟩)
  have hf : H1 s1.heap.objs.size = none := I1.hok.fresh (Nat.le_refl _)
  refine ⟨.ref s1.heap.objs.size, upd H1 s1.heap.objs.size (.tup xs), I1.laid (t' := s1.toks) (fun b u e => Heap.get?_push_of_some _ e) (Nat.le_refl _) ?_, rfl, q _ hf⟩
  exact ⟨⟨z, ⟨_, Heap.get?_push_size _ rfl, rfl⟩⟩, us, r, ⟨_, Heap.get?_push_size _ rfl, rfl, _, rfl⟩⟩
theorem pe_lst (h : PA X es t) : PE X (.List es pos) (tLst t) := by
  intro pins s σ H Q I hq
  refine wpAny_List_spliced (thn (h pos pins s σ H _ I hq) fun us s1 ⟨xs, H1, I1, r, z, q⟩ => ⟨by rw [← r.length]; exact z, ?_⟩)
  have hf : H1 s1.heap.objs.size = none := I1.hok.fresh (Nat.le_refl _)
  refine ⟨.ref s1.heap.objs.size, upd H1 s1.heap.objs.size (.lst xs), I1.laid (t' := s1.toks) (fun b u e => Heap.get?_push_of_some _ e) (Nat.le_refl _) ?_, rfl, q _ hf⟩
  exact ⟨z, us, 0, r, Heap.get?_push_size _ rfl⟩
end

/-! ### what a def promises -/
/-- a def's promise: the bound arguments in the parameters' order, the heap, the wanted end, the wanted exception -/
noncomputable abbrev Sp := List V → Hp → VK → XK → Prop
/-- how an exception lies behind a call (file 08 gives it): the callers' frames, abstract heap and state ahead of the call, the wish, the exception, the state -/
noncomputable abbrev CXT := List Env → Hp → Shared → XK → Value → Shared → Prop

/-- the state at a call -/
structure Env0 (P : Program) (w : World) (K : PySem.W.Frag) (mg : Str → Option Value) (base : Heap) (A : Around) (outer : List Env) (s : Shared) (H : Hp) : Prop where
  frames : A.frames = some outer
  mod : Mod K mg base
  bs : ∀ b o, base.get? b = some o → s.heap.get? b = some o ∧ H b = none
  bsz : base.objs.size ≤ s.heap.objs.size
  funs : s.heap.FunFrames base outer
  frf : ∀ b ∈ frs outer, H b = none
  hok : HOk P w H s.heap
  bare : AllBare s.gens
/-- a call's end -/
noncomputable def CE (outer : List Env) (P : Program) (w : World) (H : Hp) (s : Shared) (Q : VK) (u : Value) (s' : Shared) : Prop :=
  ∃ v H', s'.os = s.os ∧ AllBare s'.gens ∧ Un (frs outer) [] H H' s.heap s'.heap ∧ HOk P w H' s'.heap ∧ RelV v u ∧ Q v H'
noncomputable def CR (CX : CXT) (outer : List Env) (P : Program) (w : World) (H : Hp) (s : Shared) (Q : VK) (E : XK) (r : Result) (s' : Shared) : Prop :=
  match r with
  | .ok (.ret u) => CE outer P w H s Q u s'
  | .ok _ => False
  | .error e => CX outer H s E e s'
structure FnOk (P : Program) (w : World) (K : PySem.W.Frag) (mg : Str → Option Value) (base : Heap) (CX : CXT) (k : Nat) (f : Addr) (fd : FuncData) (ps : List Str) (sp : Sp) : Prop where
  len : ∀ vs H Q E, sp vs H Q E → vs.length = ps.length
  run : ∀ (A : Around) (outer : List Env) (s : Shared) (H : Hp) (args : Args) (us : List Value) (vs : List V) (Q : VK) (E : XK), Room k A → Env0 P w K mg base A outer s H → BindsTo s fd args (ps.zip us) → Vals vs us → sp vs H Q E →
    codeAny (model P w) A (.call (.ref f) args) (CR CX outer P w H s Q E) s
theorem FnOk.mono {P : Program} {w : World} {K : PySem.W.Frag} {mg : Str → Option Value} {base : Heap} {CX : CXT} {j k : Nat} {f : Addr} {fd : FuncData} {ps : List Str} {sp : Sp} (F : FnOk P w K mg base CX j f fd ps sp) (h : j ≤ k) :
    FnOk P w K mg base CX k f fd ps sp := ⟨F.len, fun A outer s H args us vs Q E hr => F.run A outer s H args us vs Q E (hr.mono h)⟩
/-- a weaker promise -/
theorem FnOk.imp {P : Program} {w : World} {K : PySem.W.Frag} {mg : Str → Option Value} {base : Heap} {CX : CXT} {k : Nat} {f : Addr} {fd : FuncData} {ps : List Str} {sp sp' : Sp} (F : FnOk P w K mg base CX k f fd ps sp)
    (h : ∀ vs H Q E, sp' vs H Q E → sp vs H Q E) : FnOk P w K mg base CX k f fd ps sp' :=
  ⟨fun vs H Q E q => F.len vs H Q E (h _ _ _ _ q), fun A outer s H args us vs Q E hr he hb hv hs => F.run A outer s H args us vs Q E hr he hb hv (h _ _ _ _ hs)⟩

theorem Env0.in1 {P : Program} {w : World} {K : PySem.W.Frag} {mg : Str → Option Value} {base : Heap} {A : Around} {outer : List Env} {s : Shared} {H : Hp} (e : Env0 P w K mg base A outer s H) :
    Env0 P w K mg base A.in1 outer s H := ⟨e.frames, e.mod, e.bs, e.bsz, e.funs, e.frf, e.hok, e.bare⟩

section
variable {X : Cx} {pins : List (Addr × Obj)} {σ : St} {H : Hp} {s s' : Shared}
/-- from a body: what a callee wants -/
theorem Inv.env0 (I : Inv X pins σ H s) : Env0 X.prog X.w X.K X.mg X.base X.A X.stack s H :=
  ⟨I.ok.frames, I.ok.mod, I.bs, Nat.le_trans I.ok.bsz I.sz, I.stack, I.stkFree, I.hok, I.bare⟩
/-- behind a call -/
theorem Inv.after {Q : VK} {u : Value} (I : Inv X pins σ H s) (h : CE X.stack X.prog X.w H s Q u s') : EP X pins σ Q u s' := by
  obtain ⟨v, H', os, bare, un, hok, r, q⟩ := h
  obtain ⟨hh, g, d, t, os'⟩ := s'
  obtain rfl : os' = s.os := os
  exact ⟨v, H', I.call (h' := hh) (g' := g) (d' := d) (t' := t) (ch := []) un hok bare (fun b z => absurd z (by simp)), r, q⟩
end

/-! ### calls -/
/-- f(..): the written arguments, then the defaults dvs; E: what is wanted of an exception -/
noncomputable def tCall (sp : Sp) (dvs : List V) (E : XK) (t : TA) : TE := fun σ H Q => t σ H fun vs H1 => sp (vs ++ dvs) H1 Q E
/-- o.m(..) of an instance of the class at C -/
noncomputable def tMeth (C : Addr) (m : Str) (sp : Sp) (dvs : List V) (E : XK) (ta : TE) (t : TA) : TE := fun σ H Q => ta σ H fun x H1 => ∃ a dx fs, x = .ref a ∧ H1 a = some (.ins C dx fs) ∧ fs.lookup m = none ∧
  t σ H1 fun vs H2 => sp (x :: (vs ++ dvs)) H2 Q E
/-- C(..): a new instance and its dict, then __init__ -/
noncomputable def tMake (C : Addr) (sp : Sp) (dvs : List V) (E : XK) (t : TA) : TE := fun σ H Q => t σ H fun vs H1 => ∀ x dx, H1 x = none → H1 dx = none → dx ≠ x →
  sp (.ref x :: (vs ++ dvs)) (upd (upd H1 dx (.own x)) x (.ins C dx [])) (fun v H2 => v = .non ∧ Q (.ref x) H2) E

/-- how the parameters are bound: us the positional arguments, kw the keywords' values by name, ds the defaults that fill up -/
noncomputable def Binds (K : PySem.W.Frag) (fd : FuncData) (ps : List Str) (ds : List Value) : Prop :=
  ∀ (s : Shared) (us : List Value), K.In s.heap → (us ++ ds).length = ps.length → BindsTo s fd ⟨us, []⟩ (ps.zip (us ++ ds))
/-- every parameter is given -/
theorem Binds.all {K : PySem.W.Frag} {fd : FuncData} {ps : List Str} (h : ∀ us : List Value, us.length = ps.length → bindArgs fd ⟨us, []⟩ = pure (ps.zip us)) : Binds K fd ps [] := fun s us _ hl => by
  rw [List.append_nil] at hl ⊢
  exact .of_eq (h us hl)

/-- an exception of a callee reaches what this body wants of exceptions -/
noncomputable def Passes (CX : CXT) (X : Cx) (E : XK) : Prop := ∀ (pins : List (Addr × Obj)) (σ : St) (H : Hp) (s : Shared) (e : Value) (s' : Shared), Inv X pins σ H s → CX X.stack H s E e s' → X.xe e s'

section
variable {X : Cx} {CX : CXT} {k : Nat} {f C : Addr} {fd : FuncData} {ps : List Str} {sp : Sp} {dvs : List V} {ds : List Value} {E : XK} {x m : Str} {p pos apos : Pos} {e o : Expr} {es : List Expr} {ta : TE} {t : TA}

/-- the callee runs -/
theorem run_fn {pins : List (Addr × Obj)} {σ : St} {H : Hp} {s : Shared} {Q : VK} {us : List Value} {vs : List V} (F : FnOk X.prog X.w X.K X.mg X.base CX k f fd ps sp) (hr : Room k X.A) (hb : Binds X.K fd ps ds) (hd : Vals dvs ds) (hx : Passes CX X E)
    (I : Inv X pins σ H s) (r : Vals vs us) (h : sp (vs ++ dvs) H Q E) : wpAny (model X.prog X.w) X.A (call (.ref f) us) (EP X pins σ Q) X.xe s := by
  have r2 : Vals (vs ++ dvs) (us ++ ds) := r.append hd
  have hl : (us ++ ds).length = ps.length := by rw [← r2.length]; exact F.len _ _ _ _ h
  refine wpAny_call (codeAny_mono (F.run X.A X.stack s H ⟨us, []⟩ (us ++ ds) (vs ++ dvs) Q E hr I.env0 (hb s us I.kIn hl) r2 h) fun r s' hq => ?_)
  cases r with
  | error e => exact hx pins σ H s e s' I hq
  | ok fl =>
    cases fl with
    | ret u => exact I.after hq
    | next => exact False.elim hq
    | brk => exact False.elim hq
    | cont => exact False.elim hq

theorem pe_call (F : FnOk X.prog X.w X.K X.mg X.base CX k f fd ps sp) (hr : Room k X.A) (hg : Gl X x) (hm : X.mg x = some (.ref f)) (hk : PySem.W.keepIn X.K (.ref f) = true) (hb : Binds X.K fd ps ds) (hd : Vals dvs ds) (hx : Passes CX X E)
    (ha : PA X (e :: es) t) (hdb : (x == ("__debug__" : Str)) = false := by decide) (he : starEach (e :: es) X.env = (false, eval e X.env) :: starEach es X.env := by rfl) (hpl : (backTo pos (starEach es X.env)).any (·.1) = false := by rfl) :
    PE X (.Call (.Name x p) (e :: es) [] pos) (tCall sp dvs E t) := by
  intro pins s σ H Q I h
  refine wpAny_Call_Name_kw (ld_glob I hg hm ?_ hdb)
  refine PySem.W.callWith_K (h₀ := X.base) I.ok.mod.kin hk (thn (ha pos pins s σ H _ I h) fun us s1 ⟨vs, H1, I1, r, q⟩ => ⟨I1.kIn, ?_⟩) he hpl
  exact run_fn F hr hb hd hx I1 r q
/-- what a class must have to be made -/
structure Mk (K : PySem.W.Frag) (C f : Addr) : Prop where
  makes : PySem.W.makesIn K C = true
  init : PySem.W.findIn K (.ref C) "__init__" = some (some (.ref f))
  fn : PySem.W.isFn K (.ref f) = true
  kp : PySem.W.keepIn K (.ref C) = true

end

/-! ### keywords -/
/-- the values of the keywords, from the left -/
noncomputable def PK (X : Cx) (kws : List Keyword) (t : TA) : Prop :=
  ∀ (pos : Pos) (pins : List (Addr × Obj)) (s : Shared) (σ : St) (H : Hp) (Q : List V → Hp → Prop), Inv X pins σ H s → t σ H Q → wpAny (model X.prog X.w) X.A (evalAll ((backToKw pos (keywordEach kws X.env)).map (·.2))) (AP X pins σ Q) X.xe s
section
variable {X : Cx} {CX : CXT} {k : Nat} {f C : Addr} {fd : FuncData} {ps ks : List Str} {sp : Sp} {E : XK} {x m : Str} {p pos apos kpos : Pos} {e o : Expr} {es : List Expr} {kws : List Keyword} {te ta : TE} {t tk : TA} {nm : Option Str}
/-- how a call with keywords binds: g puts the positional values us and the keywords' values ws (names ks) in the parameters' order, defaults among them -/
structure KBinds (K : PySem.W.Frag) (fd : FuncData) (ps ks : List Str) (g : List Value → List Value → List Value) (gV : List V → List V → List V) : Prop where
  to : ∀ (s : Shared) (us ws : List Value), K.In s.heap → (g us ws).length = ps.length → BindsTo s fd ⟨us, ks.zip ws⟩ (ps.zip (g us ws))
  rel : ∀ {vs : List V} {us : List Value} {zs : List V} {ws : List Value}, Vals vs us → Vals zs ws → Vals (gV vs zs) (g us ws)
noncomputable def tCallK (sp : Sp) (gV : List V → List V → List V) (E : XK) (t tk : TA) : TE := fun σ H Q => t σ H fun vs H1 => tk σ H1 fun zs H2 => sp (gV vs zs) H2 Q E
variable {g : List Value → List Value → List Value} {gV : List V → List V → List V}
end

/-! ### a def's body keeps its promise -/
/-- names: the parameters first -/
structure FnScope (N P : List Str) (sc : Scope) : Prop where
  kind : sc.kind = .function
  co : sc.isCoroutine = false
  gen : sc.isGenerator = false
  nd : N.Nodup
  pre : N.take P.length = P
  par : ∀ x ∈ P, sc.names.lookup x = some .local ∨ sc.names.lookup x = some .cell
  nofree : ∀ y ∈ sc.names, y.2 ≠ .free

theorem bindL_out {kindOf : Str → Option NameKind} {x : Str} : ∀ {binds : List (Str × Value)} {m : Str → Option Value}, (∀ v, (x, v) ∉ binds) → bindL kindOf binds m x = m x
  | [], _, _ => rfl
  | (n, v) :: r, m, h => by
    unfold bindL
    rw [bindL_out fun w hw => h w (List.mem_cons_of_mem _ hw)]
    split
    · have : x ≠ n := by rintro rfl; exact h v List.mem_cons_self
      simp [this]
    · rfl
theorem bindC_out {kindOf : Str → Option NameKind} {x : Str} : ∀ {binds : List (Str × Value)} {m : Str → Option Value}, (∀ v, (x, v) ∉ binds) → bindC kindOf binds m x = m x
  | [], _, _ => rfl
  | (n, v) :: r, m, h => by
    unfold bindC
    rw [bindC_out fun w hw => h w (List.mem_cons_of_mem _ hw)]
    split
    · rfl
    · have : x ≠ n := by rintro rfl; exact h v List.mem_cons_self
      simp [this]
theorem bindL_get {kindOf : Str → Option NameKind} {x : Str} {v : Value} : ∀ {P : List Str} {vs : List Value} {i : Nat} {m : Str → Option Value}, P.Nodup → P[i]? = some x → vs[i]? = some v → kindOf x = some .local →
    bindL kindOf (P.zip vs) m x = some v
  | [], _, _, _, _, h, _, _ => by simp at h
  | _ :: _, [], _, _, _, _, h, _ => by simp at h
  | p :: P, w :: vs, 0, m, nd, h1, h2, hk => by
    simp at h1 h2; subst h1; subst h2
    show bindL kindOf ((p, w) :: P.zip vs) m p = _
    unfold bindL
    rw [bindL_out fun v hv => (List.nodup_cons.mp nd).1 (List.of_mem_zip hv).1, if_pos hk]
    simp
  | p :: P, w :: vs, i + 1, m, nd, h1, h2, hk => by
    show bindL kindOf ((p, w) :: P.zip vs) m x = _
    unfold bindL
    exact bindL_get (i := i) (List.nodup_cons.mp nd).2 (by simpa using h1) (by simpa using h2) hk
theorem bindC_get {kindOf : Str → Option NameKind} {x : Str} {v : Value} : ∀ {P : List Str} {vs : List Value} {i : Nat} {m : Str → Option Value}, P.Nodup → P[i]? = some x → vs[i]? = some v → kindOf x ≠ some .local →
    bindC kindOf (P.zip vs) m x = some v
  | [], _, _, _, _, h, _, _ => by simp at h
  | _ :: _, [], _, _, _, _, h, _ => by simp at h
  | p :: P, w :: vs, 0, m, nd, h1, h2, hk => by
    simp at h1 h2; subst h1; subst h2
    show bindC kindOf ((p, w) :: P.zip vs) m p = _
    unfold bindC
    rw [bindC_out fun v hv => (List.nodup_cons.mp nd).1 (List.of_mem_zip hv).1, if_neg hk]
    simp
  | p :: P, w :: vs, i + 1, m, nd, h1, h2, hk => by
    show bindC kindOf ((p, w) :: P.zip vs) m x = _
    unfold bindC
    exact bindC_get (i := i) (List.nodup_cons.mp nd).2 (by simpa using h1) (by simpa using h2) hk

/-- the names' values at the entry -/
noncomputable def start (N : List Str) (vs : List V) : St := vs.map some ++ List.replicate (N.length - vs.length) none

/-- the context of a def's body, at its entry; an exception leaves the frame, then lies as CX says -/
noncomputable def cxOf (CX : CXT) (P : Program) (w : World) (K : PySem.W.Frag) (mg : Str → Option Value) (base : Heap) (N : List Str) (qual : Str) (scope : Scope) (f : Addr) (cd : Value) (A : Around) (outer : List Env) (s : Shared) (H : Hp) (E : XK) : Cx where
  prog := P
  w := w
  K := K
  mg := mg
  base := base
  A := A.deeper (envOfC qual scope s.heap.objs.size f cd)
  N := N
  s₀ := s
  H₀ := H
  env := envOfC qual scope s.heap.objs.size f cd
  outer := outer
  stack := envOfC qual scope s.heap.objs.size f cd :: outer
  ex := []
  calm := true
  fn := fun _ => true
  pn := []
  xe := fun e s' => wpAny (model P w) (A.deeper (envOfC qual scope s.heap.objs.size f cd)) (leaving (envOfC qual scope s.heap.objs.size f cd) e) (fun _ s'' => CX outer H s E e s'') (fun e' s'' => CX outer H s E e' s'') s'

theorem cell_has {sc : Scope} {n : Nat} {x : Str} (h : sc.names.lookup x = some .cell) : ∃ c, (cellsFrom n sc.names []).lookup x = some c := by
  have q := PySem.W.cellsFrom_some sc.names n [] (.inl h)
  exact Option.isSome_iff_exists.mp q

theorem inv_start {CX : CXT} {P : Program} {w : World} {K : PySem.W.Frag} {mg : Str → Option Value} {base : Heap} {N ps : List Str} {qual : Str} {scope : Scope} {f : Addr} {cd : Value} {A : Around} {outer : List Env} {s s1 : Shared} {H : Hp} {E : XK} {us : List Value} {vs : List V}
    (S : FnScope N ps scope) (hd : A.handled = none) (e0 : Env0 P w K mg base A outer s H) (hl : vs.length = ps.length) (r : Vals vs us)
    (x : InCallC s s.heap.objs.size (bindL (envOfC qual scope s.heap.objs.size f cd).kindOf (ps.zip us) fun _ => none) (cellsFrom (s.heap.objs.size + 1) scope.names []) (bindC (envOfC qual scope s.heap.objs.size f cd).kindOf (ps.zip us) fun _ => none) s1) :
    Inv (cxOf CX P w K mg base N qual scope f cd A outer s H E) [] (start N vs) H s1 := by
  have hpl : ps.length ≤ N.length := by have := congrArg List.length S.pre; rw [List.length_take] at this; omega
  obtain ⟨h1, tk, rfl, hk⟩ := x.done
  have noA : ∀ b : Addr, b ∉ (cxOf CX P w K mg base N qual scope f cd A outer s H E).ex := fun b z => absurd (show b ∈ ([] : List Addr) from z) (by simp)
  refine ⟨⟨e0.mod, S.kind, rfl, rfl, Nat.le_refl _, fun y z c h1 h2 => ?_, fun y hy => ?_, fun y c _ h => ?_, fun _ => hd, Around.frames_deeper e0.frames, .inr ⟨rfl, rfl⟩, fun b z => absurd z (noA b), e0.bs, e0.bsz, fun b _ _ => noA b, fun b z => absurd z (noA b), e0.funs, e0.frf⟩,
    rfl, e0.bare, Un.kept hk, ⟨_, x.toInCall.ns, fun i y v h1 h2 h3 => ?_⟩, fun y c h => ⟨_, x.cell y c h⟩, e0.hok.fresh (Nat.le_refl _), fun y c h => ?_, fun p hp => absurd (show p ∈ ([] : List (Addr × Obj)) from hp) (by simp), e0.hok.kept hk, ?_⟩
  · exact name_of_addr x.apart (PySem.mem_of_lookup h1) (PySem.mem_of_lookup h2)
  · have hy : scope.names.lookup y = some .cell ∨ scope.names.lookup y = some .free := hy
    rcases hy with hy | hy
    · exact cell_has hy
    · exact absurd rfl (S.nofree _ (PySem.mem_of_lookup hy))
  · exact Nat.le_of_lt (x.above y c (PySem.mem_of_lookup h))
  · have hi : i < vs.length := by
      unfold start at h2
      by_cases hi : i < vs.length
      · exact hi
      · rw [List.getElem?_append_right (by simpa using hi)] at h2
        rw [List.getElem?_replicate] at h2
        split at h2 <;> cases h2
    have ha : vs[i]? = some v := by
      unfold start at h2
      rw [List.getElem?_append_left (by simpa using hi), List.getElem?_map] at h2
      cases e : vs[i]? with
      | none => rw [e] at h2; cases h2
      | some a => rw [e] at h2; cases h2; rfl
    obtain ⟨u, hu, rv⟩ := r.get ha
    have hp : ps[i]? = some y := by
      rw [← S.pre, List.getElem?_take_of_lt (by omega)]; exact h1
    have ndP : ps.Nodup := by rw [← S.pre]; exact S.nd.sublist (List.take_sublist _ _)
    refine ⟨u, rv, ?_⟩
    rcases S.par y (List.mem_of_getElem? hp) with k | k
    · exact .inl ⟨k, bindL_get ndP hp hu k⟩
    · obtain ⟨c, e⟩ := cell_has (n := s.heap.objs.size + 1) k
      refine .inr ⟨.inl k, c, e, ?_⟩
      have q := x.cell y c e
      rw [bindC_get ndP hp hu (by show scope.names.lookup y ≠ _; rw [k]; decide)] at q
      exact q
  · exact e0.hok.fresh (Nat.le_of_lt (x.above y c (PySem.mem_of_lookup h)))
  · unfold start
    show _ = N.length
    rw [List.length_append, List.length_map, List.length_replicate]
    omega

/-- THE RULE: a def (or a method) of the text, by its body. The body's reading t is chosen for each entry; it is run at the parameters' values -/
theorem fn_of {CX : CXT} {P : Program} {w : World} {K : PySem.W.Frag} {mg : Str → Option Value} {base : Heap} {k : Nat} {f : Addr} {name qual : Str} {params : Arguments} {body : List Stmt} {scope : Scope} {dV kV doc pm cdv ct oc : Value} {an od : Option Addr}
    {osl : Array (Option Value)} {N ps : List Str} {sp : Sp} (lk : K.lookup f = some ⟨oc, od, .func (PySem.W.fnOf name qual params body scope dV kV doc pm an cdv ct), osl⟩) (hcd : PySem.W.codeIn K cdv qual = true) (S : FnScope N ps scope)
    (len : ∀ vs H Q E, sp vs H Q E → vs.length = ps.length)
    (hbody : ∀ (A : Around) (outer : List Env) (s : Shared) (H : Hp) (vs : List V) (Q : VK) (E : XK), Room k (A.deeper (envOfC qual scope s.heap.objs.size f cdv)) → sp vs H Q E →
      ∃ t, PSs (cxOf CX P w K mg base N qual scope f cdv A outer s H E) body t ∧ t { nx := fun _ H' => Q .non H', rt := Q } (start N vs) H) :
    FnOk P w K mg base CX (k + 1) f (PySem.W.fnOf name qual params body scope dV kV doc pm an cdv ct) ps sp := by
  refine ⟨len, fun A outer s H args us vs Q E hr e0 hb r hsp => ?_⟩
  have hl := len _ _ _ _ hsp
  have KX : K.In s.heap := e0.mod.kin.keeps fun b o e => (e0.bs b o e).1
  have lim : s.heap.NoLimit := e0.mod.nolimit.keeps fun b o e => (e0.bs b o e).1
  have hkind : ∀ y ∈ ps.zip us, scope.names.lookup y.1 = some .local ∨ (scope.names.lookup y.1 = some .cell ∧ ((cellsFrom (s.heap.objs.size + 1) scope.names []).lookup y.1).isSome = true) := fun ⟨n, v⟩ hy => by
    rcases S.par n (List.of_mem_zip hy).1 with q | q
    · exact .inl q
    · exact .inr ⟨q, PySem.W.cellsFrom_some _ _ _ (.inl q)⟩
  refine codeAny_call_function hr.depth (KX _ _ lk) rfl S.co S.gen rfl (PySem.W.codeRec_of KX hcd) (hb _ _ _ _ ?_)
  refine wpAny_newFunctionEnv_cells S.kind hkind fun env he s1 x => ?_
  subst he
  refine ⟨lim.keeps x.toInCall.keep, codeAny_func ?_⟩
  obtain ⟨t, ht, hq⟩ := hbody A outer s H vs Q E (hr.deeper _) hsp
  have I : Inv (cxOf CX P w K mg base N qual scope f cdv A outer s H E) [] (start N vs) H s1 := inv_start S hr.hd e0 hl r x
  refine wpAny_mono (ht [] s1 (start N vs) H _ I hq) (fun fl s' hs => ?_) fun e s' hs => hs
  have fin : ∀ {σ' : St} {H' : Hp} {v : V} {u : Value}, Inv (cxOf CX P w K mg base N qual scope f cdv A outer s H E) [] σ' H' s' → RelV v u → Q v H' → CE outer P w H s Q u s' :=
    fun {σ' H' v u} J rv q => ⟨v, H', J.os, J.bare, J.base, J.hok, rv, q⟩
  cases fl with
  | ret u =>
    obtain ⟨v, σ', H', J, rv, q⟩ := hs
    exact fin J rv q
  | next =>
    obtain ⟨σ', H', J, q⟩ := hs
    exact fin (v := V.non) (u := Value.none) J rfl q
  | brk =>
    obtain ⟨_, _, _, q⟩ := hs
    exact False.elim q
  | cont =>
    obtain ⟨_, _, _, q⟩ := hs
    exact False.elim q
section
variable {X : Cx} {x : Str} {p pos : Pos} {e : Expr} {es : List Expr} {t : TA} {id T : String} {r : List V → Hp → VK → Prop}

noncomputable def tCB (r : List V → Hp → VK → Prop) (t : TA) : TE := fun σ H Q => t σ H fun vs H1 => r vs H1 Q
/-- f(e, ..), f a built-in function -/
theorem pe_callB (hc : CallR X (.builtin id) r) (hg : Gl X x) (hm : X.mg x = none) (hv : bootBuiltins x = some (.builtin id)) (ha : PA X (e :: es) t) (hn : x ≠ "__name__" := by decide) (hdb : (x == ("__debug__" : Str)) = false := by decide)
    (he : starEach (e :: es) X.env = (false, eval e X.env) :: starEach es X.env := by rfl) (hpl : (backTo pos (starEach es X.env)).any (·.1) = false := by rfl) : PE X (.Call (.Name x p) (e :: es) [] pos) (tCB r t) := by
  intro pins s σ H Q I h
  refine wpAny_Call_Name_kw (ld_blt I hg hm hv ?_ hn hdb)
  exact PyProof.Rows.callWith_builtin1 (thn (ha pos pins s σ H _ I h) fun us s1 ⟨vs, H1, I1, r1, q1⟩ => hc pins s1 σ H1 vs us Q I1 r1 q1) he hpl
/-- T(e, ..), T a built-in type -/
theorem pe_callTy (hc : CallR X (.type T) r) (hg : Gl X x) (hm : X.mg x = none) (hv : bootBuiltins x = some (.type T)) (ha : PA X (e :: es) t) (hn : x ≠ "__name__" := by decide) (hdb : (x == ("__debug__" : Str)) = false := by decide)
    (he : starEach (e :: es) X.env = (false, eval e X.env) :: starEach es X.env := by rfl) (hpl : (backTo pos (starEach es X.env)).any (·.1) = false := by rfl) : PE X (.Call (.Name x p) (e :: es) [] pos) (tCB r t) := by
  intro pins s σ H Q I h
  refine wpAny_Call_Name_kw (ld_blt I hg hm hv ?_ hn hdb)
  exact PyProof.Rows.callWith_type1 (thn (ha pos pins s σ H _ I h) fun us s1 ⟨vs, H1, I1, r1, q1⟩ => hc pins s1 σ H1 vs us Q I1 r1 q1) he hpl
end
end L2

namespace HT
local macro_rules | `(tactic| omega) => `(tactic| lia)
open PySem PyProof.Rows

/-- t < u of tuples of ints -/
noncomputable def lexLt : List Int → List Int → Bool
  | [], [] => false
  | [], _ :: _ => true
  | _ :: _, [] => false
  | x :: xs, y :: ys => if x = y then lexLt xs ys else decide (x < y)
section
open PySem.SeqAt
open PySem.AutoSeq1 (wpAny_loadPart')
open PySem.MeetsSeq PySem.MeetsSeq2 PySem.MeetsSeq3

end

section
variable {prog : Program} {w : World} {A : Around} {E : Value → Shared → Prop} {s : Shared}

/-- t + u, t not empty -/
theorem cat_tup {t b : Addr} {vs ws : List Value} {Q : Value → Shared → Prop} (ht : IsTup s.heap t vs.toArray) (hb : IsTup s.heap b ws.toArray) (hv : vs ≠ [])
    (h1 : ws = [] → Q (.ref t) s) (h2 : ws ≠ [] → Q (.ref s.heap.objs.size) { s with heap := s.heap.push { cls := .type "tuple", data := .seq (vs ++ ws).toArray } })
    (hsz : vs.length + ws.length ≤ sizeLine) : wpAny (model prog w) A (binaryOp .Add (.ref t) (.ref b)) Q E s := by
  obtain ⟨⟨cls, dd, data, sl⟩, ho, hc, n, hd⟩ := id ht
  obtain ⟨⟨cls2, dd2, data2, sl2⟩, ho2, hc2, n2, hd2⟩ := id hb
  simp only at hc hd hc2 hd2
  subst hc hd hc2 hd2
  have e : vs.toArray ++ ws.toArray = (vs ++ ws).toArray := by simp
  by_cases hw : ws = []
  · exact concat_meets ⟨_, ho, rfl⟩ ⟨_, ho2, rfl⟩ noFill_tuple_add seq_tuple_add PySem.F.slot_tuple_add PySem.F.entry_tuple_add (PySem.F.args_tuple_add_2 _ _)
      (tuple_addW1 t b vs.toArray ws.toArray n n2 dd dd2 sl sl2 (by simpa using hv) (by simp [hw])) ⟨ho, ho2, h1 hw⟩
  · refine concat_meets ⟨_, ho, rfl⟩ ⟨_, ho2, rfl⟩ noFill_tuple_add seq_tuple_add PySem.F.slot_tuple_add PySem.F.entry_tuple_add (PySem.F.args_tuple_add_2 _ _)
      (tuple_addW2 t b vs.toArray ws.toArray n n2 dd dd2 sl sl2 (by simpa using hv) (by simpa using hw) (by rw [List.size_toArray, List.size_toArray]; exact hsz)) ⟨ho, ho2, ?_⟩
    rw [e]
    exact h2 hw

/-! ### t[a:b], not the whole -/
/-- a slice's bound as a place among n (d where it is left out) -/
noncomputable def sIx (n d : Nat) : Option Int → Nat
  | none => d
  | some v => if v < 0 then (v + (n : Int)).toNat else min v.toNat n
end
end HT

namespace L2
local macro_rules | `(tactic| omega) => `(tactic| lia)
open PySem PySem.Spec PyProof.Rows

/-! ### the parts of a slice -/
noncomputable abbrev TO := St → Hp → (Option Int → Hp → Prop) → Prop
/-- a slice's part (left out, or an int) -/
noncomputable def PO (X : Cx) (e : Option Expr) (t : TO) : Prop :=
  ∀ (pins : List (Addr × Obj)) (s : Shared) (σ : St) (H : Hp) (Q : Option Int → Hp → Prop), Inv X pins σ H s → t σ H Q →
    wpAny (model X.prog X.w) X.A (evalPart e X.env) (fun u s' => ∃ o H', Inv X pins σ H' s' ∧ IsPart u o ∧ Q o H') X.xe s
noncomputable def tNoPart : TO := fun _ H Q => Q none H
noncomputable def tPart (t : TE) : TO := fun σ H Q => t σ H fun x H1 => ∃ i, x = .int i ∧ Q (some i) H1

theorem intsAre_of {ns : List Int} : ∀ {us : List Value}, Vals (ns.map V.int) us → IntsAre us ns := by
  induction ns with
  | nil => intro us r; rw [List.map_nil] at r; cases r; exact .nil
  | cons n ns ih =>
    intro us r
    rw [List.map_cons] at r
    cases r with
    | cons r1 r2 =>
      obtain ⟨t, e⟩ := r1
      subst e
      exact .cons n t (ih r2)

section
variable {X : Cx} {e : Expr} {te : TE} {lo hi : Option Expr} {tl th : TO} {pos p2 : Pos}

/-- what a slice of a value is, by values: the slice object stands at sl -/
noncomputable def SlR (X : Cx) (r : V → Option Int → Option Int → Hp → VK → Prop) : Prop :=
  ∀ (pins : List (Addr × Obj)) (s : Shared) (σ : St) (H : Hp) (x : V) (v vl vu : Value) (lo hi : Option Int) (sl : Addr) (Q : VK), Inv X pins σ H s → RelV x v → s.heap.IsSliceOf sl vl vu .none → IsPart vl lo → IsPart vu hi → r x lo hi H Q →
    ∃ T id, typeLookup (.type T) "__getitem__" = pure (some (.builtin id)) ∧ s.TypeIs v T ∧ wpAny (model X.prog X.w) X.A (getItem v (.ref sl)) (EP X pins σ Q) X.xe s
noncomputable def tSl (r : V → Option Int → Option Int → Hp → VK → Prop) (te : TE) (tl th : TO) : TE := fun σ H Q => te σ H fun x H1 => tl σ H1 fun l H2 => th σ H2 fun u H3 => r x l u H3 Q
/-- the items of xs[lo:hi] -/
noncomputable def cutV (xs : List V) (lo hi : Option Int) : List V := (xs.drop (HT.sIx xs.length 0 lo)).take (HT.sIx xs.length xs.length hi - HT.sIx xs.length 0 lo)
/-- t[lo:hi], not the whole of it (the whole would be t itself) -/
noncomputable def rSlT (K : PySem.W.Frag) : V → Option Int → Option Int → Hp → VK → Prop := fun x lo hi H Q => ∃ a xs, x = .ref a ∧ SqT K H a xs ∧
  ¬ (HT.sIx xs.length 0 lo = 0 ∧ HT.sIx xs.length xs.length hi = xs.length) ∧ ∀ p, H p = none → Q (.ref p) (upd H p (.tup (cutV xs lo hi)))
/-! ### t < u, t + u -/
noncomputable def rLtT (K : PySem.W.Frag) : R2 := fun x y H Q => ∃ a b ns ms, x = .ref a ∧ y = .ref b ∧ SqT K H a (ns.map V.int) ∧ SqT K H b (ms.map V.int) ∧ Q (.bl (HT.lexLt ns ms)) H
/-- t + u, t not empty: u empty gives t itself -/
noncomputable def rCatT (K : PySem.W.Frag) : R2 := fun x y H Q => ∃ a b xs ys, x = .ref a ∧ y = .ref b ∧ SqT K H a xs ∧ SqT K H b ys ∧ xs ≠ [] ∧ xs.length + ys.length ≤ sizeLine ∧
  (ys = [] → Q (.ref a) H) ∧ (ys ≠ [] → ∀ p, H p = none → Q (.ref p) (upd H p (.tup (xs ++ ys))))
theorem Vals.nil_iff {xs : List V} {us : List Value} (r : Vals xs us) : us = [] ↔ xs = [] := by
  cases r with
  | nil => simp
  | cons _ _ => simp
theorem op_catT : OpR X (binaryOp .Add) (rCatT X.K) := by
  intro pins s σ H x y v u Q I rx ry h
  obtain ⟨a, b, xs, ys, rfl, rfl, ha, hb, hx, hz, q1, q2⟩ := h
  cases rx
  cases ry
  obtain ⟨its, r1, p1, _⟩ := I.tuple ha
  obtain ⟨its2, r2, p2, _⟩ := I.tuple hb
  refine HT.cat_tup p1 p2 (fun z => hx (r1.nil_iff.mp z)) (fun z => ⟨.ref a, H, I, rfl, q1 (r2.nil_iff.mp z)⟩) (fun z => ?_) (by rw [← r1.length, ← r2.length]; exact hz)
  refine ⟨.ref s.heap.objs.size, _, I.laid (t' := s.toks) (o := .tup (xs ++ ys)) (fun b ob q => Heap.get?_push_of_some _ q) (Nat.le_refl _) ?_, rfl, q2 (fun w => z (r2.nil_iff.mpr w)) _ (I.hok.fresh (Nat.le_refl _))⟩
  exact ⟨⟨by rw [List.length_append]; exact hz, ⟨_, Heap.get?_push_size _ rfl, rfl⟩⟩, _, r1.append r2, IsTup.new _ _⟩
end

/-! ### places -/
/-- the place that an index of any sign means -/
noncomputable def ixN (n : Nat) (i : Int) : Option Nat := if 0 ≤ i then (if i < n then some i.toNat else none) else if -(n : Int) ≤ i then some (i + n).toNat else none
noncomputable def atI {α : Type} (xs : List α) (i : Int) : Option α := (ixN xs.length i).bind fun j => xs[j]?
theorem ixN_seq {n : Nat} {i : Int} {j : Nat} (h : ixN n i = some j) : seqIndex? i n = some j ∧ j < n ∧ -(n : Int) ≤ i ∧ i < n := by
  unfold ixN at h
  by_cases h0 : 0 ≤ i
  · rw [if_pos h0] at h
    by_cases h1 : i < n
    · rw [if_pos h1] at h
      have e : i.toNat = j := Option.some.inj h
      exact ⟨by rw [seqIndex_of h0 h1, e], by omega, by omega, h1⟩
    · rw [if_neg h1] at h; cases h
  · rw [if_neg h0] at h
    by_cases h1 : -(n : Int) ≤ i
    · rw [if_pos h1] at h
      have e : (i + n).toNat = j := Option.some.inj h
      exact ⟨by rw [seqIndex_neg (by omega) h1, e], by omega, h1, by omega⟩
    · rw [if_neg h1] at h; cases h
theorem atI_get {α : Type} {xs : List α} {i : Int} {v : α} (h : atI xs i = some v) : ∃ j, seqIndex? i xs.length = some j ∧ xs[j]? = some v ∧ j < xs.length ∧ -(xs.length : Int) ≤ i ∧ i < xs.length := by
  unfold atI at h
  cases e : ixN xs.length i with
  | none => rw [e] at h; cases h
  | some j =>
    rw [e] at h
    obtain ⟨h1, h2, h3, h4⟩ := ixN_seq e
    exact ⟨j, h1, h, h2, h3, h4⟩
theorem atI_nat {α : Type} {xs : List α} {j : Nat} {v : α} (h : xs[j]? = some v) : atI xs (j : Int) = some v := by
  have hj : j < xs.length := (List.getElem?_eq_some_iff.mp h).1
  have e : ixN xs.length (j : Int) = some j := by
    unfold ixN
    rw [if_pos (by omega), if_pos (by omega)]; simp
  unfold atI; rw [e]; exact h
/-! ### what may be subscripted -/
/-- what stands as an index of a plain subscript -/
noncomputable def PlainIx (b : Expr) : Prop := ∀ o i, subscripted b false o i = operate [o, i] (getItem o i)
/-- a subscript by values -/
noncomputable def IxR (X : Cx) (r : R2) : Prop :=
  ∀ (value slice : Expr) (pins : List (Addr × Obj)) (s : Shared) (σ : St) (H : Hp) (x y : V) (v u : Value) (Q : VK), Inv X pins σ H s → RelV x v → RelV y u → r x y H Q →
    subscripted slice false v u = operate [v, u] (getItem v u) → wpAny (model X.prog X.w) X.A (subscriptTail value slice v u) (EP X pins σ Q) X.xe s
/-- a call of a builtin's method by values: the receiver, the arguments -/
noncomputable def MtR (X : Cx) (id : String) (r : V → List V → Hp → VK → Prop) : Prop :=
  ∀ (pins : List (Addr × Obj)) (s : Shared) (σ : St) (H : Hp) (x : V) (xs : List V) (v : Value) (us : List Value) (Q : VK), Inv X pins σ H s → RelV x v → Vals xs us → r x xs H Q →
    wpAny (model X.prog X.w) X.A (call (.builtin id) (v :: us)) (EP X pins σ Q) X.xe s
section
variable {X : Cx} {a b : Expr} {ta tb : TE} {pos : Pos}
/-- a[b] -/
theorem pe_ix {r : R2} (hr : IxR X r) (ha : PE X a ta) (hb : PE X b tb) (hs : PlainIx b) : PE X (.Subscript a b pos) (tOp r ta tb) := by
  intro pins s σ H Q I h
  exact Subscript_ (binT ha hb I h fun v u s2 x y H2 I2 rx ry q => hr a b pins s2 σ H2 x y v u Q I2 rx ry q (hs _ _))

noncomputable def rIxL (K : PySem.W.Frag) : R2 := fun x y H Q => ∃ p xs i v, x = .ref p ∧ y = .int i ∧ SqL K H p xs ∧ atI xs i = some v ∧ Q v H
noncomputable def rIxT (K : PySem.W.Frag) : R2 := fun x y H Q => ∃ p xs i v, x = .ref p ∧ y = .int i ∧ SqT K H p xs ∧ atI xs i = some v ∧ Q v H
noncomputable def rIxS : R2 := fun x y H Q => ∃ z i c, x = .str z ∧ y = .int i ∧ z.length ≤ sizeLine ∧ atI z.cps.toList i = some c ∧ Q (.str ⟨#[c]⟩) H
theorem ix_list : IxR X (rIxL X.K) := by
  intro value slice pins s σ H x y v u Q I rx ry h hs
  obtain ⟨p, xs, i, z, rfl, rfl, hq, he, q⟩ := h
  cases rx
  obtain ⟨t, rfl⟩ := ry
  obtain ⟨its, r, pl, hz⟩ := I.list hq
  obtain ⟨j, h1, h2, h3, h4, h5⟩ := atI_get he
  obtain ⟨w, ew, rw'⟩ := r.get h2
  have hl := r.length
  have hn := line63
  have fin : EP X pins σ Q w s := ⟨z, H, I, rw', q⟩
  by_cases h0 : 0 ≤ i
  · have hj : i.toNat = j := by
      rw [seqIndex_of h0 h5] at h1
      exact Option.some.inj h1
    exact item_listR pl.isList h0 (by omega) (by rw [hj]; simpa using ew) fin hs
  · have hj : (i + (its.toArray.size : Int)).toNat = j := by
      rw [seqIndex_neg (by omega) h4] at h1
      rw [List.size_toArray, ← hl]
      exact Option.some.inj h1
    exact subscriptTail_builtinR (x := w) pl.isList.typeIs slot_list_getitem.lookup
      (wpAny_getItem_list_neg (Q := fun r s' => r = w ∧ EP X pins σ Q r s') pl.isList (by omega) (by rw [List.size_toArray] <;> omega) (by omega) (by rw [hj]; simpa using ew) ⟨rfl, fin⟩) hs
theorem ix_tup : IxR X (rIxT X.K) := by
  intro value slice pins s σ H x y v u Q I rx ry h hs
  obtain ⟨p, xs, i, z, rfl, rfl, hq, he, q⟩ := h
  cases rx
  obtain ⟨t, rfl⟩ := ry
  obtain ⟨its, r, pl, hz⟩ := I.tuple hq
  obtain ⟨j, h1, h2, h3, h4, h5⟩ := atI_get he
  obtain ⟨w, ew, rw'⟩ := r.get h2
  have hl := r.length
  have hn := line63
  have fin : EP X pins σ Q w s := ⟨z, H, I, rw', q⟩
  exact subscriptTail_builtinR (x := w) pl.typeIs slot_tuple_getitem.lookup
    (getItem_tuple (j := j) (Q := fun r s' => r = w ∧ EP X pins σ Q r s') pl (by omega) (by omega) (by rw [List.size_toArray, ← hl]; exact h1) (by simpa using ew) ⟨rfl, fin⟩) hs
/-- list, tuple or str -/
noncomputable def rIx (K : PySem.W.Frag) : R2 := fun x y H Q => rIxL K x y H Q ∨ rIxT K x y H Q ∨ rIxS x y H Q
/-! ### xs[i] = v, any sign -/
/-- the list's object behind a store -/
theorem mapSeq_set (its : List Value) (n j : Nat) (u : Value) : Obj.mapSeq (·.setIfInBounds j u) { cls := .type "list", data := .seq its.toArray n } = { cls := .type "list", data := .seq (its.set j u).toArray n } := by
  simp [Obj.mapSeq]
theorem Inv.lst {pins : List (Addr × Obj)} {σ : St} {H : Hp} {s : Shared} {p : Addr} {xs : List V} (I : Inv X pins σ H s) (h : H p = some (.lst xs)) :
    ∃ (its : List Value) (n : Nat), Vals xs its ∧ s.heap.get? p = some { cls := .type "list", data := .seq its.toArray n } ∧ xs.length ≤ sizeLine := by
  obtain ⟨z, its, n, r, e⟩ := I.hok p _ h
  exact ⟨its, n, r, e, z⟩
/-- the list at p is written by an update of its object -/
theorem Inv.lstUpd {pins : List (Addr × Obj)} {σ : St} {H : Hp} {s : Shared} {p : Addr} {xs ys : List V} {its its' : List Value} {n n' : Nat} {f : Obj → Obj} (I : Inv X pins σ H s) (h : H p = some (.lst xs))
    (ho : s.heap.get? p = some { cls := .type "list", data := .seq its.toArray n }) (hf : f { cls := .type "list", data := .seq its.toArray n } = { cls := .type "list", data := .seq its'.toArray n' }) (r : Vals ys its') (hz : ys.length ≤ sizeLine) (t : Nat) :
    Inv X pins σ (upd H p (.lst ys)) { s with heap := s.heap.update p f, toks := t } := by
  have e : (s.heap.update p f).get? p = some { cls := .type "list", data := .seq its'.toArray n' } := by
    rw [Heap.get?_update_self f ho (by rw [hf] <;> rfl), hf]
  refine I.write (x := p) (e := p) (by rw [h]; trivial) (.inl rfl) (fun b u hb q => (Heap.get?_update_other _ _ (Ne.symm hb)).trans q) ⟨_, e⟩ ?_
  exact ⟨hz, its', n', r, e⟩
noncomputable def rSetL : V → V → V → Hp → (Hp → Prop) → Prop := fun o i v H Q => ∃ p xs k j, o = .ref p ∧ i = .int k ∧ H p = some (.lst xs) ∧ ixN xs.length k = some j ∧ Q (upd H p (.lst (xs.set j v)))
theorem set_list : PSet X rSetL := by
  intro pins s σ H o i v ov iv u Q I ro ri rv h
  obtain ⟨p, xs, k, j, rfl, rfl, hp, hj, q⟩ := h
  cases ro
  obtain ⟨t, rfl⟩ := ri
  obtain ⟨its, n, r, ho, hz⟩ := I.lst hp
  obtain ⟨h1, h2, h3, h4⟩ := ixN_seq hj
  have hl := r.length
  have hn := line63
  have I' : Inv X pins σ (upd H p (.lst (xs.set j v))) { s with heap := s.heap.update p (Obj.mapSeq (·.setIfInBounds j u)) } :=
    I.lstUpd hp ho (mapSeq_set its n j u) (r.set rv j) (by rw [List.length_set]; exact hz) s.toks
  by_cases h0 : 0 ≤ k
  · have hk : k.toNat = j := by
      rw [seqIndex_of h0 h4] at h1
      exact Option.some.inj h1
    exact PySem.W.ki_setAt ho h0 (by omega) (by rw [List.size_toArray, ← hl]; exact h4) (by rw [hk]; exact ⟨_, I', q⟩)
  · have hk : (k + (its.toArray.size : Int)).toNat = j := by
      rw [seqIndex_neg (by omega) h3] at h1
      rw [List.size_toArray, ← hl]
      exact Option.some.inj h1
    exact PySem.W.ki_setBack ho (by omega) (by rw [List.size_toArray, ← hl]; exact h3) (by omega) (by rw [hk]; exact ⟨_, I', q⟩)

/-! ### slices -/
/-- xs[lo:hi] of a list: a new list -/
noncomputable def rSlL (K : PySem.W.Frag) : V → Option Int → Option Int → Hp → VK → Prop := fun x lo hi H Q => ∃ a xs, x = .ref a ∧ SqL K H a xs ∧ ∀ p, H p = none → Q (.ref p) (upd H p (.lst (cutV xs lo hi)))
/-! ### in, not in: flat items -/
noncomputable def flatV : V → Bool
  | .non => true
  | .bl _ => true
  | .int _ => true
  | .str _ => true
  | _ => false
/-- == of flat values -/
noncomputable def eqV : V → V → Bool
  | .non, .non => true
  | .bl a, .bl b => a == b
  | .bl a, .int b => (if a then 1 else 0) == b
  | .int a, .bl b => a == (if b then 1 else 0)
  | .int a, .int b => a == b
  | .str a, .str b => a == b
  | _, _ => false
theorem eqAt_V {A : Around} {s : Shared} {y x : V} {u v : Value} (ry : RelV y u) (rx : RelV x v) (fy : flatV y = true) (fx : flatV x = true) : SeqAt.EqAt A s u v (eqV y x) := by
  cases y with
  | non =>
    cases ry
    cases x with
    | non => cases rx; exact SeqAt.EqAt.same _
    | bl b => cases rx; exact SeqAt.EqAt.none_bool b
    | int b => obtain ⟨t, rfl⟩ := rx; exact SeqAt.EqAt.none_int b t
    | str b => obtain ⟨t, rfl⟩ := rx; exact SeqAt.EqAt.none_str b t
    | _ => exact absurd (show false = true from fx) Bool.false_ne_true
  | bl a =>
    cases ry
    cases x with
    | non => cases rx; exact SeqAt.EqAt.bool_none a
    | bl b => cases rx; exact SeqAt.EqAt.bool_bool a b
    | int b => obtain ⟨t, rfl⟩ := rx; exact SeqAt.EqAt.bool_int a b t
    | str b => obtain ⟨t, rfl⟩ := rx; exact SeqAt.EqAt.bool_str a b t
    | _ => exact absurd (show false = true from fx) Bool.false_ne_true
  | int a =>
    obtain ⟨t', rfl⟩ := ry
    cases x with
    | non => cases rx; exact SeqAt.EqAt.int_none a t'
    | bl b => cases rx; exact SeqAt.EqAt.int_bool a t' b
    | int b => obtain ⟨t, rfl⟩ := rx; exact SeqAt.EqAt.int_int a t' b t
    | str b => obtain ⟨t, rfl⟩ := rx; exact SeqAt.EqAt.int_str a t' b t
    | _ => exact absurd (show false = true from fx) Bool.false_ne_true
  | str a =>
    obtain ⟨t', rfl⟩ := ry
    cases x with
    | non => cases rx; exact SeqAt.EqAt.str_none a t'
    | bl b => cases rx; exact SeqAt.EqAt.str_bool a t' b
    | int b => obtain ⟨t, rfl⟩ := rx; exact SeqAt.EqAt.str_int a t' b t
    | str b => obtain ⟨t, rfl⟩ := rx; exact SeqAt.EqAt.str_str a t' b t
    | _ => exact absurd (show false = true from fx) Bool.false_ne_true
  | _ => exact absurd (show false = true from fy) Bool.false_ne_true
/-- the items' answers, read off the values (a value's own answer does not lean on its token) -/
noncomputable def eqU (x : V) (u : Value) : Bool := match u with
  | .none => eqV .non x
  | .bool b => eqV (.bl b) x
  | .int i _ => eqV (.int i) x
  | .str z _ => eqV (.str z) x
  | _ => false
theorem eqU_of {x y : V} {u : Value} (r : RelV y u) (f : flatV y = true) : eqU x u = eqV y x := by
  cases y with
  | non => cases r; rfl
  | bl b => cases r; rfl
  | int i => obtain ⟨t, rfl⟩ := r; rfl
  | str z => obtain ⟨t, rfl⟩ := r; rfl
  | _ => exact absurd (show false = true from f) Bool.false_ne_true
theorem any_eqU {x : V} {xs : List V} {us : List Value} (h : Vals xs us) (f : xs.all flatV = true) : us.any (eqU x) = xs.any fun y => eqV y x := by
  induction h with
  | nil => rfl
  | cons r t ih =>
    rw [List.all_cons, Bool.and_eq_true] at f
    rw [List.any_cons, List.any_cons, eqU_of r f.1, ih f.2]
theorem mem_eqAt {A : Around} {s : Shared} {x : V} {v : Value} (rx : RelV x v) (fx : flatV x = true) {xs : List V} {us : List Value} (h : Vals xs us) (f : xs.all flatV = true) : ∀ u ∈ us, SeqAt.EqAt A s u v (eqU x u) := by
  induction h with
  | nil =>
    intro u hu
    cases hu
  | cons r t ih =>
    intro u' hu
    rw [List.all_cons, Bool.and_eq_true] at f
    rcases List.mem_cons.mp hu with rfl | hu
    · rw [eqU_of r f.1]
      exact eqAt_V r rx f.1 fx
    · exact ih f.2 u' hu
noncomputable def inV (x : V) (xs : List V) : Bool := xs.any fun y => eqV y x
/-- x in a list or tuple of flat items -/
noncomputable def rIn (K : PySem.W.Frag) (neg : Bool) : R2 := fun x y H Q => ∃ p xs, y = .ref p ∧ (SqL K H p xs ∨ SqT K H p xs) ∧ flatV x = true ∧ xs.all flatV = true ∧ Q (.bl (if neg then !inV x xs else inV x xs)) H
theorem op_in_seq : OpR X (compareOp .In) (rIn X.K false) := by
  intro pins s σ H x y v u Q I rx ry h
  obtain ⟨p, xs, rfl, hq, fx, fs, q⟩ := h
  cases ry
  rcases hq with hq | hq
  · obtain ⟨its, r, pl, hz⟩ := I.list hq
    refine SeqAt.in_listAt (eqU x) pl.isList (fun w hw => mem_eqAt rx fx r fs w (by simpa using hw)) ⟨.bl _, H, I, rfl, ?_⟩
    rw [show its.toArray.any (eqU x) = its.any (eqU x) by simp, any_eqU r fs]
    exact q
  · obtain ⟨its, r, pl, hz⟩ := I.tuple hq
    refine SeqAt.in_tupleAt (eqU x) pl (fun w hw => mem_eqAt rx fx r fs w (by simpa using hw)) ⟨.bl _, H, I, rfl, ?_⟩
    rw [show its.toArray.any (eqU x) = its.any (eqU x) by simp, any_eqU r fs]
    exact q
/-! ### len, list(x), tuple(x) of any list or tuple that is read -/
theorem call_len_seq : CallR X (.builtin "len") (fun xs H Q => ∃ p ys, xs = [.ref p] ∧ (SqL X.K H p ys ∨ SqT X.K H p ys) ∧ Q (.int ys.length) H) := by
  intro pins s σ H xs us Q I r h
  obtain ⟨p, ys, rfl, hq, q⟩ := h
  obtain ⟨u, rfl, rx⟩ := vals1 r
  cases rx
  have hn := line63
  rcases hq with hq | hq
  · obtain ⟨its, r', pl, hz⟩ := I.list hq
    have hlen := r'.length
    exact Calls.call_len_list pl.isList (by simp only [List.size_toArray] <;> omega) ⟨.int ys.length, H, I.tok _, ⟨s.toks + 1, by rw [List.size_toArray, hlen]⟩, q⟩
  · obtain ⟨its, r', pl, hz⟩ := I.tuple hq
    have hlen := r'.length
    exact len_tuple pl (by simp only [List.size_toArray] <;> omega) ⟨.int ys.length, H, I.tok _, ⟨s.toks + 1, by rw [List.size_toArray, hlen]⟩, q⟩
theorem call_tuple_of : CallR X (.type "tuple") (fun xs H Q => ∃ p ys, xs = [.ref p] ∧ ((SqL X.K H p ys ∧ ∀ l, H l = none → Q (.ref l) (upd H l (.tup ys))) ∨ (SqT X.K H p ys ∧ Q (.ref p) H))) := by
  intro pins s σ H xs us Q I r h
  obtain ⟨p, ys, rfl, h⟩ := h
  obtain ⟨u, rfl, rx⟩ := vals1 r
  cases rx
  rcases h with ⟨hq, q⟩ | ⟨hq, q⟩
  · obtain ⟨its, r', pl, hz⟩ := I.list hq
    have hlen := r'.length
    refine call_tuple_list pl.isList (fun h' kp => ?_) (by simp only [List.size_toArray] <;> omega)
    have I1 : Inv X pins σ H { s with heap := h' } := I.kept (t' := s.toks) kp
    have I2 : Inv X pins σ (upd H h'.objs.size (.tup ys)) { s with heap := h'.push { cls := .type "tuple", data := .seq its.toArray } } :=
      I1.laid (t' := s.toks) (fun b o e => Heap.get?_push_of_some _ e) (Nat.le_refl _) (show ObjOk X.prog X.w _ _ _ (.tup ys) from ⟨⟨hz, ⟨_, Heap.get?_push_size _ rfl, rfl⟩⟩, its, r', IsTup.new _ _⟩)
    exact ⟨.ref h'.objs.size, _, I2, rfl, q _ (I1.hok.fresh (Nat.le_refl _))⟩
  · obtain ⟨its, r', pl, hz⟩ := I.tuple hq
    exact call_tuple_same pl ⟨.ref p, H, I, rfl, q⟩

/-! ### the call of a builtin's method: o.m(..) -/
/-- the value is of that builtin type -/
noncomputable def tyV (K : PySem.W.Frag) (T : String) (x : V) (H : Hp) : Prop := match x with
  | .str _ => T = "str"
  | .int _ => T = "int"
  | .ref p => (T = "list" ∧ ∃ xs, SqL K H p xs) ∨ (T = "tuple" ∧ ((∃ o, K.lookup p = some o ∧ o.cls = .type "tuple" ∧ o.dict = none) ∨ ∃ xs, H p = some (.tup xs))) ∨
      (T = "dict" ∧ ((∃ kvs, H p = some (.dK kvs)) ∨ ∃ kvs, H p = some (.dT kvs))) ∨ (T = "set" ∧ ∃ S n, H p = some (.set S n))
  | _ => False
theorem tyV_is {pins : List (Addr × Obj)} {σ : St} {H : Hp} {s : Shared} {T : String} {x : V} {v : Value} (I : Inv X pins σ H s) (r : RelV x v) (ty : tyV X.K T x H) :
    s.TypeIs v T ∧ ∀ a, v = .ref a → ∃ ob, s.heap.get? a = some ob ∧ ob.dict = none := by
  cases x with
  | str z =>
    obtain ⟨t, rfl⟩ := r
    cases (show T = "str" from ty)
    exact ⟨typeIs_str s z t, fun _ e => nomatch e⟩
  | int i =>
    obtain ⟨t, rfl⟩ := r
    cases (show T = "int" from ty)
    exact ⟨typeIs_int s i t, fun _ e => nomatch e⟩
  | ref p =>
    cases r
    rcases ty with ⟨rfl, xs, hq⟩ | ⟨rfl, ⟨o, hk, hc, hd⟩ | ⟨ys, hk⟩⟩ | ⟨rfl, hk⟩ | ⟨rfl, S, n, hk⟩
    · obtain ⟨its, _, pl, _⟩ := I.list hq
      refine ⟨pl.isList.typeIs, fun a e => ?_⟩
      cases e
      obtain ⟨o, n, e, c, hd, _⟩ := pl
      exact ⟨o, e, hd⟩
    · refine ⟨⟨o, I.kIn p o hk, hc⟩, fun a e => ?_⟩
      cases e
      exact ⟨o, I.kIn _ o hk, hd⟩
    · obtain ⟨⟨_, o2, e2, d2⟩, _, _, ⟨o1, e1, c1, _⟩⟩ := (show ObjOk X.prog X.w H s.heap p (.tup ys) from I.hok p _ hk)
      refine ⟨⟨o1, e1, c1⟩, fun a ea => ?_⟩
      cases ea
      exact ⟨o2, e2, d2⟩
    · have z : ∃ o, s.heap.get? p = some o ∧ o.ExactDict := by
        rcases hk with ⟨kvs, hk⟩ | ⟨kvs, hk⟩
        · obtain ⟨_, _, _, _, o, _, _, e, ex, _⟩ := I.hok p _ hk
          exact ⟨o, e, ex⟩
        · obtain ⟨_, _, _, _, o, _, _, e, ex, _⟩ := I.hok p _ hk
          exact ⟨o, e, ex⟩
      obtain ⟨o, e, ex⟩ := z
      refine ⟨⟨o, e, ex.1⟩, fun a e2 => ?_⟩
      cases e2
      exact ⟨o, e, ex.2.1⟩
    · obtain ⟨o, _, _, _, e, ex, _⟩ := I.hok p _ hk
      refine ⟨⟨o, e, ex.1⟩, fun a e2 => ?_⟩
      cases e2
      exact ⟨o, e, ex.2.1⟩
  | _ => exact False.elim ty
noncomputable def tBM0 (K : PySem.W.Frag) (T : String) (r : V → List V → Hp → VK → Prop) (to : TE) : TE := fun σ H Q => to σ H fun x H1 => tyV K T x H1 ∧ r x [] H1 Q
noncomputable def tBM (K : PySem.W.Frag) (T : String) (r : V → List V → Hp → VK → Prop) (to : TE) (t : TA) : TE := fun σ H Q => to σ H fun x H1 => tyV K T x H1 ∧ t σ H1 fun xs H2 => r x xs H2 Q
variable {o e : Expr} {es : List Expr} {to : TE} {t : TA} {name : Str} {apos cpos : Pos} {T id : String} {r : V → List V → Hp → VK → Prop}
theorem pe_bm (pa : PlainAttrs T) (slot : Slot T name id) (hty : typeOf (.builtin id) = pure (.type "method_descriptor")) (hm : MtR X id r) (ho : PE X o to) (ha : PA X (e :: es) t)
    (hbase : attributeBase o name X.env (eval o X.env) = eval o X.env := by rfl)
    (hfew : ((backTo cpos (starEach (e :: es) X.env)).all (fun x => !x.1) && (backToKw cpos (keywordEach [] X.env)).all (fun x => x.1.isSome)
      && decide ((e :: es).length + ([] : List Keyword).length + (if ([] : List Keyword).isEmpty then 0 else 1) < 30)) = true := by rfl)
    (hline : (apos.endLine == cpos.line) = true := by rfl) (hs : starEach (e :: es) X.env = (false, eval e X.env) :: starEach es X.env := by rfl) (hplain : (backTo cpos (starEach es X.env)).any (·.1) = false := by rfl) :
    PE X (.Call (.Attribute o name apos) (e :: es) [] cpos) (tBM X.K T r to t) := by
  intro pins s σ H Q I h
  refine wpAny_Call_method_late hbase hfew hline rfl (thn (ho pins s σ H _ I h) fun v s1 hz0 => ?_)
  obtain ⟨x, H1, I1, r1, ty, q1⟩ := hz0
  obtain ⟨h1, h2⟩ := tyV_is I1 r1 ty
  refine ⟨T, id, pa, slot, hty, h1, h2, ?_⟩
  have hA := ha cpos pins s1 σ H1 _ I1 q1
  rw [hs] at hA ⊢
  refine Calls.callWith_builtin (by show (false || (backTo cpos (starEach es X.env)).any (·.1)) = false; rw [hplain] <;> rfl) (Calls.evalArgs_plain ?_)
  exact thn hA fun us s2 ⟨vs, H2, I2, r2, q2⟩ => hm pins s2 σ H2 x vs v us Q I2 r1 r2 q2
/- xs.append(e), list.index on a module's tuple .. are MtR facts of 06m -/
end

noncomputable def MtM (X : Cx) (id : String) (r : V → List V → Hp → VK → Prop) : Prop :=
  ∀ (pins : List (Addr × Obj)) (s : Shared) (σ : St) (H : Hp) (x : V) (xs : List V) (v : Value) (us : List Value) (Q : VK), Inv X pins σ H s → RelV x v → Vals xs us → r x xs H Q →
    wpAny (model X.prog X.w) X.A (call (.builtin id) (v :: us)) (EP X pins σ Q) X.xe s

/-! ### lists of values -/
theorem Vals.one {x : V} {us : List Value} (h : Vals [x] us) : ∃ u, us = [u] ∧ RelV x u := by
  cases h with
  | cons r t =>
    cases t
    exact ⟨_, rfl, r⟩
theorem Vals.two {x y : V} {us : List Value} (h : Vals [x, y] us) : ∃ u v, us = [u, v] ∧ RelV x u ∧ RelV y v := by
  cases h with
  | cons r t =>
    obtain ⟨v, rfl, q⟩ := Vals.one t
    exact ⟨_, v, rfl, r, q⟩
theorem Vals.zero : ∀ {us : List Value}, Vals [] us → us = []
  | _, .nil => rfl
theorem Vals.dropLast {xs : List V} {us : List Value} (h : Vals xs us) : Vals xs.dropLast us.dropLast := by
  induction h with
  | nil => exact .nil
  | cons r t ih =>
    cases t with
    | nil => exact .nil
    | cons q t' => exact .cons r ih
theorem Vals.eraseIdx : ∀ {xs : List V} {us : List Value} (i : Nat), Vals xs us → Vals (xs.eraseIdx i) (us.eraseIdx i)
  | _, _, _, .nil => .nil
  | _, _, 0, .cons _ t => t
  | _, _, i + 1, .cons r t => .cons r (Vals.eraseIdx i t)
theorem Vals.reverse {xs : List V} {us : List Value} (h : Vals xs us) : Vals xs.reverse us.reverse := by
  induction h with
  | nil => exact .nil
  | cons r t ih => rw [List.reverse_cons, List.reverse_cons]; exact Vals.append ih (.cons r .nil)
theorem Vals.rep {xs : List V} {us : List Value} (h : Vals xs us) : ∀ k : Nat, Vals (List.replicate k xs).flatten (List.replicate k us).flatten
  | 0 => .nil
  | k + 1 => by
    rw [List.replicate_succ, List.replicate_succ, List.flatten_cons, List.flatten_cons]
    exact Vals.append h (Vals.rep h k)
theorem foldl_rep (its : List Value) : ∀ (k : Nat) (acc : List Value),
    List.foldl (fun x1 x2 => x1 ++ x2) acc.toArray (List.replicate k its.toArray) = (acc ++ (List.replicate k its).flatten).toArray
  | 0, acc => by simp
  | k + 1, acc => by
    have e : acc.toArray ++ its.toArray = (acc ++ its).toArray := by simp
    have e2 : (acc ++ its) ++ (List.replicate k its).flatten = acc ++ (List.replicate (k + 1) its).flatten := by
      rw [List.replicate_succ, List.flatten_cons, List.append_assoc]
    rw [← e2, ← foldl_rep its k (acc ++ its), ← e, List.replicate_succ, List.foldl_cons]

section
variable {X : Cx} {pins : List (Addr × Obj)} {σ : St} {H : Hp} {s : Shared} {l b : Addr} {xs ys zs : List V}

/-! ### the two steps: a tracked list is rewritten, a new list is laid -/
theorem Inv.lset {its its' : List Value} {n : Nat} {f : Array Value → Array Value} {t' : Nat} (I : Inv X pins σ H s) (hH : H l = some (.lst xs))
    (e : s.heap.get? l = some { cls := .type "list", data := .seq its.toArray n }) (hf : f its.toArray = its'.toArray) (hv : Vals ys its') (hz : ys.length ≤ sizeLine) :
    Inv X pins σ (upd H l (.lst ys)) { s with heap := s.heap.update l (Obj.mapSeq f), toks := t' } := by
  have q := PySem.IsL.update e f
  rw [hf] at q
  refine I.write (x := l) (e := l) (by rw [hH]; exact trivial) (.inl rfl) (fun b' u hb hu => (Heap.get?_update_other s.heap (Obj.mapSeq f) (Ne.symm hb)).trans hu) ⟨_, q⟩ ?_
  exact ⟨hz, its', _, hv, q⟩
theorem Inv.lnew {its : List Value} {t' : Nat} (I : Inv X pins σ H s) (hv : Vals ys its) (hz : ys.length ≤ sizeLine) :
    Inv X pins σ (upd H s.heap.objs.size (.lst ys)) { s with heap := s.heap.push { cls := .type "list", data := .seq its.toArray }, toks := t' } :=
  I.laid (fun _ _ q => Heap.get?_push_of_some _ q) (Nat.le_refl _) ⟨hz, its, 0, hv, Heap.get?_push_size _ rfl⟩
theorem Inv.fresh (I : Inv X pins σ H s) : H s.heap.objs.size = none := I.hok.fresh (Nat.le_refl _)
theorem Inv.lstM (I : Inv X pins σ H s) (hH : H l = some (.lst xs)) : xs.length ≤ sizeLine ∧ ∃ (its : List Value) (n : Nat), Vals xs its ∧ xs.length = its.length ∧ s.heap.get? l = some { cls := .type "list", data := .seq its.toArray n } := by
  obtain ⟨z, its, n, r, e⟩ := I.hok l _ hH
  exact ⟨z, its, n, r, r.length, e⟩

theorem notLongL {n : Nat} (h : n ≤ sizeLine) : Builtin.List.listTooLong n = false := by
  unfold Builtin.List.listTooLong
  exact decide_eq_false (by omega)
end

section
variable {X : Cx}

/-! ### methods -/
noncomputable def rAppend : V → List V → Hp → VK → Prop := fun x vs H Q => ∃ l xs y, x = .ref l ∧ vs = [y] ∧ H l = some (.lst xs) ∧ xs.length < sizeLine ∧ Q .non (upd H l (.lst (xs ++ [y])))
theorem mt_append : MtM X "list.append" rAppend := by
  intro pins s σ H x vs v us Q I rx rv h
  obtain ⟨l, xs, y, rfl, rfl, hH, hz, q⟩ := h
  cases rx
  obtain ⟨u, rfl, ru⟩ := rv.one
  obtain ⟨z, its, n, r, hl, e⟩ := I.lstM hH
  refine call_meets F.slot_list_append ⟨_, e, rfl⟩ F.entry_list_append (F.args_list_append_2 _ _) (PySem.list_append l its.toArray n u (by rw [List.size_toArray]; omega)) ⟨e, ?_⟩
  refine ⟨.non, _, I.lset (its' := its ++ [u]) hH e (by simp) (r.append (.cons ru .nil)) ?_, rfl, q⟩
  rw [List.length_append, List.length_singleton]
  omega

noncomputable def rExtend : V → List V → Hp → VK → Prop := fun x vs H Q => ∃ l b xs zs, x = .ref l ∧ vs = [.ref b] ∧ H l = some (.lst xs) ∧ H b = some (.lst zs) ∧ xs.length + zs.length ≤ sizeLine ∧ Q .non (upd H l (.lst (xs ++ zs)))
theorem mt_extend : MtM X "list.extend" rExtend := by
  intro pins s σ H x vs v us Q I rx rv h
  obtain ⟨l, b, xs, zs, rfl, rfl, hH, hB, hz, q⟩ := h
  cases rx
  obtain ⟨u, rfl, ru⟩ := rv.one
  cases ru
  obtain ⟨z, its, n, r, hl, e⟩ := I.lstM hH
  obtain ⟨z2, its2, n2, r2, hl2, e2⟩ := I.lstM hB
  have hsz : its.toArray.size + its2.toArray.size ≤ sizeLine := by rw [List.size_toArray, List.size_toArray]; omega
  have hlong : ¬ (!its.toArray.isEmpty && Builtin.List.listTooLong (its.toArray.size + its2.toArray.size)) = true := by
    rw [notLongL hsz, Bool.and_false]
    exact Bool.false_ne_true
  refine call_meets F.slot_list_extend ⟨_, e, rfl⟩ F.entry_list_extend (F.args_list_extend_2 _ _)
    (AutoSeq1.list_extend_list_list_0 l its.toArray n b its2.toArray n2 hlong (by rw [List.size_toArray]; omega) (by omega)) ⟨e, e2, ?_⟩
  refine ⟨.non, _, I.lset (its' := its ++ its2) hH e (by simp) (r.append r2) ?_, rfl, q⟩
  rw [List.length_append]
  omega

noncomputable def rPop : V → List V → Hp → VK → Prop := fun x vs H Q => ∃ l xs y, x = .ref l ∧ vs = [] ∧ H l = some (.lst xs) ∧ xs[xs.length - 1]? = some y ∧ Q y (upd H l (.lst xs.dropLast))
noncomputable def rPopAt : V → List V → Hp → VK → Prop := fun x vs H Q => ∃ l xs i k y, x = .ref l ∧ vs = [.int i] ∧ H l = some (.lst xs) ∧ -(2 ^ 63) ≤ i ∧ i < 2 ^ 63 ∧ seqIndex? i xs.length = some k ∧ xs[k]? = some y ∧ Q y (upd H l (.lst (xs.eraseIdx k)))
noncomputable def rReverse : V → List V → Hp → VK → Prop := fun x vs H Q => ∃ l xs, x = .ref l ∧ vs = [] ∧ H l = some (.lst xs) ∧ Q .non (upd H l (.lst xs.reverse))
noncomputable def rClear : V → List V → Hp → VK → Prop := fun x vs H Q => ∃ l xs, x = .ref l ∧ vs = [] ∧ H l = some (.lst xs) ∧ Q .non (upd H l (.lst []))
/-! ### list + list, list += list, list * int -/
noncomputable def rCat : R2 := fun x y H Q => ∃ l b xs zs, x = .ref l ∧ y = .ref b ∧ H l = some (.lst xs) ∧ H b = some (.lst zs) ∧ xs.length + zs.length ≤ sizeLine ∧ ∀ p, H p = none → Q (.ref p) (upd H p (.lst (xs ++ zs)))
theorem op_cat : OpR X (binaryOp .Add) rCat := by
  intro pins s σ H x y v u Q I rx ry h
  obtain ⟨l, b, xs, zs, rfl, rfl, hH, hB, hz, q⟩ := h
  cases rx
  cases ry
  obtain ⟨z, its, n, r, hl, e⟩ := I.lstM hH
  obtain ⟨z2, its2, n2, r2, hl2, e2⟩ := I.lstM hB
  refine PySem.P.add_list e e2 ?_ (by rw [List.size_toArray, List.size_toArray]; omega)
  have ea : its.toArray ++ its2.toArray = (its ++ its2).toArray := by simp
  rw [ea]
  exact ⟨.ref _, _, I.lnew (t' := s.toks) (r.append r2) (by rw [List.length_append]; omega), rfl, q _ I.fresh⟩
/-- a list times an int (a negative one is nothing) -/
noncomputable def rRep : R2 := fun x y H Q => ∃ l k xs, x = .ref l ∧ y = .int k ∧ H l = some (.lst xs) ∧ -(2 ^ 63) ≤ k ∧ k < 2 ^ 63 ∧ xs.length * k.toNat ≤ sizeLine ∧
  ∀ p, H p = none → Q (.ref p) (upd H p (.lst (List.replicate k.toNat xs).flatten))
theorem len_rep {α : Type} (xs : List α) (k : Nat) : (List.replicate k xs).flatten.length = k * xs.length := by
  induction k with
  | zero => simp
  | succ k ih => rw [List.replicate_succ, List.flatten_cons, List.length_append, ih, Nat.succ_mul, Nat.add_comm]
theorem op_rep : OpR X (binaryOp .Mult) rRep := by
  intro pins s σ H x y v u Q I rx ry h
  obtain ⟨l, k, xs, rfl, rfl, hH, h1, h2, hz, q⟩ := h
  cases rx
  obtain ⟨t, rfl⟩ := ry
  obtain ⟨z, its, n, r, hl, e⟩ := I.lstM hH
  have hlen : its.toArray.size * k.toNat ≤ sizeLine := by rw [List.size_toArray, ← hl]; exact hz
  have hcap : ¬ its.toArray.size * k.toNat > (2 ^ 63 - 1) / 8 := by
    have : (sizeLine : Nat) ≤ (2 ^ 63 - 1) / 8 := by decide
    omega
  have hfit : ¬ (!Builtin.List.listFitsIndex k) = true := by
    rw [fitsIndex_both h1 h2]
    exact Bool.false_ne_true
  have hlong : ¬ Builtin.List.listTooLong (its.toArray.size * k.toNat) = true := by
    rw [notLongL hlen]
    exact Bool.false_ne_true
  have hnew : List.foldl (fun x1 x2 => x1 ++ x2) #[] (List.replicate (if its.toArray.isEmpty = true then 0 else k.toNat) its.toArray) = (List.replicate k.toNat its).flatten.toArray := by
    have f0 : ∀ m : Nat, List.foldl (fun x1 x2 => x1 ++ x2) #[] (List.replicate m its.toArray) = (List.replicate m its).flatten.toArray := fun m => by
      have := foldl_rep its m []
      rw [List.nil_append] at this
      exact this
    rw [f0]
    cases its with
    | nil => simp
    | cons a r' => rw [if_neg (by simp)]
  refine wpAny_binaryOp_repeat_ref (T := "list") (U := "int") (by decide) ⟨_, e, rfl⟩ (fun s' => typeIs_int s' k t) noFill_list_mul F.fills_int_mul F.slot_int_rmul repeat_list F.slot_int_index.lookup
    (call_meets F.slot_int_rmul (typeIs_int s k t) F.entry_int_rmul (F.args_int_rmul_2 _ _) (int___rmul___int_list k t l its.toArray n)
      ⟨e, rfl, ⟨_, e, rfl⟩, call_meets F.slot_list_mul ⟨_, e, rfl⟩ F.entry_list_mul (F.args_list_mul_2 _ _) (AutoListH.list___mul___list_int_3 l its.toArray n k t hfit hcap hlong) ⟨e, ?_⟩⟩)
  rw [hnew]
  exact ⟨.ref _, _, I.lnew (t' := s.toks) (r.rep k.toNat) (by rw [len_rep, Nat.mul_comm]; exact hz), rfl, q _ I.fresh⟩

/-! ### del xs[i] -/
end

/-! ### xs[a:b] = ys -/
section
variable {prog : Program} {w : World} {A : Around} {E : Value → Shared → Prop} {s : Shared}
end

section
variable {X : Cx}
end
end L2

namespace Att
local macro_rules | `(tactic| omega) => `(tactic| lia)
open PySem PySem.W PySem.Calls PyProof.Rows

/-! ### the script -/
theorem ints_of_wellAll {P : Params} {h : Heap} : ∀ (ns : List Int) (vs : List Value), WellAll P h vs (ns.map WData.int) → IntsAre vs ns := by
  intro ns
  induction ns with
  | nil =>
    intro vs w
    rw [List.map_nil] at w
    cases w
    exact .nil
  | cons n ns ih =>
    intro vs w
    rw [List.map_cons] at w
    cases w with
    | cons a b =>
      cases a
      exact .cons _ _ (ih _ b)

theorem script_of {l : OpenLaw} {n : Nat} (hn : l.most = some n) {P : Params} {h : Heap} {args : List WData} {vals : List Value}
    (hpre : l.row.toRowW.claim.pre args = true) (hwl : WellAll P h vals args) :
    ∃ a vs ns, vals = [Value.ref a] ∧ args = [WData.list (ns.map WData.int)] ∧ h.get? a = some { cls := .type "list", data := .seq vs.toArray } ∧ IntsAre vs ns ∧ ns.length ≤ n := by
  have hsh : WShape.hasAll [] args [.list .int] = true := (pre_splitW hpre).1
  have hc : l.pre.holds [] { args := args } = true := (pre_splitW hpre).2
  obtain ⟨d, r, rfl, h1, h2⟩ := hasAllW_cons hsh
  obtain rfl := hasAllW_nil h2
  obtain ⟨xs, rfl, h3⟩ := hasW_list h1
  obtain ⟨ns, rfl⟩ := items_int h3
  have hlen : ns.length ≤ n := by
    unfold OpenLaw.pre at hc
    have h4 : (WTm.not (.lt (.lit (.int (n : Int))) (.len (.arg 0)))).holds [] { args := [.list (ns.map .int)] } = true := by
      have h4 := (holds_andW hc).1
      rw [hn] at h4
      exact h4
    have h5 := condW_of h4 (w_not (w_lt w_lit (w_len_list (w_arg rfl))))
    rw [List.length_map] at h5
    refine Nat.le_of_not_lt fun q => ?_
    have q' : (n : Int) < ((ns.length : Nat) : Int) := by omega
    first
      | (rw [decide_eq_true q'] at h5; exact absurd h5 (by decide))
      | (simp at h5; omega)
  cases hwl with
  | cons w1 w2 =>
    cases w2
    cases w1 with
    | list ho hall => exact ⟨_, _, ns, rfl, rfl, ho, ints_of_wellAll ns _ hall, hlen⟩

theorem post_true (l : OpenLaw) (args : List WData) : l.row.toRowW.claim.post args (.bool true) args = true :=
  postW_of (r := l.row.toRowW) (X := (true == true))
    (show WShape.has [] (.bool true) .bool = true by first | rfl | decide | simp [WShape.has, WShape.arms, WShape.armsAll])
    (show (WTm.eq .res (.lit (.bool true))).value [] { args := args, res := some (.bool true), after := args } = some (.bool (true == true)) from w_eq_bool (w_res rfl) w_lit) rfl

/-! ### the attachment: holds_open's last premise (the goal 'hc' behind k_head) from a wpAny of the law's body -/
/-! ### rules over ANY heap (no ledger) from facts about the written part K: the library's own take a ledger (News) for what they write -/
section
variable {prog : Program} {w : World} {A : Around} {E : Value → Shared → Prop} {s : Shared} {K : Frag}

/-! the whole heap as the ledger: makes every rule that writes through a ledger a rule over any heap -/
noncomputable def noObjs (h : Heap) : Heap := { h with objs := #[] }
noncomputable def ledger (h : Heap) (L d : Addr) : List (Addr × Obj) := (List.range h.objs.size).filterMap fun a => if a = L ∨ a = d then none else (h.get? a).map fun o => (a, o)
end
end Att

namespace L2
local macro_rules | `(tactic| omega) => `(tactic| lia)
open PySem PySem.Spec PyProof.Rows

theorem vals_ints : ∀ {vs : List Value} {ns : List Int}, IntsAre vs ns → Vals (ns.map V.int) vs
  | _, _, .nil => .nil
  | _, _, .cons n t h => .cons ⟨t, rfl⟩ (vals_ints h)

/-- nothing is tracked but the script, known to the object (or it is an object of the module) -/
noncomputable def Only (H : Hp) : Prop := ∀ b, H b = none ∨ ∃ o xs, H b = some (.frz o (.lst xs))

/-- THE HEAD: the law's promise, at the heap behind the top. F, the promise of the law's def, may use that base is part of the heap (so K.In base, base.Ns mainGlobals mg stand in Mod) -/
theorem law_call {P : Program} {w : World} {K : PySem.W.Frag} {mg mb : Str → Option Value} {CX : CXT} {k : Nat} {fa a : Addr} {fd : FuncData} {x : Str} {sp : Sp} {s₁ : Shared} {vs : List Value} {ns : List Int}
    (KX : K.In s₁.heap) (hns : s₁.heap.Ns mainGlobals mg) (hb : s₁.heap.Ns builtinsNs mb) (hbb : ∀ x : Str, x ≠ "__name__" → mb x = bootBuiltins x) (hlim : s₁.heap.NoLimit) (hg : s₁.gens = #[])
    (ha : s₁.heap.get? a = some { cls := .type "list", data := .seq vs.toArray }) (hi : IntsAre vs ns) (hl : ns.length ≤ sizeLine) (hr : Room k callerA)
    (F : ∀ base : Heap, K.In base → base.Ns mainGlobals mg → FnOk P w K mg base CX k fa fd [x] sp) (hbind : ∀ (s : Shared) (u : Value), BindsTo s fd ⟨[u], []⟩ [(x, u)])
    (hsp : ∀ H : Hp, Only H → SqL K H a (ns.map V.int) → sp [.ref a] H (fun v _ => v = .bl true) fun _ _ _ => False)
    (hCX : ∀ H e s', CX [] H s₁ (fun _ _ _ => False) e s' → False) :
    codeAny (model P w) callerA (.call (.ref fa) ⟨[.ref a], []⟩) (fun r s' => r = .ok (.ret (.bool true)) ∧ OldK s₁.heap s'.heap ∧ s'.os = s₁.os ∧ AllBare s'.gens) s₁ := by
  have rv := vals_ints hi
  have lenV := hi.length
  -- from an abstract heap in which nothing but the script may be tracked
  have core : ∀ H : Hp, Only H → SqL K H a (ns.map V.int) → HOk P w H s₁.heap → (∀ b, H b ≠ none → b = a) → (H a ≠ none → K.lookup a = none) →
      codeAny (model P w) callerA (.call (.ref fa) ⟨[.ref a], []⟩) (fun r s' => r = .ok (.ret (.bool true)) ∧ OldK s₁.heap s'.heap ∧ s'.os = s₁.os ∧ AllBare s'.gens) s₁ := by
    intro H hO hS hok hA hK
    have base_of : ∀ {b : Addr} {o : Obj}, s₁.heap.get? b = some o → H b = none → (hidT s₁.heap H).get? b = some o := fun e n => hidT_get e n
    have noA : ∀ {b : Addr} {o : Obj} {es : Array DictEntry} {ep : Nat}, s₁.heap.get? b = some o → o.data = .dict es ep → H b = none := fun {b o es ep} e d => by
      cases q : H b with
      | none => rfl
      | some u =>
        have e' : b = a := hA b (by rw [q]; simp)
        subst e'
        rw [ha] at e; cases e
        have d' : Data.seq vs.toArray _ = Data.dict es ep := d
        cases d'
    have nsK : ∀ {b : Addr} {m : Str → Option Value}, s₁.heap.Ns b m → (hidT s₁.heap H).Ns b m := fun {b m} ⟨o, es, ep, e, d, r⟩ => ⟨o, es, ep, base_of e (noA e d), d, r⟩
    have hKb : K.In (hidT s₁.heap H) := fun b o e => base_of (KX b o e) (by
      cases q : H b with
      | none => rfl
      | some u =>
        have e' : b = a := hA b (by rw [q]; simp)
        subst e'
        rw [hK (by rw [q]; simp)] at e; cases e)
    have hM : Mod K mg (hidT s₁.heap H) := ⟨hKb, nsK hns, ⟨mb, nsK hb, hbb⟩, let ⟨mc, h1, h2⟩ := hlim; ⟨mc, nsK h1, h2⟩⟩
    have e0 : Env0 P w K mg (hidT s₁.heap H) callerA [] s₁ H := ⟨rfl, hM, fun b o e => of_hidT e, Nat.le_of_eq (hidT_size _ _), trivial, fun b hb => absurd (show b ∈ ([] : List Addr) from hb) (by simp), hok, .of_eq hg⟩
    refine codeAny_mono ((F _ hKb (nsK hns)).run callerA [] s₁ H ⟨[.ref a], []⟩ [.ref a] [.ref a] _ _ hr e0 (hbind s₁ (.ref a)) (.cons rfl .nil) (hsp H hO hS)) fun r s' h => ?_
    cases r with
    | error e => exact (hCX H e s' h).elim
    | ok fl =>
      cases fl with
      | next => exact False.elim h
      | brk => exact False.elim h
      | cont => exact False.elim h
      | ret u =>
        obtain ⟨v, H', os, bare, un, hok', r', q⟩ := h
        have q' : v = .bl true := q
        subst q'
        obtain rfl : u = Value.bool true := r'
        refine ⟨rfl, OldK.of_keep fun b o e => ?_, os, bare⟩
        cases q : H b with
        | none => exact un.keep b o e q (by intro z; exact absurd (show b ∈ ([] : List Addr) from z) (by simp)) (by simp)
        | some u =>
          rcases hO b with z | ⟨ob, xs, z⟩
          · rw [q] at z; cases z
          · have z2 := un.frzs b ob _ z
            obtain ⟨e1, _⟩ := hok b _ z
            obtain ⟨e2, _⟩ := hok' b _ z2
            rw [e] at e1; cases e1
            exact e2
  cases hk : K.lookup a with
  | some o =>
    -- the script is one of the module's own objects
    have e := KX a o hk
    rw [ha] at e
    cases e
    refine core (fun _ => none) (fun _ => .inl rfl) (.inr ⟨_, vs.toArray, _, hk, rfl, rfl, rfl, by rw [List.size_toArray, lenV]; exact hl, by simpa using rv⟩) (fun b u z => by have z' : (none : Option HO) = some u := z; cases z') (fun b z => absurd rfl z) fun z => absurd rfl z
  | none =>
    refine core (fun b => if b = a then some (.frz { cls := .type "list", data := .seq vs.toArray } (.lst (ns.map V.int))) else none) (fun b => ?_) (.inl (.inr ⟨{ cls := .type "list", data := .seq vs.toArray }, if_pos rfl⟩)) (fun b u z => ?_) (fun b z => ?_) fun _ => hk
    · by_cases hb : b = a
      · exact .inr ⟨_, _, if_pos hb⟩
      · exact .inl (if_neg hb)
    · by_cases hb : b = a
      · have z' := (if_pos hb).symm.trans z
        cases z'
        subst hb
        exact ⟨ha, by rw [List.length_map]; exact hl, vs, _, rv, ha⟩
      · have z' := (if_neg hb).symm.trans z
        cases z'
    · by_cases hb : b = a
      · exact hb
      · exact absurd (if_neg hb) z

noncomputable abbrev KOf {K : PySem.W.Frag} {h : Heap} (_ : K.In h) : PySem.W.Frag := K

end L2

/-! SHORT WORDS over the layer: a def of the text, its body, what a loop and a test want. -/
namespace L2
local macro_rules | `(tactic| omega) => `(tactic| lia)
open PySem PySem.Spec PyProof.Rows

/-! ### the text by places -/
/-- the j-th statement of a class's body -/
noncomputable def inClass (s : Stmt) (j : Nat) : Stmt := match s with
  | .ClassDef _ _ _ body _ _ _ _ _ _ _ => body.getD j (.Pass ⟨0, 0, 0, 0⟩)
  | _ => .Pass ⟨0, 0, 0, 0⟩
noncomputable def defArgs (s : Stmt) : Arguments := match s with
  | .FunctionDef _ a _ _ _ _ _ _ _ _ => a
  | _ => { posonlyargs := [], args := [], vararg := none, kwonlyargs := [], kw_defaults := [], kwarg := none, defaults := [] }
noncomputable def defBody (s : Stmt) : List Stmt := match s with
  | .FunctionDef _ _ b _ _ _ _ _ _ _ => b
  | _ => []
noncomputable def defScope (s : Stmt) : Scope := match s with
  | .FunctionDef _ _ _ _ _ _ sc _ _ _ => sc
  | _ => { kind := .function, names := [], isGenerator := false, isCoroutine := false }

/-! ### no exception leaves a def -/
noncomputable abbrev CX0 : CXT := fun _ _ _ _ _ _ => False
noncomputable abbrev E0 : XK := fun _ _ _ => False
/-! ### a def (or method) of the text as it stands behind the top -/
structure Fun (K : PySem.W.Frag) (x qual : Str) (st : Stmt) (f : Addr) (fd : FuncData) : Prop where
  ex : ∃ (oc : Value) (od : Option Addr) (kV doc pm : Value) (an : Option Addr) (cdv ct : Value) (osl : Array (Option Value)),
    fd = PySem.W.fnOf x qual (defArgs st) (defBody st) (defScope st) .none kV doc pm an cdv ct ∧ K.lookup f = some ⟨oc, od, .func fd, osl⟩ ∧ PySem.W.codeIn K cdv qual = true
  kp : PySem.W.keepIn K (.ref f) = true
section
variable {P : Program} {w : World} {K : PySem.W.Frag} {mg : Str → Option Value} {base : Heap}
/-- THE RULE for a def: its body as a term of rules, and the reading of that term -/
theorem Fun.ok {x qual : Str} {st : Stmt} {f : Addr} {fd : FuncData} {N ps : List Str} {k : Nat} {sp : Sp} (F : Fun K x qual st f fd) (S : FnScope N ps (defScope st)) (len : ∀ vs H Q E, sp vs H Q E → vs.length = ps.length)
    (hbody : ∀ (cdv : Value) (A : Around) (outer : List Env) (s : Shared) (H : Hp) (vs : List V) (Q : VK) (E : XK), Room k (A.deeper (envOfC qual (defScope st) s.heap.objs.size f cdv)) → sp vs H Q E →
      ∃ t, PSs (cxOf CX0 P w K mg base N qual (defScope st) f cdv A outer s H E).nox (defBody st) t ∧ t { nx := fun _ H' => Q .non H', rt := Q } (start N vs) H) : FnOk P w K mg base CX0 (k + 1) f fd ps sp := by
  obtain ⟨oc, od, kV, doc, pm, an, cdv, ct, osl, rfl, lk, hcd⟩ := F.ex
  refine fn_of lk hcd S len fun A outer s H vs Q E hr hsp => ?_
  obtain ⟨t, h, q⟩ := hbody cdv A outer s H vs Q E hr hsp
  exact ⟨t, h.nox, q⟩
/-- how its arguments bind (no defaults): h is «fun _ _ _ _ _ _ us hl => match us, hl with | [_, _], _ => rfl», one _ a parameter -/
theorem Fun.binds {x qual : Str} {st : Stmt} {f : Addr} {fd : FuncData} {ps : List Str} (F : Fun K x qual st f fd)
    (h : ∀ (kV doc pm : Value) (an : Option Addr) (cdv ct : Value) (us : List Value), us.length = ps.length → bindArgs (PySem.W.fnOf x qual (defArgs st) (defBody st) (defScope st) .none kV doc pm an cdv ct) ⟨us, []⟩ = pure (ps.zip us)) : Binds K fd ps [] := by
  obtain ⟨oc, od, kV, doc, pm, an, cdv, ct, osl, rfl, lk, hcd⟩ := F.ex
  exact .all (h kV doc pm an cdv ct)
theorem fun_mk {x qual : Str} {st : Stmt} {f : Addr} {oc : Value} {od an : Option Addr} {osl : Array (Option Value)} {kV doc pm cdv ct : Value} (l : K.lookup f = some ⟨oc, od, .func (PySem.W.fnOf x qual (defArgs st) (defBody st) (defScope st) .none kV doc pm an cdv ct), osl⟩)
    (c : PySem.W.codeIn K cdv qual = true) (k : PySem.W.keepIn K (.ref f) = true) : Fun K x qual st f (PySem.W.fnOf x qual (defArgs st) (defBody st) (defScope st) .none kV doc pm an cdv ct) := ⟨⟨oc, od, kV, doc, pm, an, cdv, ct, osl, rfl, l, c⟩, k⟩
end
theorem small1000 {n : Nat} (h : n ≤ 1000) : n < sizeLine := Nat.lt_of_le_of_lt h (by decide)

/-! ### expressions in short: the name that stands in the i-th slot -/
section
variable {X : Cx}
theorem pv (i : Nat) {x : Str} {pos : Pos} (hN : X.N[i]? = some x := by rfl) (hv : Vis X.env.scope x := by first | exact Or.inl rfl | exact Or.inr (Or.inl rfl) | exact Or.inr (Or.inr rfl)) (hd : (x == ("__debug__" : Str)) = false := by decide)
    (hcd : (x == ("__classdict__" : Str)) = false := by decide) : PE X (.Name x pos) (tVar i) := pe_var hN hv hd hcd
end

/-! ### tests -/
theorem ite2 {c A B : Prop} [Decidable c] (h1 : c → A) (h2 : ¬ c → B) : if c then A else B := by
  by_cases h : c
  · rw [if_pos h]
    exact h1 h
  · rw [if_neg h]
    exact h2 h
/-! ### heaps -/
/-- all that was tracked is as it was -/
noncomputable def Same (H H' : Hp) : Prop := ∀ b o, H b = some o → H' b = some o
theorem Same.refl (H : Hp) : Same H H := fun _ _ h => h
theorem Same.trans {H H1 H2 : Hp} (a : Same H H1) (b : Same H1 H2) : Same H H2 := fun c o h => b c o (a c o h)
theorem Same.free {H H' : Hp} (e : Same H H') {l : Addr} (h : H' l = Option.none) : H l = Option.none := by
  cases q : H l with
  | none => rfl
  | some o =>
    rw [e l o q] at h
    cases h
theorem Same.seq {K : PySem.W.Frag} {H H' : Hp} {a : Addr} {xs : List V} (e : Same H H') (h : SqL K H a xs) : SqL K H' a xs := by
  rcases h with (h | ⟨o, h⟩) | h
  · exact .inl (.inl (e _ _ h))
  · exact .inl (.inr ⟨o, e _ _ h⟩)
  · exact .inr h


/-! ### comprehensions -/
noncomputable def closL (cells : List (Str × Addr)) : List (Str × NameKind) → List (Str × Addr) → List (Str × Addr)
  | [], cs => cs
  | (n, k) :: r, cs => if k == NameKind.free then closL cells r ((n, (cells.lookup n).getD 0) :: cs) else closL cells r cs
theorem closL_sub {cells : List (Str × Addr)} {x : Str} {c : Addr} : ∀ {names : List (Str × NameKind)} {cs : List (Str × Addr)}, (closL cells names cs).lookup x = some c →
    cs.lookup x = some c ∨ ((x, NameKind.free) ∈ names ∧ c = (cells.lookup x).getD 0)
  | [], cs, h => .inl h
  | (n, k) :: r, cs, h => by
    unfold closL at h
    by_cases hk : (k == NameKind.free) = true
    · rw [if_pos hk] at h
      rcases closL_sub h with h1 | ⟨h1, h2⟩
      · rw [List.lookup_cons] at h1
        by_cases hx : (x == n) = true
        · rw [hx] at h1
          have e : x = n := eq_of_beq hx
          have e2 : k = NameKind.free := eq_of_beq hk
          subst e e2
          exact .inr ⟨List.mem_cons_self, (Option.some.inj h1).symm⟩
        · have hx' : (x == n) = false := by simpa using hx
          rw [hx'] at h1
          exact .inl h1
      · exact .inr ⟨List.mem_cons_of_mem _ h1, h2⟩
    · rw [if_neg hk] at h
      rcases closL_sub h with h1 | ⟨h1, h2⟩
      · exact .inl h1
      · exact .inr ⟨List.mem_cons_of_mem _ h1, h2⟩
theorem closL_keep {cells : List (Str × Addr)} {x : Str} : ∀ {names : List (Str × NameKind)} {cs : List (Str × Addr)}, (∃ c, cs.lookup x = some c) → ∃ c, (closL cells names cs).lookup x = some c
  | [], cs, h => h
  | (n, k) :: r, cs, h => by
    unfold closL
    by_cases hk : (k == NameKind.free) = true
    · rw [if_pos hk]
      refine closL_keep ?_
      rw [List.lookup_cons]
      cases hx : x == n with
      | true => exact ⟨_, rfl⟩
      | false => exact h
    · rw [if_neg hk]
      exact closL_keep h
theorem closL_has {cells : List (Str × Addr)} {x : Str} : ∀ {names : List (Str × NameKind)} {cs : List (Str × Addr)}, (x, NameKind.free) ∈ names → ∃ c, (closL cells names cs).lookup x = some c
  | [], cs, h => by cases h
  | (n, k) :: r, cs, h => by
    unfold closL
    rcases List.mem_cons.mp h with e | h
    · have e1 : x = n := congrArg Prod.fst e
      have e2 : NameKind.free = k := congrArg Prod.snd e
      subst e1 e2
      rw [if_pos (by decide)]
      refine closL_keep ⟨(cells.lookup x).getD 0, ?_⟩
      rw [List.lookup_cons, beq_self_eq_true]
    · by_cases hk : (k == NameKind.free) = true
      · rw [if_pos hk]
        exact closL_has h
      · rw [if_neg hk]
        exact closL_has h
theorem relabel_free {env : Env} : ∀ {names : List (Str × NameKind)} {x : Str} {k' : NameKind}, (∀ y ∈ names, y.2 ≠ NameKind.cell) → k' ≠ .local → (k' = .cell ∨ k' = .free) →
    (names.map fun (n, k) => if (k == NameKind.free && env.scope.kind == .function && env.kindOf n == some .cell) then (n, NameKind.cell) else (n, k)).lookup x = some k' → (x, NameKind.free) ∈ names
  | [], _, _, _, _, _, h => by simp at h
  | (n, k) :: r, x, k', hc, hl, hk', h => by
    have ih := @relabel_free env r x k' (fun y hy => hc y (List.mem_cons_of_mem _ hy)) hl hk'
    have h0 : List.lookup x ((if (k == NameKind.free && env.scope.kind == .function && env.kindOf n == some .cell) = true then (n, NameKind.cell) else (n, k)) :: (r.map fun (n, k) => if (k == NameKind.free && env.scope.kind == .function && env.kindOf n == some .cell) then (n, NameKind.cell) else (n, k))) = some k' := h
    by_cases hcnd : (k == NameKind.free && env.scope.kind == .function && env.kindOf n == some .cell) = true
    · rw [if_pos hcnd, List.lookup_cons] at h0
      have e2 : k = NameKind.free := by
        have q := (Bool.and_eq_true_iff.mp (Bool.and_eq_true_iff.mp hcnd).1).1
        exact eq_of_beq q
      cases hx : x == n with
      | true =>
        have e : x = n := eq_of_beq hx
        subst e e2
        exact List.mem_cons_self
      | false =>
        rw [hx] at h0
        exact List.mem_cons_of_mem _ (ih h0)
    · rw [if_neg hcnd, List.lookup_cons] at h0
      cases hx : x == n with
      | true =>
        rw [hx] at h0
        have e : x = n := eq_of_beq hx
        have e3 : k = k' := Option.some.inj h0
        subst e e3
        rcases hk' with z | z
        · exact absurd z (hc _ List.mem_cons_self)
        · subst z
          exact List.mem_cons_self
      | false =>
        rw [hx] at h0
        exact List.mem_cons_of_mem _ (ih h0)

structure CompSc (sc scope : Scope) (N tgs : List Str) (fr : List Nat) : Prop where
  kind : scope.kind = .function
  nocell : ∀ y ∈ scope.names, y.2 ≠ NameKind.cell
  loc : ∀ y ∈ scope.names, y.2 = NameKind.local → scope.names.lookup y.1 = some NameKind.local
  free : ∀ y ∈ scope.names, y.2 = NameKind.free → sc.names.lookup y.1 = some NameKind.cell
  frs : ∀ j ∈ fr, (N[j]?.bind fun x => scope.names.lookup x) = some NameKind.free

noncomputable def compN (N tgs : List Str) (fr : List Nat) : List Str := tgs ++ fr.map fun j => (N[j]?).getD ⟨#[]⟩
noncomputable def compFr (fr : List Nat) (σ : St) : St := fr.map fun j => (σ[j]?).getD none
noncomputable def compSt (n : Nat) (fr : List Nat) (σ : St) : St := List.replicate n none ++ compFr fr σ

noncomputable def compCx (X : Cx) (Nc : List Str) (scope : Scope) (C : Addr) (s2 : Shared) (H2 : Hp) (fp : List Addr) : Cx :=
  { X with N := Nc, s₀ := s2, H₀ := H2, env := compEnvC scope (closL X.env.cells scope.names []) C X.env, outer := X.stack, ex := fp, fn := fun _ => false, pn := [], xe := fun _ _ => False }

noncomputable def PTs (X : Cx) (ifs : List Expr) (t : TT) : Prop :=
  ∀ (pins : List (Addr × Obj)) (s : Shared) (σ : St) (H : Hp) (Q : Bool → Hp → Prop), Inv X pins σ H s → t σ H Q →
    wpAny (model X.prog X.w) X.A (forIn ifs true fun c r => if r = true then do let ok ← isTrue c X.env (eval c X.env); pure (ForInStep.yield ok) else pure (ForInStep.yield r)) (TP X pins σ Q) X.xe s
noncomputable def tYes : TT := fun _ H Q => Q true H
theorem pts_nil {X : Cx} : PTs X [] tYes := fun _ _ _ H _ I h => wpAny_tests_nil ⟨H, I, h⟩
theorem pts_one {X : Cx} {c : Expr} {t : TT} (h : PT X c t) : PTs X [c] t := fun pins s σ H Q I hq => wpAny_tests_one (h pins s σ H Q I hq)

section
variable {prog : Program} {w : World} {A : Around} {R : Result → Shared → Prop} {s : Shared}
theorem compLoop_any {elt target iter : Expr} {ifs : List Expr} {scope : Scope} {pos : Pos} {it acc : Value} {env : Env} (I : Nat → Shared → Prop)
    (turn : ∀ n s, I n s → wpAny (model prog w) A (pyNext it) (fun r s₁ => match r with
      | none => R (.ok .next) s₁
      | some v => wpAny (model prog w) A (letOwnedTupleGo target it v) (fun _ s₁' => wpAny (model prog w) A (assign target env v) (fun _ s₂ =>
          wpAny (model prog w) A (forIn ifs true fun c r => if r = true then do let ok ← isTrue c env (eval c env); pure (ForInStep.yield ok) else pure (ForInStep.yield r)) (fun ok s₃ =>
            if ok = true then wpAny (model prog w) A (eval elt env) (fun x s₄ =>
              wpAny (model prog w) A (call (.builtin "list.append") [acc, x]) (fun _ s₅ => ∃ m, m < n ∧ I m s₅) (fun _ _ => False) s₄) (fun _ _ => False) s₃
            else ∃ m, m < n ∧ I m s₃) (fun _ _ => False) s₂) (fun _ _ => False) s₁') (fun _ _ => False) s₁) (fun _ _ => False) s)
    (n : Nat) (h : I n s) :
    codeAny (model prog w) A (.compLoop (.ListComp elt [⟨target, iter, ifs, 0⟩] scope pos) 0 it acc env) R s := by
  refine codeAny_loop rfl I (fun n s hI => ?_) n h
  show wpAny _ A ((compTurn (.ListComp elt [⟨target, iter, ifs, 0⟩] scope pos) 0 it acc env).onRaise (fun x => do noteFrame x env; theTreesLotGoes x)) _ _ s
  refine wpAny_noted ?_
  rw [compTurn_list]
  refine wpAny_bind (wpAny_standAt (wpAny_bind (wpAny_mono (turn n s hI) (fun r s₁ h₁ => ?_) fun _ _ h' => h'.elim)))
  cases r with
  | none => exact wpAny_pure h₁
  | some v =>
    refine wpAny_bind (wpAny_mono h₁ (fun _ s₁' h₁' => ?_) fun _ _ h' => h'.elim)
    refine wpAny_bind (wpAny_mono h₁' (fun _ s₂ h₂ => wpAny_bind (wpAny_mono h₂ (fun ok s₃ h₃ => ?_) fun _ _ h' => h'.elim)) fun _ _ h' => h'.elim)
    cases ok with
    | false => exact wpAny_pure ⟨rfl, h₃⟩
    | true =>
      exact wpAny_bind (wpAny_bind (wpAny_mono h₃ (fun x s₄ h₄ => wpAny_bind (wpAny_mono h₄ (fun _ s₅ h₅ => wpAny_pure (wpAny_pure ⟨rfl, h₅⟩)) fun _ _ h' => h'.elim)) fun _ _ h' => h'.elim))
end

/-- the comprehension's turns, from the heap H1 behind the iterator's making; D: the list that is built -/
noncomputable def CompRun (n : Nat) (fr : List Nat) (J : It) (g : TG) (tt : TT) (te : TE) (σ : St) (D : Addr) (H1 : Hp) (Q : Hp → Prop) : Prop :=
  ∃ W : Nat → Nat → List V → Hp → Prop, (∃ m, W 0 m [] (upd H1 D (.lst []))) ∧ ∀ i m ys H', W i m ys H' →
    (J.stop i H' ∧ Q H') ∨ (J.go i H' ∧ ∀ x H2, J.yld i H' x H2 → g x (compSt n fr σ) H2 fun σ3 H3 => (∃ zs : St, zs.length = n ∧ σ3 = zs ++ compFr fr σ) ∧ tt σ3 H3 fun b H4 =>
      if b = true then te σ3 H4 fun y H5 => H5 D = some (.lst ys) ∧ ys.length < sizeLine ∧ ∃ m', m' < m ∧ W (i + 1) m' (ys ++ [y]) (upd H5 D (.lst (ys ++ [y])))
      else ∃ m', m' < m ∧ W (i + 1) m' ys H4)
noncomputable def tComp (n : Nat) (fr : List Nat) (wi : TI) (g : TG) (tt : TT) (te : TE) : TE := fun σ H Q => wi σ H fun J H1 => ∀ D, H1 D = none → CompRun n fr J g tt te σ D H1 (Q (.ref D))
noncomputable def tCompSet (n : Nat) (fr : List Nat) (wi : TI) (g : TG) (tt : TT) (te : TE) (i : Nat) : TS := fun D σ H => wi σ H fun J H1 => ∀ l, H1 l = none → CompRun n fr J g tt te σ l H1 (D.nx (σ.set i (some (.ref l))))

section
variable {X : Cx} {tg iter elt : Expr} {ifs : List Expr} {scope sc : Scope} {tgs : List Str} {fr : List Nat} {wi : TI} {g : TG} {tt : TT} {te : TE} {pos : Pos}

theorem comp_core {pins : List (Addr × Obj)} {σ : St} {H2 : Hp} {s2 : Shared} {it : Addr} {fp : List Addr} {tn : Nat → Heap → Prop} {J : It} {RR : Value → Addr → Result → Shared → Prop} {E : Value → Shared → Prop} {Qf : Hp → Prop}
    (hsc : X.env.scope = sc) (S : CompSc sc scope X.N tgs fr) (hc : X.calm = true)
    (hg : ∀ C s2 H2 fp, PG (compCx X (compN X.N tgs fr) scope C s2 H2 fp) tg g) (ht : ∀ C s2 H2 fp, PTs (compCx X (compN X.N tgs fr) scope C s2 H2 fp) ifs tt) (he : ∀ C s2 H2 fp, PE (compCx X (compN X.N tgs fr) scope C s2 H2 fp) elt te)
    (I2 : Inv X pins σ H2 s2) (T : Turn X.prog X.w X.K tg J fp it tn) (st2 : tn 0 s2.heap) (f2 : ∀ b ∈ fp, FpOk X pins H2 b)
    (run : CompRun tgs.length fr J g tt te σ s2.heap.objs.size H2 Qf)
    (hRR : ∀ (C : Addr) (H3 : Hp) (s4 : Shared), Inv X pins σ H3 s4 → FpOk X pins H3 C → (∃ m, s4.heap.Ns C m) → Qf H3 → RR (.ref s2.heap.objs.size) C (.ok .next) s4) :
    wpAny (model X.prog X.w) X.A (newList []) (fun acc s₃ => wpAny (model X.prog X.w) X.A (newFunctionEnv scope X.env.globals (closL X.env.cells scope.names []) [] X.env.qual none .none (some X.env)) (fun cenv s₄ =>
      codeAny (model X.prog X.w) X.A (.compStart (.ListComp elt [⟨tg, iter, ifs, 0⟩] scope pos) 0 (.ref it) acc { cenv with scope := relabel scope X.env }) (RR acc cenv.locals) s₄) E s₃) E s2 := by
  refine wpAny_newObj_type (wpAny_newFunctionEnv S.nocell (by intro y hy; simp at hy) (fun h₁ hns₁ hsb₁ => ?_) S.kind)
  dsimp only at hns₁ hsb₁ ⊢
  generalize hG2 : s2.heap.push { cls := .type "list", dict := none, data := .seq ([] : List Value).toArray } = G2 at hns₁ hsb₁ ⊢
  have hC : G2.objs.size = s2.heap.objs.size + 1 := by rw [← hG2, Heap.size_push]
  have hDC : s2.heap.objs.size ≠ G2.objs.size := by rw [hC]; exact Nat.ne_of_lt (Nat.lt_succ_self _)
  have hle : s2.heap.objs.size ≤ G2.objs.size := by rw [hC]; exact Nat.le_succ _
  have below : ∀ b, b < s2.heap.objs.size → b ≠ G2.objs.size ∧ b ≠ s2.heap.objs.size := fun b hb => ⟨Nat.ne_of_lt (Nat.lt_of_lt_of_le hb hle), Nat.ne_of_lt hb⟩
  have old : ∀ b o, s2.heap.get? b = some o → h₁.get? b = some o := fun b o e => hsb₁.extBut b o (below b (Heap.lt_size e)).1 (Heap.get?_push_of_some _ (hG2 ▸ Heap.get?_push_of_some _ e))
  have accO : h₁.get? s2.heap.objs.size = some { cls := .type "list", data := .seq ([] : List Value).toArray 0 } := hsb₁.extBut _ _ hDC (Heap.get?_push_of_some _ (hG2 ▸ Heap.get?_push_size _ rfl))
  have hfree0 : ∀ y ∈ scope.names, y.2 = NameKind.free → ∃ c, X.env.cells.lookup y.1 = some c := fun y hy e => I2.ok.has y.1 (.inl (by show X.env.scope.names.lookup y.1 = _; rw [hsc]; exact S.free y hy e))
  have subC : ∀ x c, (closL X.env.cells scope.names []).lookup x = some c → X.env.cells.lookup x = some c := fun x c e => by
    rcases closL_sub e with z | ⟨z1, z2⟩
    · simp at z
    · obtain ⟨c', e'⟩ := hfree0 _ z1 rfl
      rw [z2, e']
      rfl
  have cellLt : ∀ x c, X.env.cells.lookup x = some c → c < s2.heap.objs.size := fun x c e => by
    obtain ⟨v, q⟩ := I2.cell x c e
    exact q.lt
  have fpLt : ∀ b ∈ fp, b < s2.heap.objs.size := fun b hb => by
    obtain ⟨o, e, _⟩ := T.obj 0 _ st2 b hb
    exact Heap.lt_size e
  have ok3 : (compCx X (compN X.N tgs fr) scope G2.objs.size s2 H2 fp).Ok := by
    refine ⟨I2.ok.mod, S.kind, I2.ok.glob, I2.ok.blt, hle, fun x y c e1 e2 => I2.ok.inj x y c (subC x c e1) (subC y c e2), fun x hx => ?_, fun x c z _ => absurd z Bool.false_ne_true, I2.ok.hd, I2.ok.frames, .inl rfl,
      fun b hb => ⟨(below b (fpLt b hb)).1, fun x c e => (f2 b hb).2.2.2.2.1 x c (subC x c e)⟩, I2.bs, Nat.le_trans I2.ok.bsz I2.sz, fun b o e hb => ?_, fun b hb z => ?_, I2.stack, I2.stkFree⟩
    · rcases hx with hx | hx
      · exact closL_has (relabel_free (env := X.env) S.nocell (by decide) (.inl rfl) hx)
      · exact closL_has (relabel_free (env := X.env) S.nocell (by decide) (.inr rfl) hx)
    · rcases (f2 b hb).2.2.2.1 with z | z
      · exact I2.ok.noex b o e z
      · exact absurd (Nat.lt_of_lt_of_le (Heap.lt_size e) (Nat.le_trans I2.ok.bsz z)) (Nat.lt_irrefl _)
    · rcases List.mem_cons.mp (I2.stkSub b z) with z | z
      · exact (f2 b hb).2.1 z
      · exact (f2 b hb).2.2.1 z
  have I3 : Inv (compCx X (compN X.N tgs fr) scope G2.objs.size s2 H2 fp) [] (compSt tgs.length fr σ) (upd H2 s2.heap.objs.size (.lst [])) { s2 with heap := h₁, toks := s2.toks + ([] : List (Str × Value)).length } := by
    refine ⟨ok3, rfl, I2.bare, Un.laid old (Nat.le_refl _) I2.fresh, ⟨_, hns₁, fun i x v e1 e2 e3 => ?_⟩, fun x c e => ?_, ?_, fun x c e => ?_, fun p hp => absurd (show p ∈ ([] : List (Addr × Obj)) from hp) (by simp), I2.hok.laid old (Nat.le_refl _) ⟨Nat.zero_le _, [], 0, .nil, accO⟩, ?_⟩
    · -- a name of the comprehension that has a value at the start is one of the def's cells
      have hi : tgs.length ≤ i := by
        refine Nat.le_of_not_lt fun hlt => ?_
        unfold compSt at e2
        rw [List.getElem?_append_left (by simpa using hlt), List.getElem?_replicate, if_pos hlt] at e2
        cases e2
      have e2' : (compFr fr σ)[i - tgs.length]? = some (some v) := by
        unfold compSt at e2
        rw [List.getElem?_append_right (by simpa using hi)] at e2
        simpa using e2
      have e1' : (fr.map fun j => (X.N[j]?).getD ⟨#[]⟩)[i - tgs.length]? = some x := by
        have e1 : (compN X.N tgs fr)[i]? = some x := e1
        unfold compN at e1
        rw [List.getElem?_append_right hi] at e1
        exact e1
      unfold compFr at e2'
      rw [List.getElem?_map] at e1' e2'
      cases ej : fr[i - tgs.length]? with
      | none => rw [ej] at e1'; cases e1'
      | some j =>
        rw [ej] at e1' e2'
        have e1j : (X.N[j]?).getD ⟨#[]⟩ = x := Option.some.inj e1'
        have e2j : (σ[j]?).getD none = some v := Option.some.inj e2'
        have hfr := S.frs j (List.mem_of_getElem? ej)
        cases eN : X.N[j]? with
        | none => rw [eN] at hfr; cases hfr
        | some x' =>
          rw [eN] at hfr e1j
          have ex : x' = x := e1j
          subst ex
          have hfx : scope.names.lookup x' = some NameKind.free := hfr
          have hσ : σ[j]? = some (some v) := by
            cases eσ : σ[j]? with
            | none => rw [eσ] at e2j; cases e2j
            | some o => rw [eσ] at e2j; exact congrArg some e2j
          have hmem := PySem.mem_of_lookup hfx
          have hkc : X.env.scope.names.lookup x' = some NameKind.cell := by rw [hsc]; exact S.free _ hmem rfl
          obtain ⟨m, hn, hl⟩ := I2.loc
          obtain ⟨u, ru, lk⟩ := hl j x' v eN hσ (.inr (.inl hkc))
          refine ⟨u, ru, .inr ⟨?_, ?_⟩⟩
          · have e3 : (relabel scope X.env).names.lookup x' = some NameKind.local ∨ (relabel scope X.env).names.lookup x' = some NameKind.cell ∨ (relabel scope X.env).names.lookup x' = some NameKind.free := e3
            rcases e3 with z | z | z
            · exfalso
              -- a free name is not relabelled as a local
              have key : ∀ (names : List (Str × NameKind)), names.lookup x' = some NameKind.free → (names.map fun (n, k) => if (k == NameKind.free && X.env.scope.kind == .function && X.env.kindOf n == some .cell) then (n, NameKind.cell) else (n, k)).lookup x' ≠ some NameKind.local := by
                intro names
                induction names with
                | nil => intro h; simp at h
                | cons p r ih =>
                  obtain ⟨n, k⟩ := p
                  intro h h2
                  have h2 : List.lookup x' ((if (k == NameKind.free && X.env.scope.kind == .function && X.env.kindOf n == some .cell) = true then (n, NameKind.cell) else (n, k)) :: (r.map fun (n, k) => if (k == NameKind.free && X.env.scope.kind == .function && X.env.kindOf n == some .cell) then (n, NameKind.cell) else (n, k))) = some NameKind.local := h2
                  rw [List.lookup_cons] at h
                  cases hx : x' == n with
                  | true =>
                    rw [hx] at h
                    have ek : k = NameKind.free := Option.some.inj h
                    subst ek
                    split at h2
                    · rw [List.lookup_cons, hx] at h2; cases h2
                    · rw [List.lookup_cons, hx] at h2; cases h2
                  | false =>
                    rw [hx] at h
                    split at h2
                    · rw [List.lookup_cons, hx] at h2; exact ih h h2
                    · rw [List.lookup_cons, hx] at h2; exact ih h h2
              exact key scope.names hfx z
            · exact .inl z
            · exact .inr z
          · obtain ⟨c, ec⟩ := closL_has (cells := X.env.cells) (cs := []) hmem
            rcases lk with ⟨k1, _⟩ | ⟨_, c', ec', ic⟩
            · have k1 : X.env.scope.names.lookup x' = some NameKind.local := k1
              rw [hkc] at k1; cases k1
            · have q := subC _ _ ec
              rw [ec'] at q
              have q' : c' = c := Option.some.inj q
              subst q'
              exact ⟨_, ec, ic.keeps old⟩
    · obtain ⟨v, q⟩ := I2.cell x c (subC x c e)
      exact ⟨v, q.keeps old⟩
    · show upd H2 s2.heap.objs.size (.lst []) G2.objs.size = none
      rw [upd_ne hDC.symm]
      exact I2.hok.fresh hle
    · rw [upd_ne (Nat.ne_of_lt (cellLt x c (subC x c e)))]
      exact I2.freeC x c (subC x c e)
    · unfold compSt compFr
      show _ = (compN X.N tgs fr).length
      unfold compN
      simp
  obtain ⟨W, ⟨m0, w0⟩, turn⟩ := run
  have stat : ∀ {H' : Hp}, (∀ b ∈ fp, H' b = none) → ∀ b ∈ fp, FpOk (compCx X (compN X.N tgs fr) scope G2.objs.size s2 H2 fp) [] H' b := fun hn b hb =>
    ⟨hn b hb, (below b (fpLt b hb)).1, ok3.exfs b hb, .inl hb, (ok3.exf b hb).2, fun p hp => absurd (show p ∈ ([] : List (Addr × Obj)) from hp) (by simp)⟩
  have fr3 : ∀ b ∈ fp, upd H2 s2.heap.objs.size (.lst []) b = none := fun b hb => by rw [upd_ne (below b (fpLt b hb)).2]; exact (f2 b hb).1
  have st3 : tn 0 h₁ := T.keep 0 _ _ st2 fun b _ o e => old b o e
  have fin : ∀ {H3 : Hp} {s4 : Shared}, Inv (compCx X (compN X.N tgs fr) scope G2.objs.size s2 H2 fp) [] (compSt tgs.length fr σ) H3 s4 → Qf H3 → RR (.ref s2.heap.objs.size) G2.objs.size (.ok .next) s4 := fun {H3 s4} I4 q => by
    obtain ⟨m, hn, _⟩ := id I4.loc
    have ub : Un (frs X.stack) fp H2 H3 s2.heap s4.heap := I4.base
    refine hRR G2.objs.size H3 s4 (I2.call' (ch := fp) (s' := s4) I4.os ub I4.hok I4.bare fun b hb => ⟨(f2 b hb).2.2.2.1, (f2 b hb).2.1, (f2 b hb).2.2.2.2.1, (f2 b hb).2.2.2.2.2⟩) (I2.fpOk hle I4.free) ⟨m, hn⟩ q
  have loop : ∀ s₃ : Shared, s₃ = { s2 with heap := h₁, toks := s2.toks + ([] : List (Str × Value)).length } →
      codeAny (model X.prog X.w) X.A (.compLoop (.ListComp elt [⟨tg, iter, ifs, 0⟩] scope pos) 0 (.ref it) (.ref s2.heap.objs.size) (compEnvC scope (closL X.env.cells scope.names []) G2.objs.size X.env)) (RR (.ref s2.heap.objs.size) G2.objs.size) s₃ := by
    rintro s₃ rfl
    refine compLoop_any (fun n s' => ∃ i ys H', Inv (compCx X (compN X.N tgs fr) scope G2.objs.size s2 H2 fp) [] (compSt tgs.length fr σ) H' s' ∧ tn i s'.heap ∧ (∀ b ∈ fp, H' b = none) ∧ W i n ys H') ?_ m0 ⟨0, [], _, I3, st3, fr3, w0⟩
    rintro n s5 ⟨i, ys, H3, J3, sti, fri, w3⟩
    rcases turn i n ys H3 w3 with ⟨stop, q⟩ | ⟨go, step⟩
    · refine wpAny_mono (T.done (compCx X (compN X.N tgs fr) scope G2.objs.size s2 H2 fp) rfl rfl rfl hc i [] s5 _ H3 (fun _ _ => False) J3 (stat fri) sti stop) (fun r s6 ⟨hr, J4⟩ => ?_) (fun _ _ f => f)
      subst hr
      exact fin J4 q
    · refine wpAny_mono (T.item (compCx X (compN X.N tgs fr) scope G2.objs.size s2 H2 fp) rfl rfl rfl hc i [] s5 _ H3 (fun _ _ => False) J3 (stat fri) sti go) (fun r s6 ⟨u, hr, h6⟩ => ?_) (fun _ _ f => f)
      subst hr
      refine wpAny_mono h6 (fun _ s7 ⟨x, H7, J7, r7, y7, st7, fr7⟩ => ?_) (fun _ _ f => f)
      have J7' := J7.pinned (stat fr7) (T.obj _ _ st7)
      refine wpAny_mono (hg G2.objs.size s2 H2 fp _ s7 _ H7 x u _ J7' r7 (step x H7 y7)) (fun _ s8 ⟨σ8, H8, J8, ⟨zs, hz, e8⟩, q8⟩ => ?_) (fun _ _ f => f)
      have again : ∀ {H9 : Hp} {s9 : Shared} {ys' : List V}, Inv (compCx X (compN X.N tgs fr) scope G2.objs.size s2 H2 fp) ([] ++ pinsAt fp s7.heap) σ8 H9 s9 → (∃ m', m' < n ∧ W (i + 1) m' ys' H9) →
          ∃ m, m < n ∧ ∃ i ys H', Inv (compCx X (compN X.N tgs fr) scope G2.objs.size s2 H2 fp) [] (compSt tgs.length fr σ) H' s9 ∧ tn i s9.heap ∧ (∀ b ∈ fp, H' b = none) ∧ W i m ys H' := fun {H9 s9 ys'} J9 ⟨m', hm, w9⟩ => by
        refine ⟨m', hm, i + 1, ys', H9, J9.unpinned.weak ?_ ?_, T.keep _ _ _ st7 fun b hb o e => (J9.pin (b, o) (List.mem_append_right _ (List.mem_append_right _ (mem_pinsAt hb e)))).1, fun b hb => ?_, w9⟩
        · rw [e8]; unfold compSt; simp [hz]
        · intro k v ek
          rw [e8]
          unfold compSt at ek
          by_cases hk : k < tgs.length
          · rw [List.getElem?_append_left (by simpa using hk), List.getElem?_replicate, if_pos hk] at ek
            cases ek
          · rw [List.getElem?_append_right (by simpa using hk)] at ek
            rw [List.getElem?_append_right (by omega), hz]
            simpa using ek
        · obtain ⟨o, e, d⟩ := T.obj _ _ st7 b hb
          exact (J9.pin (b, o) (List.mem_append_right _ (List.mem_append_right _ (mem_pinsAt hb e)))).2.1
      refine wpAny_mono (ht G2.objs.size s2 H2 fp _ s8 σ8 H8 _ J8 q8) (fun ok s9 ⟨H9, J9, q9⟩ => ?_) (fun _ _ f => f)
      cases ok with
      | false =>
        rw [if_neg Bool.false_ne_true] at q9 ⊢
        exact again J9 q9
      | true =>
        rw [if_pos rfl] at q9 ⊢
        refine wpAny_mono (he G2.objs.size s2 H2 fp _ s9 σ8 H9 _ J9 q9) (fun y s10 ⟨v10, H10, J10, r10, hD, hlen, q10⟩ => ?_) (fun _ _ f => f)
        refine wpAny_mono (mt_append (X := compCx X (compN X.N tgs fr) scope G2.objs.size s2 H2 fp) _ s10 σ8 H10 (.ref s2.heap.objs.size) [v10] (.ref s2.heap.objs.size) [y] (fun _ H11 => H11 = upd H10 s2.heap.objs.size (.lst (ys ++ [v10]))) J10 rfl (.cons r10 .nil) ⟨_, ys, v10, rfl, rfl, hD, hlen, rfl⟩) (fun _ s11 ⟨_, H11, J11, _, e11⟩ => ?_) (fun _ _ f => f)
        subst e11
        exact again J11 q10
  exact codeAny_compStart_list (loop _ rfl) (T.self _ 0 _ _ _ st3 (loop _ rfl))

theorem pe_comp (hi : PI X tg iter wi) (sc : Scope) (hsc : X.env.scope = sc) (S : CompSc sc scope X.N tgs fr) (hc : X.calm = true) (hclos : closureFor scope X.env = pure (closL X.env.cells scope.names []))
    (hg : ∀ C s2 H2 fp, PG (compCx X (compN X.N tgs fr) scope C s2 H2 fp) tg g) (ht : ∀ C s2 H2 fp, PTs (compCx X (compN X.N tgs fr) scope C s2 H2 fp) ifs tt) (he : ∀ C s2 H2 fp, PE (compCx X (compN X.N tgs fr) scope C s2 H2 fp) elt te)
    (hs : ∀ x, foldedSetIterable iter X.env x = pure x := by intro _; rfl) : PE X (.ListComp elt [⟨tg, iter, ifs, 0⟩] scope pos) (tComp tgs.length fr wi g tt te) := by
  intro pins s σ H Q I h
  rw [eval_ListComp]
  refine wpAny_comprehension_free (use := none) rfl hs hclos S.kind S.loc (wpAny_mono (hi pins s σ H _ I h) (fun v s1 h1 => wpAny_mono h1 (fun itv s2 h2 => ?_) fun _ _ e => e) fun _ _ e => e)
  obtain ⟨it, fp, tn, J, H2, e, I2, T, st2, f2, R2⟩ := h2
  subst e
  refine comp_core (RR := fun acc C => compPost (model X.prog X.w) X.A X.xe none (EP X pins σ Q) acc C) hsc S hc hg ht he I2 T st2 f2 (R2 _ I2.fresh) ?_
  intro C H3 s4 I4 fC ⟨m, hn⟩ q
  refine ⟨m, hn, fun h' hs' => ⟨.ref s2.heap.objs.size, H3, ?_, rfl, q⟩⟩
  obtain ⟨hh, gg, dd, tt', oo⟩ := s4
  exact I4.turned (h' := h') (t' := tt') (it := C) (fun b o hb e => hs'.extBut b o hb e) fC.1 fC.2.1 fC.2.2.2.1 fC.2.2.2.2.1 fC.2.2.2.2.2

theorem ps_setComp {i : Nat} {y : Str} {py spos : Pos} (hN : X.N.Nodup) (hiy : X.N[i]? = some y) (hi : PI X tg iter wi) (sc : Scope) (hsc : X.env.scope = sc) (S : CompSc sc scope X.N tgs fr) (hc : X.calm = true)
    (hclos : closureFor scope X.env = pure (closL X.env.cells scope.names []))
    (hg : ∀ C s2 H2 fp, PG (compCx X (compN X.N tgs fr) scope C s2 H2 fp) tg g) (ht : ∀ C s2 H2 fp, PTs (compCx X (compN X.N tgs fr) scope C s2 H2 fp) ifs tt) (he : ∀ C s2 H2 fp, PE (compCx X (compN X.N tgs fr) scope C s2 H2 fp) elt te)
    (hy : X.env.scope.names.lookup y = some NameKind.local)
    (hsw : swapsWith (.ListComp elt [⟨tg, iter, ifs, 0⟩] scope pos) (some (.Name y py)) spos.line X.env = pure true)
    (hs : ∀ x, foldedSetIterable iter X.env x = pure x := by intro _; rfl) :
    PS X (.Assign [.Name y py] (.ListComp elt [⟨tg, iter, ifs, 0⟩] scope pos) spos) (tCompSet tgs.length fr wi g tt te i) := by
  intro pins s σ H D I h
  rw [exec_Assign_Name_used _ _ _ _ hsw]
  refine wpAny_bind (wpAny_standAt (wpAny_bind ?_))
  show wpAny _ X.A (do let _ ← comprehension (.ListComp elt [⟨tg, iter, ifs, 0⟩] scope pos) scope X.env _ (newList []) false (eval iter X.env) (some (assign (.Name y py) X.env))) _ _ s
  refine wpAny_bind (wpAny_mono (wpAny_comprehension_free (use := some (assign (.Name y py) X.env)) (Q := fun _ s' => SP X pins D .next s') rfl hs hclos S.kind S.loc
    (wpAny_mono (hi pins s σ H _ I h) (fun v s1 h1 => wpAny_mono h1 (fun itv s2 h2 => ?_) fun _ _ e => e) fun _ _ e => e)) (fun _ s' hq => wpAny_pure (wpAny_pure hq)) fun _ _ e => e)
  obtain ⟨it, fp, tn, J, H2, e, I2, T, st2, f2, R2⟩ := h2
  subst e
  refine comp_core (RR := fun acc C => compPost (model X.prog X.w) X.A X.xe (some (assign (.Name y py) X.env)) (fun _ s' => SP X pins D .next s') acc C) hsc S hc hg ht he I2 T st2 f2 (R2 _ I2.fresh) ?_
  intro C H3 s4 I4 fC ⟨m, hn⟩ q
  refine wpAny_assign_Name (store_ok2 (v := .ref s2.heap.objs.size) I4 hN hiy (.inl hy) rfl (fun s5 I5 ⟨a, hsb, ha⟩ => ?_) (.inr hy))
  have hLC : C ≠ a := by
    rcases ha with z | z
    · rw [z]; exact fC.2.1
    · exact fun z2 => fC.2.2.2.2.1 y a z z2.symm
  refine ⟨m, hn.sameBut hsb hLC, fun h' hs' => ⟨_, H3, ?_, q⟩⟩
  obtain ⟨hh, gg, dd, tt', oo⟩ := s5
  exact I5.turned (h' := h') (t' := tt') (it := C) (fun b o hb e => hs'.extBut b o hb e) fC.1 fC.2.1 fC.2.2.2.1 fC.2.2.2.2.1 fC.2.2.2.2.2
end
open PySem.Builtin.Int (intBits)

/-! ### products of great numbers -/
section
variable {X : Cx}
theorem op_mulO : OpR X (binaryOp .Mult) (rI IntMulOk fun i j => .int (i * j)) := opI fun _ _ _ _ _ _ _ hc q => mul_int q hc
end
theorem mulOk {a b : Int} {m n : Nat} (ha : intBits a ≤ m) (hb : intBits b ≤ n) (h : m + n ≤ 134217728) : IntMulOk a b := PyProof.Rows.mulOk_of_bits ha hb h
theorem mulOk_r {a b : Int} (h1 : -(2 ^ 64) < b) (h2 : b < 2 ^ 64) : IntMulOk a b := IntMulOk.of_right (intBits_le_64 h1 h2)
theorem mulOk_l {a b : Int} (h1 : -(2 ^ 64) < a) (h2 : a < 2 ^ 64) : IntMulOk a b := IntMulOk.of_left (intBits_le_64 h1 h2)
/-! ### isinstance of a built-in class -/
noncomputable def kitB (T C : String) : Option Bool := if (Value.type T == Value.type C) = true then some true else if PySem.W.kitMeta C = true then (fastBuiltinMro T).map (·.contains (Value.type C)) else none
section
variable {X : Cx}
/-- isinstance(x, C): x of the built-in type T -/
noncomputable def rIsi (K : PySem.W.Frag) : List V → Hp → VK → Prop := fun xs H Q => ∃ x T C b, xs = [x, .ty C] ∧ TyOf K H x (.type T) ∧ kitB T C = some b ∧ Q (.bl b) H
/-- the name of a built-in type -/
theorem pe_ty {x : Str} {T : String} {pos : Pos} (hg : Gl X x) (hm : X.mg x = none) (hv : bootBuiltins x = some (.type T)) (hn : x ≠ "__name__" := by decide) (hd : (x == ("__debug__" : Str)) = false := by decide) : PE X (.Name x pos) (tC (.ty T)) :=
  pe_bltn hg hm hv rfl hn hd
end

/-! ### data: what a value is, through the heap -/
mutual
noncomputable def Rp (H : Hp) : PyData → V → Prop
  | .none, v => v = .non
  | .bool b, v => v = .bl b
  | .int i, v => v = .int i
  | .tuple ds, v => ∃ a xs, v = .ref a ∧ H a = some (.tup xs) ∧ RpAll H ds xs
  | .list ds, v => ∃ a xs, v = .ref a ∧ H a = some (.lst xs) ∧ RpAll H ds xs
  | .str x, v => v = .str x ∧ PyData.strOk x = true
  | .dict _, _ => False
noncomputable def RpAll (H : Hp) : List PyData → List V → Prop
  | [], vs => vs = []
  | d :: ds, vs => ∃ x xs, vs = x :: xs ∧ Rp H d x ∧ RpAll H ds xs
end
mutual
theorem rp_can {H : Hp} : ∀ (d : PyData) (v : V), Rp H d v → d.canLay0 = true
  | .none, _, _ => rfl
  | .bool _, _, _ => rfl
  | .int _, _, _ => rfl
  | .tuple ds, _, h => by
    unfold Rp at h
    obtain ⟨a, xs, _, _, h⟩ := h
    exact rpAll_can ds xs h
  | .list ds, _, h => by
    unfold Rp at h
    obtain ⟨a, xs, _, _, h⟩ := h
    exact rpAll_can ds xs h
  | .str x, v, h => by
    unfold Rp at h
    exact h.2
  | .dict _, _, h => by unfold Rp at h; exact h.elim
theorem rpAll_can {H : Hp} : ∀ (ds : List PyData) (vs : List V), RpAll H ds vs → PyData.canLayAll0 ds = true
  | [], _, _ => rfl
  | d :: ds, vs, h => by
    unfold RpAll at h
    obtain ⟨x, xs, _, h1, h2⟩ := h
    show (d.canLay0 && PyData.canLayAll0 ds) = true
    rw [rp_can d x h1, rpAll_can ds xs h2]
    rfl
end
section
variable {X : Cx} {pins : List (Addr × Obj)} {σ : St} {H : Hp} {s : Shared}
mutual
theorem rp_reads (I : Inv X pins σ H s) : ∀ (d : PyData) (v : V) (u : Value), Rp H d v → RelV v u → ∃ as, Reads s.heap u d as
  | .none, v, u, h, r => by
    unfold Rp at h
    subst h
    cases r
    exact ⟨_, .none⟩
  | .bool b, v, u, h, r => by
    unfold Rp at h
    subst h
    cases r
    exact ⟨_, .bool b⟩
  | .int i, v, u, h, r => by
    unfold Rp at h
    subst h
    obtain ⟨t, rfl⟩ := r
    exact ⟨_, .int i t⟩
  | .tuple ds, v, u, h, r => by
    unfold Rp at h
    obtain ⟨a, xs, rfl, ha, h⟩ := h
    cases r
    obtain ⟨_, its, rv, p⟩ := I.hok a _ ha
    obtain ⟨o, h1, h2, n, h3⟩ := p
    obtain ⟨as, q⟩ := rpAll_reads I ds xs its h rv
    exact ⟨_, .tuple h1 h2 h3 (by simpa using q)⟩
  | .list ds, v, u, h, r => by
    unfold Rp at h
    obtain ⟨a, xs, rfl, ha, h⟩ := h
    cases r
    obtain ⟨_, its, n, rv, p⟩ := I.hok a _ ha
    obtain ⟨as, q⟩ := rpAll_reads I ds xs its h rv
    exact ⟨_, .list p rfl rfl (by simpa using q)⟩
  | .str x, v, u, h, r => by
    unfold Rp at h
    obtain ⟨rfl, _⟩ := h
    obtain ⟨t, rfl⟩ := r
    exact ⟨_, .str x t⟩
  | .dict _, _, _, h, _ => by unfold Rp at h; exact h.elim
theorem rpAll_reads (I : Inv X pins σ H s) : ∀ (ds : List PyData) (vs : List V) (us : List Value), RpAll H ds vs → Vals vs us → ∃ as, ReadsAll s.heap us ds as
  | [], vs, us, h, r => by
    unfold RpAll at h
    subst h
    cases r
    exact ⟨_, .nil⟩
  | d :: ds, vs, us, h, r => by
    unfold RpAll at h
    obtain ⟨x, xs, rfl, h1, h2⟩ := h
    cases r with
    | cons r1 r2 =>
      obtain ⟨as, q1⟩ := rp_reads I d x _ h1 r1
      obtain ⟨bs, q2⟩ := rpAll_reads I ds xs _ h2 r2
      exact ⟨_, .cons q1 q2⟩
end
end
section
variable {X : Cx} {k : Nat}
noncomputable def rEqD (neg : Bool) : R2 := fun x y H Q => ∃ d e : PyData, Rp H d x ∧ Rp H e y ∧ d.depth ≤ 60 ∧ Q (.bl (if neg then !PyData.eqv d e else PyData.eqv d e)) H
end
theorem rp_ints {H : Hp} : ∀ ns : List Int, RpAll H (ns.map PyData.int) (ns.map V.int)
  | [] => by unfold RpAll; rfl
  | n :: ns => by
    show RpAll H (PyData.int n :: ns.map PyData.int) (V.int n :: ns.map V.int)
    unfold RpAll
    exact ⟨_, _, rfl, by unfold Rp; rfl, rp_ints ns⟩

/-! ### more of heaps -/
theorem Same.new {H H' : Hp} {p : Addr} {o : HO} (e : Same H H') (h : H p = none) : Same H (upd H' p o) := fun b u q => by
  rw [upd_ne (ne_of_none q h)]
  exact e b u q
theorem Same.upd {H : Hp} {p : Addr} {o : HO} (h : H p = none) : Same H (upd H p o) := (Same.refl H).new h

/-! ### the law's head, with the numbers' sizes -/
theorem walk_ofB {l : PySem.W.OpenLaw} {n k : Nat} {q : Program} {loose : List Str} {XP : (Str → Option Value) → Heap → Prop} {YP : World → Heap → Prop} {d : DefRec} {K : Params → PySem.W.Frag} {CX : World → CXT} {sp : World → Sp} {x : Str}
    (hn : l.most = some n) (hn2 : n ≤ sizeLine) (hdf : d.params.defaults = []) (hr : Room k callerA)
    (hY : ∀ (w : World) (h : Heap), YP w h → (K w.params).In h)
    (F : ∀ (w : World) (mg : Str → Option Value) (fa : Addr) (h : Heap), (K w.params).In h → h.Ns mainGlobals mg → mg d.name = some (.ref fa) →
      ∃ fd : FuncData, (∀ (s : Shared) (u : Value), BindsTo s fd ⟨[u], []⟩ [(x, u)]) ∧
        ∀ base : Heap, (K w.params).In base → base.Ns mainGlobals mg → FnOk l.prog w (K w.params) mg base (CX w) k fa fd [x] (sp w))
    (hsp : ∀ (w : World) (H : Hp) (a : Addr) (ns : List Int), ns.length ≤ n → (∀ z ∈ ns, intBits z ≤ 2 ^ 20) → Only H → SqL (K w.params) H a (ns.map V.int) → sp w [.ref a] H (fun v _ => v = .bl true) fun _ _ _ => False)
    (hCX : ∀ (w : World) (H : Hp) (s : Shared) (e : Value) (s' : Shared), CX w [] H s (fun _ _ _ => False) e s' → False) :
    PySem.W.WalkO q loose XP YP l.row.toRowW d [] (fun f vs => PySem.call f vs) := by
  intro w s₀ s₁ mg mb G Y fa o pm cd doc dV kV ho hd hcd hD hmg hg args vals as hpre hlay hrd hwl hlo
  obtain rfl : dV = .none := PySem.W.Dflts.none hD hdf
  obtain rfl : kV = .none := PySem.W.Dflts.noKw hD
  obtain ⟨a, vs, ns, rfl, rfl, hobj, hints, hlen⟩ := Att.script_of hn hpre hwl
  have big : ∀ z ∈ ns, intBits z ≤ 2 ^ 20 := fun z hz => by
    have l1 := (PySem.W.layW_cons hlay).1
    have l2 := PySem.W.layableW_item l1 (.int z) (List.mem_map.mpr ⟨z, hz, rfl⟩)
    have l3 := (PySem.W.layableW_iff.mp l2).2.2
    simpa only [PySem.W.WData.weight, Builtin.Int.intBits] using l3
  have KX := hY w _ Y
  obtain ⟨fd, hb, hF⟩ := F w mg fa _ KX G.T.g hmg
  refine PySem.W.enter_call (codeAny_mono (law_call KX G.T.g G.T.b G.T.builtins G.T.nolimit hg hobj hints (Nat.le_trans hlen hn2) hr hF hb (fun H hO hS => hsp w H a ns hlen big hO hS) fun H e s' => hCX w H s₁ e s') fun r s' hq => ?_)
  obtain ⟨rfl, h2, h3, h4⟩ := hq
  exact ⟨.inl ⟨.bool true, .bool true, [], rfl, fun _ => rfl, .bool true, Att.post_true l _, fun _ => ⟨List.Pairwise.nil, fun _ hm => (nomatch hm)⟩⟩, h2, h3, h4⟩

section
variable {X : Cx} {tg : Expr}
/-! ### an item of a list or a tuple -/
noncomputable def rIxQ (K : PySem.W.Frag) : R2 := fun x y H Q => ∃ p xs i v, x = .ref p ∧ y = .int i ∧ (SqL K H p xs ∨ SqT K H p xs) ∧ atI xs i = some v ∧ Q v H
theorem ix_sq (K : PySem.W.Frag) (hK : X.K = K := by rfl) : IxR X (rIxQ K) := by
  subst hK
  intro value slice pins s σ H x y v u Q I rx ry h hs
  obtain ⟨p, xs, i, z, e1, e2, h | h, ea, q⟩ := h
  · exact ix_list value slice pins s σ H x y v u Q I rx ry ⟨p, xs, i, z, e1, e2, h, ea, q⟩ hs
  · exact ix_tup value slice pins s σ H x y v u Q I rx ry ⟨p, xs, i, z, e1, e2, h, ea, q⟩ hs
/-! ### rules of the layer with the text's part K told, for a comprehension's inside -/
noncomputable def rLen (K : PySem.W.Frag) : List V → Hp → VK → Prop := fun xs H Q => ∃ p ys, xs = [.ref p] ∧ (SqL K H p ys ∨ SqT K H p ys) ∧ Q (.int ys.length) H
theorem call_lenK (K : PySem.W.Frag) (hK : X.K = K := by rfl) : CallR X (.builtin "len") (rLen K) := by
  subst hK
  exact call_len_seq
theorem op_inK (K : PySem.W.Frag) (hK : X.K = K := by rfl) : OpR X (compareOp .In) (rIn K false) := by
  subst hK
  exact op_in_seq
theorem pg_tupK (K : PySem.W.Frag) {es : List Expr} {kk : Nat} {t : TGs} {n : Nat} {pos : Pos} (hc : X.calm = true) (h : PGs X es t) (hK : X.K = K := by rfl)
    (hn : (assignEach es X.env).length = n := by rfl) (hst : (assignEach es X.env).findIdx? (·.1) = none := by rfl) : PG X (.Tuple es kk pos) (gTup K n t) := by
  subst hK
  exact pg_tup hc h hn hst
/-! ### a walk over a list or a tuple -/
noncomputable def iSq (K : PySem.W.Frag) (tl : TE) : TI := fun σ H R => tl σ H fun x H1 => ∃ a, x = .ref a ∧ (((∃ xs, SqL K H1 a xs) ∧ R (Itl K a) H1) ∨ ((∃ xs, SqT K H1 a xs) ∧ R (Itt K a) H1))
theorem pi_sq {l : Expr} {tl : TE} (hl : PE X l tl) : PI X tg l (iSq X.K tl) := by
  intro pins s σ H R I h
  refine thn (hl pins s σ H _ I h) fun v s1 hz0 => ?_
  obtain ⟨x, H1, I1, r1, q1⟩ := hz0
  obtain ⟨a, e, q1⟩ := q1
  subst e
  cases r1
  rcases q1 with ⟨⟨xs, hq⟩, q⟩ | ⟨⟨xs, hq⟩, q⟩
  · obtain ⟨its, rv, p, hz⟩ := I1.list hq
    refine wpAny_pyIter_list p.isList ?_
    refine ⟨s1.heap.objs.size, [s1.heap.objs.size], _, _, H1, rfl, I1.kept (t' := s1.toks) fun b o e => Heap.get?_push_of_some _ e, turn_list a _, ⟨_, Heap.get?_push_size _ rfl, rfl, rfl⟩, fun b hb => ?_, q⟩
    have e : b = s1.heap.objs.size := by simpa using hb
    subst e
    exact I1.fpOk (Nat.le_refl _) (I1.hok.fresh (Nat.le_refl _))
  · obtain ⟨its, rv, p, hz⟩ := I1.tuple hq
    refine wpAny_pyIter_tuple (show s1.heap.IsTuple a its.toArray from p) ?_
    refine ⟨s1.heap.objs.size, [s1.heap.objs.size], _, _, H1, rfl, I1.kept (t' := s1.toks) fun b o e => Heap.get?_push_of_some _ e, turn_tuple a _, ⟨_, Heap.get?_push_size _ rfl, rfl, rfl⟩, fun b hb => ?_, q⟩
    have e : b = s1.heap.objs.size := by simpa using hb
    subst e
    exact I1.fpOk (Nat.le_refl _) (I1.hok.fresh (Nat.le_refl _))
end

/-! ### the turns of a comprehension: the forms one uses -/
theorem comp_range {fr : List Nat} {te : TE} {σ : St} {D : Addr} {H1 : Hp} {Q : Hp → Prop} {lo : Int} {cnt : Nat} (Pv : Nat → List V → Hp → Prop) (h0 : Pv 0 [] (upd H1 D (.lst [])))
    (hs : ∀ i ys H, i < cnt → Pv i ys H → ∀ Qe : VK, (∀ y H5, H5 D = some (.lst ys) → ys.length < sizeLine → Pv (i + 1) (ys ++ [y]) (upd H5 D (.lst (ys ++ [y]))) → Qe y H5) → te (some (.int (lo + i)) :: compFr fr σ) H Qe)
    (hd : ∀ ys H, Pv cnt ys H → Q H) : CompRun 1 fr (Itr lo cnt) (gName 0) tYes te σ D H1 Q := by
  refine ⟨fun i m ys H => m = cnt - i ∧ i ≤ cnt ∧ Pv i ys H, ⟨cnt, by simp, Nat.zero_le _, h0⟩, ?_⟩
  rintro i m ys H' ⟨rfl, hi, p⟩
  by_cases hlt : i < cnt
  · refine .inr ⟨hlt, fun x H2 y => ?_⟩
    obtain ⟨e, y⟩ := y
    subst e y
    refine ⟨⟨[some (.int (lo + i))], rfl, rfl⟩, ?_⟩
    simp only [tYes, ↓reduceIte]
    exact hs i ys _ hlt p _ fun y H5 hD hz pv => ⟨hD, hz, cnt - (i + 1), by omega, rfl, hlt, pv⟩
  · have e : i = cnt := by omega
    subst e
    exact .inl ⟨Nat.le_refl _, hd ys H' p⟩
theorem comp_tup {K : PySem.W.Frag} {a : Addr} {xs : List V} {fr : List Nat} {te : TE} {σ : St} {D : Addr} {H1 : Hp} {Q : Hp → Prop} (Pv : Nat → List V → Hp → Prop) (h0 : Pv 0 [] (upd H1 D (.lst [])))
    (hl : ∀ i ys H, i ≤ xs.length → Pv i ys H → SqT K H a xs)
    (hs : ∀ i x ys H, xs[i]? = some x → Pv i ys H → ∀ Qe : VK, (∀ y H5, H5 D = some (.lst ys) → ys.length < sizeLine → Pv (i + 1) (ys ++ [y]) (upd H5 D (.lst (ys ++ [y]))) → Qe y H5) → te (some x :: compFr fr σ) H Qe)
    (hd : ∀ ys H, Pv xs.length ys H → Q H) : CompRun 1 fr (Itt K a) (gName 0) tYes te σ D H1 Q := by
  refine ⟨fun i m ys H => m = xs.length - i ∧ i ≤ xs.length ∧ Pv i ys H, ⟨xs.length, by simp, Nat.zero_le _, h0⟩, ?_⟩
  rintro i m ys H' ⟨rfl, hi, p⟩
  have q := hl i ys H' hi p
  by_cases hlt : i < xs.length
  · refine .inr ⟨⟨xs, xs[i], q, by simp [hlt]⟩, fun x H2 y => ?_⟩
    obtain ⟨e, y⟩ := y
    subst e
    refine ⟨⟨[some x], rfl, rfl⟩, ?_⟩
    simp only [tYes, ↓reduceIte]
    exact hs i x ys _ (y xs q) p _ fun y H5 hD hz pv => ⟨hD, hz, xs.length - (i + 1), by omega, rfl, hlt, pv⟩
  · have e : i = xs.length := by omega
    subst e
    exact .inl ⟨⟨xs, q, Nat.le_refl _⟩, hd ys H' p⟩

/-! ### the script's cells -/
noncomputable def cellI (ns : List Int) (k : Int) : Int := (ns[k.toNat]?).getD 0
theorem atI_int {ns : List Int} {k : Int} (h0 : 0 ≤ k) (h : k < ns.length) : atI (ns.map V.int) k = some (.int (cellI ns k)) := by
  obtain ⟨j, rfl⟩ : ∃ j : Nat, k = j := ⟨k.toNat, by omega⟩
  have hj : j < ns.length := by omega
  refine atI_nat ?_
  unfold cellI
  rw [List.getElem?_map, Int.toNat_natCast, List.getElem?_eq_getElem hj]
  rfl
theorem cellI_out {ns : List Int} {k : Int} (h0 : 0 ≤ k) (h : ¬ k < ns.length) : cellI ns k = 0 := by
  unfold cellI
  rw [List.getElem?_eq_none (by omega)]
  rfl
theorem SqT.same {K : PySem.W.Frag} {H H' : Hp} {a : Addr} {xs : List V} (e : Same H H') (h : SqT K H a xs) : SqT K H' a xs := by
  rcases h with (h | ⟨o, h⟩) | h
  · exact .inl (.inl (e _ _ h))
  · exact .inl (.inr ⟨o, e _ _ h⟩)
  · exact .inr h
theorem ite_t {c : Bool} {A B : Prop} (hc : c = true) (h : A) : if c = true then A else B := by rw [if_pos hc]; exact h
theorem ite_f {c : Bool} {A B : Prop} (hc : c = false) (h : B) : if c = true then A else B := by rw [if_neg (by rw [hc]; exact Bool.false_ne_true)]; exact h
theorem lenOk {xs : List V} (h : xs.length ≤ 1000 := by simp) : xs.length ≤ sizeLine := Nat.le_of_lt (small1000 h)
theorem small63 {n : Nat} (h : n ≤ 1000) : n ≤ sizeLine := Nat.le_of_lt (small1000 h)

/-! ### tuples of ints, pairs -/
noncomputable def dT (ws : List Int) : PyData := .tuple (ws.map PyData.int)
noncomputable def dL (ws : List Int) : PyData := .list (ws.map PyData.int)
noncomputable def dP (d e : PyData) : PyData := .tuple [d, e]
noncomputable def dO : Option Int → PyData
  | none => .none
  | some i => .int i
noncomputable def vO : Option Int → V
  | none => .non
  | some i => .int i
theorem rp_int {H : Hp} (i : Int) : Rp H (.int i) (.int i) := by unfold Rp; rfl
theorem rp_non {H : Hp} : Rp H .none .non := by unfold Rp; rfl
theorem rp_bl {H : Hp} (b : Bool) : Rp H (.bool b) (.bl b) := by unfold Rp; rfl
theorem rp_dT {H : Hp} {t : Addr} {ws : List Int} (h : H t = some (.tup (ws.map V.int))) : Rp H (dT ws) (.ref t) := by
  unfold dT Rp
  exact ⟨t, _, rfl, h, rp_ints ws⟩
theorem rp_dP {H : Hp} {p : Addr} {d e : PyData} {x y : V} (h : H p = some (.tup [x, y])) (hd : Rp H d x) (he : Rp H e y) : Rp H (dP d e) (.ref p) := by
  unfold dP Rp
  refine ⟨p, _, rfl, h, ?_⟩
  unfold RpAll
  refine ⟨x, _, rfl, hd, ?_⟩
  unfold RpAll
  refine ⟨y, _, rfl, he, ?_⟩
  unfold RpAll
  rfl
theorem eqvAll_ints : ∀ xs ys : List Int, PyData.eqvAll (xs.map PyData.int) (ys.map PyData.int) = decide (xs = ys)
  | [], [] => rfl
  | x :: xs, y :: ys => by
    show (PyData.eqv (.int x) (.int y) && PyData.eqvAll (xs.map PyData.int) (ys.map PyData.int)) = _
    rw [eqvAll_ints xs ys]
    show ((x == y) && decide (xs = ys)) = _
    by_cases h1 : x = y <;> by_cases h2 : xs = ys <;> simp [h1, h2]
  | [], _ :: _ => rfl
  | _ :: _, [] => rfl
theorem eqv_dT (xs ys : List Int) : PyData.eqv (dT xs) (dT ys) = decide (xs = ys) := eqvAll_ints xs ys

section
variable {X : Cx} {pins : List (Addr × Obj)} {σ : St} {H : Hp} {s : Shared} {h' : Heap}
/-- records of ours (at ch) have turned, a new object is laid at T -/
theorem Inv.turnLaid {ch : List Addr} {T : Addr} {o : HO} {t' : Nat} (I : Inv X pins σ H s) (hch : ∀ b ∈ ch, FpOk X pins H b) (k : ∀ b ob, b ∉ ch → s.heap.get? b = some ob → h'.get? b = some ob)
    (hT : s.heap.objs.size ≤ T) (new : ObjOk X.prog X.w (upd H T o) h' T o) : Inv X pins σ (upd H T o) { s with heap := h', toks := t' } := by
  have hn : H T = none := I.hok.fresh hT
  have off : ∀ b u, H b = some u → b ∉ ch := fun b u e hb => by
    have z := (hch b hb).1
    rw [e] at z
    cases z
  refine I.call (g' := s.gens) (d' := s.drawn) (t' := t') (ch := ch) ⟨fun b ob e _ _ hc => k b ob hc e, fun b ob e _ _ hc => ⟨ob.slots, k b ob hc e⟩, fun b ob e n hc => ?_, fun b ob e hc => ⟨ob, k b ob hc e⟩, fun b xs e => ?_, fun b ob u e => ?_, fun b ps e => ⟨#[], ?_⟩⟩ (fun b u e => ?_) I.bare
    (fun b hb => ⟨(hch b hb).2.2.2.1, (hch b hb).2.1, (hch b hb).2.2.2.2.1, (hch b hb).2.2.2.2.2⟩)
  · rw [upd_ne (Nat.ne_of_lt (Nat.lt_of_lt_of_le (Heap.lt_size e) hT))]
    exact n
  · rw [upd_ne (ne_of_none e hn)]
    exact e
  · rw [upd_ne (ne_of_none e hn)]
    exact e
  · rw [upd_ne (ne_of_none e hn), e]
    simp
  · by_cases hb : b = T
    · subst hb
      rw [upd_same] at e
      cases e
      exact new
    · rw [upd_ne hb] at e
      refine (I.hok b u e).stay (fun c v hc q => k c v ?_ q) (fun c q => ?_) fun c xs q => ?_
      · rcases hc with rfl | hc
        · exact off _ _ e
        · exact off _ _ hc
      · rw [upd_ne (ne_of_none q hn)]
        exact q
      · rw [upd_ne (ne_of_none q hn)]
        exact q
/-- records of ours (at ch) have turned -/
theorem Inv.turnMany {ch : List Addr} {t' : Nat} (I : Inv X pins σ H s) (hch : ∀ b ∈ ch, FpOk X pins H b) (k : ∀ b ob, b ∉ ch → s.heap.get? b = some ob → h'.get? b = some ob) : Inv X pins σ H { s with heap := h', toks := t' } := by
  have off : ∀ b u, H b = some u → b ∉ ch := fun b u e hb => by
    have z := (hch b hb).1
    rw [e] at z
    cases z
  refine I.call (g' := s.gens) (d' := s.drawn) (t' := t') (ch := ch) ⟨fun b ob e _ _ hc => k b ob hc e, fun b ob e _ _ hc => ⟨ob.slots, k b ob hc e⟩, fun b ob e n hc => n, fun b ob e hc => ⟨ob, k b ob hc e⟩, fun b xs e => e, fun b ob u e => e, fun b ps e => ⟨#[], by rw [e]; simp⟩⟩ (fun b u e => ?_) I.bare
    (fun b hb => ⟨(hch b hb).2.2.2.1, (hch b hb).2.1, (hch b hb).2.2.2.2.1, (hch b hb).2.2.2.2.2⟩)
  refine (I.hok b u e).stay (fun c v hc q => k c v ?_ q) (fun c q => q) fun c xs q => q
  rcases hc with rfl | hc
  · exact off _ _ e
  · exact off _ _ hc
end

/-! ### zip of two lists, unpacked -/
noncomputable def Itz (K : PySem.W.Frag) (l1 l2 : Addr) : It :=
  ⟨fun i H => ∃ xs ys x y, SqL K H l1 xs ∧ SqL K H l2 ys ∧ xs[i]? = some x ∧ ys[i]? = some y,
   fun i H v H' => ∃ T x y, v = .ref T ∧ H T = none ∧ H' = upd H T (.tup [x, y]) ∧ (∀ xs, SqL K H l1 xs → xs[i]? = some x) ∧ ∀ ys, SqL K H l2 ys → ys[i]? = some y,
   fun i H => ∃ xs ys, SqL K H l1 xs ∧ SqL K H l2 ys ∧ (xs.length ≤ i ∨ ys.length ≤ i)⟩
section
variable {X : Cx}
noncomputable def iZip (K : PySem.W.Frag) (ta : TA) : TI := fun σ H R => ta σ H fun vs H1 => ∃ a b, vs = [.ref a, .ref b] ∧ (∃ xs, SqL K H1 a xs) ∧ (∃ ys, SqL K H1 b ys) ∧ R (Itz K a b) H1
end

/-! ### enumerate of a list, unpacked -/
noncomputable def Ite (K : PySem.W.Frag) (l : Addr) : It :=
  ⟨fun i H => ∃ xs x, SqL K H l xs ∧ xs[i]? = some x,
   fun i H v H' => ∃ T x, v = .ref T ∧ H T = none ∧ H' = upd H T (.tup [.int i, x]) ∧ ∀ xs, SqL K H l xs → xs[i]? = some x,
   fun i H => ∃ xs, SqL K H l xs ∧ xs.length ≤ i⟩
section
variable {X : Cx}
noncomputable def iEnum (K : PySem.W.Frag) (ta : TA) : TI := fun σ H R => ta σ H fun vs H1 => ∃ a, vs = [.ref a] ∧ (∃ xs, SqL K H1 a xs) ∧ R (Ite K a) H1
end
section
variable {X : Cx}
/-! ### the least, the greatest of a list of ints -/
theorem call_minL (hc : X.calm = true) : CallR X (.builtin "min") (fun xs H Q => ∃ (p : Addr) (ns : List Int), xs = [.ref p] ∧ SqL X.K H p (ns.map V.int) ∧ 0 < ns.length ∧ ∀ m : Int, m ∈ ns → (∀ a ∈ ns, m ≤ a) → Q (.int m) H) := by
  intro pins s σ H vs us Q I r q
  obtain ⟨p, ns, rfl, hq, hne, q⟩ := q
  obtain ⟨u, rfl, rx⟩ := vals1 r
  cases rx
  obtain ⟨its, rv, pl, hz⟩ := I.list hq
  have hi := intsAre_of rv
  obtain ⟨ys, ey⟩ := hi.allInts.items
  have hns : ns = ys.toList.map (·.1) := by
    have e1 := hi.numsOf
    have e2 := nums_intItems ys
    rw [← ey] at e2
    exact e1.symm.trans e2
  have hsz : 0 < ys.size := by
    rw [hns, List.length_map, Array.length_toList] at hne
    exact hne
  have hl := pl.isList
  rw [ey] at hl
  refine min_intList (I.ok.hd hc) hl hsz fun v g' tk hv hk => ?_
  obtain ⟨t, rfl⟩ := intItems_at hv
  obtain ⟨b1, b2⟩ := argBest_lt (numAt ys) (ys.size - 1)
  refine ⟨.int _, H, I.kept hk, ⟨t, rfl⟩, q _ ?_ fun a ha => ?_⟩
  · rw [hns, numAt_eq]
    exact getD_mem (by rw [List.length_map, Array.length_toList]; omega)
  · rw [hns] at ha
    obtain ⟨j, hj, rfl⟩ := mem_getD ha
    rw [List.length_map, Array.length_toList] at hj
    rw [← numAt_eq]
    exact b2 j (by omega)
end
/-! ### the place of an int in a list of ints -/
section
variable {X : Cx}
noncomputable def rIndex (K : PySem.W.Frag) : V → List V → Hp → VK → Prop := fun x vs H Q => ∃ (l : Addr) (ns : List Int) (y : Int) (j : Nat), x = .ref l ∧ vs = [.int y] ∧ SqL K H l (ns.map V.int) ∧ ns[j]? = some y ∧ (∀ m, m < j → ns[m]? ≠ some y) ∧ Q (.int (j : Nat)) H
end
/-! ### a def with defaults -/
structure FunD (K : PySem.W.Frag) (x qual : Str) (st : Stmt) (f : Addr) (fd : FuncData) : Prop where
  ex : ∃ (oc : Value) (od : Option Addr) (dV kV doc pm : Value) (an : Option Addr) (cdv ct : Value) (osl : Array (Option Value)),
    fd = PySem.W.fnOf x qual (defArgs st) (defBody st) (defScope st) dV kV doc pm an cdv ct ∧ K.lookup f = some ⟨oc, od, .func fd, osl⟩ ∧ PySem.W.codeIn K cdv qual = true
section
variable {P : Program} {w : World} {K : PySem.W.Frag} {mg : Str → Option Value} {base : Heap}
theorem FunD.ok {x qual : Str} {st : Stmt} {f : Addr} {fd : FuncData} {N ps : List Str} {k : Nat} {sp : Sp} (F : FunD K x qual st f fd) (S : FnScope N ps (defScope st)) (len : ∀ vs H Q E, sp vs H Q E → vs.length = ps.length)
    (hbody : ∀ (cdv : Value) (A : Around) (outer : List Env) (s : Shared) (H : Hp) (vs : List V) (Q : VK) (E : XK), Room k (A.deeper (envOfC qual (defScope st) s.heap.objs.size f cdv)) → sp vs H Q E →
      ∃ t, PSs (cxOf CX0 P w K mg base N qual (defScope st) f cdv A outer s H E).nox (defBody st) t ∧ t { nx := fun _ H' => Q .non H', rt := Q } (start N vs) H) : FnOk P w K mg base CX0 (k + 1) f fd ps sp := by
  obtain ⟨oc, od, dV, kV, doc, pm, an, cdv, ct, osl, rfl, lk, hcd⟩ := F.ex
  refine fn_of lk hcd S len fun A outer s H vs Q E hr hsp => ?_
  obtain ⟨t, h, q⟩ := hbody cdv A outer s H vs Q E hr hsp
  exact ⟨t, h.nox, q⟩
end
/-! ### for over a zip, by what holds between two turns -/
/-! ### and, or, if whose ways meet: the second part is told by its value; an if by what holds behind it -/
section
variable {X : Cx} {a b c : Expr} {rest : List Expr} {ta tb : TE} {tA tB' : TT} {t u : TS} {pos : Pos}
noncomputable def tAndX (ta tb : TE) : TE := fun σ H Q => ta σ H fun x H1 => ∃ c d : Bool, x = .bl c ∧ (c = true → ∀ Q' : VK, Q' (.bl d) H1 → tb σ H1 Q') ∧ Q (.bl (c && d)) H1
noncomputable def tOrX (ta tb : TE) : TE := fun σ H Q => ta σ H fun x H1 => ∃ c d : Bool, x = .bl c ∧ (c = false → ∀ Q' : VK, Q' (.bl d) H1 → tb σ H1 Q') ∧ Q (.bl (c || d)) H1
theorem pe_andX (ha : PE X a ta) (hb : PE X (.BoolOp .And (b :: rest) pos) tb) : PE X (.BoolOp .And (a :: b :: rest) pos) (tAndX ta tb) := by
  intro pins s σ H Q I h
  refine BoolOp_and (thn (ha pins s σ H _ I h) fun v s1 hz0 => ?_)
  obtain ⟨x, H1, I1, r1, q1⟩ := hz0
  obtain ⟨c, d, rfl, q0, q1⟩ := q1
  cases r1
  refine wpAny_truthy_bool ?_
  cases c with
  | true => exact hb pins s1 σ H1 Q I1 (q0 rfl Q q1)
  | false => exact ⟨.bl false, H1, I1, rfl, q1⟩
noncomputable def tAndT (t u : TT) : TT := fun σ H Q => t σ H fun c H1 => ∃ d : Bool, (c = true → ∀ Q' : Bool → Hp → Prop, Q' d H1 → u σ H1 Q') ∧ Q (c && d) H1
noncomputable def tOrT (t u : TT) : TT := fun σ H Q => t σ H fun c H1 => ∃ d : Bool, (c = false → ∀ Q' : Bool → Hp → Prop, Q' d H1 → u σ H1 Q') ∧ Q (c || d) H1
theorem pw_andX (ha : PT X a tA) (hb : PW X (.BoolOp .And (b :: rest) pos) tB') : PW X (.BoolOp .And (a :: b :: rest) pos) (tAndT tA tB') := by
  intro wh pins s σ H Q I h
  refine isTrue_and (thn (ha pins s σ H _ I h) fun c s1 hz0 => ?_)
  obtain ⟨H1, I1, d, q0, q1⟩ := hz0
  cases c with
  | true => exact hb wh pins s1 σ H1 Q I1 (q0 rfl Q q1)
  | false => exact ⟨H1, I1, q1⟩
theorem pw_orX (ha : PT X a tA) (hb : PW X (.BoolOp .Or (b :: rest) pos) tB') : PW X (.BoolOp .Or (a :: b :: rest) pos) (tOrT tA tB') := by
  intro wh pins s σ H Q I h
  refine isTrue_or (thn (ha pins s σ H _ I h) fun c s1 hz0 => ?_)
  obtain ⟨H1, I1, d, q0, q1⟩ := hz0
  cases c with
  | true => exact ⟨H1, I1, q1⟩
  | false => exact hb wh pins s1 σ H1 Q I1 (q0 rfl Q q1)
theorem SP.mono {pins : List (Addr × Obj)} {D D' : Ends} {f : Flow} {s' : Shared} (h : SP X pins D f s') (hn : ∀ σ H, D.nx σ H → D'.nx σ H) (hr : ∀ v H, D.rt v H → D'.rt v H) (hb : ∀ σ H, D.bk σ H → D'.bk σ H) (hc : ∀ σ H, D.ct σ H → D'.ct σ H) : SP X pins D' f s' := by
  cases f with
  | next => obtain ⟨σ', H', I, q⟩ := h; exact ⟨σ', H', I, hn _ _ q⟩
  | brk => obtain ⟨σ', H', I, q⟩ := h; exact ⟨σ', H', I, hb _ _ q⟩
  | cont => obtain ⟨σ', H', I, q⟩ := h; exact ⟨σ', H', I, hc _ _ q⟩
  | ret v => obtain ⟨x, σ', H', I, r, q⟩ := h; exact ⟨x, σ', H', I, r, hr _ _ q⟩
noncomputable def tIfJ (c : TT) (t u : TS) : TS := fun D σ H => c σ H fun b H1 => ∃ N : St → Hp → Prop, (b = true → t { D with nx := N } σ H1) ∧ (b = false → u { D with nx := N } σ H1) ∧ ∀ σ' H', N σ' H' → D.nx σ' H'
theorem ps_ifJ {c : Expr} {a b : List Stmt} {tc : TT} (hc : PT X c tc) (ha : PSs X a t) (hb : PSs X b u) : PS X (.If c a b pos) (tIfJ tc t u) := by
  intro pins s σ H D I h
  refine wpAny_If (thn (hc pins s σ H _ I h) fun d s1 hz0 => ?_)
  obtain ⟨H1, I1, N, q1, q2, q3⟩ := hz0
  cases d with
  | true => exact thn (ha pins s1 σ H1 _ I1 (q1 rfl)) fun f s2 q => q.mono q3 (fun _ _ z => z) (fun _ _ z => z) fun _ _ z => z
  | false => exact thn (hb pins s1 σ H1 _ I1 (q2 rfl)) fun f s2 q => q.mono q3 (fun _ _ z => z) (fun _ _ z => z) fun _ _ z => z
end
/-! ### iterators over a list (false) or a tuple (true) -/
section
variable {P : Program} {w : World} {A : Around} {E : Value → Shared → Prop} {s : Shared}
end
noncomputable def IsIt : Bool → Heap → Addr → Addr → Nat → Prop
  | true, h, I, T, i => h.IsTupleIter I T i
  | false, h, I, T, i => h.IsListIter I T i
noncomputable def IsSq : Bool → Heap → Addr → Array Value → Prop
  | true, h, T, vs => h.IsTuple T vs
  | false, h, T, vs => h.IsList T vs
noncomputable def itNm : Bool → String
  | true => "tuple_iterator"
  | false => "list_iterator"
noncomputable def Sq : Bool → PySem.W.Frag → Hp → Addr → List V → Prop
  | true, K, H, a, xs => SqT K H a xs
  | false, K, H, a, xs => SqL K H a xs
theorem IsIt.data {b : Bool} {h : Heap} {I T : Addr} {i : Nat} (x : IsIt b h I T i) : ∃ o, h.get? I = some o ∧ o.cls = .type (itNm b) ∧ o.data = .fields #[.ref T, .int i 0] := by cases b <;> exact x
theorem IsIt.of {b : Bool} {h : Heap} {I T : Addr} {i : Nat} (x : ∃ o, h.get? I = some o ∧ o.cls = .type (itNm b) ∧ o.data = .fields #[.ref T, .int i 0]) : IsIt b h I T i := by cases b <;> exact x
theorem IsSq.lt {b : Bool} {h : Heap} {T : Addr} {vs : Array Value} (x : IsSq b h T vs) : T < h.objs.size := by
  cases b <;> exact let ⟨_, e, _⟩ := x; Heap.lt_size e
theorem IsIt.lt {b : Bool} {h : Heap} {I T : Addr} {i : Nat} (x : IsIt b h I T i) : I < h.objs.size := by
  obtain ⟨_, e, _⟩ := x.data
  exact Heap.lt_size e
theorem IsIt.ne {b c : Bool} {h : Heap} {I T : Addr} {i : Nat} {vs : Array Value} (x : IsIt b h I T i) (y : IsSq c h T vs) : T ≠ I := by
  rintro rfl
  obtain ⟨o, e, k, _⟩ := x.data
  cases c <;> (obtain ⟨o', e', k', _⟩ := y; rw [e] at e'; cases e'; rw [k] at k'; cases b <;> simp [itNm] at k')
section
variable {X : Cx} {pins : List (Addr × Obj)} {σ : St} {H : Hp} {s : Shared}
end
open AutoSeq1 (wpAny_loadPart')
/-! ### zip and enumerate of lists and tuples, each by two draws -/
structure Far (z TI TO i1 i2 l1 l2 : Nat) : Prop where
  a : TI ≠ z
  b : TO ≠ z
  c : i1 ≠ z
  d : i2 ≠ z
  e : TI ≠ TO
  f : TI ≠ i1
  g : TI ≠ i2
  h : TO ≠ i1
  i : TO ≠ i2
  j : i1 ≠ i2
  k1 : l1 ≠ z ∧ l1 ≠ TO ∧ l1 ≠ i1 ∧ l1 ≠ i2
  k2 : l2 ≠ z ∧ l2 ≠ TO ∧ l2 ≠ i1 ∧ l2 ≠ i2
section
variable {P : Program} {w : World} {A : Around} {E : Value → Shared → Prop} {s : Shared}
noncomputable abbrev zh1 (b1 : Bool) (h : Heap) (l1 : Addr) : Heap := h.push { cls := .type (itNm b1), data := .fields #[.ref l1, .int 0 0] }
noncomputable abbrev zh2 (b1 b2 : Bool) (h : Heap) (l1 l2 : Addr) : Heap := (zh1 b1 h l1).push { cls := .type (itNm b2), data := .fields #[.ref l2, .int 0 0] }
noncomputable abbrev zh3 (b1 b2 : Bool) (h : Heap) (l1 l2 : Addr) : Heap := (zh2 b1 b2 h l1 l2).push { cls := .type "tuple", data := .seq #[.ref h.objs.size, .ref (zh1 b1 h l1).objs.size] }
noncomputable abbrev zh4 (b1 b2 : Bool) (h : Heap) (l1 l2 : Addr) : Heap := (zh3 b1 b2 h l1 l2).push { cls := .type "tuple", data := .seq #[.none, .none] }
noncomputable abbrev zh5 (b1 b2 : Bool) (h : Heap) (l1 l2 : Addr) : Heap := (zh4 b1 b2 h l1 l2).push { cls := .type "zip", data := .fields #[.none, .bool false, .bool false, .ref (zh2 b1 b2 h l1 l2).objs.size, .ref (zh3 b1 b2 h l1 l2).objs.size] }
end
open AutoSeq1 (wpAny_loadPart')
section
variable {P : Program} {w : World} {A : Around} {E : Value → Shared → Prop} {s : Shared}
end
/-! ### zip, unpacked -/
noncomputable def Itzx (K : PySem.W.Frag) (b1 b2 : Bool) (l1 l2 : Addr) : It :=
  ⟨fun i H => ∃ xs ys x y, Sq b1 K H l1 xs ∧ Sq b2 K H l2 ys ∧ xs[i]? = some x ∧ ys[i]? = some y,
   fun i H v H' => ∃ T x y, v = .ref T ∧ H T = none ∧ H' = upd H T (.tup [x, y]) ∧ (∀ xs, Sq b1 K H l1 xs → xs[i]? = some x) ∧ ∀ ys, Sq b2 K H l2 ys → ys[i]? = some y,
   fun i H => ∃ xs ys, Sq b1 K H l1 xs ∧ Sq b2 K H l2 ys ∧ (xs.length = i ∨ (i < xs.length ∧ ys.length = i))⟩
section
variable {X : Cx}
noncomputable def iZipx (K : PySem.W.Frag) (ta : TA) : TI := fun σ H R => ta σ H fun vs H1 => ∃ (b1 b2 : Bool) (a b : Addr), vs = [.ref a, .ref b] ∧ (∃ xs, Sq b1 K H1 a xs) ∧ (∃ ys, Sq b2 K H1 b ys) ∧ R (Itzx K b1 b2 a b) H1
end
/-! ### enumerate, unpacked -/
noncomputable def Itex (K : PySem.W.Frag) (b : Bool) (l : Addr) : It :=
  ⟨fun i H => ∃ xs x, Sq b K H l xs ∧ xs[i]? = some x,
   fun i H v H' => ∃ T x, v = .ref T ∧ H T = none ∧ H' = upd H T (.tup [.int i, x]) ∧ ∀ xs, Sq b K H l xs → xs[i]? = some x,
   fun i H => ∃ xs, Sq b K H l xs ∧ xs.length = i⟩
section
variable {X : Cx}
noncomputable def iEnumx (K : PySem.W.Frag) (ta : TA) : TI := fun σ H R => ta σ H fun vs H1 => ∃ (b : Bool) (a : Addr), vs = [.ref a] ∧ (∃ xs, Sq b K H1 a xs) ∧ R (Itex K b a) H1
end
/-! ### loops and comprehensions over zip and enumerate, by what holds between two turns -/
/-- two names, each stored -/
noncomputable abbrev gTwo (K : PySem.W.Frag) : TG := gTup K 2 (gCons (gName 0) (gCons (gName 1) gNil))
/-! ### and, or whose ways meet in a predicate N: the second part may lay objects -/
section
variable {X : Cx} {a b : Expr} {rest : List Expr} {ta tb : TE} {tA tB' : TT} {pos : Pos}
noncomputable def tAndY (ta tb : TE) : TE := fun σ H Q => ta σ H fun x H1 => ∃ (c : Bool) (N : Bool → Hp → Prop), x = .bl c ∧ (c = false → N false H1) ∧ (c = true → tb σ H1 fun y H2 => ∃ d : Bool, y = .bl d ∧ N d H2) ∧ ∀ d H2, N d H2 → Q (.bl d) H2
noncomputable def tOrY (ta tb : TE) : TE := fun σ H Q => ta σ H fun x H1 => ∃ (c : Bool) (N : Bool → Hp → Prop), x = .bl c ∧ (c = true → N true H1) ∧ (c = false → tb σ H1 fun y H2 => ∃ d : Bool, y = .bl d ∧ N d H2) ∧ ∀ d H2, N d H2 → Q (.bl d) H2
noncomputable def tAndU (t u : TT) : TT := fun σ H Q => t σ H fun c H1 => ∃ N : Bool → Hp → Prop, (c = false → N false H1) ∧ (c = true → u σ H1 N) ∧ ∀ d H2, N d H2 → Q d H2
noncomputable def tOrU (t u : TT) : TT := fun σ H Q => t σ H fun c H1 => ∃ N : Bool → Hp → Prop, (c = true → N true H1) ∧ (c = false → u σ H1 N) ∧ ∀ d H2, N d H2 → Q d H2
theorem pw_andY (ha : PT X a tA) (hb : PW X (.BoolOp .And (b :: rest) pos) tB') : PW X (.BoolOp .And (a :: b :: rest) pos) (tAndU tA tB') := by
  intro wh pins s σ H Q I h
  refine isTrue_and (thn (ha pins s σ H _ I h) fun c s1 hz0 => ?_)
  obtain ⟨H1, I1, N, q0, q1, q2⟩ := hz0
  cases c with
  | true => exact thn (hb wh pins s1 σ H1 _ I1 (q1 rfl)) fun d s2 ⟨H2, I2, n⟩ => ⟨H2, I2, q2 d H2 n⟩
  | false => exact ⟨H1, I1, q2 _ _ (q0 rfl)⟩
theorem pw_orY (ha : PT X a tA) (hb : PW X (.BoolOp .Or (b :: rest) pos) tB') : PW X (.BoolOp .Or (a :: b :: rest) pos) (tOrU tA tB') := by
  intro wh pins s σ H Q I h
  refine isTrue_or (thn (ha pins s σ H _ I h) fun c s1 hz0 => ?_)
  obtain ⟨H1, I1, N, q0, q1, q2⟩ := hz0
  cases c with
  | true => exact ⟨H1, I1, q2 _ _ (q0 rfl)⟩
  | false => exact thn (hb wh pins s1 σ H1 _ I1 (q1 rfl)) fun d s2 ⟨H2, I2, n⟩ => ⟨H2, I2, q2 d H2 n⟩
end
/-! ### list(reversed(xs)) -/
section
variable {P : Program} {w : World} {A : Around} {E : Value → Shared → Prop} {s : Shared}
end
section
variable {X : Cx}
noncomputable def tListRev (K : PySem.W.Frag) (ta : TA) : TE := fun σ H Q => ta σ H fun vs H1 => ∃ l xs, vs = [.ref l] ∧ SqL K H1 l xs ∧ ∀ d, H1 d = none → Q (.ref d) (upd H1 d (.lst xs.reverse))
end
/-! ### a // b, b of at most nine thousand bits -/
section
variable {X : Cx}
noncomputable def CDivB (i j : Int) : Prop := 0 < j ∧ intBits j ≤ 8999
theorem op_fdivB : OpR X (binaryOp .FloorDiv) (rI CDivB fun i j => .int (i / j)) := opI fun i j _ _ _ _ _ hc q => by
  have h1 : (0 : Int) < j := hc.1
  refine floordiv_int (by omega) (by rw [Int.fdiv_eq_ediv_of_nonneg i (by omega)]; exact q) (.inl (PyProof.noPylong_of_log2 ?_))
  have h2 := hc.2
  unfold PySem.Builtin.Int.intBits at h2
  rw [if_neg (by simp; omega)] at h2
  omega
/-! ### the sum of a list of ints -/
end
/-! ### for over range(a, b, c), c from 1 on -/
section
variable {X : Cx} {tg : Expr}
noncomputable def ItS (lo c : Int) (n : Nat) : It := ⟨fun i _ => i < n, fun i H x H' => H' = H ∧ x = .int (lo + i * c), fun i _ => n ≤ i⟩
/-- how many -/
noncomputable def stepN (a b c : Int) : Nat := if a < b then ((b - a - 1) / c + 1).toNat else 0
noncomputable def iRng3 (ta : TA) : TI := fun σ H R => ta σ H fun vs H1 => ∃ i j c : Int, vs = [.int i, .int j, .int c] ∧ (-(2 ^ 60) ≤ i ∧ i < 2 ^ 60 ∧ -(2 ^ 60) ≤ j ∧ j < 2 ^ 60) ∧ (0 < c ∧ c < 2 ^ 30) ∧ R (ItS i c (stepN i j c)) H1
end
/-! ### exceptions: how they lie, how they pass a def, how they are raised -/
theorem ObjOk.here {P : Program} {w : World} {H : Hp} {h : Heap} {a : Addr} {o : HO} (x : ObjOk P w H h a o) : ∃ ob, h.get? a = some ob := by
  cases o with
  | lst xs => obtain ⟨_, _, _, _, e⟩ := x; exact ⟨_, e⟩
  | tup xs => obtain ⟨_, _, _, o, e, _⟩ := x; exact ⟨_, e⟩
  | dK kvs => obtain ⟨_, _, _, _, o, _, _, e, _⟩ := x; exact ⟨_, e⟩
  | dT kvs => obtain ⟨_, _, _, _, o, _, _, e, _⟩ := x; exact ⟨_, e⟩
  | set S n => obtain ⟨o, _, _, _, e, _⟩ := x; exact ⟨_, e⟩
  | ins C dx fs => obtain ⟨_, _, _, e, _⟩ := x; exact ⟨_, e⟩
  | own y => exact x
  | xd fs => obtain ⟨mA, ⟨od, es, ep, e, c⟩, r⟩ := x; exact ⟨_, e⟩
  | rng lo hi => obtain ⟨t, u, v, e⟩ := x; exact ⟨_, e⟩
  | frz ob u => exact ⟨_, x.1⟩
  | tbl ps => exact ⟨_, (show h.get? a = some _ from x)⟩
  | met f y => exact ⟨_, (show h.get? a = some _ from x)⟩
  | ext φ => exact x.2.1
theorem HOk.off {P : Program} {w : World} {H : Hp} {h : Heap} {a : Addr} (ok : HOk P w H h) (e : h.get? a = none) : H a = none := by
  cases q : H a with
  | none => rfl
  | some u =>
    obtain ⟨ob, z⟩ := (ok a u q).here
    rw [e] at z
    cases z

/-- the exception at a, of the class cls -/
noncomputable def isExc (a : Addr) (cls : Value) (h : Heap) : Prop := ∃ o vs, h.get? a = some o ∧ o.cls = cls ∧ o.data = .fields vs
noncomputable def isRec (a : Addr) (h : Heap) : Prop := ∃ o vs, h.get? a = some o ∧ o.data = .fields vs
theorem ext_exc {P : Program} {w : World} {H : Hp} {h : Heap} {a : Addr} {cls : Value} (x : isExc a cls h) : ObjOk P w H h a (.ext (isExc a cls)) := by
  refine ⟨x, ?_, ?_⟩
  · obtain ⟨o, _, e, _⟩ := x
    exact ⟨o, e⟩
  · rintro h1 h2 ⟨o, vs, e, c⟩ k
    exact ⟨o, vs, k o e, c⟩
/-- its traceback's first entry stands at T, no frame holds it -/
noncomputable def TrAt (h : Heap) (a T : Addr) : Prop := ∃ oe vs oT ts a0, h.get? a = some oe ∧ oe.data = .fields vs ∧ vs[0]? = some a0 ∧ vs[1]? = some (.ref T) ∧ T ≠ a ∧ h.get? T = some oT ∧ oT.data = .fields ts ∧ ts[3]? = some .none
/-- an exception flies: fr the frames, H and h as they were ahead of it, H' and h' now -/
structure Fly (P : Program) (w : World) (fr : List Addr) (H : Hp) (h : Heap) (H' : Hp) (h' : Heap) (a T : Addr) (cls : Value) : Prop where
  un : Un fr [] H H' h h'
  ok : HOk P w H' h'
  exc : H' a = some (.ext (isExc a cls))
  off : H' T = none
  new : h.get? T = none
  tr : TrAt h' a T
/-- how an exception lies behind a call -/
noncomputable def CX1 (P : Program) (w : World) : CXT := fun outer H s E e s' => ∃ (a T : Addr) (cls : Value) (H' : Hp), e = .ref a ∧ s'.os = s.os ∧ AllBare s'.gens ∧ Fly P w (frs outer) H s.heap H' s'.heap a T cls ∧ E cls none H'

/-- what a step of the traceback leaves: all is kept but the frames' slots, the exception, the entries of its traceback -/
theorem noted {P : Program} {w : World} {fr old : List Addr} {H H' : Hp} {h h' h2 : Heap} {a T : Addr} {cls : Value} (u : Un fr [] H H' h h') (ok : HOk P w H' h') (hfr : ∀ b ∈ fr, H' b = none)
    (frd : ∀ b ∈ fr, ∃ o, h'.get? b = some o ∧ ∀ vs, o.data ≠ .fields vs) (ha : H' a = some (.ext (isExc a cls))) (hold : ∀ b ∈ old, H' b = none ∧ h.get? b = none)
    (st : (PySem.W.hideAll h' (fr ++ a :: old)).StaysIn h2) (sl : h'.UpToSlots h2) (xa : isExc a cls h2) (xT : isRec T h2) (nT : (PySem.W.hideAll h' (fr ++ a :: old)).get? T = none) (na : T ≠ a) :
    Un fr [] H H' h h2 ∧ HOk P w H' h2 ∧ H' T = none ∧ h.get? T = none := by
  have hT : H' T = none ∧ h.get? T = none := by
    cases q : h'.get? T with
    | none =>
      refine ⟨ok.off q, ?_⟩
      cases z : h.get? T with
      | none => rfl
      | some o =>
        obtain ⟨o', e⟩ := u.there T o z (by simp)
        rw [q] at e
        cases e
    | some o =>
      by_cases hm : T ∈ fr ++ a :: old
      · rcases List.mem_append.mp hm with z | z
        · obtain ⟨o1, e1, d1⟩ := frd T z
          obtain ⟨sl', e2⟩ := sl T o1 e1 d1
          obtain ⟨o3, vs, e3, d3⟩ := xT
          rw [e2] at e3
          cases e3
          exact absurd d3 (d1 vs)
        · rcases List.mem_cons.mp z with z | z
          · exact absurd z na
          · exact hold T z
      · have := PySem.W.hideAll_get _ q hm
        rw [nT] at this
        cases this
  have keepT : ∀ b o u', h'.get? b = some o → H' b = some u' → b ≠ a → h2.get? b = some o := fun b o u' e q n1 => by
    refine st b o (PySem.W.hideAll_get _ e fun hm => ?_)
    rcases List.mem_append.mp hm with z | z
    · rw [hfr b z] at q
      cases q
    · rcases List.mem_cons.mp z with z | z
      · exact n1 z
      · rw [(hold b z).1] at q
        cases q
  have keepN : ∀ b o o', h.get? b = some o → h'.get? b = some o' → H' b = none → b ∉ fr → h2.get? b = some o' := fun b o o' e e' q n => by
    refine st b o' (PySem.W.hideAll_get _ e' fun hm => ?_)
    rcases List.mem_append.mp hm with z | z
    · exact n z
    · rcases List.mem_cons.mp z with z | z
      · rw [z, ha] at q
        cases q
      · rw [(hold b z).2] at e
        cases e
  refine ⟨⟨fun b o e q n _ => keepN b o o e (u.keep b o e q n (by simp)) (u.free b o e q (by simp)) n, fun b o e q n _ => ?_, fun b o e q _ => u.free b o e q (by simp), fun b o e _ => ?_, u.tups, u.frzs, u.tbls⟩, fun b v q => ?_, hT⟩
  · obtain ⟨sl1, e1⟩ := u.slot b o e q n (by simp)
    obtain ⟨o2, e2, d2⟩ := frd b n
    rw [e1] at e2
    cases e2
    obtain ⟨sl3, e3⟩ := sl b _ e1 d2
    exact ⟨sl3, e3⟩
  · obtain ⟨o', e'⟩ := u.there b o e (by simp)
    cases q : H' b with
    | none =>
      by_cases n : b ∈ fr
      · obtain ⟨o1, e1, d1⟩ := frd b n
        obtain ⟨sl', e2⟩ := sl b o1 e1 d1
        exact ⟨_, e2⟩
      · exact ⟨_, keepN b o o' e e' q n⟩
    | some v =>
      by_cases n1 : b = a
      · obtain ⟨o2, _, e2, _⟩ := xa
        rw [n1]
        exact ⟨_, e2⟩
      · exact ⟨_, keepT b o' v e' q n1⟩
  · by_cases n1 : b = a
    · subst n1
      rw [ha] at q
      cases q
      exact ext_exc xa
    · refine (ok b v q).stay (fun c x hc e => ?_) (fun c e => e) fun c xs e => e
      rcases hc with z | z
      · subst z
        exact keepT c x v e q n1
      · refine keepT c x _ e z fun e2 => ?_
        rw [e2, ha] at z
        cases z
section
variable {X : Cx} {pins : List (Addr × Obj)} {σ : St} {H : Hp} {s : Shared}
theorem Inv.frd (I : Inv X pins σ H s) : ∀ b ∈ frs X.stack, ∃ o, s.heap.get? b = some o ∧ ∀ vs, o.data ≠ .fields vs := fun b hb => (I.stack.mem hb).2
/-- an exception has been made -/
theorem Inv.excMade {h' : Heap} {e : Addr} {cls : Value} {vs : List Value} {t' : Nat} (I : Inv X pins σ H s) (m : Heap.MadeExcOf s.heap h' e cls vs) :
    Same H (upd H e (.ext (isExc e cls))) ∧ Inv X pins σ (upd H e (.ext (isExc e cls))) { s with heap := h', toks := t' } := by
  have hn := I.hok.off m.new
  have same : Same H (upd H e (.ext (isExc e cls))) := fun b o q => by
    rw [upd_ne (ne_of_none q hn)]
    exact q
  obtain ⟨t, e1, _, _⟩ := m.there
  refine ⟨same, I.un ⟨fun b o q _ _ _ => m.keeps b o q, fun b o q _ _ _ => ⟨o.slots, m.keeps b o q⟩, fun b o q z _ => ?_, fun b o q _ => ⟨o, m.keeps b o q⟩, fun b xs q => same _ _ q, fun b o u q => same _ _ q, fun b ps q => ⟨#[], by rw [same _ _ q]; simp⟩⟩ fun b u q => ?_⟩
  · rw [upd_ne (fun e2 => ?_)]
    · exact z
    · rw [e2, m.new] at q
      cases q
  · by_cases hb : b = e
    · subst hb
      rw [upd_same] at q
      cases q
      exact ext_exc ⟨_, _, e1, rfl, rfl⟩
    · rw [upd_ne hb] at q
      exact (I.hok b u q).stay (fun c v _ z => m.keeps c v z) (fun c z => same _ _ z) fun c xs z => same _ _ z
/-- the exception flies: the state where it is -/
theorem Inv.flown {H' : Hp} {s' : Shared} {a T : Addr} {cls : Value} (I : Inv X pins σ H s) (os : s'.os = s.os) (bare : AllBare s'.gens) (F : Fly X.prog X.w (frs X.stack) H s.heap H' s'.heap a T cls) : Inv X pins σ H' s' :=
  I.call' os F.un F.ok bare fun b z => absurd z (by simp)
theorem hides (I : Inv X pins σ H s) {a : Addr} {old : List Addr} : s.heap.FunFrames (PySem.W.hideAll s.heap (frs X.stack ++ a :: old)) X.stack :=
  PySem.W.funFrames_hide I.stack fun env he b hb => List.mem_append.mpr (.inl (List.mem_filterMap.mpr ⟨env, he, hb⟩))
theorem hidden_a {h : Heap} {fr old : List Addr} {a : Addr} : (PySem.W.hideAll h (fr ++ a :: old)).get? a = none := PySem.W.hideAll_none _ (List.mem_append.mpr (.inr (.head _)))
theorem hidden_o {h : Heap} {fr old : List Addr} {a b : Addr} (hb : b ∈ old) : (PySem.W.hideAll h (fr ++ a :: old)).get? b = none := PySem.W.hideAll_none _ (List.mem_append.mpr (.inr (.tail _ hb)))
theorem Fly.cls {P : Program} {w : World} {fr : List Addr} {H H' : Hp} {h h' : Heap} {a T : Addr} {cls : Value} (F : Fly P w fr H h H' h' a T cls) : isExc a cls h' := (F.ok a _ F.exc).1
theorem Fly.traced {P : Program} {w : World} {fr : List Addr} {H H' : Hp} {h h' B : Heap} {a T : Addr} {cls : Value} (F : Fly P w fr H h H' h' a T cls) (hB : B.get? T = none) : ∃ a0, h'.TracedW B a cls a0 := by
  obtain ⟨oe, vs, oT, ts, a0, e1, d1, h0, h1, nT, e2, d2, h3⟩ := F.tr
  obtain ⟨o, vs', q, c, _⟩ := F.cls
  rw [e1] at q
  cases q
  exact ⟨a0, oe, vs, T, oT, ts, e1, ⟨c, h0⟩, d1, h1, hB, nT, e2, d2, h3⟩
/-- behind a step of the traceback -/
theorem Fly.on {P : Program} {w : World} {fr old : List Addr} {H H' : Hp} {h h' h2 : Heap} {a : Addr} {cls a0 : Value} (un : Un fr [] H H' h h') (ok : HOk P w H' h') (exc : H' a = some (.ext (isExc a cls))) (hfr : ∀ b ∈ fr, H' b = none)
    (frd : ∀ b ∈ fr, ∃ o, h'.get? b = some o ∧ ∀ vs, o.data ≠ .fields vs) (hold : ∀ b ∈ old, H' b = none ∧ h.get? b = none)
    (st : (PySem.W.hideAll h' (fr ++ a :: old)).StaysIn h2) (sl : h'.UpToSlots h2) (tr : h2.TracedW (PySem.W.hideAll h' (fr ++ a :: old)) a cls a0) : ∃ T, Fly P w fr H h H' h2 a T cls := by
  obtain ⟨oe, vs, T, oT, ts, q1, ⟨q2, q3⟩, q4, q5, q6, q7, q8, q9, q10⟩ := tr
  obtain ⟨u, k, n1, n2⟩ := noted (T := T) un ok hfr frd exc hold st sl ⟨oe, vs, q1, q2, q4⟩ ⟨oT, ts, q8, q9⟩ q6 q7
  exact ⟨T, u, k, exc, n1, n2, oe, vs, oT, ts, a0, q1, q4, q3, q5, q7, q8, q9, q10⟩
end
section
variable {P : Program} {w : World} {K : PySem.W.Frag} {mg : Str → Option Value} {base : Heap} {N : List Str} {qual : Str} {scope : Scope} {f : Addr} {cd : Value} {A : Around} {outer : List Env} {s₀ : Shared} {H₀ : Hp} {E : XK}
/-- out of a def's body -/
theorem out_of {pins : List (Addr × Obj)} {σ : St} {H H' : Hp} {s : Shared} {s' : Shared} {a T : Addr} {cls : Value} (I : Inv (cxOf (CX1 P w) P w K mg base N qual scope f cd A outer s₀ H₀ E) pins σ H s)
    (os : s'.os = s.os) (bare : AllBare s'.gens) (F : Fly P w (frs (cxOf (CX1 P w) P w K mg base N qual scope f cd A outer s₀ H₀ E).stack) H s.heap H' s'.heap a T cls) (hE : E cls none H') : CX1 P w outer H₀ s₀ E (.ref a) s' := by
  have I2 := I.flown os bare F
  refine ⟨a, T, cls, H', rfl, I2.os, I2.bare, ⟨I2.base, I2.hok, F.exc, F.off, ?_, F.tr⟩, hE⟩
  cases q : s₀.heap.get? T with
  | none => rfl
  | some o =>
    obtain ⟨o', e⟩ := I.base.there T o q (by intro z; cases z)
    rw [F.new] at e
    cases e
/-- which wishes about exceptions a context takes -/
noncomputable def PassR (X : Cx) (R : St → XK → Prop) : Prop := ∀ (pins : List (Addr × Obj)) (σ : St) (H : Hp) (s : Shared) (e : Value) (s' : Shared) (E : XK), R σ E → Inv X pins σ H s → CX1 X.prog X.w X.stack H s E e s' → X.xe e s'
/-- a def's body lets pass what its own wish takes -/
noncomputable def RD (E : XK) : St → XK → Prop := fun _ E1 => ∀ c d H, E1 c d H → E c d H
theorem passD : PassR (cxOf (CX1 P w) P w K mg base N qual scope f cd A outer s₀ H₀ E) (RD E) := by
  rintro pins σ H s e s' E1 hR I ⟨a, T, cls, H', rfl, os, bare, F, hE⟩
  have I1 := I.flown os bare F
  obtain ⟨a0, tr⟩ := F.traced (B := PySem.W.hideAll s'.heap (frs (cxOf (CX1 P w) P w K mg base N qual scope f cd A outer s₀ H₀ E).stack ++ a :: [T])) (hidden_o (by simp))
  refine wpAny_leaving_nextW (L := s₀.heap.objs.size) (outer := outer) I.ok.frames (hides I1) rfl tr (fun b o q => PySem.W.of_hideAll _ q) hidden_a fun h' hL => ?_
  obtain ⟨k1, k2, k3, k4⟩ := hL
  obtain ⟨T', F'⟩ := Fly.on F.un F.ok F.exc I1.stkFree I1.frd (fun b hb => by rw [List.mem_singleton.mp hb]; exact ⟨F.off, F.new⟩) k1 k4 k3
  exact out_of (s' := { s' with heap := h' }) I os bare F' (hR _ _ _ hE)
/-- a new exception, made in a context, reaches its wish -/
noncomputable def RaiseR (X : Cx) (E : XK) : Prop := ∀ (pins : List (Addr × Obj)) (σ : St) (H : Hp) (s : Shared) (h' : Heap) (e : Addr) (cls : Value) (vs : List Value), Inv X pins σ H s → Heap.MadeExcOf s.heap h' e cls vs →
  (∀ H2, Same H H2 → E cls none H2) → X.xe (.ref e) { s with heap := h' }
theorem raiseD : RaiseR (cxOf (CX1 P w) P w K mg base N qual scope f cd A outer s₀ H₀ E) E := by
  intro pins σ H s h' e cls vs I m hE
  obtain ⟨same, I1⟩ := I.excMade (t' := s.toks) m
  obtain ⟨t, e1, _, _⟩ := m.there
  have un : Un (frs (cxOf (CX1 P w) P w K mg base N qual scope f cd A outer s₀ H₀ E).stack) [] H (upd H e (.ext (isExc e cls))) s.heap h' :=
    ⟨fun b o q _ _ _ => m.keeps b o q, fun b o q _ _ _ => ⟨o.slots, m.keeps b o q⟩, fun b o q z _ => by
      rw [upd_ne (fun e2 => by rw [e2, m.new] at q; cases q)]
      exact z, fun b o q _ => ⟨o, m.keeps b o q⟩, fun b xs q => same _ _ q, fun b o u q => same _ _ q, fun b ps q => ⟨#[], by rw [same _ _ q]; simp⟩⟩
  refine wpAny_leaving_firstW (base := PySem.W.hideAll h' (frs (cxOf (CX1 P w) P w K mg base N qual scope f cd A outer s₀ H₀ E).stack ++ e :: [])) (L := s₀.heap.objs.size) (outer := outer) I.ok.frames (hides I1) rfl e1 (fun b o q => PySem.W.of_hideAll _ q) hidden_a rfl rfl rfl fun h2 hL => ?_
  obtain ⟨k1, k2, k3, k4⟩ := hL
  obtain ⟨T', F'⟩ := Fly.on un I1.hok upd_same I1.stkFree I1.frd (fun b hb => absurd hb (by simp)) k1 k4 k3
  exact out_of (s' := { s with heap := h2 }) I rfl I.bare F' (hE _ same)
end
/-- an own class right or farther under ValueError, made as that one is -/
noncomputable def ExcC (K : PySem.W.Frag) (C : Addr) : Prop := PySem.W.excIn K C [.type "ValueError", .type "Exception", .type "BaseException", .type "object"] "ValueError.__new__" = true
theorem exc_obj {K : PySem.W.Frag} {h : Heap} {C : Addr} {bmB : List Value} {newId : String} (X : K.In h) (q : PySem.W.excIn K C bmB newId = true) :
    ∃ (bm : List Value) (N : Addr) (nm qn : Str) (bs : List Value) (hd : Bool) (sn : List Str) (sub : List Value) (ab : Bool) (col : Option Bool) (dd : Option Addr) (k0 k1 k2 k3 k5 : Option Value) (mN : Str → Option Value),
      h.get? C = some (excClassObj nm qn C N bs bm hd sn sub ab col dd k0 k1 k2 k3 k5 newId) ∧ h.Ns N mN ∧ mN "__init__" = none ∧ OwnTail h bmB bm := by
  unfold PySem.W.excIn at q
  split at q
  case h_2 => exact absurd q Bool.false_ne_true
  case h_1 dd cd sl ho =>
    split at q
    case h_2 => exact absurd q Bool.false_ne_true
    case h_1 C' bm k0 k1 k2 k3 n k5 hm hs =>
      simp only [beq_iff_eq, Bool.and_eq_true, Bool.not_eq_true'] at q
      obtain ⟨⟨⟨⟨⟨e1, e2⟩, e3⟩, e4⟩, e5⟩, e6⟩ := q
      subst e1 e2
      obtain ⟨nm, bs, mro, ns, qn, hd, sn, sub, ab, col, del⟩ := cd
      dsimp only at hm e3 e5 e6
      subst hm e3
      obtain ⟨l⟩ := sl
      have hl : l = [k0, k1, k2, k3, some (.builtin n), k5] := hs
      subst hl
      exact ⟨bm, ns, nm, qn, bs, hd, sn, sub, ab, col, dd, k0, k1, k2, k3, k5, _, X _ _ ho, .of_isNs (PySem.W.isNs_of_in X e5), PySem.W.nsMap_none_of_in X e5 e6, PySem.W.tail_of_in X e4⟩
section
variable {X : Cx} {x : Str} {C : Addr} {p np cpos pos : Pos} {e : Expr} {es : List Expr} {t : TA} {E : XK}
/-- raise C(..) -/
noncomputable def tRaise (C : Addr) (t : TA) (E : XK) : TS := fun _ σ H => t σ H fun vs H1 => vs.length ≤ sizeLine ∧ ∀ H2, Same H1 H2 → E (.ref C) none H2
theorem ps_raise (hR : RaiseR X E) (hc : X.calm = true) (hg : Gl X x) (hm : X.mg x = some (.ref C)) (hx : ExcC X.K C) (ha : PA X (e :: es) t) (hdb : (x == ("__debug__" : Str)) = false := by decide)
    (he : starEach (e :: es) X.env = (false, eval e X.env) :: starEach es X.env := by rfl) (hpl : (backTo cpos (starEach es X.env)).any (·.1) = false := by rfl) :
    PS X (.Raise (some (.Call (.Name x np) (e :: es) [] cpos)) none pos) (tRaise C t E) := by
  intro pins s σ H D I h
  obtain ⟨bm, N, nm, qn, bs, hd, sn, sub, ab, col, dd, k0, k1, k2, k3, k5, mN, hC, hN, hni, T⟩ := exc_obj I.ok.mod.kin hx
  have hpl2 : (backTo cpos (starEach (e :: es) X.env)).any (·.1) = false := by
    rw [he]
    show (false || (backTo cpos (starEach es X.env)).any (·.1)) = false
    rw [hpl]
    rfl
  refine wpAny_Raise_call_subT (bm := bm) (N := N) (nm := nm) (q := qn) (bs := bs) (hdct := hd) (sn := sn) (sub := sub) (ab := ab) (col := col) (dd := dd) (k0 := k0) (k1 := k1) (k2 := k2) (k3 := k3) (k5 := k5) (mN := mN) (C := C)
    PySem.F.excBase_ValueError (T.hasType rfl) (I.ok.hd hc) hpl2 hni (ld_glob I hg hm ⟨rfl, ?_⟩ hdb)
  have w := ha cpos pins s σ H _ I h
  rw [he] at w ⊢
  refine Calls.evalArgs_plain (thn w fun us s2 z => ?_)
  obtain ⟨vs, H2, I2, r, hl, hq⟩ := z
  exact ⟨rfl, by rw [← r.length]; exact hl, I2.bk _ _ hC, hN.keeps I2.bk, T.keeps I2.bk, fun h' a m => hR pins σ H2 s2 h' a _ us I2 m hq⟩
/-! ### a call that may raise -/
variable {k : Nat} {f : Addr} {fd : FuncData} {ps : List Str} {sp : Sp} {dvs : List V} {ds : List Value} {R : St → XK → Prop}
noncomputable def tCallE (sp : Sp) (dvs : List V) (R : St → XK → Prop) (t : TA) : TE := fun σ H Q => t σ H fun vs H1 => ∃ E, R σ E ∧ sp (vs ++ dvs) H1 Q E
theorem run_fnE {pins : List (Addr × Obj)} {σ : St} {H : Hp} {s : Shared} {Q : VK} {us : List Value} {vs : List V} (F : FnOk X.prog X.w X.K X.mg X.base (CX1 X.prog X.w) k f fd ps sp) (hr : Room k X.A) (hb : Binds X.K fd ps ds) (hd : Vals dvs ds) (hx : PassR X R)
    (I : Inv X pins σ H s) (r : Vals vs us) (hE : R σ E) (h : sp (vs ++ dvs) H Q E) : wpAny (model X.prog X.w) X.A (call (.ref f) us) (EP X pins σ Q) X.xe s := by
  have r2 := r.append hd
  have hl : (us ++ ds).length = ps.length := r2.length.symm.trans (F.len _ _ _ _ h)
  have run := F.run X.A X.stack s H ⟨us, []⟩ (us ++ ds) (vs ++ dvs) Q E hr I.env0 (hb s us I.kIn hl) r2 h
  refine wpAny_call (codeAny_mono run fun res s' hq => ?_)
  match res, hq with
  | .error e, hq => exact hx pins σ H s e s' E hE I hq
  | .ok (.ret u), hq => exact I.after hq
  | .ok .next, hq => exact hq.elim
  | .ok .brk, hq => exact hq.elim
  | .ok .cont, hq => exact hq.elim
theorem pe_callE (F : FnOk X.prog X.w X.K X.mg X.base (CX1 X.prog X.w) k f fd ps sp) (hr : Room k X.A) (hg : Gl X x) (hm : X.mg x = some (.ref f)) (hk : PySem.W.keepIn X.K (.ref f) = true) (hb : Binds X.K fd ps ds) (hd : Vals dvs ds) (hx : PassR X R) (ha : PA X (e :: es) t)
    (hdb : (x == ("__debug__" : Str)) = false := by decide) (he : starEach (e :: es) X.env = (false, eval e X.env) :: starEach es X.env := by rfl) (hpl : (backTo pos (starEach es X.env)).any (·.1) = false := by rfl) :
    PE X (.Call (.Name x p) (e :: es) [] pos) (tCallE sp dvs R t) := by
  intro pins s σ H Q I h
  have w := ha pos pins s σ H _ I h
  refine wpAny_Call_Name_kw (ld_glob I hg hm ?_ hdb)
  refine PySem.W.callWith_K (h₀ := X.base) I.ok.mod.kin hk (thn w fun us s1 z => ?_) he hpl
  obtain ⟨vs, H1, I1, r, E, hE, q⟩ := z
  exact ⟨I1.kIn, run_fnE F hr hb hd hx I1 r hE q⟩
/-- no exception is wished -/
theorem passN {P : Program} {w : World} : Passes (CX1 P w) X E0 := fun _ _ _ _ _ _ _ ⟨_, _, _, _, _, _, _, _, z⟩ => z.elim
end
section
variable {P : Program} {w : World} {K : PySem.W.Frag} {mg : Str → Option Value} {base : Heap} {x qual : Str} {st : Stmt} {f : Addr} {fd : FuncData} {N ps : List Str} {k : Nat} {sp : Sp}
/-- a def that may raise -/
theorem Fun.okE (F : Fun K x qual st f fd) (S : FnScope N ps (defScope st)) (len : ∀ vs H Q E, sp vs H Q E → vs.length = ps.length)
    (hbody : ∀ (cdv : Value) (A : Around) (outer : List Env) (s : Shared) (H : Hp) (vs : List V) (Q : VK) (E : XK), Room k (A.deeper (envOfC qual (defScope st) s.heap.objs.size f cdv)) → sp vs H Q E →
      ∃ t, PSs (cxOf (CX1 P w) P w K mg base N qual (defScope st) f cdv A outer s H E) (defBody st) t ∧ t { nx := fun _ H' => Q .non H', rt := Q } (start N vs) H) : FnOk P w K mg base (CX1 P w) (k + 1) f fd ps sp := by
  obtain ⟨oc, od, kV, doc, pm, an, cdv, ct, osl, rfl, lk, hcd⟩ := F.ex
  exact fn_of lk hcd S len (hbody cdv)
theorem FunD.okE (F : FunD K x qual st f fd) (S : FnScope N ps (defScope st)) (len : ∀ vs H Q E, sp vs H Q E → vs.length = ps.length)
    (hbody : ∀ (cdv : Value) (A : Around) (outer : List Env) (s : Shared) (H : Hp) (vs : List V) (Q : VK) (E : XK), Room k (A.deeper (envOfC qual (defScope st) s.heap.objs.size f cdv)) → sp vs H Q E →
      ∃ t, PSs (cxOf (CX1 P w) P w K mg base N qual (defScope st) f cdv A outer s H E) (defBody st) t ∧ t { nx := fun _ H' => Q .non H', rt := Q } (start N vs) H) : FnOk P w K mg base (CX1 P w) (k + 1) f fd ps sp := by
  obtain ⟨oc, od, dV, kV, doc, pm, an, cdv, ct, osl, rfl, lk, hcd⟩ := F.ex
  exact fn_of lk hcd S len (hbody cdv)
/-- a def that never raises, beside such that may -/
theorem Fun.okN (F : Fun K x qual st f fd) (S : FnScope N ps (defScope st)) (len : ∀ vs H Q E, sp vs H Q E → vs.length = ps.length)
    (hbody : ∀ (cdv : Value) (A : Around) (outer : List Env) (s : Shared) (H : Hp) (vs : List V) (Q : VK) (E : XK), Room k (A.deeper (envOfC qual (defScope st) s.heap.objs.size f cdv)) → sp vs H Q E →
      ∃ t, PSs (cxOf (CX1 P w) P w K mg base N qual (defScope st) f cdv A outer s H E).nox (defBody st) t ∧ t { nx := fun _ H' => Q .non H', rt := Q } (start N vs) H) : FnOk P w K mg base (CX1 P w) (k + 1) f fd ps sp :=
  F.okE S len fun cdv A outer s H vs Q E hr hsp => let ⟨t, h, q⟩ := hbody cdv A outer s H vs Q E hr hsp; ⟨t, h.nox, q⟩
theorem FunD.okN (F : FunD K x qual st f fd) (S : FnScope N ps (defScope st)) (len : ∀ vs H Q E, sp vs H Q E → vs.length = ps.length)
    (hbody : ∀ (cdv : Value) (A : Around) (outer : List Env) (s : Shared) (H : Hp) (vs : List V) (Q : VK) (E : XK), Room k (A.deeper (envOfC qual (defScope st) s.heap.objs.size f cdv)) → sp vs H Q E →
      ∃ t, PSs (cxOf (CX1 P w) P w K mg base N qual (defScope st) f cdv A outer s H E).nox (defBody st) t ∧ t { nx := fun _ H' => Q .non H', rt := Q } (start N vs) H) : FnOk P w K mg base (CX1 P w) (k + 1) f fd ps sp :=
  F.okE S len fun cdv A outer s H vs Q E hr hsp => let ⟨t, h, q⟩ := hbody cdv A outer s H vs Q E hr hsp; ⟨t, h.nox, q⟩
/-- a loop in a def that may raise -/
theorem ownD {qual : Str} {scope : Scope} {cd : Value} {A : Around} {outer : List Env} {s : Shared} {H : Hp} {E : XK} :
    PassesOwn (model P w) (cxOf (CX1 P w) P w K mg base N qual scope f cd A outer s H E).A (cxOf (CX1 P w) P w K mg base N qual scope f cd A outer s H E).env (cxOf (CX1 P w) P w K mg base N qual scope f cd A outer s H E).xe := PassesOwn.leaving
end
open PySem.W (Looks)
/-! ### try .. except (classes that are not it): ..  except C as n: .. -/
/-- a tuple of names of own classes, none of them a class of what is of the class C -/
inductive NotIts (X : Cx) (C : Addr) : List Expr → List Addr → Prop
  | nil : NotIts X C [] []
  | cons {x : Str} {p : Pos} {c : Addr} {es : List Expr} {cs : List Addr} (hg : Gl X x) (hm : X.mg x = some (.ref c)) (hd : (x == ("__debug__" : Str)) = false)
      (hb : PySem.W.subIn X.K (.ref c) (.type "BaseException") = some true) (hn : PySem.W.subIn X.K (.ref C) (.ref c) = some false) (he : ∀ env : Env, starEach (.Name x p :: es) env = (false, eval (.Name x p) env) :: starEach es env) (r : NotIts X C es cs) : NotIts X C (.Name x p :: es) (c :: cs)
section
variable {X : Cx} {pins : List (Addr × Obj)} {σ : St} {H : Hp} {s : Shared} {C : Addr}
theorem NotIts.len {es : List Expr} {cs : List Addr} (r : NotIts X C es cs) : cs.length = es.length := by
  induction r with
  | nil => rfl
  | cons _ _ _ _ _ _ _ ih => simp [ih]
theorem is_cls {M : Model} {K : PySem.W.Frag} {h : Heap} {c : Addr} {b : Value} {r : Bool} (kin : K.In h) (e : PySem.W.subIn K (.ref c) b = some r) : Looks M h (isType (.ref c)) true := by
  obtain ⟨cd, a, _⟩ := Option.bind_eq_some_iff.mp (show PySem.W.mroIn K c b = some r from e)
  unfold PySem.W.clsIn at a
  split at a
  · rename_i ho
    intro A' Q' E' s' k q
    unfold isType loadHead
    refine wpAny_bind (wpAny_loadPart (k _ _ (kin _ _ ho)) ?_)
    exact wpAny_pure q
  · cases a
theorem is_exc {M : Model} {K : PySem.W.Frag} {h : Heap} {c : Addr} (kin : K.In h) (e : PySem.W.subIn K (.ref c) (.type "BaseException") = some true) : Looks M h (isExcClass (.ref c)) true := by
  unfold isExcClass
  refine (is_cls kin e).andThen ?_
  rw [if_pos rfl]
  exact PySem.W.looks_subIn kin e
/-- isinstance(e, c), e an exception that is one -/
theorem isi_yes {prog : Program} {w : World} {A : Around} {E : Value → Shared → Prop} {K : PySem.W.Frag} {v t c : Value} {Q : Value → Shared → Prop} (kin : K.In s.heap) (ht : ∀ M, Looks M s.heap (typeOf v) t) (e : PySem.W.kitOne K t c = some true)
    (hx : v ≠ .builtin "__main__.__loader__#opaque") (h : Q (.bool true) s) : wpAny (model prog w) A (call (.builtin "isinstance") [v, c]) Q E s := by
  refine call_isinstance (S := fun _ R s => (K.In s.heap ∧ ∀ M, Looks M s.heap (typeOf v) t) ∧ R (.ok (.ret (.bool true))) s) (fun prog w A R s hs => isinstance_outer ?_ hx) ⟨⟨kin, ht⟩, h⟩
  obtain ⟨⟨kin, ht⟩, hq⟩ := hs
  obtain ⟨h0, g, d, tt, os⟩ := s
  unfold Builtin.«isinstance.nested»
  refine wpAny_bind ((ht _).at ?_)
  unfold PySem.W.kitOne at e
  by_cases q : (t == c) = true
  · rw [if_pos q]
    first
      | exact wpAny_bind (wpAny_rule hq)
      | exact wpAny_bind (wpAny_rule (wpAny_pure hq))
  · rw [if_neg q] at e ⊢
    obtain ⟨k1, k2, k3⟩ := PySem.W.kit_cls (M := model prog w) kin e
    have k4 : Looks (model prog w) h0 (isInstance v c) true := (ht _).andThen k3
    refine wpAny_bind (k1.at ?_)
    rw [if_pos (by decide)]
    k_delta "plainIsInstance"
    refine wpAny_bind (wpAny_bind (k2.at ?_))
    simp only [Bool.not_true, if_false, Bool.false_eq_true]
    refine wpAny_bind (k4.at ?_)
    first
      | exact wpAny_pure (wpAny_pure hq)
      | (simp only [if_true]; exact wpAny_pure (wpAny_pure hq))
      | (simp only [if_true]; exact wpAny_pure hq)
      | trace_state
noncomputable def rIsiX (K : PySem.W.Frag) : List V → Hp → VK → Prop := fun xs H Q => ∃ (a : Addr) (t c : Value) (v : V), xs = [.ref a, v] ∧ H a = some (.ext (isExc a t)) ∧ (∀ u, RelV v u → u = c) ∧ PySem.W.kitOne K t c = some true ∧ Q (.bl true) H
/-- a name goes behind the suite -/
theorem drop_ok {M : Model} {A : Around} {E : Value → Shared → Prop} {i : Nat} {n : Str} {pos : Pos} {Q : Unit → Shared → Prop} (I : Inv X pins σ H s) (hN : X.N.Nodup) (hi : X.N[i]? = some n) (hl : X.env.scope.names.lookup n = some .local)
    (h : ∀ s', Inv X pins (σ.set i none) H s' → Q () s') : wpAny M A (do bindName X.env n .none; unbindBehindTheSuite X.env n pos) Q E s := by
  obtain ⟨m, hn, hm⟩ := id I.loc
  refine wpAny_nameGoes_keeps hl hn (by rw [I.ok.kind]; rfl) fun h' v hn' hs => h _ ?_
  have kp : ∀ b o, b ≠ X.env.locals → s.heap.get? b = some o → h'.get? b = some o := fun b o hb e => (hs.2 b hb).trans e
  have neL : ∀ b o, X.s₀.heap.get? b = some o → b ≠ X.env.locals := fun b o e => Nat.ne_of_lt (Nat.lt_of_lt_of_le (Heap.lt_size e) I.ok.above)
  have neT : ∀ b u, H b = some u → b ≠ X.env.locals := fun b u e z => by
    rw [z, I.free] at e
    cases e
  refine ⟨I.ok, I.os, I.bare, ⟨fun b o e q1 q2 q3 => kp b o (neL b o e) (I.base.keep b o e q1 q2 q3), fun b o e q1 q2 q3 => ?_, I.base.free, fun b o e q3 => ?_, I.base.tups, I.base.frzs, I.base.tbls⟩, ⟨_, hn', fun j x w e1 e2 e3 => ?_⟩, fun x c e => ?_, I.free, I.freeC, fun p hp => ?_, fun b u e => ?_, ?_⟩
  · obtain ⟨sl, z⟩ := I.base.slot b o e q1 q2 q3
    exact ⟨sl, kp b _ (neL b o e) z⟩
  · obtain ⟨o', z⟩ := I.base.there b o e q3
    exact ⟨o', kp b _ (neL b o e) z⟩
  · have hij : i ≠ j := fun z => by
      subst z
      rw [List.getElem?_set] at e2
      rw [if_pos rfl] at e2
      split at e2 <;> cases e2
    rw [List.getElem?_set_ne hij] at e2
    obtain ⟨u, ru, lu⟩ := hm j x w e1 e2 e3
    have hxn : x ≠ n := fun z => hij (nodup_ix hN hi (by rw [← z]; exact e1))
    refine ⟨u, ru, ?_⟩
    rcases lu with ⟨k1, k2⟩ | ⟨k1, c, k2, o, k3, k4⟩
    · exact .inl ⟨k1, by show (if x = n then v else m x) = some u; rw [if_neg hxn]; exact k2⟩
    · exact .inr ⟨k1, c, k2, o, kp c o (I.cne x c k2) k3, k4⟩
  · obtain ⟨v', o, k3, k4⟩ := I.cell x c e
    exact ⟨v', o, kp c o (I.cne x c e) k3, k4⟩
  · obtain ⟨k1, k2, k3, k4, k5⟩ := I.pin p hp
    exact ⟨kp _ _ k3 k1, k2, k3, k4, k5⟩
  · refine (I.hok b u e).stay (fun c v' hc z => kp c v' ?_ z) (fun _ z => z) fun _ _ z => z
    rcases hc with hc | hc
    · rw [hc]
      exact neT b u e
    · exact neT c _ hc
  · rw [List.length_set]
    exact I.len
end
/-! ### the rule -/
noncomputable abbrev Cx.at (X : Cx) (A : Around) : Cx := { X with A := A, calm := false, xe := fun _ _ => False }
noncomputable abbrev Cx.in_ (X : Cx) (pn : List (Addr × Obj)) (W : Value → Shared → Prop) : Cx := { X with pn := pn, xe := W }
section
variable {X : Cx} {pins : List (Addr × Obj)} {σ : St} {H : Hp} {s : Shared}
theorem Inv.at (I : Inv X pins σ H s) {A : Around} (hA : A.frames = X.A.frames) : Inv (X.at A) pins σ H s :=
  ⟨⟨I.ok.mod, I.ok.kind, I.ok.glob, I.ok.blt, I.ok.above, I.ok.inj, I.ok.has, I.ok.cab, fun z => (nomatch z), hA.trans I.ok.frames, I.ok.stk, I.ok.exf, I.ok.bs, I.ok.bsz, I.ok.noex, I.ok.exfs, I.ok.funs, I.ok.frf⟩, I.os, I.bare, I.base, I.loc, I.cell, I.free, I.freeC, I.pin, I.hok, I.len⟩
theorem Inv.back {A : Around} (ok : X.Ok) (I : Inv (X.at A) pins σ H s) : Inv X pins σ H s := ⟨ok, I.os, I.bare, I.base, I.loc, I.cell, I.free, I.freeC, I.pin, I.hok, I.len⟩
theorem Inv.in_ {W : Value → Shared → Prop} (I : Inv X pins σ H s) : Inv (X.in_ (X.pn ++ pins) W) [] σ H s :=
  ⟨⟨I.ok.mod, I.ok.kind, I.ok.glob, I.ok.blt, I.ok.above, I.ok.inj, I.ok.has, I.ok.cab, I.ok.hd, I.ok.frames, I.ok.stk, I.ok.exf, I.ok.bs, I.ok.bsz, I.ok.noex, I.ok.exfs, I.ok.funs, I.ok.frf⟩, I.os, I.bare, I.base, I.loc, I.cell, I.free, I.freeC,
    fun p hp => I.pin p (by rwa [List.append_nil] at hp), I.hok, I.len⟩
theorem Inv.out {W : Value → Shared → Prop} {pins' : List (Addr × Obj)} (ok : X.Ok) (I : Inv (X.in_ (X.pn ++ pins) W) pins' σ H s) : Inv X pins σ H s :=
  ⟨ok, I.os, I.bare, I.base, I.loc, I.cell, I.free, I.freeC, fun p hp => I.pin p (List.mem_append_left _ hp), I.hok, I.len⟩
theorem SP.out {W : Value → Shared → Prop} {D : Ends} {f : Flow} {s' : Shared} (ok : X.Ok) (h : SP (X.in_ (X.pn ++ pins) W) [] D f s') : SP X pins D f s' := by
  cases f with
  | next => obtain ⟨σ', H', I, q⟩ := h; exact ⟨σ', H', I.out ok, q⟩
  | brk => obtain ⟨σ', H', I, q⟩ := h; exact ⟨σ', H', I.out ok, q⟩
  | cont => obtain ⟨σ', H', I, q⟩ := h; exact ⟨σ', H', I.out ok, q⟩
  | ret u => obtain ⟨v, σ', H', I, r, q⟩ := h; exact ⟨v, σ', H', I.out ok, r, q⟩
theorem Fly.kept {P : Program} {w : World} {fr : List Addr} {H H' : Hp} {h h' h2 : Heap} {a T : Addr} {cls : Value} (F : Fly P w fr H h H' h' a T cls) (k : ∀ b o, h'.get? b = some o → h2.get? b = some o) : Fly P w fr H h H' h2 a T cls := by
  obtain ⟨oe, vs, oT, ts, a0, e1, d1, h0, h1, nT, e2, d2, h3⟩ := F.tr
  exact ⟨F.un.trans (Un.kept k), F.ok.kept k, F.exc, F.off, F.new, oe, vs, oT, ts, a0, k _ _ e1, d1, h0, h1, nT, k _ _ e2, d2, h3⟩
/-- what the handlers take: the class C -/
noncomputable def RT (tu : TS) (C : Addr) (i : Nat) (D : Ends) : St → XK → Prop := fun σ1 E => ∀ cls H', E cls none H' → cls = .ref C ∧ ∀ a, H' a = some (.ext (isExc a (.ref C))) →
  tu { nx := fun σ' H4 => D.nx (σ'.set i none) H4, rt := fun _ _ => False } (σ1.set i (some (.ref a))) H'
noncomputable def tTry (tb : (St → XK → Prop) → TS) (tu : TS) (C : Addr) (i : Nat) : TS := fun D σ H => tb (RT tu C i D) D σ H
theorem NotIts.all {C : Addr} {es : List Expr} {cs : List Addr} (r : NotIts X C es cs) : ∀ c ∈ cs, PySem.W.subIn X.K (.ref c) (.type "BaseException") = some true ∧ PySem.W.subIn X.K (.ref C) (.ref c) = some false := by
  induction r with
  | nil => exact fun _ z => nomatch z
  | cons _ _ _ hb hn _ _ ih =>
    intro c hc
    rcases List.mem_cons.mp hc with e | hc
    · rw [e]
      exact ⟨hb, hn⟩
    · exact ih c hc
end
section
variable {X : Cx}
/-! ### b is True, b is False -/
end
/-! ### max(xs, default=d) -/
/-- m is the greatest of the first j + 1 numbers -/
noncomputable def TopTo (val : Nat → Int) (j : Nat) (m : Int) : Prop := (∃ i, i ≤ j ∧ m = val i) ∧ ∀ i, i ≤ j → val i ≤ m
theorem TopTo.up {val : Nat → Int} {j : Nat} {m : Int} (h : TopTo val j m) (b : m < val (j + 1)) : TopTo val (j + 1) (val (j + 1)) := by
  refine ⟨⟨j + 1, Nat.le_refl _, rfl⟩, fun i hi => ?_⟩
  rcases Nat.lt_or_ge j i with z | z
  · have e : i = j + 1 := by omega
    rw [e]
    omega
  · have := h.2 i z
    omega
theorem TopTo.same {val : Nat → Int} {j : Nat} {m : Int} (h : TopTo val j m) (b : ¬ m < val (j + 1)) : TopTo val (j + 1) m := by
  obtain ⟨⟨i0, z0, e0⟩, h2⟩ := h
  refine ⟨⟨i0, by omega, e0⟩, fun i hi => ?_⟩
  rcases Nat.lt_or_ge j i with z | z
  · have e : i = j + 1 := by omega
    rw [e]
    omega
  · exact h2 i z
section
variable {prog : Program} {w : World} {A : Around} {R : Result → Shared → Prop} {I S : Addr} {fp wr : List Addr} {n : Nat} {P : Nat → Value → Prop} {St : Nat → Heap → Prop} {val : Nat → Int}
end
section
variable {prog : Program} {w : World} {A : Around} {E : Value → Shared → Prop} {s : Shared} {l : Addr}
end
section
variable {X : Cx} {p pos kpos : Pos} {e d : Expr} {t : TA} {td : TE} {x : Str}
/-- what max(xs, default=d) tells -/
noncomputable def tMaxD (K : PySem.W.Frag) (t : TA) (td : TE) : TE := fun σ H Q => t σ H fun vs H1 => tCons td tNil σ H1 fun ys H2 => ∃ (a : Addr) (ns : List Int) (dv : Int), vs = [.ref a] ∧ ys = [.int dv] ∧ SqL K H2 a (ns.map V.int) ∧
  ∀ m : Int, (ns = [] → m = dv) → (ns ≠ [] → m ∈ ns ∧ ∀ b ∈ ns, b ≤ m) → Q (.int m) H2
end
open PySem PySem.Spec PyProof.Rows PySem.SeqAt
/-- x < y tells b, and nothing changes -/
noncomputable def LtAt (A : Around) (s : Shared) (x y : Value) (b : Bool) : Prop := ∀ (prog : Program) (w : World) (E : Value → Shared → Prop) (Q : Value → Shared → Prop), Q (.bool b) s → wpAny (model prog w) A (richCompare .Lt x y) Q E s
theorem tup_lt (l b : Addr) (xs ys : Array Value) (n n2 : Nat) (dd dd2 : Option Addr) (sl sl2 : Array (Option Value)) (e : Nat → Bool) (r : Bool) :
    Meets (Builtin.«tuple.__lt__» ⟨[.ref l, .ref b], []⟩)
      (fun A R s => s.heap.get? l = some { cls := .type "tuple", dict := dd, data := .seq xs n, slots := sl } ∧ s.heap.get? b = some { cls := .type "tuple", dict := dd2, data := .seq ys n2, slots := sl2 } ∧
        (∀ j (h1 : j < xs.size) (h2 : j < ys.size), EqAt A.in1 s xs[j] ys[j] (e j)) ∧ (∀ j (h1 : j < xs.size) (h2 : j < ys.size), (∀ i, i < j → e i = true) → e j = false → LtAt A.in1 s xs[j] ys[j] r) ∧
        ((∀ j, j < min xs.size ys.size → e j = true) → r = decide (xs.size < ys.size)) ∧ R (.ok (.ret (.bool r))) s) :=
  .of_wp fun prog w A R s h => by
    obtain ⟨hp, g, d, tk, os⟩ := s
    obtain ⟨hl, hb, he, hf, hz, h⟩ := h
    have f2 := AutoSeq1.sub_tuple_tuple
    have hZ : (xs.toList.zip ys.toList).length = min xs.size ys.size := by simp
    wp_walk using wpAny_loadPart' hl, wpAny_loadPart' hb, wpAny_forIn_list _ (fun rest b s' => b.1 = none ∧ s' = ⟨hp, g, d, tk, os⟩ ∧ ∃ i, rest = (xs.toList.zip ys.toList).drop i ∧ ∀ k, k < i → k < min xs.size ys.size → e k = true) _
    case turn =>
      rintro ⟨y, x⟩ rest b s' ⟨hb', rfl, i, hq, hR⟩
      have hlt : i < (xs.toList.zip ys.toList).length := by
        apply Classical.byContradiction
        intro z
        rw [List.drop_of_length_le (by omega)] at hq
        cases hq
      have h1 : i < xs.size := by omega
      have h2 : i < ys.size := by omega
      rw [List.drop_eq_getElem_cons hlt] at hq
      injection hq with hyx hrest
      have hy : y = xs[i] := by simpa using congrArg Prod.fst hyx
      have hx : x = ys[i] := by simpa using congrArg Prod.snd hyx
      subst hy hx
      refine wpAny_bind (he i h1 h2 prog w _ _ ?_)
      cases hy : e i with
      | true =>
        wp_walk
        refine ⟨rfl, rfl, i + 1, hrest, fun k hk hk2 => ?_⟩
        by_cases z : k = i
        · rw [z]
          exact hy
        · exact hR k (by omega) hk2
      | false =>
        have hl2 := hf i h1 h2 (fun k hk => hR k hk (by omega)) hy prog w
        wp_walk using hl2 _ _
        exact ⟨_, rfl, h⟩
    case fin =>
      rintro ⟨b1, b2⟩ s' ⟨hb', rfl, i, hq, hR⟩
      simp only at hb'
      subst hb'
      have hge : min xs.size ys.size ≤ i := by
        apply Classical.byContradiction
        intro z
        rw [List.drop_eq_getElem_cons (by omega)] at hq
        cases hq
      have hr := hz fun j hj => hR j (by omega) hj
      wp_walk
      refine ⟨_, rfl, ?_⟩
      rw [hr] at h
      simpa [Builtin.Tuple.tupleCompareSizes] using h
    case h =>
      exact ⟨rfl, rfl, 0, rfl, fun k hk => absurd hk (Nat.not_lt_zero k)⟩
/-! ### the order of nested tuples of ints -/
mutual
noncomputable def ltv : PyData → PyData → Bool
  | .int a, .int b => decide (a < b)
  | .tuple xs, .tuple ys => ltvAll xs ys
  | _, _ => false
noncomputable def ltvAll : List PyData → List PyData → Bool
  | [], [] => false
  | [], _ :: _ => true
  | _ :: _, [] => false
  | x :: xs, y :: ys => if PyData.eqv x y then ltvAll xs ys else ltv x y
end
mutual
noncomputable def Cmpb : PyData → PyData → Prop
  | .int _, .int _ => True
  | .tuple xs, .tuple ys => CmpbAll xs ys
  | _, _ => False
noncomputable def CmpbAll : List PyData → List PyData → Prop
  | x :: xs, y :: ys => Cmpb x y ∧ CmpbAll xs ys
  | _, _ => True
end
theorem ltv_sizes : ∀ (xs ys : List PyData), (∀ j, j < min xs.length ys.length → pairEq xs ys j = true) → ltvAll xs ys = decide (xs.length < ys.length)
  | [], [], _ => rfl
  | [], y :: ys, _ => by simp [ltvAll]
  | x :: xs, [], _ => by simp [ltvAll]
  | x :: xs, y :: ys, h => by
    have h0 : PyData.eqv x y = true := h 0 (by simp only [List.length_cons]; omega)
    have ih := ltv_sizes xs ys fun j hj => h (j + 1) (by simp only [List.length_cons]; omega)
    rw [ltvAll, if_pos h0, ih]
    simp
mutual
theorem lt_reads : ∀ (da db : PyData) (A : Around) (s : Shared) (a b : Value) (as bs : List Addr), Reads s.heap a da as → Reads s.heap b db bs → da.canLay0 = true → db.canLay0 = true → Cmpb da db →
    A.units + min da.depth db.depth < cLine → LtAt A s a b (ltv da db)
  | .int x, db, A, s, _, _, _, _, ra, rb, _, _, hc, hu => by
    cases db with
    | int y =>
      cases ra with
      | int _ t =>
        cases rb with
        | int _ u =>
          intro prog w E Q h
          exact richCompare_gives (op := .Lt) (typeIs_int s _ t) (typeIs_int s _ u) F.slot_int_lt F.entry_int_lt (F.args_int_lt_2 _ _) (gives_int_lt _ _ t u) (fun z => nomatch z) h
    | none => exact hc.elim
    | bool _ => exact hc.elim
    | str _ => exact hc.elim
    | list _ => exact hc.elim
    | tuple _ => exact hc.elim
    | dict _ => exact hc.elim
  | .tuple xs, db, A, s, _, _, _, _, ra, rb, ha, hb, hc, hu => by
    cases db with
    | tuple ys =>
      cases ra with
      | @tuple l o vs n _ as₁ h1 h2 h3 h4 =>
        cases rb with
        | @tuple l' o' vs' n' _ bs₁ k1 k2 k3 k4 =>
          obtain ⟨oc, od, odt, osl⟩ := o
          obtain ⟨oc', od', odt', osl'⟩ := o'
          simp only at h2 h3 k2 k3
          subst h2 h3 k2 k3
          have n1 : vs.size = xs.length := by simpa using ReadsAll.length _ _ _ h4
          have n2 : vs'.size = ys.length := by simpa using ReadsAll.length _ _ _ k4
          intro prog w E Q h
          refine richCompare_meets_room (op := .Lt) ⟨_, h1, rfl⟩ ⟨_, k1, rfl⟩ F.slot_tuple_lt F.entry_tuple_lt (F.args_tuple_lt_2 _ _) (tup_lt l l' vs vs' n n' od od' osl osl' (pairEq xs ys) (ltvAll xs ys)) ⟨h1, k1, fun j j1 j2 => ?_, fun j j1 j2 f1 f2 => ?_, fun f => ?_, (fun z => nomatch z), h⟩ (room_here hu)
          · have := eqAt_readsAll xs ys A.in1 s vs.toList vs'.toList _ _ h4 k4 ha hb (room_in hu) j (by simpa using j1) (by simpa using j2)
            simpa using this
          · have := lt_readsAll xs ys A.in1 s vs.toList vs'.toList _ _ h4 k4 ha hb hc (room_in hu) j (by simpa using j1) (by simpa using j2) f1 f2
            simpa using this
          · rw [n1, n2] at f ⊢
            exact ltv_sizes xs ys f
    | none => exact hc.elim
    | bool _ => exact hc.elim
    | str _ => exact hc.elim
    | list _ => exact hc.elim
    | int _ => exact hc.elim
    | dict _ => exact hc.elim
  | .none, _, _, _, _, _, _, _, _, _, _, _, hc, _ => hc.elim
  | .bool _, _, _, _, _, _, _, _, _, _, _, _, hc, _ => hc.elim
  | .str _, _, _, _, _, _, _, _, _, _, _, _, hc, _ => hc.elim
  | .list _, _, _, _, _, _, _, _, _, _, _, _, hc, _ => hc.elim
  | .dict _, _, _, _, _, _, _, _, _, _, _, _, hc, _ => hc.elim
theorem lt_readsAll : ∀ (xs ys : List PyData) (A : Around) (s : Shared) (vs ws : List Value) (as bs : List Addr), ReadsAll s.heap vs xs as → ReadsAll s.heap ws ys bs → PyData.canLayAll0 xs = true → PyData.canLayAll0 ys = true → CmpbAll xs ys →
    A.units + min (PyData.depthAll xs) (PyData.depthAll ys) < cLine → ∀ j (h1 : j < vs.length) (h2 : j < ws.length), (∀ i, i < j → pairEq xs ys i = true) → pairEq xs ys j = false → LtAt A s vs[j] ws[j] (ltvAll xs ys)
  | [], _, _, _, _, _, _, _, ra, _, _, _, _, _, j, h1, _, _, _ => by cases ra; exact absurd h1 (Nat.not_lt_zero _)
  | _ :: _, [], _, _, _, _, _, _, _, rb, _, _, _, _, j, _, h2, _, _ => by cases rb; exact absurd h2 (Nat.not_lt_zero _)
  | x :: xs, y :: ys, A, s, _, _, _, _, ra, rb, ca, cb, hc, hu, j, h1, h2, f1, f2 => by
    cases ra with
    | cons r1 r2 =>
      cases rb with
      | cons q1 q2 =>
        have ca1 : x.canLay0 = true ∧ PyData.canLayAll0 xs = true := by simpa [PyData.canLayAll0] using ca
        have cb1 : y.canLay0 = true ∧ PyData.canLayAll0 ys = true := by simpa [PyData.canLayAll0] using cb
        have hd : A.units + min x.depth y.depth < cLine ∧ A.units + min (PyData.depthAll xs) (PyData.depthAll ys) < cLine := by
          simp only [PyData.depthAll] at hu
          omega
        cases j with
        | zero =>
          have e : ltvAll (x :: xs) (y :: ys) = ltv x y := by
            have f3 : PyData.eqv x y = false := f2
            rw [ltvAll, f3]
            rfl
          rw [e]
          exact lt_reads x y A s _ _ _ _ r1 q1 ca1.1 cb1.1 hc.1 hd.1
        | succ j =>
          have e : ltvAll (x :: xs) (y :: ys) = ltvAll xs ys := by
            have f3 : PyData.eqv x y = true := f1 0 (Nat.succ_pos _)
            rw [ltvAll, f3]
            rfl
          rw [e]
          exact lt_readsAll xs ys A s _ _ _ _ r2 q2 ca1.2 cb1.2 hc.2 hd.2 j (Nat.lt_of_succ_lt_succ h1) (Nat.lt_of_succ_lt_succ h2) (fun i hi => f1 (i + 1) (Nat.succ_lt_succ hi)) f2
end
section
variable {X : Cx} {k : Nat}
noncomputable def rLtD : R2 := fun x y H Q => ∃ d e : PyData, Rp H d x ∧ Rp H e y ∧ Cmpb d e ∧ d.depth ≤ 60 ∧ Q (.bl (ltv d e)) H
end
section
variable {X : Cx}
/-- t + u of two tuples, also of an empty t; u is a tracked one and not empty -/
noncomputable def rCatE (K : PySem.W.Frag) : R2 := fun x y H Q => ∃ a b xs ys, x = .ref a ∧ y = .ref b ∧ SqT K H a xs ∧ H b = some (.tup ys) ∧ ys ≠ [] ∧ xs.length + ys.length ≤ sizeLine ∧
  ∀ p H', Same H H' → H' p = some (.tup (xs ++ ys)) → Q (.ref p) H'
theorem op_catE (K : PySem.W.Frag) (hK : X.K = K := by rfl) : OpR X (binaryOp .Add) (rCatE K) := by
  subst hK
  intro pins s σ H x y v u Q I rx ry h
  obtain ⟨a, b, xs, ys, rfl, rfl, ha, hb, hy, hz, q⟩ := h
  by_cases hx : xs = []
  · subst hx
    cases rx
    cases ry
    obtain ⟨its, r1, p1, _⟩ := I.tuple ha
    obtain ⟨its2, r2, p2, _⟩ := I.tuple (SqT.of hb)
    cases r1
    obtain ⟨⟨c1, d1, t1, l1⟩, ho, hc, n, hd⟩ := p1
    obtain ⟨⟨c2, d2, t2, l2⟩, ho2, hc2, n2, hd2⟩ := p2
    simp only at hc hd hc2 hd2
    subst hc hd hc2 hd2
    exact concat_meets ⟨_, ho, rfl⟩ ⟨_, ho2, rfl⟩ noFill_tuple_add seq_tuple_add PySem.F.slot_tuple_add PySem.F.entry_tuple_add (PySem.F.args_tuple_add_2 _ _) (tuple_addW0 a b _ _ n n2 d1 d2 l1 l2 rfl) ⟨ho, ho2, .ref b, H, I, rfl, q b H (Same.refl H) hb⟩
  · exact op_catT pins s σ H _ _ v u Q I rx ry ⟨a, b, xs, ys, rfl, rfl, ha, SqT.of hb, hx, hz, fun e => absurd e hy, fun _ p hp => q p _ (Same.upd hp) upd_same⟩
end
/-! ### reversed(t) of a tuple -/
noncomputable def RvIt (h : Heap) (a t : Addr) (i : Int) : Prop := ∃ o, h.get? a = some o ∧ o.cls = .type "reversed" ∧ o.data = .fields #[.ref t, rawInt i]
section
variable {prog : Program} {w : World} {A : Around} {E : Value → Shared → Prop} {s : Shared}
theorem RvIt.ty {a t : Addr} {i : Int} (x : RvIt s.heap a t i) : s.TypeIs (.ref a) "reversed" := let ⟨o, ho, hc, _⟩ := x; ⟨o, ho, hc⟩
theorem RvIt.at {h h' : Heap} {a t : Addr} {i : Int} (x : RvIt h a t i) (e : ∀ o, h.get? a = some o → h'.get? a = some o) : RvIt h' a t i := let ⟨o, ho, r⟩ := x; ⟨o, e _ ho, r⟩
end
noncomputable def rvdObj (t : Addr) (i : Int) : Obj := { cls := .type "reversed", data := .fields #[.ref t, rawInt i] }
section
variable {prog : Program} {w : World} {A : Around} {E : Value → Shared → Prop} {s : Shared}
end
/-- the items of a tuple, from the last to the first -/
noncomputable def Itv (K : PySem.W.Frag) (a : Addr) (xs : List V) : It :=
  ⟨fun i H => SqT K H a xs ∧ i < xs.length, fun i H x H' => H' = H ∧ xs.reverse[i]? = some x, fun i H => SqT K H a xs ∧ xs.length ≤ i⟩
noncomputable def iRev (K : PySem.W.Frag) (ta : TA) : TI := fun σ H R => ta σ H fun vs H1 => ∃ t xs, vs = [.ref t] ∧ SqT K H1 t xs ∧ R (Itv K t xs) H1
section
variable {X : Cx} {tg : Expr}
end
section
variable {P : Program} {w : World} {A : Around} {E : Value → Shared → Prop} {s : Shared}
end
section
variable {X : Cx}
noncomputable def tTupRev (K : PySem.W.Frag) (ta : TA) : TE := fun σ H Q => ta σ H fun vs H1 => ∃ l xs, vs = [.ref l] ∧ SqL K H1 l xs ∧ ∀ d, H1 d = none → Q (.ref d) (upd H1 d (.tup xs.reverse))
end
/-! ### any(xs), all(xs) of a list of truths -/
section
variable {X : Cx}
end
/-! ### a, b = a list of that length -/
section
variable {prog : Program} {w : World} {A : Around} {E : Value → Shared → Prop} {I : Addr} {fp wr : List Addr} {St : Nat → Heap → Prop} {items : Array Value}
end
section
variable {X : Cx} {pos : Pos}
noncomputable def gLst (K : PySem.W.Frag) (n : Nat) (t : TGs) : TG := fun v σ H Q => ∃ a xs, v = .ref a ∧ SqL K H a xs ∧ xs.length = n ∧ t xs σ H Q
end
open PySem.W (Looks)
/-! ### try, and one handler for a class above the raised ones -/
theorem type_no_tuple {M : Model} {h : Heap} : Looks M h (isSubtype (.type "type") (.type "tuple")) false := by
  have e : isSubtype (.type "type") (.type "tuple") = pure false := by first | exact tc_notTuple | rfl | decide
  rw [e]
  exact PySem.W.Looks.now
theorem yes_match {M : Model} {K : PySem.W.Frag} {h : Heap} {a C Y : Addr} {oe : Obj} (kin : K.In h) (he : h.get? a = some oe) (hc : oe.cls = .ref C) (hY : ExcC K Y)
    (hb : PySem.W.subIn K (.ref Y) (.type "BaseException") = some true) (hs : PySem.W.subIn K (.ref C) (.ref Y) = some true) : Looks M h (excMatches (.ref a) (.ref Y)) true := by
  obtain ⟨bm, N, nm, qn, bs', hd, sn, sub, ab, col, dd, z0, z1, z2, z3, z5, mN, hCY, _, _, _⟩ := exc_obj kin hY
  have t1 : Looks M h (typeOf (.ref Y)) (.type "type") := (PySem.W.Looks.ld hCY).andThen .now
  have i1 : Looks M h (isInstance (.ref Y) (.type "tuple")) false := t1.andThen type_no_tuple
  have i3 : Looks M h (typeOf (.ref a)) (.ref C) := by
    have z : Looks M h (typeOf (.ref a)) oe.cls := (PySem.W.Looks.ld he).andThen .now
    rw [hc] at z
    exact z
  unfold excMatches
  refine i1.andThen ?_
  rw [if_neg Bool.false_ne_true]
  refine PySem.W.Looks.now.andThen ?_
  simp only [List.forIn_cons, List.forIn_nil]
  refine Looks.andThen (a := PUnit.unit) (Looks.andThen (a := ForInStep.yield PUnit.unit) ((is_exc kin hb).andThen ?_) .now) (i3.andThen (Looks.andThen (a := (some true, ())) (Looks.andThen (a := ForInStep.done (some true, ())) ((PySem.W.looks_subIn kin hs).andThen ?_) .now) .now))
  · rw [if_neg (by decide)]
    exact .now
  · rw [if_pos rfl]
    exact .now
section
variable {prog : Program} {w : World} {A : Around} {E : Value → Shared → Prop} {K : PySem.W.Frag} {x C : Addr} {h : Heap} {g : Array GenState} {d : Drawn} {t : Nat} {os : OsState}
/-- what the kept part says of an own exception class -/
structure ExcK (K : PySem.W.Frag) (C : Addr) : Prop where
  ga : PySem.W.findIn K (.ref C) "__getattribute__" = some (some (.builtin "BaseException.__getattribute__"))
  gt : PySem.W.findIn K (.ref C) "__getattr__" = some none
  cl : PySem.W.findIn K (.ref C) "__class__" = some (some (.builtin "object.__class__"))
  gs : PySem.W.specialIn K (.builtin "object.__class__") "__get__" = some (some (.builtin "getset_descriptor.__get__"))
  tk : PySem.W.takesIn K (.builtin "object.__class__") = some true
  ob : PySem.W.mroIn K C (.type "object") = some true
  be : PySem.W.subIn K (.ref C) (.type "BaseException") = some true
theorem exc_find {M : Model} (kin : K.In h) (F : ExcK K C) : Looks M h (Builtin.ObjectAttr.find (.ref x) (.ref C) "__class__") (.bind (.builtin "getset_descriptor.__get__") (.builtin "object.__class__")) := by
  unfold Builtin.ObjectAttr.find
  refine (PySem.W.looks_findIn kin F.cl).andThen ((PySem.W.looks_specialIn kin F.gs).andThen ?_)
  refine Looks.andThen (a := some (.builtin "getset_descriptor.__get__", .builtin "object.__class__")) ?_ (PySem.W.Looks.tag .now)
  show Looks M h (Builtin.ObjectAttr.takesStores _ >>= _) _
  refine (PySem.W.looks_takesIn kin F.tk).andThen ?_
  rw [if_pos rfl]
  exact .now
theorem exc_cget {R : Result → Shared → Prop} {tp : Value} (kin : K.In h) (ht : ∀ M, Looks M h (typeOf (.ref x)) (.ref C)) (F : ExcK K C) (q : R (.ok (.ret (.ref C))) ⟨h, g, d, t, os⟩) :
    codeAny (model prog w) A (.call (.builtin "getset_descriptor.__get__") ⟨[.builtin "object.__class__", .ref x, tp], []⟩) R ⟨h, g, d, t, os⟩ := by
  have L0 := ht (model prog w)
  have L1 := PySem.W.looks_mroIn (M := model prog w) kin F.ob
  refine codeAny_call_builtin PySem.W.KF.slot_gs.plain PySem.W.KF.entry_gs (PySem.W.KF.slot_gs.check _ _ _ _ _ _ _ _ PySem.W.KF.type_class (PySem.W.KF.args_gs _ _ _) ?_)
  unfold Builtin.«getset_descriptor.__get__» Builtin.Getset_descriptor.descrGet; rw [PySem.W.dga_obj]
  refine wpAny_bind (wpAny_pure ?_)
  unfold Builtin.Getset_descriptor.descrGetter Builtin.Getset_descriptor.descrCheckInstance Builtin.Getset_descriptor.descrNameAndClass isInstance; simp only [PySem.W.KF.owner_class]; repeat lk
  refine ⟨Code.quiet_builtin _ (by decide +kernel), codeAny_builtin PySem.W.KF.entry_class ?_⟩
  unfold Builtin.«object.__class__» shownTypeOf; repeat lk
  exact q
theorem exc_entry {Q : Fin → Shared → Prop} {tk : Tok} (kin : K.In h) (ht : ∀ M, Looks M h (typeOf (.ref x)) (.ref C)) (F : ExcK K C) (q : Q (.done (.ret (.ref C))) ⟨h, g, d, t, os⟩) :
    wpAny (model prog w) A (Builtin.«object.__getattribute__» ⟨[.ref x, .str "__class__" tk], []⟩) Q E ⟨h, g, d, t, os⟩ := by
  have L0 := ht (model prog w)
  have L1 := exc_find (M := model prog w) (x := x) kin F
  repeat (any_goals (first | assumption | with_reducible refine Looks.at (by assumption) ?_ | wp_step))
  refine exc_cget kin ht F ?_
  repeat (any_goals (first | assumption | wp_step))
theorem exc_ccall {R : Result → Shared → Prop} {tk : Tok} (kin : K.In h) (ht : ∀ M, Looks M h (typeOf (.ref x)) (.ref C)) (F : ExcK K C) (q : R (.ok (.ret (.ref C))) ⟨h, g, d, t, os⟩) :
    codeAny (model prog w) A (.call (.builtin "BaseException.__getattribute__") ⟨[.ref x, .str "__class__" tk], []⟩) R ⟨h, g, d, t, os⟩ := by
  have L0 := ht (model prog w)
  have L1 := PySem.W.looks_subIn (M := model prog w) kin F.be
  have k1 : builtinKind "BaseException.__getattribute__" = some .slot := by decide +kernel
  have k2 : splitId "BaseException.__getattribute__" = some ("BaseException", "__getattribute__") := by decide +kernel
  have k3 := PySem.F.args_bexc_ga (.ref x) (.str "__class__" tk)
  refine codeAny_call_builtin PySem.F.attr_ValueError.ga.plain PySem.F.entry_bexc_ga ?_
  simp only [checkBuiltinCall, k1, k2]
  unfold isInstance
  repeat (any_goals (first | assumption | with_reducible refine exc_entry kin ht F ?_ | with_reducible refine Looks.at (by assumption) ?_ | wp_step))
theorem exc_attr {Q : Option Value → Shared → Prop} (kin : K.In h) (ht : ∀ M, Looks M h (typeOf (.ref x)) (.ref C)) (F : ExcK K C) (q : Q (some (.ref C)) ⟨h, g, d, t + 1, os⟩) :
    wpAny (model prog w) A (getAttr? (.ref x) "__class__") Q E ⟨h, g, d, t, os⟩ := by
  have L0 := ht (model prog w)
  have L1 := PySem.W.looks_findIn (M := model prog w) kin F.ga
  have L2 := PySem.W.looks_findIn (M := model prog w) kin F.gt
  have b1 := PySem.F.attr_ValueError.ga.bind (.ref x)
  have b2 : (Value.builtin "BaseException.__getattribute__" == Value.builtin "object.__getattribute__") = false := by decide +kernel
  have b3 : (onTheHeap (Value.ref C) && Value.builtin "BaseException.__getattribute__" == Value.builtin "object.__getattribute__") = false := by rw [b2]; rfl
  unfold getAttr? getAttrBy?
  repeat (any_goals (first | assumption | with_reducible refine Looks.at (by assumption) ?_ | wp_step))
  refine exc_ccall kin ht F ?_
  repeat (any_goals (first | assumption | wp_step))
/-- isinstance(e, c), e an exception: what the classes say -/
theorem isi_says {s : Shared} {c : Value} {b : Bool} {Q : Value → Shared → Prop} (kin : K.In s.heap) (ht : ∀ M, Looks M s.heap (typeOf (.ref x)) (.ref C)) (F : ExcK K C) (e : PySem.W.kitOne K (.ref C) c = some b)
    (q : ∀ tk, Q (.bool b) { s with toks := tk }) : wpAny (model prog w) A (call (.builtin "isinstance") [.ref x, c]) Q E s := by
  cases b with
  | true => exact isi_yes kin ht e (fun z => nomatch z) (q s.toks)
  | false =>
    refine call_isinstance (S := fun _ R s => (K.In s.heap ∧ ∀ M, Looks M s.heap (typeOf (.ref x)) (.ref C)) ∧ ∀ tk, R (.ok (.ret (.bool false))) { s with toks := tk }) (fun prog w A R s hs => isinstance_outer ?_ (fun z => nomatch z)) ⟨⟨kin, ht⟩, q⟩
    obtain ⟨⟨kin, ht⟩, hq⟩ := hs
    obtain ⟨h0, g, d, tt, os⟩ := s
    unfold Builtin.«isinstance.nested»
    refine wpAny_bind ((ht _).at ?_)
    unfold PySem.W.kitOne at e
    by_cases z : (Value.ref C == c) = true
    · rw [if_pos z] at e
      cases e
    rw [if_neg z] at e ⊢
    obtain ⟨k1, k2, k3⟩ := PySem.W.kit_cls (M := model prog w) kin e
    have k4 : Looks (model prog w) h0 (isInstance (.ref x) c) false := (ht _).andThen k3
    have k5 := is_cls (M := model prog w) kin F.be
    refine wpAny_bind (k1.at ?_)
    rw [if_pos (by decide)]
    k_delta "plainIsInstance"
    refine wpAny_bind (wpAny_bind (k2.at ?_))
    simp only [Bool.not_true, if_false, Bool.false_eq_true]
    refine wpAny_bind (k4.at ?_)
    simp only [if_false, Bool.false_eq_true]
    refine wpAny_bind (exc_attr kin ht F ?_)
    refine wpAny_bind (k5.at ?_)
    simp only [if_false, Bool.false_eq_true, Bool.not_true]
    refine wpAny_bind (wpAny_rule (k3.at ?_))
    first
      | exact wpAny_pure (hq _)
      | exact wpAny_pure (wpAny_pure (hq _))
end
section
variable {X : Cx}
noncomputable def rIsiE (K : PySem.W.Frag) : List V → Hp → VK → Prop := fun xs H Q => ∃ (a C : Addr) (c : Value) (v : V) (b : Bool), xs = [.ref a, v] ∧ H a = some (.ext (isExc a (.ref C))) ∧ (∀ u, RelV v u → u = c) ∧ ExcK K C ∧ PySem.W.kitOne K (.ref C) c = some b ∧ Q (.bl b) H
theorem call_isiE (K : PySem.W.Frag) (hK : X.K = K := by rfl) : CallR X (.builtin "isinstance") (rIsiE K) := by
  subst hK
  intro pins s σ H xs us Q I r h
  obtain ⟨a, C, c, v, b, rfl, ha, hv, F, e, q⟩ := h
  obtain ⟨u0, u1, rfl, r0, r1⟩ := Vals.two r
  cases r0
  rw [hv u1 r1]
  obtain ⟨o, vs, e1, e2, _⟩ := (I.hok a _ ha).1
  refine isi_says (s := s) I.kIn (fun M => ?_) F e fun tk => ⟨.bl b, H, I.kept fun _ _ z => z, rfl, q⟩
  have z : Looks M s.heap (typeOf (.ref a)) o.cls := (PySem.W.Looks.ld e1).andThen .now
  rw [e2] at z
  exact z
end
open PySem.W (Looks)
section
variable {X : Cx}
/-- what the one handler takes: classes under Y -/
noncomputable def RT1 (K : PySem.W.Frag) (tu : TS) (Y : Addr) (i : Nat) (D : Ends) : St → XK → Prop := fun σ1 E => ∀ cls H', E cls none H' → ∃ C, cls = .ref C ∧ PySem.W.subIn K (.ref C) (.ref Y) = some true ∧ ∀ a, H' a = some (.ext (isExc a (.ref C))) →
  tu { nx := fun σ' H4 => D.nx (σ'.set i none) H4, rt := fun _ _ => False } (σ1.set i (some (.ref a))) H'
noncomputable def tTry1 (K : PySem.W.Frag) (tb : (St → XK → Prop) → TS) (tu : TS) (Y : Addr) (i : Nat) : TS := fun D σ H => tb (RT1 K tu Y i D) D σ H
theorem ps_try1 (K : PySem.W.Frag) {Y : Addr} {body : List Stmt} {p2 pos np : Pos} {c₀ : Stmt} {ss : List Stmt} {x n : Str} {i : Nat} {tb : (St → XK → Prop) → TS} {tu : TS}
    (hfr : X.stack = X.env :: X.outer) (hf : X.env.frame = some X.env.locals)
    (hb : ∀ (W : Value → Shared → Prop) (pn : List (Addr × Obj)) (R : St → XK → Prop), PassR (X.in_ pn W) R → PSs (X.in_ pn W) body (tb R))
    (hg : Gl X x) (hm : X.mg x = some (.ref Y)) (hY : ExcC K Y) (hB : PySem.W.subIn K (.ref Y) (.type "BaseException") = some true) (hN : X.N.Nodup) (hi : X.N[i]? = some n) (hl : X.env.scope.names.lookup n = some .local)
    (hu : ∀ A : Around, PSs (X.at A) (c₀ :: ss) tu) (hK : X.K = K := by rfl) (hdb : (x == ("__debug__" : Str)) = false := by decide) :
    PS X (.Try body [.ExceptHandler (some (.Name x np)) (some n) (c₀ :: ss) p2] [] [] pos) (tTry1 K tb tu Y i) := by
  subst hK
  intro pins s σ H D I h
  refine wpAny_Try_except ?_
  have ok := I.ok
  refine wpAny_mono (hb _ (X.pn ++ pins) _ ?_ [] s σ H D I.in_ h) (fun f s1 q => ?_) fun e s1 z => z
  · rintro pins' σ1 H1 s1 e s2 E hR I1 ⟨a, T, cls, H', rfl, os, bare, F, hE⟩
    obtain ⟨C, rfl, hsub, hs⟩ := hR _ _ hE
    have I0 : Inv X pins σ1 H1 s1 := I1.out ok
    have F : Fly X.prog X.w (frs X.stack) H1 s1.heap H' s2.heap a T (.ref C) := F
    have I2 := I0.flown os bare F
    obtain ⟨a0, tr⟩ := F.traced (B := PySem.W.hideAll s2.heap (frs X.stack ++ a :: [T])) (hidden_o (List.mem_singleton.mpr rfl))
    have hA : X.A.frames = some (X.env :: X.outer) := by rw [← hfr]; exact ok.frames
    have hF : s2.heap.FunFrames (PySem.W.hideAll s2.heap (frs X.stack ++ a :: [T])) (X.env :: X.outer) := by rw [← hfr]; exact hides I2
    refine wpAny_looks_onW hA hf ⟨fun b o q => PySem.W.of_hideAll _ q, hidden_a, hF, tr⟩ fun h3 held sm3 => ?_
    refine wpAny_landsW held fun h5 fly sm4 => ?_
    obtain ⟨k1, _, _, k4⟩ := fly
    obtain ⟨T2, F5⟩ := Fly.on F.un F.ok F.exc I2.stkFree I2.frd (fun b hb => by rw [List.mem_singleton.mp hb]; exact ⟨F.off, F.new⟩) k1 (sm3.trans sm4) k4
    have I5 : Inv X pins σ1 H' { s2 with heap := h5 } := I0.flown os bare F5
    obtain ⟨o5, vs5, e5, c5, d5⟩ := F5.cls
    refine wpAny_handleBy_cons (codeAny_handlers_test (Calls.Name_function_global ok.kind hg (Calls.loadGlobal_global (by rw [ok.glob]; exact I5.mod.glob.keeps I5.bk) hm ?_) hdb)) (by intro q; cases q)
    refine (yes_match I5.kIn e5 c5 hY hB hsub).at ?_
    show codeAny _ _ (.handlers _ [_] _) _ _
    refine codeAny_handlers_suite_as ?_
    obtain ⟨a5, tr5⟩ := F5.traced (B := PySem.W.hideAll h5 (frs X.stack ++ a :: [T2])) (hidden_o (List.mem_singleton.mpr rfl))
    have hF5 : h5.FunFrames (PySem.W.hideAll h5 (frs X.stack ++ a :: [T2])) (X.env :: X.outer) := by rw [← hfr]; exact hides I5
    refine lands_againW (show Heap.FlyingW _ (X.env :: X.outer) a (.ref C) a5 h5 from ⟨fun b o q => PySem.W.of_hideAll _ q, hidden_a, hF5, tr5⟩) fun h6 fly6 sm6 => ?_
    obtain ⟨k6, _, _, k7⟩ := fly6
    obtain ⟨T3, F6⟩ := Fly.on F5.un F5.ok F5.exc I5.stkFree I5.frd (fun b hb => by rw [List.mem_singleton.mp hb]; exact ⟨F5.off, F5.new⟩) k6 sm6 k7
    have I6 : Inv X pins σ1 H' { s2 with heap := h6 } := I0.flown os bare F6
    refine store_ok (v := .ref a) I6 hN hi (.inl hl) rfl (fun s7 I7 => ?_) (.inr hl)
    refine wpAny_mono (hu _ pins s7 _ H' _ (I7.at rfl) (hs a F.exc)) (fun f s8 q8 => ?_) fun _ _ z => z.elim
    cases f with
    | next =>
      obtain ⟨σ', H4, I8, q9⟩ := q8
      exact drop_ok (I8.back ok) hN hi hl fun s9 I9 => ⟨_, _, I9, q9⟩
    | brk =>
      obtain ⟨_, _, _, z⟩ := q8
      exact z.elim
    | cont =>
      obtain ⟨_, _, _, z⟩ := q8
      exact z.elim
    | ret u =>
      obtain ⟨_, _, _, _, _, z⟩ := q8
      exact z.elim
  · cases f with
    | next => exact wpAny_execs_nil (SP.out ok q)
    | brk => exact SP.out ok q
    | cont => exact SP.out ok q
    | ret u => exact SP.out ok q
end
section
variable {X : Cx}
/-! ### n.bit_length(), a << n -/
noncomputable def CShl (i j : Int) : Prop := 0 ≤ j ∧ ((intBits i : Nat) : Int) + j ≤ 2 ^ 27
end
/-! ### the least, the greatest of a tuple of ints -/
section
variable {prog : Program} {w : World} {A : Around} {E : Value → Shared → Prop} {s : Shared} {l : Addr} {xs : Array (Int × Tok)}
theorem iter_intTup {Q : Value → Shared → Prop} (hl : s.heap.IsTuple l (intItems xs))
    (h : ∀ s₂ : Shared, s₂ = { s with heap := s.heap.push { cls := .type "tuple_iterator", data := .fields #[.ref l, .int 0 0] } } →
      (s₂.heap.IsTupleIter s.heap.objs.size l 0 ∧ s₂.heap.IsTuple l (intItems xs)) → (∀ b ∈ [s.heap.objs.size, l], b < s₂.heap.objs.size) → l ≠ s.heap.objs.size → Q (.ref s.heap.objs.size) s₂) :
    wpAny (model prog w) A (pyIter (.ref l)) Q E s := by
  have hlt : l < s.heap.objs.size := by obtain ⟨_, e, _⟩ := hl; exact Heap.lt_size e
  refine wpAny_pyIter_tuple hl (h _ rfl ⟨⟨_, Heap.get?_push_size _ rfl, rfl, rfl⟩, ?_⟩ (fun b hb => ?_) (Nat.ne_of_lt hlt))
  · exact hl.at fun o e => Heap.get?_push_of_some _ e
  show b < (s.heap.push _).objs.size
  rw [Heap.size_push]
  rcases List.mem_cons.mp hb with rfl | hb
  · exact Nat.lt_succ_self _
  · rcases List.mem_cons.mp hb with rfl | hb
    · exact Nat.lt_succ_of_lt hlt
    · cases hb
theorem old_keptT {h' : Heap} (hk : ∀ b o, b ∉ [s.heap.objs.size] → (s.heap.push { cls := .type "tuple_iterator", data := .fields #[.ref l, .int 0 0] }).get? b = some o → h'.get? b = some o) :
    ∀ b o, s.heap.get? b = some o → h'.get? b = some o := fun b o e => by
  refine hk b o (fun hm => ?_) (Heap.get?_push_of_some _ e)
  rcases List.mem_cons.mp hm with e1 | hm
  · exact absurd (e1 ▸ Heap.lt_size e) (Nat.lt_irrefl _)
  · cases hm
theorem min_intTup {Q : Value → Shared → Prop} (hh : A.handled = none) (hl : s.heap.IsTuple l (intItems xs)) (hne : 0 < xs.size)
    (h : ∀ v h' tk, (intItems xs)[argBest (fun i j => decide (numAt xs i < numAt xs j)) (xs.size - 1)]? = some v → (∀ b o, s.heap.get? b = some o → h'.get? b = some o) → Q v { s with heap := h', toks := tk }) :
    wpAny (model prog w) A (call (.builtin "min") [.ref l]) Q E s := by
  refine call_min_walk (iter_intTup hl fun s₂ e st hfp hlI => ?_)
  subst e
  refine ⟨_, _, _, _, _, _, _, rfl, Walks.tuple (A := A.in1) hh _ l hlI (intItems xs), st, hfp, by simpa [intItems] using hne, CmpOf.ints_lt (numAt xs) (fun _ _ => intItems_at), fun v h' tk hP hk => ?_⟩
  exact h v h' tk (by simpa [intItems] using hP) (old_keptT hk)
end
section
variable {X : Cx}
theorem call_minT (hc : X.calm = true) : CallR X (.builtin "min") (fun xs H Q => ∃ (p : Addr) (ns : List Int), xs = [.ref p] ∧ SqT X.K H p (ns.map V.int) ∧ 0 < ns.length ∧ ∀ m : Int, m ∈ ns → (∀ a ∈ ns, m ≤ a) → Q (.int m) H) := by
  intro pins s σ H vs us Q I r q
  obtain ⟨p, ns, rfl, hq, hne, q⟩ := q
  obtain ⟨u, rfl, rx⟩ := vals1 r
  cases rx
  obtain ⟨its, rv, pl, hz⟩ := I.tuple hq
  have hi := intsAre_of rv
  obtain ⟨ys, ey⟩ := hi.allInts.items
  have hns : ns = ys.toList.map (·.1) := by
    have e1 := hi.numsOf
    have e2 := nums_intItems ys
    rw [← ey] at e2
    exact e1.symm.trans e2
  have hsz : 0 < ys.size := by
    rw [hns, List.length_map, Array.length_toList] at hne
    exact hne
  have hl : s.heap.IsTuple p its.toArray := pl
  rw [ey] at hl
  refine min_intTup (I.ok.hd hc) hl hsz fun v g' tk hv hk => ?_
  obtain ⟨t, rfl⟩ := intItems_at hv
  obtain ⟨b1, b2⟩ := argBest_lt (numAt ys) (ys.size - 1)
  refine ⟨.int _, H, I.kept hk, ⟨t, rfl⟩, q _ ?_ fun a ha => ?_⟩
  · rw [hns, numAt_eq]
    exact getD_mem (by rw [List.length_map, Array.length_toList]; omega)
  · rw [hns] at ha
    obtain ⟨j, hj, rfl⟩ := mem_getD ha
    rw [List.length_map, Array.length_toList] at hj
    rw [← numAt_eq]
    exact b2 j (by omega)
/-- of a list or of a tuple -/
theorem call_minS (K : PySem.W.Frag) (hc : X.calm = true) (hK : X.K = K := by rfl) : CallR X (.builtin "min") (fun xs H Q => ∃ (p : Addr) (ns : List Int), xs = [.ref p] ∧ (SqL K H p (ns.map V.int) ∨ SqT K H p (ns.map V.int)) ∧ 0 < ns.length ∧ ∀ m : Int, m ∈ ns → (∀ a ∈ ns, m ≤ a) → Q (.int m) H) := by
  subst hK
  intro pins s σ H vs us Q I r q
  obtain ⟨p, ns, rfl, hq | hq, hne, q⟩ := q
  · exact call_minL hc pins s σ H _ us Q I r ⟨p, ns, rfl, hq, hne, q⟩
  · exact call_minT hc pins s σ H _ us Q I r ⟨p, ns, rfl, hq, hne, q⟩
end
/-! ### slices and sums of tuples -/
section
variable {X : Cx}
/-- t + u of two tuples, either may be empty -/
noncomputable def rCatA (K : PySem.W.Frag) : R2 := fun x y H Q => ∃ a b xs ys, x = .ref a ∧ y = .ref b ∧ H a = some (.tup xs) ∧ H b = some (.tup ys) ∧ xs.length + ys.length ≤ sizeLine ∧
  ∀ p H', Same H H' → H' p = some (.tup (xs ++ ys)) → Q (.ref p) H'
end
/-! ### the object of a class that has no __init__ of its own -/
structure MkN (K : PySem.W.Frag) (C : Addr) : Prop where
  makes : PySem.W.makesIn K C = true
  init : PySem.W.findIn K (.ref C) "__init__" = some (some (.builtin "object.__init__"))
  kp : PySem.W.keepIn K (.ref C) = true
noncomputable def tMakeN (C : Addr) : TE := fun σ H Q => ∀ x dx, H x = none → H dx = none → dx ≠ x → Q (.ref x) (upd (upd H dx (.own x)) x (.ins C dx []))
section
variable {X : Cx} {C : Addr} {x : Str} {p pos : Pos}
end
/-! ### isinstance of a caught one, several classes at once -/
section
variable {K : PySem.W.Frag} {x C : Addr}
theorem kitx_exc (F : ExcK K C) (G : ExcC K C) : PySem.W.KitX K (.ref x) (.ref C) (fun h => ∀ M, PySem.W.Looks M h (typeOf (.ref x)) (.ref C)) where
  ty := fun M _ _ ht => ht M
  it := fun _ _ kin _ => is_cls kin F.be
  ne := fun h tp dd its n sl kin htp => by
    refine Bool.eq_false_iff.mpr fun q => ?_
    have e : C = tp := Value.ref.inj (beq_iff_eq.mp q)
    subst e
    obtain ⟨bm, N, nm, qn, bs, hd, sn, sub, ab, col, dd', k0, k1, k2, k3, k5, mN, ho, _⟩ := exc_obj kin G
    have z := congrArg (fun o => o.map Obj.cls) (ho.symm.trans htp)
    simp [excClassObj] at z
  ca := fun {prog w A E Q s} kin ht k => by
    obtain ⟨h, g, d, t, os⟩ := s
    exact exc_attr kin ht F k
theorem kaf {t c : Value} {r : List Value} {b : Bool} (h : PySem.W.kitOne K t c = some false) (hr : PySem.W.kitAny K t r = some b) : PySem.W.kitAny K t (c :: r) = some b := by
  unfold PySem.W.kitAny
  rw [h]
  exact hr
theorem kan {t : Value} : PySem.W.kitAny K t [] = some false := rfl
theorem vals_refs : ∀ (as : List Addr) (us : List Value), Vals (as.map V.ref) us → us = as.map Value.ref
  | [], us, r => by
    cases r
    rfl
  | a :: as, us, r => by
    cases r with
    | cons h t =>
      cases (show _ = Value.ref a from h)
      rw [vals_refs as _ t]
      rfl
end
section
variable {X : Cx}
noncomputable def rIsiT (K : PySem.W.Frag) : List V → Hp → VK → Prop := fun xs H Q => ∃ (a C tp : Addr) (as : List Addr) (b : Bool), xs = [.ref a, .ref tp] ∧ H a = some (.ext (isExc a (.ref C))) ∧ H tp = some (.tup (as.map V.ref)) ∧ ExcK K C ∧ ExcC K C ∧
  PySem.W.kitAny K (.ref C) (as.map Value.ref) = some b ∧ Q (.bl b) H
theorem call_isiT (K : PySem.W.Frag) (hK : X.K = K := by rfl) : CallR X (.builtin "isinstance") (rIsiT K) := by
  subst hK
  intro pins s σ H xs us Q I r h
  obtain ⟨a, C, tp, as, b, rfl, ha, hp, F, G, e, q⟩ := h
  obtain ⟨u0, u1, rfl, r0, r1⟩ := Vals.two r
  cases r0
  cases r1
  obtain ⟨o, vs, e1, e2, _⟩ := (I.hok a _ ha).1
  obtain ⟨its, rv, ⟨⟨c1, d1, t1, l1⟩, ho, hc, n, hd⟩, _⟩ := I.tuple (SqT.of hp)
  simp only at hc hd
  subst hc hd
  rw [← vals_refs as its rv] at e
  refine PySem.W.kia_tup (kitx_exc F G) I.kIn (fun M => ?_) ho e (fun z => nomatch z) fun tk => ⟨.bl b, H, I.kept fun _ _ z => z, rfl, q⟩
  have z : PySem.W.Looks M s.heap (typeOf (.ref a)) o.cls := (PySem.W.Looks.ld e1).andThen .now
  rw [e2] at z
  exact z
end
/-! ### the place of an int in a tuple of ints -/
section
variable {X : Cx}
noncomputable def rIndexT (K : PySem.W.Frag) : V → List V → Hp → VK → Prop := fun x vs H Q => ∃ (l : Addr) (ns : List Int) (y : Int) (j : Nat), x = .ref l ∧ vs = [.int y] ∧ SqT K H l (ns.map V.int) ∧ ns[j]? = some y ∧ (∀ m, m < j → ns[m]? ≠ some y) ∧ Q (.int (j : Nat)) H
end
section
variable {X : Cx}
end
/-! ### range(a, b, -1) -/
section
variable {X : Cx} {tg : Expr}
noncomputable def iRngD (ta : TA) : TI := fun σ H R => ta σ H fun vs H1 => ∃ i j : Int, vs = [.int i, .int j, .int (-1)] ∧ (-(2 ^ 60) ≤ i ∧ i < 2 ^ 60 ∧ -(2 ^ 60) ≤ j ∧ j < 2 ^ 60) ∧ R (ItS i (-1) (i - j).toNat) H1
end
/-! ### lists of pairs as tables -/
section
variable {κ : Type} [DecidableEq κ]
noncomputable def valV (kvs : List (κ × V)) (k : κ) : Option V := (kvs.find? fun kv => decide (kv.1 = k)).map (·.2)
/-- in its place, or at the end -/
noncomputable def putK (kvs : List (κ × V)) (k : κ) (v : V) : List (κ × V) :=
  if (kvs.any fun kv => decide (kv.1 = k)) = true then kvs.map (fun kv => if kv.1 = k then (kv.1, v) else kv) else kvs ++ [(k, v)]
noncomputable def dropK (kvs : List (κ × V)) (k : κ) : List (κ × V) := kvs.filter fun kv => decide (kv.1 ≠ k)

theorem valV_pos {p : κ × V} {r : List (κ × V)} {k : κ} (e : p.1 = k) : valV (p :: r) k = some p.2 := by simp [valV, List.find?_cons, e]
theorem valV_neg {p : κ × V} {r : List (κ × V)} {k : κ} (e : ¬ p.1 = k) : valV (p :: r) k = valV r k := by simp [valV, List.find?_cons, e]
theorem valV_any (k : κ) : ∀ kvs : List (κ × V), (kvs.any fun kv => decide (kv.1 = k)) = (valV kvs k).isSome
  | [] => rfl
  | p :: r => by
    rw [List.any_cons]
    by_cases e : p.1 = k
    · simp only [valV_pos e, decide_eq_true e, Bool.true_or, Option.isSome_some]
    · rw [valV_neg e, decide_eq_false e, Bool.false_or]; exact valV_any k r
theorem valV_map (k j : κ) (y : V) : ∀ kvs : List (κ × V), valV (kvs.map fun kv => if kv.1 = k then (kv.1, y) else kv) j = (valV kvs j).map fun x => if j = k then y else x
  | [] => rfl
  | p :: r => by
    have ih := valV_map k j y r
    rw [List.map_cons]
    by_cases h : p.1 = k
    · rw [if_pos h]
      by_cases e : p.1 = j
      · rw [valV_pos (p := (p.1, y)) e, valV_pos e, Option.map_some, if_pos (e.symm.trans h)]
      · rw [valV_neg (p := (p.1, y)) e, valV_neg e, ih]
    · rw [if_neg h]
      by_cases e : p.1 = j
      · rw [valV_pos (p := p) e, valV_pos e, Option.map_some, if_neg (fun z => h (e.trans z))]
      · rw [valV_neg (p := p) e, valV_neg e, ih]
theorem valV_snoc (k j : κ) (y : V) : ∀ kvs : List (κ × V), valV kvs k = none → valV (kvs ++ [(k, y)]) j = if j = k then some y else valV kvs j
  | [], _ => by
    by_cases e : k = j
    · rw [if_pos e.symm]; exact valV_pos (p := (k, y)) e
    · rw [if_neg (fun z => e z.symm)]; exact valV_neg (p := (k, y)) e
  | p :: r, hn => by
    rw [List.cons_append]
    have hk : ¬ p.1 = k := fun z => by rw [valV_pos z] at hn; cases hn
    rw [valV_neg hk] at hn
    have ih := valV_snoc k j y r hn
    by_cases e : p.1 = j
    · rw [valV_pos e, valV_pos e, if_neg (fun z => hk (e.trans z))]
    · rw [valV_neg e, valV_neg e, ih]
theorem valV_put (kvs : List (κ × V)) (k j : κ) (y : V) : valV (putK kvs k y) j = if j = k then some y else valV kvs j := by
  unfold putK
  by_cases a : (kvs.any fun kv => decide (kv.1 = k)) = true
  · rw [if_pos a, valV_map]
    rw [valV_any] at a
    by_cases e : j = k
    · obtain ⟨x, hx⟩ := Option.isSome_iff_exists.mp a
      rw [if_pos e, e, hx, Option.map_some, if_pos rfl]
    · rw [if_neg e]
      cases valV kvs j with
      | none => rfl
      | some x => rw [Option.map_some, if_neg e]
  · rw [if_neg a]
    refine valV_snoc k j y kvs ?_
    rw [valV_any] at a
    cases q : valV kvs k with
    | none => rfl
    | some x => rw [q] at a; exact (a rfl).elim
theorem length_putK (kvs : List (κ × V)) (k : κ) (v : V) : (putK kvs k v).length ≤ kvs.length + 1 := by
  unfold putK
  split
  · rw [List.length_map]; omega
  · rw [List.length_append, List.length_cons, List.length_nil]; omega
theorem putK_new {kvs : List (κ × V)} {k : κ} (v : V) (h : valV kvs k = none) : putK kvs k v = kvs ++ [(k, v)] := by
  unfold putK
  rw [valV_any, h]
  exact if_neg (by decide)

theorem RelO.isSome_eq {o : Option V} {u : Option Value} (r : RelO o u) : o.isSome = u.isSome := by
  cases o with
  | none => cases u with
    | none => rfl
    | some _ => exact (show False from r).elim
  | some _ => cases u with
    | none => exact (show False from r).elim
    | some _ => rfl
theorem RelO.getD {o : Option V} {u : Option Value} {d : V} {d' : Value} (r : RelO o u) (rd : RelV d d') : RelV (o.getD d) (u.getD d') := by
  cases o with
  | none => cases u with
    | none => exact rd
    | some _ => exact (show False from r).elim
  | some _ => cases u with
    | none => exact (show False from r).elim
    | some _ => exact r

/-- raw tables of the same keys -/
theorem KV.val {kvs : List (κ × V)} {vs : List (κ × Value)} (r : KV kvs vs) (k : κ) : RelO (valV kvs k) (valueAt vs k) := by
  unfold KV at r
  induction r with
  | nil => exact True.intro
  | @cons p q ps qs h t ih =>
    obtain ⟨h1, h2⟩ := h
    by_cases e : p.1 = k
    · have e' : q.1 = k := h1.symm.trans e
      have b : valueAt (q :: qs) k = some q.2 := by simp [valueAt, List.find?_cons, e']
      rw [valV_pos e, b]; exact h2
    · have e' : ¬ q.1 = k := fun z => e (h1.trans z)
      have b : valueAt (q :: qs) k = valueAt qs k := by simp [valueAt, List.find?_cons, e']
      rw [valV_neg e, b]; exact ih
theorem KV.any {kvs : List (κ × V)} {vs : List (κ × Value)} (r : KV kvs vs) (k : κ) : (kvs.any fun kv => decide (kv.1 = k)) = vs.any fun kv => decide (kv.1 = k) := by
  unfold KV at r
  induction r with
  | nil => rfl
  | cons h t ih => rw [List.any_cons, List.any_cons, ih, h.1]
theorem KV.repl {kvs : List (κ × V)} {vs : List (κ × Value)} (r : KV kvs vs) (k : κ) {y : V} {u : Value} (ry : RelV y u) :
    KV (kvs.map fun kv => if kv.1 = k then (kv.1, y) else kv) (vs.map fun kv => if kv.1 = k then (kv.1, u) else kv) := by
  unfold KV at r ⊢
  induction r with
  | nil => exact .nil
  | @cons p q ps qs h t ih =>
    rw [List.map_cons, List.map_cons]
    refine .cons ?_ ih
    obtain ⟨h1, h2⟩ := h
    by_cases e : p.1 = k
    · rw [if_pos e, if_pos (h1.symm.trans e)]; exact ⟨h1, ry⟩
    · rw [if_neg e, if_neg (fun z => e (h1.trans z))]; exact ⟨h1, h2⟩
theorem KV.put {kvs : List (κ × V)} {vs : List (κ × Value)} (r : KV kvs vs) (k : κ) {y : V} {u : Value} (ry : RelV y u) : KV (putK kvs k y) (stored vs k u) := by
  unfold putK stored
  rw [r.any k]
  by_cases e : (vs.any fun kv => decide (kv.1 = k)) = true
  · rw [if_pos e, if_pos e]; exact r.repl k ry
  · rw [if_neg e, if_neg e]; exact Paired.snoc r ⟨rfl, ry⟩
theorem KV.drop {kvs : List (κ × V)} {vs : List (κ × Value)} (r : KV kvs vs) (k : κ) : KV (dropK kvs k) (without vs k) := by
  unfold KV at r ⊢
  unfold dropK without
  induction r with
  | nil => exact .nil
  | @cons p q ps qs h t ih =>
    obtain ⟨h1, h2⟩ := h
    rw [List.filter_cons, List.filter_cons]
    by_cases e : p.1 = k
    · have a : ¬ decide (p.1 ≠ k) = true := by simp [e]
      have b : ¬ decide (q.1 ≠ k) = true := by simp [h1.symm.trans e]
      rw [if_neg a, if_neg b]; exact ih
    · have e' : ¬ q.1 = k := fun z => e (h1.trans z)
      have a : decide (p.1 ≠ k) = true := by simp [e]
      have b : decide (q.1 ≠ k) = true := by simp [e']
      rw [if_pos a, if_pos b]; exact .cons ⟨h1, h2⟩ ih
theorem KV.keys {kvs : List (κ × V)} {vs : List (κ × Value)} (r : KV kvs vs) : kvs.map (·.1) = vs.map (·.1) := by
  unfold KV at r
  induction r with
  | nil => rfl
  | cons h t ih => rw [List.map_cons, List.map_cons, ih, h.1]
theorem KV.length {kvs : List (κ × V)} {vs : List (κ × Value)} (r : KV kvs vs) : kvs.length = vs.length := Paired.length r
theorem dropK_le (kvs : List (κ × V)) (k : κ) : (dropK kvs k).length ≤ kvs.length := List.length_filter_le _ _
end


/-! ### a tracked dict, its keys ints and texts or tuples of these -/
theorem kV_is {P : Program} {w : World} {k : Key} {u : Value} (r : RelV (kV k) u) : (mixKind P w).is k u = true := by
  cases k with
  | inl i => obtain ⟨t, e⟩ := (show ∃ t, u = Value.int i t from r); subst e; exact mixKind_int P w i t
  | inr x => obtain ⟨t, e⟩ := (show ∃ t, u = Value.str x t from r); subst e; exact mixKind_str P w x t
/-- raw entries of a dict with tuple keys -/
noncomputable abbrev KT (H : Hp) : List ((List Int × Int) × V) → List ((List Int × Int) × Addr × Value) → Prop := Paired fun p q => p.1 = q.1 ∧ StH H q.2.1 p.1 ∧ RelV p.2 q.2.2
theorem KT.val {H : Hp} {kvs : List ((List Int × Int) × V)} {xs : List ((List Int × Int) × Addr × Value)} (r : KT H kvs xs) (k : (List Int × Int)) : RelO (valV kvs k) ((atKey xs k).map (·.2)) := by
  induction r with
  | nil => exact True.intro
  | @cons p q ps qs h t ih =>
    obtain ⟨h1, _, h2⟩ := h
    by_cases e : p.1 = k
    · have e' : q.1 = k := h1.symm.trans e
      have b : atKey (q :: qs) k = some q.2 := by simp [atKey, List.find?_cons, e']
      rw [valV_pos e, b]; exact h2
    · have e' : ¬ q.1 = k := fun z => e (h1.trans z)
      have b : atKey (q :: qs) k = atKey qs k := by simp [atKey, List.find?_cons, e']
      rw [valV_neg e, b]; exact ih
theorem KT.repl {H : Hp} {kvs : List ((List Int × Int) × V)} {xs : List ((List Int × Int) × Addr × Value)} (r : KT H kvs xs) (k : (List Int × Int)) {y : V} {u : Value} (ry : RelV y u) :
    KT H (kvs.map fun kv => if kv.1 = k then (kv.1, y) else kv) (xs.map (putAt k u)) := by
  induction r with
  | nil => exact .nil
  | @cons p q ps qs h t ih =>
    rw [List.map_cons, List.map_cons]
    refine .cons ?_ ih
    obtain ⟨h1, h2, h3⟩ := h
    unfold putAt
    by_cases e : p.1 = k
    · rw [if_pos e, if_pos (h1.symm.trans e)]; exact ⟨h1, h2, ry⟩
    · rw [if_neg e, if_neg (fun z => e (h1.trans z))]; exact ⟨h1, h2, h3⟩
theorem KT.put {H : Hp} {kvs : List ((List Int × Int) × V)} {xs : List ((List Int × Int) × Addr × Value)} (r : KT H kvs xs) (k : (List Int × Int)) {b : Addr} {y : V} {u : Value} (hb : StH H b k) (ry : RelV y u) :
    KT H (putK kvs k y) (storedH xs k b u) := by
  have e : (kvs.any fun kv => decide (kv.1 = k)) = (atKey xs k).isSome := by
    rw [valV_any, (r.val k).isSome_eq, Option.isSome_map]
  unfold putK storedH
  rw [e]
  by_cases q : (atKey xs k).isSome = true
  · rw [if_pos q, if_pos q]; exact r.repl k ry
  · rw [if_neg q, if_neg q]; exact Paired.snoc r ⟨rfl, hb, ry⟩
theorem KT.keeps {H H' : Hp} {kvs : List ((List Int × Int) × V)} {xs : List ((List Int × Int) × Addr × Value)} (r : KT H kvs xs) (ht : ∀ b ys, H b = some (.tup ys) → H' b = some (.tup ys)) : KT H' kvs xs :=
  Paired.mapP r fun _ _ z => ⟨z.1, z.2.1.up ht, z.2.2⟩

section
variable {P : Program} {w : World} {H : Hp} {h : Heap} {a : Addr}
theorem rd_of {u : HO} (ok : HOk P w H h) (e : Rd H a u) : ObjOk P w H h a u := e.ok ok
theorem dk_rd {kvs : List (Key × V)} (ok : HOk P w H h) (e : Rd H a (.dK kvs)) : kvs.length ≤ sizeLine ∧ (a == sysModules) = false ∧ ∃ vs, KV kvs vs ∧ h.DictOf (mixKind P w) a vs :=
  show ObjOk P w H h a (.dK kvs) from rd_of ok e
theorem dk_of {kvs : List (Key × V)} (ok : HOk P w H h) (e : H a = some (.dK kvs)) : kvs.length ≤ sizeLine ∧ (a == sysModules) = false ∧ ∃ vs, KV kvs vs ∧ h.DictOf (mixKind P w) a vs := dk_rd ok (.inl e)
/-- a tracked tuple of ints and texts is a key -/
theorem ints_are {P : Program} {w : World} : ∀ {ks : List Int} {us : List Value}, Vals (ks.map V.int) us → ItemsAre (intKind P w) ks us
  | [], us, r => by
    cases r
    exact .nil
  | k :: ks, us, r => by
    cases r with
    | cons h t =>
      obtain ⟨tk, rfl⟩ := h
      exact .cons (by simp [intKind, Value.isInt]) (ints_are t)
theorem stand_room {P : Program} {w : World} {A : Around} (hu : A.units + 20 < cLine) : (standKind P w).room A.in1 := by
  first | (show A.units + 1 + 8 < cLine; omega) | (show A.units + 8 < cLine; omega)
theorem key_of {ks : List Int × Int} (ok : HOk P w H h) (e : StH H a ks) : (standKind P w).is h ks a := by
  obtain ⟨u, e1, e2⟩ := e
  obtain ⟨_, its, r, o, h1, h2, n, h3⟩ := (show ObjOk P w H h a (.tup [.ref u, .int ks.2]) from ok a _ e1)
  obtain ⟨_, its2, r2, o2, g1, g2, m, g3⟩ := (show ObjOk P w H h u (.tup (ks.1.map V.int)) from ok u _ e2)
  cases r with
  | cons r1 rr =>
    cases rr with
    | cons r3 rr =>
      cases rr
      cases (show _ = Value.ref u from r1)
      obtain ⟨t, rfl⟩ := r3
      exact ⟨o, n, u, t, h1, h2, h3, o2, its2.toArray, m, g1, g2, g3, by simpa using ints_are r2⟩
theorem dt_rd {kvs : List ((List Int × Int) × V)} (ok : HOk P w H h) (e : Rd H a (.dT kvs)) : kvs.length ≤ sizeLine ∧ (a == sysModules) = false ∧
    ∃ xs, KT H kvs xs ∧ h.DictOfH (standKind P w) a xs := by
  obtain ⟨z, y, xs, r, o, es, ep, h1, h2, h3, h4, h5⟩ := (show ObjOk P w H h a (.dT kvs) from rd_of ok e)
  refine ⟨z, y, xs, r, o, es, ep, h1, h2, h3, h4, fun x hx => ?_, h5⟩
  have all : ∀ {l : List ((List Int × Int) × V)} {m : List ((List Int × Int) × Addr × Value)}, KT H l m → ∀ x ∈ m, (standKind P w).is h x.1 x.2.1 := by
    intro l m q
    induction q with
    | nil => intro x hx; exact nomatch hx
    | @cons p q ps qs hq t ih =>
      intro x hx
      rcases List.mem_cons.mp hx with e | hx
      · subst e
        exact key_of ok (by rw [← hq.1]; exact hq.2.1)
      · exact ih x hx
  exact all r x hx
theorem dt_of {kvs : List ((List Int × Int) × V)} (ok : HOk P w H h) (e : H a = some (.dT kvs)) : kvs.length ≤ sizeLine ∧ (a == sysModules) = false ∧
    ∃ xs, KT H kvs xs ∧ h.DictOfH (standKind P w) a xs := dt_rd ok (.inl e)
end

/-- what the dict at a holds at the key y -/
noncomputable def DGet (H : Hp) (a : Addr) (y : V) (r : Option V) : Prop :=
  (∃ kvs k, Rd H a (.dK kvs) ∧ y = kV k ∧ r = valV kvs k) ∨ ∃ kvs k b, Rd H a (.dT kvs) ∧ y = .ref b ∧ StH H b k ∧ r = valV kvs k
/-- the heap behind a[y] = v -/
noncomputable def DPut (H : Hp) (a : Addr) (y v : V) (H' : Hp) : Prop :=
  (∃ kvs k, H a = some (.dK kvs) ∧ y = kV k ∧ kvs.length < sizeLine ∧ H' = upd H a (.dK (putK kvs k v))) ∨
  ∃ kvs k b, H a = some (.dT kvs) ∧ y = .ref b ∧ StH H b k ∧ kvs.length < sizeLine ∧ H' = upd H a (.dT (putK kvs k v))
theorem DGet.k {H : Hp} {a : Addr} {kvs : List (Key × V)} {k : Key} (e : H a = some (.dK kvs)) : DGet H a (kV k) (valV kvs k) := .inl ⟨kvs, k, .inl e, rfl, rfl⟩
theorem DGet.t {H : Hp} {a b : Addr} {kvs : List ((List Int × Int) × V)} {k : (List Int × Int)} (e : H a = some (.dT kvs)) (eb : StH H b k) : DGet H a (.ref b) (valV kvs k) := .inr ⟨kvs, k, b, .inl e, rfl, eb, rfl⟩
theorem DPut.k {H : Hp} {a : Addr} {kvs : List (Key × V)} {k : Key} {v : V} (e : H a = some (.dK kvs)) (hl : kvs.length < sizeLine) : DPut H a (kV k) v (upd H a (.dK (putK kvs k v))) := .inl ⟨kvs, k, e, rfl, hl, rfl⟩
theorem DPut.t {H : Hp} {a b : Addr} {kvs : List ((List Int × Int) × V)} {k : (List Int × Int)} {v : V} (e : H a = some (.dT kvs)) (eb : StH H b k) (hl : kvs.length < sizeLine) :
    DPut H a (.ref b) v (upd H a (.dT (putK kvs k v))) := .inr ⟨kvs, k, b, e, rfl, eb, hl, rfl⟩


section
variable {X : Cx} {pins : List (Addr × Obj)} {σ : St} {H : Hp} {s : Shared} {a : Addr} {y v : V} {u r : Value} {o : Option V} {A : Around} {E : Value → Shared → Prop}

theorem Inv.big (I : Inv X pins σ H s) : sysModules < s.heap.objs.size := by
  have h : mainGlobals < s.heap.objs.size := (I.mod.glob.keeps I.bk).lt
  exact Nat.lt_trans (by decide) h

/-- d[y], there -/
theorem d_getItem {Q : Value → Shared → Prop} (hu : A.units + 20 < cLine) (I : Inv X pins σ H s) (g : DGet H a y (some v)) (ry : RelV y u) (h : ∀ w' s', Inv X pins σ H s' → RelV v w' → Q w' s') :
    wpAny (model X.prog X.w) A (getItem (.ref a) u) Q E s := by
  rcases g with ⟨kvs, k, e, ey, l⟩ | ⟨kvs, k, b, e, ey, eb, l⟩
  · subst ey
    obtain ⟨z, hd, vs, rel, dd⟩ := dk_rd I.hok e
    obtain ⟨w', hw, rw'⟩ := RelO.some_of (v := v) (o := valueAt vs k) (by rw [l]; exact rel.val k)
    exact wpAny_getItem_of (kV_is ry) dd.mapOf hw (h w' _ (I.tok _) rw')
  · subst ey
    cases (show u = Value.ref b from ry)
    obtain ⟨z, hd, xs, rel, dd⟩ := dt_rd I.hok e
    obtain ⟨w', hw, rw'⟩ := RelO.some_of (v := v) (o := (atKey xs k).map (·.2)) (by rw [l]; exact rel.val k)
    obtain ⟨p, hp, hp2⟩ := Option.map_eq_some_iff.mp hw
    refine wpAny_getItem_heap (stand_room hu) (key_of I.hok eb) dd hp ?_
    rw [hp2]
    exact h w' _ (I.tok _) rw'
/-- y in d -/
theorem d_in {Q : Value → Shared → Prop} (hu : A.units + 20 < cLine) (I : Inv X pins σ H s) (g : DGet H a y o) (ry : RelV y u) (h : ∀ s', Inv X pins σ H s' → Q (.bool o.isSome) s') :
    wpAny (model X.prog X.w) A (compareOp .In u (.ref a)) Q E s := by
  rcases g with ⟨kvs, k, e, ey, l⟩ | ⟨kvs, k, b, e, ey, eb, l⟩
  · subst ey
    obtain ⟨z, hd, vs, rel, dd⟩ := dk_rd I.hok e
    refine wpAny_in_of (kV_is ry) hd dd.mapOf ?_
    rw [← (rel.val k).isSome_eq, ← l]
    exact h _ (I.tok _)
  · subst ey
    cases (show u = Value.ref b from ry)
    obtain ⟨z, hd, xs, rel, dd⟩ := dt_rd I.hok e
    refine wpAny_in_heap (stand_room hu) (key_of I.hok eb) hd dd ?_
    have q := (rel.val k).isSome_eq
    rw [Option.isSome_map] at q
    rw [← q, ← l]
    exact h _ (I.tok _)
theorem d_notIn {Q : Value → Shared → Prop} (hu : A.units + 20 < cLine) (I : Inv X pins σ H s) (g : DGet H a y o) (ry : RelV y u) (h : ∀ s', Inv X pins σ H s' → Q (.bool (!o.isSome)) s') :
    wpAny (model X.prog X.w) A (compareOp .NotIn u (.ref a)) Q E s := by
  rcases g with ⟨kvs, k, e, ey, l⟩ | ⟨kvs, k, b, e, ey, eb, l⟩
  · subst ey
    obtain ⟨z, hd, vs, rel, dd⟩ := dk_rd I.hok e
    refine wpAny_notIn_of (kV_is ry) hd dd.mapOf ?_
    rw [← (rel.val k).isSome_eq, ← l]
    exact h _ (I.tok _)
  · subst ey
    cases (show u = Value.ref b from ry)
    obtain ⟨z, hd, xs, rel, dd⟩ := dt_rd I.hok e
    refine wpAny_notIn_heap (stand_room hu) (key_of I.hok eb) hd dd ?_
    have q := (rel.val k).isSome_eq
    rw [Option.isSome_map] at q
    rw [← q, ← l]
    exact h _ (I.tok _)
/-- a dict's object is replaced -/
theorem d_write {h' : Heap} {t' : Nat} {ob : HO} (I : Inv X pins σ H s) (mu : Mut (H a)) (hs : Heap.SameBut a s.heap h') (he : ∃ q, h'.get? a = some q) (new : ObjOk X.prog X.w (upd H a ob) h' a ob) :
    Inv X pins σ (upd H a ob) { s with heap := h', toks := t' } :=
  I.write (x := a) (e := a) mu (.inl rfl) (fun b q hb z => (hs.2 b hb).trans z) he new
theorem dk_new {P : Program} {w : World} {H' : Hp} {h' : Heap} {kvs : List (Key × V)} {vs : List (Key × Value)} (z : kvs.length ≤ sizeLine) (hd : (a == sysModules) = false) (rel : KV kvs vs) (dd : h'.DictOf (mixKind P w) a vs) :
    ObjOk P w H' h' a (.dK kvs) := ⟨z, hd, vs, rel, dd⟩
/-- d[y] = v -/
theorem d_setItem {H' : Hp} {Q : Unit → Shared → Prop} (hu : A.units + 20 < cLine) (I : Inv X pins σ H s) (g : DPut H a y v H') (ry : RelV y u) (rv : RelV v r) (h : ∀ s', Inv X pins σ H' s' → Q () s') :
    wpAny (model X.prog X.w) A (setItem (.ref a) u r) Q E s := by
  rcases g with ⟨kvs, k, e, ey, l, eH⟩ | ⟨kvs, k, b, e, ey, eb, l, eH⟩
  · subst ey eH
    obtain ⟨z, hd, vs, rel, dd⟩ := dk_of I.hok e
    have hz : vs.length ≤ sizeLine := by rw [← rel.length]; exact z
    have hl : (putK kvs k v).length ≤ sizeLine := by have := length_putK kvs k v; omega
    refine wpAny_setItem_pairs (hsz := hz) (kV_is ry) dd fun h' dd' hs => h _ ?_
    have he : ∃ q, h'.get? a = some q := let ⟨q, _, _, hq, _⟩ := dd'; ⟨q, hq⟩
    exact d_write I (by rw [e]; exact True.intro) hs he (dk_new hl hd (rel.put k rv) dd')
  · subst ey eH
    cases (show u = Value.ref b from ry)
    obtain ⟨z, hd, xs, rel, dd⟩ := dt_of I.hok e
    have hz : xs.length ≤ sizeLine := by rw [← Paired.length rel]; exact z
    have hl : (putK kvs k v).length ≤ sizeLine := by have := length_putK kvs k v; omega
    refine wpAny_setItem_heap (hsz := hz) (stand_room hu) (key_of I.hok eb) dd fun h' dd' hs => h _ ?_
    obtain ⟨q, es, ep, hq, h2, h3, h4, _, h5⟩ := dd'
    refine d_write I (by rw [e]; exact True.intro) hs ⟨q, hq⟩ ⟨hl, hd, _, (rel.put k eb rv).keeps fun c ys ec => ?_, q, es, ep, hq, h2, h3, h4, h5⟩
    rw [upd_ne (ne_of ec e (fun z => nomatch z))]
    exact ec
end

section
variable {X : Cx} {pins : List (Addr × Obj)} {σ : St} {H : Hp} {s : Shared} {a : Addr} {kvs : List (Key × V)} {k : Key} {u : Value} {A : Around} {E : Value → Shared → Prop}
/-- d.pop(k[, x]), there -/
theorem d_pop {v : V} {more : List Value} {Q : Value → Shared → Prop} (I : Inv X pins σ H s) (e : H a = some (.dK kvs)) (ry : RelV (kV k) u) (l : valV kvs k = some v) (hm : more = [] ∨ ∃ x, more = [x])
    (h : ∀ w' s', Inv X pins σ (upd H a (.dK (dropK kvs k))) s' → RelV v w' → Q w' s') : wpAny (model X.prog X.w) A (call (.builtin "dict.pop") (.ref a :: u :: more)) Q E s := by
  obtain ⟨z, hd, vs, rel, dd⟩ := dk_of I.hok e
  obtain ⟨w', hw, rw'⟩ := RelO.some_of (v := v) (o := valueAt vs k) (by rw [← l]; exact rel.val k)
  have hp : (keyPart u).isSome = true := by
    cases k with
    | inl i => obtain ⟨t, q⟩ := (show ∃ t, u = Value.int i t from ry); subst q; rfl
    | inr x => obtain ⟨t, q⟩ := (show ∃ t, u = Value.str x t from ry); subst q; rfl
  have ha : argsOk "dict.pop" ⟨.ref a :: u :: more, []⟩ := by
    rcases hm with q | ⟨x, q⟩
    · subst q; exact PySem.F.args_dict_pop_2 _ _
    · subst q; exact PySem.F.args_dict_pop_3 _ _ _
  refine call_meetsIn PySem.F.slot_dict_pop dd.typeIs PySem.F.entry_dict_pop ha (meets_dict_pop_there (mixKind X.prog X.w) a (kV_is ry) more hm hp)
    ⟨vs, w', dd, by rw [← rel.length]; exact z, hw, fun h' dd' hs => h w' _ ?_ rw'⟩
  have he : ∃ q, h'.get? a = some q := let ⟨q, _, _, hq, _⟩ := dd'; ⟨q, hq⟩
  exact d_write I (by rw [e]; exact True.intro) hs he (dk_new (Nat.le_trans (dropK_le kvs k) z) hd (rel.drop k) dd')
end


/-! ### readings and rules -/
/-- the element of a subscription, not a slice -/
noncomputable def NoSl (i : Expr) : Prop := ∀ ov iv, subscripted i false ov iv = operate [ov, iv] (getItem ov iv)
theorem subD_of {prog : Program} {w : World} {A : Around} {E : Value → Shared → Prop} {s : Shared} {env : Env} {value slice : Expr} {pos : Pos} {T id : String} {Q : Value → Shared → Prop}
    (hl : typeLookup (.type T) "__getitem__" = pure (some (.builtin id))) (hs : NoSl slice)
    (h : wpAny (model prog w) A (eval value env) (fun o s₁ => wpAny (model prog w) A (eval slice env) (fun i s₂ => s₂.TypeIs o T ∧ wpAny (model prog w) A (getItem o i) Q E s₂) E s₁) E s) :
    wpAny (model prog w) A (eval (.Subscript value slice pos) env) Q E s := by
  refine Subscript_ (wpAny_mono h (fun o s₁ h₁ => wpAny_mono h₁ (fun i s₂ h₂ => ?_) fun _ _ x => x) fun _ _ x => x)
  obtain ⟨hT, h₂⟩ := h₂
  unfold subscriptTail
  refine wpAny_bind ?_
  rw [getitemInPython_of_ne hT.not_modules]
  refine wpAny_bind (wpAny_specialOf hT hl ?_)
  have fin : wpAny (model prog w) A (subscripted slice false o i) (fun r s₃ => wpAny (model prog w) A (letTemporaryGo value o r >>= fun _ => pure r) Q E s₃) E s₂ := by
    rw [hs o i]
    exact wpAny_operating (wpAny_mono h₂ (fun r s₃ h₃ => wpAny_bind (wpAny_letTemporaryGo (wpAny_pure h₃))) fun _ _ x => x)
  first
    | exact wpAny_pure (wpAny_bind fin)
    | exact wpAny_bind (wpAny_pure (wpAny_bind fin))
    | exact wpAny_bind fin

theorem dict_typeIs {X : Cx} {pins : List (Addr × Obj)} {σ : St} {H : Hp} {s : Shared} {a : Addr} {y : V} {o : Option V} (I : Inv X pins σ H s) (g : DGet H a y o) : s.TypeIs (.ref a) "dict" := by
  rcases g with ⟨kvs, k, e, _, _⟩ | ⟨kvs, k, b, e, _, _, _⟩
  · obtain ⟨_, _, vs, _, dd⟩ := dk_rd I.hok e
    exact dd.typeIs
  · obtain ⟨_, _, xs, _, dd⟩ := dt_rd I.hok e
    exact dd.typeIs
/-- d[y] -/
noncomputable def tDGet (td ty : TE) : TE := fun σ H Q => td σ H fun x H1 => ty σ H1 fun y H2 => ∃ a v, x = .ref a ∧ DGet H2 a y (some v) ∧ Q v H2
/-- y in d, y not in d -/
noncomputable def tDIn (ty td : TE) : TE := fun σ H Q => ty σ H fun y H1 => td σ H1 fun x H2 => ∃ a o, x = .ref a ∧ DGet H2 a y o ∧ Q (.bl o.isSome) H2
noncomputable def tDNotIn (ty td : TE) : TE := fun σ H Q => ty σ H fun y H1 => td σ H1 fun x H2 => ∃ a o, x = .ref a ∧ DGet H2 a y o ∧ Q (.bl (!o.isSome)) H2
/-- d[y] = v -/
noncomputable def sDPut (td ty tv : TE) : TS := fun D σ H => tv σ H fun v H1 => td σ H1 fun x H2 => ty σ H2 fun y H3 => ∃ a H4, x = .ref a ∧ DPut H3 a y v H4 ∧ D.nx σ H4
/-- d[y] op= v -/
noncomputable def sDAug (td ty tv : TE) (rd : V → V → Hp → VK → Prop) : TS := fun D σ H => td σ H fun x H1 => ty σ H1 fun y H2 => ∃ a v, x = .ref a ∧ DGet H2 a y (some v) ∧
  tv σ H2 fun y2 H3 => rd v y2 H3 fun z H4 => ∃ H5, DPut H4 a y z H5 ∧ D.nx σ H5
/-- del d[y] -/
noncomputable def sDDel (td ty : TE) : TS := fun D σ H => td σ H fun x H1 => ty σ H1 fun y H2 => ∃ a kvs k, x = .ref a ∧ H2 a = some (.dK kvs) ∧ y = kV k ∧ (valV kvs k).isSome = true ∧ D.nx σ (upd H2 a (.dK (dropK kvs k)))

section
variable {X : Cx} {o i e value : Expr} {pos pos' tpos : Pos} {td ty tv : TE}
theorem pe_dget (hu : X.A.units + 20 < cLine) (ho : PE X o td) (hi : PE X i ty) (hs : NoSl i) : PE X (.Subscript o i pos) (tDGet td ty) := by
  intro pins s σ H Q I h
  refine subD_of PySem.F.slot_dict_getitem.lookup hs (thn (ho pins s σ H _ I h) fun u s1 ⟨x, H1, I1, rx, q1⟩ => thn (hi pins s1 σ H1 _ I1 q1) fun iv s2 hz0 => ?_)
  obtain ⟨y, H2, I2, ry, a, v, ex, g, q2⟩ := hz0
  subst ex
  obtain rfl : u = Value.ref a := rx
  exact ⟨dict_typeIs I2 g, d_getItem hu I2 g ry fun w' s3 I3 rw' => ⟨v, H2, I3, rw', q2⟩⟩
theorem pc_din (hu : X.A.units + 20 < cLine) (hi : PE X i ty) (ho : PE X o td) : PC X .In i o (tDIn ty td) := by
  intro pins s σ H Q I h
  refine thn (hi pins s σ H _ I h) fun iv s1 ⟨y, H1, I1, ry, q1⟩ => thn (ho pins s1 σ H1 _ I1 q1) fun u s2 hz0 => ?_
  obtain ⟨x, H2, I2, rx, a, ov, ex, g, q2⟩ := hz0
  subst ex
  obtain rfl : u = Value.ref a := rx
  exact d_in hu I2 g ry fun s3 I3 => ⟨.bl ov.isSome, H2, I3, rfl, q2⟩
theorem pc_dnotin (hu : X.A.units + 20 < cLine) (hi : PE X i ty) (ho : PE X o td) : PC X .NotIn i o (tDNotIn ty td) := by
  intro pins s σ H Q I h
  refine thn (hi pins s σ H _ I h) fun iv s1 ⟨y, H1, I1, ry, q1⟩ => thn (ho pins s1 σ H1 _ I1 q1) fun u s2 hz0 => ?_
  obtain ⟨x, H2, I2, rx, a, ov, ex, g, q2⟩ := hz0
  subst ex
  obtain rfl : u = Value.ref a := rx
  exact d_notIn hu I2 g ry fun s3 I3 => ⟨.bl (!ov.isSome), H2, I3, rfl, q2⟩
theorem ps_dput (hu : X.A.units + 20 < cLine) (ho : PE X o td) (hi : PE X i ty) (hv : PE X value tv) (hs : swapsWith value (some (.Subscript o i pos')) pos.line X.env = pure false) :
    PS X (.Assign [.Subscript o i pos'] value pos) (sDPut td ty tv) := by
  intro pins s σ H D I h
  refine wpAny_Assign_Subscript (thn (hv pins s σ H _ I h) fun r s1 ⟨v, H1, I1, rv, q1⟩ => thn (ho pins s1 σ H1 _ I1 q1) fun u s2 ⟨x, H2, I2, rx, q2⟩ => thn (hi pins s2 σ H2 _ I2 q2) fun iv s3 ⟨y, H3, I3, ry, a, H4, ex, g, q3⟩ => ?_) hs
  subst ex
  obtain rfl : u = Value.ref a := rx
  exact d_setItem hu I3 g ry rv fun s4 I4 => ⟨σ, H4, I4, q3⟩
end


/-! ### displays -/
theorem dk_empty {P : Program} {w : World} {H : Hp} (h : Heap) (hb : sysModules < h.objs.size) : ObjOk P w H (h.push { cls := .type "dict", data := .dict #[] }) h.objs.size (.dK []) :=
  ⟨Nat.zero_le _, beq_eq_false_iff_ne.mpr (Ne.symm (Nat.ne_of_lt hb)), [], .nil, Heap.DictOf.new h⟩
theorem dt_empty {P : Program} {w : World} {H : Hp} (h : Heap) (hb : sysModules < h.objs.size) : ObjOk P w H (h.push { cls := .type "dict", data := .dict #[] }) h.objs.size (.dT []) :=
  ⟨Nat.zero_le _, beq_eq_false_iff_ne.mpr (Ne.symm (Nat.ne_of_lt hb)), [], .nil, _, #[], 0, Heap.get?_push_size _ rfl, ⟨rfl, rfl, rfl⟩, rfl, rfl, List.nodup_nil⟩
/-- {}, to be a dict of the kind that is wanted -/
noncomputable def tDNewK : TE := fun _ H Q => ∀ p, H p = none → Q (.ref p) (upd H p (.dK []))
noncomputable def tDNewT : TE := fun _ H Q => ∀ p, H p = none → Q (.ref p) (upd H p (.dT []))
section
variable {X : Cx} {pos : Pos}
theorem pe_dnewK : PE X (.Dict [] [] pos) tDNewK := fun pins s σ H Q I h =>
  wpAny_Dict_empty ⟨.ref s.heap.objs.size, _, I.laid (a := s.heap.objs.size) (o := .dK []) (t' := s.toks) (fun _ _ q => Heap.get?_push_of_some _ q) (Nat.le_refl _) (dk_empty s.heap I.big), rfl, h _ (I.hok.fresh (Nat.le_refl _))⟩
theorem pe_dnewT : PE X (.Dict [] [] pos) tDNewT := fun pins s σ H Q I h =>
  wpAny_Dict_empty ⟨.ref s.heap.objs.size, _, I.laid (a := s.heap.objs.size) (o := .dT []) (t' := s.toks) (fun _ _ q => Heap.get?_push_of_some _ q) (Nat.le_refl _) (dt_empty s.heap I.big), rfl, h _ (I.hok.fresh (Nat.le_refl _))⟩
end

/-- the pairs of a display, from the left -/
noncomputable def tPairs : List (TE × TE) → St → Hp → (List (V × V) → Hp → Prop) → Prop
  | [], _, H, Q => Q [] H
  | (tk, tv) :: r, σ, H, Q => tk σ H fun x H1 => tv σ H1 fun y H2 => tPairs r σ H2 fun ps H3 => Q ((x, y) :: ps) H3
noncomputable abbrev VV : List (V × V) → List (Value × Value) → Prop := Paired fun p q => RelV p.1 q.1 ∧ RelV p.2 q.2
noncomputable def PPs (X : Cx) (pos : Pos) (keys : List (Option Expr)) (values : List Expr) (trs : List (TE × TE)) : Prop :=
  ∀ (pins : List (Addr × Obj)) (s : Shared) (σ : St) (H : Hp) (Q : List (V × V) → Hp → Prop), Inv X pins σ H s → tPairs trs σ H Q →
    wpAny (model X.prog X.w) X.A (evalPairs (pairTrees keys values X.env pos)) (fun vs s' => ∃ ps H', Inv X pins σ H' s' ∧ VV ps vs ∧ Q ps H') X.xe s
theorem pps_nil {X : Cx} {pos : Pos} : PPs X pos [] [] [] := fun pins s σ H Q I h => pairTrees_nil_walk ⟨[], H, I, .nil, h⟩
theorem pps_cons {X : Cx} {pos : Pos} {k v : Expr} {ks : List (Option Expr)} {vs : List Expr} {tk tv : TE} {trs : List (TE × TE)} (hk : PE X k tk) (hv : PE X v tv) (hr : PPs X pos ks vs trs) :
    PPs X pos (some k :: ks) (v :: vs) ((tk, tv) :: trs) := fun pins s σ H Q I h =>
  pairTrees_cons_walk (thn (hk pins s σ H _ I h) fun u s1 ⟨x, H1, I1, rx, q1⟩ => thn (hv pins s1 σ H1 _ I1 q1) fun w2 s2 ⟨y, H2, I2, ry, q2⟩ =>
    thn (hr pins s2 σ H2 _ I2 q2) fun ws s3 ⟨ps, H3, I3, rel, q3⟩ => ⟨(x, y) :: ps, H3, I3, .cons ⟨rx, ry⟩ rel, q3⟩)

noncomputable def mergeK (kvs more : List (Key × V)) : List (Key × V) := more.foldl (fun acc kv => putK acc kv.1 kv.2) kvs
/-- {k: v, ..} with keys ints and texts; the new dict stands empty while the pairs are made -/
noncomputable def tDisp (trs : List (TE × TE)) : TE := fun σ H Q => ∀ p, H p = none → tPairs trs σ (upd H p (.dK [])) fun ps H2 => H2 p = some (.dK []) ∧ ∃ kvs : List (Key × V), ps = kvs.map (fun kv => (kV kv.1, kv.2)) ∧ kvs.length ≤ 15 ∧ Q (.ref p) (upd H2 p (.dK (mergeK [] kvs)))
/-! ### methods -/
/-- a method call o.m(e) of a built-in, with one argument: what must be seen of the text -/
structure M1 (X : Cx) (o : Expr) (m : Str) (apos : Pos) (e : Expr) (cpos : Pos) : Prop where
  base : attributeBase o m X.env (eval o X.env) = eval o X.env
  few : ((backTo cpos (starEach [e] X.env)).all (fun x => !x.1) && (backToKw cpos (keywordEach [] X.env)).all (fun x => x.1.isSome)
    && decide (([e] : List Expr).length + ([] : List Keyword).length + (if ([] : List Keyword).isEmpty then 0 else 1) < 30)) = true
  line : (apos.endLine == cpos.line) = true
  trees : backTo cpos (starEach [e] X.env) = [(false, eval e X.env)]
structure M2 (X : Cx) (o : Expr) (m : Str) (apos : Pos) (e f : Expr) (cpos : Pos) : Prop where
  base : attributeBase o m X.env (eval o X.env) = eval o X.env
  few : ((backTo cpos (starEach [e, f] X.env)).all (fun x => !x.1) && (backToKw cpos (keywordEach [] X.env)).all (fun x => x.1.isSome)
    && decide (([e, f] : List Expr).length + ([] : List Keyword).length + (if ([] : List Keyword).isEmpty then 0 else 1) < 30)) = true
  line : (apos.endLine == cpos.line) = true
  trees : backTo cpos (starEach [e, f] X.env) = [(false, eval e X.env), (false, eval f X.env)]

/-- a is a dict, whatever its keys -/
noncomputable def IsD (H : Hp) (a : Addr) : Prop := (∃ kvs, Rd H a (.dK kvs)) ∨ ∃ kvs, Rd H a (.dT kvs)
theorem isD_at {X : Cx} {pins : List (Addr × Obj)} {σ : St} {H : Hp} {s : Shared} {a : Addr} (I : Inv X pins σ H s) (d : IsD H a) :
    s.TypeIs (.ref a) "dict" ∧ (∀ b, Value.ref a = .ref b → ∃ ob, s.heap.get? b = some ob ∧ ob.dict = none) ∧ (a == sysModules) = false := by
  rcases d with ⟨kvs, e⟩ | ⟨kvs, e⟩
  · obtain ⟨_, hd, vs, _, dd⟩ := dk_rd I.hok e
    refine ⟨dd.typeIs, fun b q => ?_, hd⟩
    cases q
    obtain ⟨ob, _, _, h1, h2, _⟩ := dd
    exact ⟨ob, h1, h2.2.1⟩
  · obtain ⟨_, hd, xs, _, dd⟩ := dt_rd I.hok e
    refine ⟨dd.typeIs, fun b q => ?_, hd⟩
    cases q
    obtain ⟨ob, _, _, h1, h2, _⟩ := dd
    exact ⟨ob, h1, h2.2.1⟩

section
variable {X : Cx} {pins : List (Addr × Obj)} {σ : St} {H : Hp} {s : Shared} {a : Addr} {y d : V} {u r : Value} {o : Option V} {A : Around} {E : Value → Shared → Prop}
/-- d.get(y, x) -/
theorem d_get2 {Q : Value → Shared → Prop} (hu : A.units + 20 < cLine) (I : Inv X pins σ H s) (g : DGet H a y o) (ry : RelV y u) (rd : RelV d r) (h : ∀ w' s', Inv X pins σ H s' → RelV (o.getD d) w' → Q w' s') :
    wpAny (model X.prog X.w) A (call (.builtin "dict.get") [.ref a, u, r]) Q E s := by
  rcases g with ⟨kvs, k, e, ey, l⟩ | ⟨kvs, k, b, e, ey, eb, l⟩
  · subst ey
    obtain ⟨z, hd, vs, rel, dd⟩ := dk_rd I.hok e
    refine call_meetsIn PySem.F.slot_dict_get dd.typeIs PySem.F.entry_dict_get (PySem.F.args_dict_get_3 _ _ _) (meets_dict_get_default (mixKind X.prog X.w) a (kV_is ry) hd r) ⟨_, dd.mapOf, h _ _ (I.tok _) ?_⟩
    rw [l]
    exact (rel.val k).getD rd
  · subst ey
    cases (show u = Value.ref b from ry)
    obtain ⟨z, hd, xs, rel, dd⟩ := dt_rd I.hok e
    refine call_meetsIn PySem.F.slot_dict_get dd.typeIs PySem.F.entry_dict_get (PySem.F.args_dict_get_3 _ _ _) (meetsH_dict_get_default (standKind X.prog X.w) a b hd r) ⟨stand_room hu, k, xs, key_of I.hok eb, dd, h _ _ (I.tok _) ?_⟩
    rw [l]
    exact (rel.val k).getD rd
end

noncomputable def tDGet1 (td ty : TE) : TE := fun σ H Q => td σ H fun x H1 => ∃ a, x = .ref a ∧ IsD H1 a ∧ ty σ H1 fun y H2 => ∃ o, DGet H2 a y o ∧ Q (o.getD .non) H2
noncomputable def tDGet2 (td ty tx : TE) : TE := fun σ H Q => td σ H fun x H1 => ∃ a, x = .ref a ∧ IsD H1 a ∧ ty σ H1 fun y H2 => tx σ H2 fun z H3 => ∃ o, DGet H3 a y o ∧ Q (o.getD z) H3
/-- d.pop(k): there; d.pop(k, x): there or not -/
noncomputable def tDPop1 (td ty : TE) : TE := fun σ H Q => td σ H fun x H1 => ∃ a, x = .ref a ∧ IsD H1 a ∧ ty σ H1 fun y H2 => ∃ kvs k v, H2 a = some (.dK kvs) ∧ y = kV k ∧ valV kvs k = some v ∧ Q v (upd H2 a (.dK (dropK kvs k)))
noncomputable def tDPop2 (td ty tx : TE) : TE := fun σ H Q => td σ H fun x H1 => ∃ a, x = .ref a ∧ IsD H1 a ∧ ty σ H1 fun y H2 => tx σ H2 fun z H3 => ∃ kvs k, H3 a = some (.dK kvs) ∧ y = kV k ∧
  (∀ v, valV kvs k = some v → Q v (upd H3 a (.dK (dropK kvs k)))) ∧ (valV kvs k = none → Q z H3)
section
variable {X : Cx} {o e f : Expr} {apos cpos : Pos} {td ty tx : TE}
theorem pe_dget2 (hu : X.A.units + 20 < cLine) (ho : PE X o td) (he : PE X e ty) (hf : PE X f tx) (m : M2 X o "get" apos e f cpos) : PE X (.Call (.Attribute o "get" apos) [e, f] [] cpos) (tDGet2 td ty tx) := by
  intro pins s σ H Q I h
  refine wpAny_Call_method m.base m.few m.line PySem.F.plainAttrs_dict PySem.F.slot_dict_get PySem.F.type_dict_get (thn (ho pins s σ H _ I h) fun u s1 hz0 => ?_)
  obtain ⟨x, H1, I1, rx, a, ex, d, q1⟩ := hz0
  subst ex
  obtain rfl : u = Value.ref a := rx
  obtain ⟨t1, t2, _⟩ := isD_at I1 d
  refine ⟨t1, t2, ?_⟩
  rw [m.trees]
  refine Calls.callWith_builtin rfl (Calls.evalArgs_plain (Calls.spliced_cons (thn (he pins s1 σ H1 _ I1 q1) fun iv s2 ⟨y, H2, I2, ry, q2⟩ =>
    Calls.spliced_cons (thn (hf pins s2 σ H2 _ I2 q2) fun fv s3 ⟨z, H3, I3, rz, ov, g, q3⟩ => Calls.spliced_nil ?_))))
  exact d_get2 hu I3 g ry rz fun w' s4 I4 rw' => ⟨_, H3, I4, rw', q3⟩
theorem pe_dpop1 (ho : PE X o td) (he : PE X e ty) (m : M1 X o "pop" apos e cpos) : PE X (.Call (.Attribute o "pop" apos) [e] [] cpos) (tDPop1 td ty) := by
  intro pins s σ H Q I h
  refine wpAny_Call_method m.base m.few m.line PySem.F.plainAttrs_dict PySem.F.slot_dict_pop PySem.F.type_dict_pop (thn (ho pins s σ H _ I h) fun u s1 hz0 => ?_)
  obtain ⟨x, H1, I1, rx, a, ex, d, q1⟩ := hz0
  subst ex
  obtain rfl : u = Value.ref a := rx
  obtain ⟨t1, t2, _⟩ := isD_at I1 d
  refine ⟨t1, t2, ?_⟩
  rw [m.trees]
  refine Calls.callWith_builtin rfl (Calls.evalArgs_plain (Calls.spliced_cons (thn (he pins s1 σ H1 _ I1 q1) fun iv s2 ⟨y, H2, I2, ry, kvs, k, v, ea, ey, l, q2⟩ => Calls.spliced_nil ?_)))
  subst ey
  exact d_pop I2 ea ry l (.inl rfl) fun w' s3 I3 rw' => ⟨v, _, I3, rw', q2⟩
end

/-! ### dict(d): a copy -/
section
variable {X : Cx} {pins : List (Addr × Obj)} {σ : St} {H : Hp} {s : Shared} {a : Addr} {kvs : List (Key × V)} {A : Around} {E : Value → Shared → Prop}
end


section
variable {X : Cx} {pins : List (Addr × Obj)} {σ : St} {H : Hp} {s : Shared} {a : Addr} {y : V} {u : Value} {A : Around} {E : Value → Shared → Prop}
end
/-! ### a dict's pairs: keys that differ -/
section
variable {κ : Type} [DecidableEq κ]
theorem valV_not {kvs : List (κ × V)} {k : κ} (h : valV kvs k = none) : ¬ k ∈ kvs.map (·.1) := by
  intro m
  obtain ⟨p, hp, e⟩ := List.mem_map.mp m
  have q : (kvs.any fun kv => decide (kv.1 = k)) = true := List.any_eq_true.mpr ⟨p, hp, decide_eq_true e⟩
  rw [valV_any, h] at q
  exact absurd q (by simp)
theorem dropK_pos {p : κ × V} {r : List (κ × V)} {k : κ} (e : p.1 = k) : dropK (p :: r) k = dropK r k := by
  unfold dropK
  rw [List.filter_cons, if_neg (by simp [e])]
end
/-! ### d.items(), by the entries themselves (whatever the keys are) -/
section
variable {P : Program} {w : World} {A : Around} {E : Value → Shared → Prop} {s : Shared}
theorem pair_own {it d : Addr} {i n ep : Nat} {ok ov key val : Value} {Q : Value → Shared → Prop} (hit : IsItemIter s.heap it d i n ep ok ov)
    (hQ : ∀ h', IsItemIterOut h' it d i n ep key val s.heap.objs.size → h'.get? s.heap.objs.size = some { cls := .type "tuple", data := .seq #[key, val] } → (∀ b o, b ≠ it → s.heap.get? b = some o → h'.get? b = some o) → Q (.ref s.heap.objs.size) { s with heap := h' }) :
    wpAny (model P w) A (Builtin.Dict_items.pairFromOwner (.ref it) 6 key val) Q E s := by
  unfold Builtin.Dict_items.pairFromOwner; refine wpAny_bind (wpAny_newTuple ?_)
  have hlt : it < s.heap.objs.size := Heap.lt_size hit
  have a1 : IsItemIter (s.heap.push { cls := .type "tuple", data := .seq #[key, val] }) it d i n ep ok ov := Heap.get?_push_of_some _ hit
  have a2 : (s.heap.push { cls := .type "tuple", data := .seq #[key, val] }).get? s.heap.objs.size = some { cls := .type "tuple", data := .seq #[key, val] } := Heap.get?_push_size _ rfl
  have a3 : ∀ b o, s.heap.get? b = some o → (s.heap.push { cls := .type "tuple", data := .seq #[key, val] }).get? b = some o := fun b o z => Heap.get?_push_of_some _ z
  show wpAny (model P w) A (Builtin.Dict_items.ownedTupleIsFree (.ref it) >>= _) Q E { s with heap := s.heap.push { cls := .type "tuple", data := .seq #[key, val] } }
  generalize s.heap.push { cls := .type "tuple", data := .seq #[key, val] } = h1 at a1 a2 a3 ⊢
  unfold Builtin.Dict_items.ownedTupleIsFree; refine wpAny_bind (wpAny_bind (wpAny_field a1 rfl (x := .none) rfl (wpAny_pure ?_))); simp only [if_true]
  refine wpAny_bind (wpAny_field a1 rfl (x := ok) rfl (wpAny_bind (wpAny_field a1 rfl (x := ov) rfl ?_)))
  refine wpAny_bind (wpAny_setField_rec a1 (by simp) fun h2 b2 c2 => wpAny_bind ?_)
  have b2' : IsItemIter h2 it d i n ep key ov := b2
  refine wpAny_setField_rec b2' (by simp) fun h3 b3 c3 => wpAny_bind ?_
  have b3' : IsItemIter h3 it d i n ep key val := b3
  refine wpAny_setField_rec b3' (by simp) fun h4 b4 c4 => wpAny_bind ?_
  have b4' : IsItemIterOut h4 it d i n ep key val s.heap.objs.size := b4
  refine wpAny_setField_rec b4' (by simp) fun h5 b5 c5 => wpAny_bind (wpAny_letGo (wpAny_pure ?_))
  have up : ∀ b o, b ≠ it → h1.get? b = some o → h5.get? b = some o := fun b o hb z => c5.extBut b o hb (c4.extBut b o hb (c3.extBut b o hb (c2.extBut b o hb z)))
  exact hQ h5 b5 (up _ _ (Nat.ne_of_gt hlt) a2) fun b o hb z => up b o hb (a3 b o z)
theorem di_place {it d : Addr} {i ep : Nat} {es : Array DictEntry} {ok ov : Value} {o : Obj} {Q : Option Value → Shared → Prop} (hit : IsItemIter s.heap it d i es.size ep ok ov) (hod : s.heap.get? d = some o) (hdd : o.data = .dict es ep)
    {en : DictEntry} (he : es[i]? = some en)
    (hQ : ∀ h', IsItemIterOut h' it d (i + 1) es.size ep en.key en.val s.heap.objs.size → h'.get? s.heap.objs.size = some { cls := .type "tuple", data := .seq #[en.key, en.val] } → (∀ b o, b ≠ it → s.heap.get? b = some o → h'.get? b = some o) → Q (some (.ref s.heap.objs.size)) { s with heap := h' }) :
    wpAny (model P w) A (pyNext (.ref it)) Q E s := by
  have hT : s.TypeIs (.ref it) "dict_itemiterator" := ⟨_, hit, rfl⟩
  have own : Builtin.Dict_items.ownsTuple "dict_itemiterator" = true := by decide
  unfold pyNext; refine wpAny_bind (wpAny_attempt (wpAny_callSpecial?_slot (name := Str.ofString "__next__") hT F.slot_dict_itemiterator_next (wpAny_call_entry F.slot_dict_itemiterator_next hT F.entry_dict_itemiterator_next ?_ (F.args_dict_itemiterator_next_1 _))))
  refine wpAny_bind (wpAny_pure (wpAny_bind (wpAny_bind (wpAny_bind (wpAny_typeNameOfWhole_itemiter hT (wpAny_pure (wpAny_bind (wpAny_fieldsOf hit rfl ?_))))))))
  simp only [own, if_true]; show wpAny _ _ (if (Value.ref d == Value.none) = true then _ else _) _ _ s
  rw [if_neg (show ¬ (Value.ref d == Value.none) = true from Bool.false_ne_true)]; refine wpAny_bind (wpAny_pure (wpAny_bind (wpAny_dictEntries hod hdd ?_)))
  rw [if_neg (show ¬ ((es.size : Int) != (es.size : Int)) = true by simp)]; refine wpAny_bind (wpAny_pure (wpAny_bind (wpAny_dictEpoch hod hdd ?_)))
  rw [if_neg (show ¬ ((ep : Int) != (ep : Int)) = true by simp)]; refine wpAny_pure ?_
  simp only [show ¬ ((i : Int) < 0) by omega, if_false, Int.toNat_natCast, he]
  refine wpAny_bind (wpAny_bind (wpAny_typeNameOfWhole_itemiter hT (wpAny_pure (wpAny_bind (wpAny_isOneOf_itemiter hT ?_)))))
  show wpAny _ _ (setField (.ref it) 3 (rawInt ((i : Int) + 1)) >>= _) _ _ s; refine wpAny_bind (wpAny_setField_rec hit (by simp) fun h1 b1 c1 => ?_)
  have b1' : IsItemIter h1 it d (i + 1) es.size ep ok ov := by
    have e : ((i + 1 : Nat) : Int) = (i : Int) + 1 := by omega
    unfold IsItemIter; rw [e]; simpa [rawInt] using b1
  have hT1 : Shared.TypeIs { s with heap := h1 } (.ref it) "dict_itemiterator" := ⟨_, b1', rfl⟩
  refine wpAny_bind (wpAny_holding (wpAny_bind (wpAny_isOneOf_itemiter hT1 (wpAny_bind (wpAny_isOneOf_itemiter hT1 ?_)))))
  have z1 : h1.objs.size = s.heap.objs.size := c1.1
  refine pair_own (s := { s with heap := h1 }) b1' fun h2 e1 e2 e3 => ?_
  rw [show (Shared.heap { s with heap := h1 }).objs.size = s.heap.objs.size from z1] at e1 e2 ⊢
  exact wpAny_pure ⟨_, rfl, wpAny_pure (hQ h2 e1 e2 fun b o hb z => e3 b o hb (c1.extBut b o hb z))⟩
end
/-! ### texts: sep.join(xs), which type a text has -/
section
variable {X : Cx}
/-- sep.join(xs), xs a list of texts -/
noncomputable def rJoin (K : PySem.W.Frag) : V → List V → Hp → VK → Prop := fun x xs H Q => ∃ (sep : Str) (a : Addr) (zs : List Str), x = .str sep ∧ xs = [.ref a] ∧ SqL K H a (zs.map V.str) ∧ zs.length ≤ 500 ∧ (∀ z ∈ zs, z.length ≤ 30000) ∧ sep.length ≤ 500 ∧ Q (.str (Txt.join sep zs)) H
/-- isinstance(x, c), x an own instance that is one -/
noncomputable def rIsiO (K : PySem.W.Frag) : List V → Hp → VK → Prop := fun xs H Q => ∃ (a C dx : Addr) (fs : List (Str × V)) (c : Value) (v : V), xs = [.ref a, v] ∧ H a = some (.ins C dx fs) ∧ (∀ u, RelV v u → u = c) ∧ PySem.W.kitOne K (.ref C) c = some true ∧ Q (.bl true) H
/-- a + b of lists, also of ones that are only read -/
noncomputable def rCatS (K : PySem.W.Frag) : R2 := fun x y H Q => ∃ a b xs ys, x = .ref a ∧ y = .ref b ∧ SqL K H a xs ∧ SqL K H b ys ∧ xs.length + ys.length ≤ sizeLine ∧ ∀ p, H p = none → Q (.ref p) (upd H p (.lst (xs ++ ys)))
end
section
variable {P : Program} {w : World} {A : Around} {R : Result → Shared → Prop} {K : Type} [DecidableEq K] {knd : HeapKind P w K}
noncomputable def storeAll (ps : Nat → K × Addr × Value) (xs : List (K × Addr × Value)) (i k : Nat) : List (K × Addr × Value) := (List.range' i k).foldl (fun xs j => storedH xs (ps j).1 (ps j).2.1 (ps j).2.2) xs
end
section
variable {prog : Program} {w : World} {A : Around} {E : Value → Shared → Prop} {s : Shared}
end
section
variable {P : Program} {w : World} {A : Around} {E : Value → Shared → Prop} {s : Shared} {R : Result → Shared → Prop}
end
theorem IsStand.frame {prog : Program} {w : World} {h h' : Heap} {k : List Int × Int} {a I l : Addr} {j : Nat} (x : IsStand prog w h k a) (hI : h.IsListIter I l j) (hk : ∀ b o, b ≠ I → h.get? b = some o → h'.get? b = some o) : IsStand prog w h' k a := by
  obtain ⟨o, n, u, t, ho, hc, hd, o2, its, n2, ho2, hc2, hd2, hi⟩ := x
  obtain ⟨oi, hoi, hci, _⟩ := hI
  have n1 : a ≠ I := by
    rintro rfl
    rw [hoi] at ho
    cases ho
    rw [hci] at hc
    exact absurd hc (by decide)
  have n2' : u ≠ I := by
    rintro rfl
    rw [hoi] at ho2
    cases ho2
    rw [hci] at hc2
    exact absurd hc2 (by decide)
  exact ⟨o, n, u, t, hk _ _ n1 ho, hc, hd, o2, its, n2, hk _ _ n2' ho2, hc2, hd2, hi⟩
theorem IsStand.ext {prog : Program} {w : World} {h h' : Heap} {k : List Int × Int} {a : Addr} (x : IsStand prog w h k a) (hk : ∀ b o, h.get? b = some o → h'.get? b = some o) : IsStand prog w h' k a := by
  obtain ⟨o, n, u, t, ho, hc, hd, o2, its, n2, ho2, hc2, hd2, hi⟩ := x
  exact ⟨o, n, u, t, hk _ _ ho, hc, hd, o2, its, n2, hk _ _ ho2, hc2, hd2, hi⟩
/-- the dict of pairs, from the left -/
noncomputable def putAll (kvs : List ((List Int × Int) × V)) (ps : List ((List Int × Int) × V)) : List ((List Int × Int) × V) := ps.foldl (fun acc p => putK acc p.1 p.2) kvs
section
variable {X : Cx}
/-- dict(xs), xs a list of pairs of a standing and a value -/
noncomputable def rDictP (K : PySem.W.Frag) : List V → Hp → VK → Prop := fun xs H Q => ∃ (p : Addr) (us : List V) (ps : List ((List Int × Int) × V)), xs = [.ref p] ∧ SqL K H p us ∧ us.length = ps.length ∧
  (∀ (j : Nat) u q, us[j]? = some u → ps[j]? = some q → ∃ t b, u = .ref t ∧ H t = some (.tup [.ref b, q.2]) ∧ StH H b q.1) ∧ ∀ d, H d = none → Q (.ref d) (upd H d (.dT (putAll [] ps)))
end
/-! ### x in xs by what they are through the heap -/
section
variable {X : Cx} {pins : List (Addr × Obj)} {σ : St} {H : Hp} {s : Shared} {k : Nat}
theorem rp_readsP (I : Inv X pins σ H s) {d : PyData} {v : V} {u : Value} (h : Rp H d v) (r : RelV v u) : ∃ as, Reads s.heap u d as := rp_reads I d v u h r
/-- whether a value reads as something that is like d -/
noncomputable def likeD (h : Heap) (d : PyData) (w : Value) : Bool := open Classical in if z : ∃ e as, Reads h w e as ∧ e.canLay0 = true then PyData.eqv z.choose d else false
theorem likeD_at {h : Heap} {d e : PyData} {w : Value} {as : List Addr} (r : Reads h w e as) (hc : e.canLay0 = true) : likeD h d w = PyData.eqv e d := by
  have z : ∃ e as, Reads h w e as ∧ e.canLay0 = true := ⟨e, as, r, hc⟩
  unfold likeD
  rw [dif_pos z]
  obtain ⟨bs, r', hc'⟩ := z.choose_spec
  rw [(PySem.SeqAt.Reads.unique e _ w as bs hc r r')]
theorem any_like (I : Inv X pins σ H s) {d : PyData} : ∀ {ds : List PyData} {vs : List V} {us : List Value}, RpAll H ds vs → Vals vs us → us.any (likeD s.heap d) = ds.any fun e => PyData.eqv e d
  | [], vs, us, h, r => by
    unfold RpAll at h
    subst h
    cases r
    rfl
  | e :: ds, vs, us, h, r => by
    unfold RpAll at h
    obtain ⟨x, xs, rfl, h1, h2⟩ := h
    cases r with
    | cons r1 r2 =>
      obtain ⟨as, q⟩ := rp_readsP I h1 r1
      rw [List.any_cons, List.any_cons, likeD_at q (rp_can e x h1), any_like I h2 r2]
theorem mem_like (I : Inv X pins σ H s) {A : Around} {d : PyData} {x : V} {v : Value} (hx : Rp H d x) (rx : RelV x v) (hu : A.units + d.depth < cLine) : ∀ {ds : List PyData} {vs : List V} {us : List Value}, RpAll H ds vs → Vals vs us → ∀ w ∈ us, SeqAt.EqAt A s w v (likeD s.heap d w)
  | [], vs, us, h, r, w, hw => by
    unfold RpAll at h
    subst h
    cases r
    cases hw
  | e :: ds, vs, us, h, r, w, hw => by
    unfold RpAll at h
    obtain ⟨y, ys, rfl, h1, h2⟩ := h
    cases r with
    | cons r1 r2 =>
      rcases List.mem_cons.mp hw with z | z
      · subst z
        obtain ⟨as, q⟩ := rp_readsP I h1 r1
        obtain ⟨bs, q2⟩ := rp_readsP I hx rx
        rw [likeD_at q (rp_can e y h1)]
        exact PySem.SeqAt.eqAt_reads e d A s _ _ _ _ q q2 (rp_can e y h1) (rp_can d x hx) (by omega)
      · exact mem_like I hx rx hu h2 r2 w z
end
section
variable {X : Cx} {k : Nat}
noncomputable def rInD (K : PySem.W.Frag) (neg : Bool) : R2 := fun x y H Q => ∃ (p : Addr) (us : List V) (d : PyData) (ds : List PyData), y = .ref p ∧ SqL K H p us ∧ Rp H d x ∧ RpAll H ds us ∧ d.depth ≤ 50 ∧ Q (.bl (if neg then !(ds.any fun e => PyData.eqv e d) else ds.any fun e => PyData.eqv e d)) H
theorem op_notInD (K : PySem.W.Frag) (hr : Room k X.A) (hK : X.K = K := by rfl) : OpR X (compareOp .NotIn) (rInD K true) := by
  subst hK
  intro pins s σ H x y v u Q I rx ry h
  obtain ⟨p, us, d, ds, rfl, hq, hx, hall, hd, q⟩ := h
  cases ry
  obtain ⟨its, r, pl, hz⟩ := I.list hq
  have hu := hr.units
  refine SeqAt.notIn_listAt (likeD s.heap d) pl.isList (fun w hw => mem_like I hx rx (by show X.A.units + 1 + d.depth < cLine; omega) hall r w (by simpa using hw)) ⟨.bl _, H, I, rfl, ?_⟩
  rw [show its.toArray.any (likeD s.heap d) = its.any (likeD s.heap d) by simp, any_like I hall r]
  exact q
end
/-- three names out of a tuple -/
noncomputable abbrev gThree (K : PySem.W.Frag) : TG := gTup K 3 (gCons (gName 0) (gCons (gName 1) (gCons (gName 2) gNil)))
theorem hu20 {k : Nat} {A : Around} (hr : Room k A) : A.units + 20 < cLine := by have := hr.units; omega
section
variable {X : Cx}
/-- what an expression tells, joined by a predicate -/
theorem pe_N {e : Expr} {t : TE} (h : PE X e t) : PE X e (fun σ H Q => ∃ N : VK, t σ H N ∧ ∀ v H', N v H' → Q v H') := by
  intro pins s σ H Q I z
  obtain ⟨N, z, m⟩ := z
  refine thn (h pins s σ H N I z) fun v s1 z1 => ?_
  obtain ⟨x, H1, I1, r1, q1⟩ := z1
  exact ⟨x, H1, I1, r1, m _ _ q1⟩
end
/-! ### a dict that is known to the object, and not any more -/
noncomputable def isDct : HO → Prop
  | .dK _ => True
  | .dT _ => True
  | _ => False
section
variable {X : Cx} {pins : List (Addr × Obj)} {σ : St} {H : Hp} {s : Shared} {d : Addr}
theorem Inv.swap {v u : HO} (I : Inv X pins σ H s) (e : H d = some v) (n1 : ∀ xs, v ≠ .tup xs) (n2 : ∀ ps, v ≠ .tbl ps) (n3 : ∀ y, v ≠ .own y) (n4 : ∀ o u, X.H₀ d ≠ some (.frz o u)) (ok : ObjOk X.prog X.w (upd H d u) s.heap d u) : Inv X pins σ (upd H d u) s := by
  have ht : ∀ b xs, H b = some (.tup xs) → (upd H d u) b = some (.tup xs) := fun b xs z => by
    rw [upd_ne (fun y => by rw [y, e] at z; exact n1 _ (Option.some.inj z))]
    exact z
  have hn : ∀ b, H b = none → (upd H d u) b = none := fun b z => by
    rw [upd_ne (fun y => by rw [y, e] at z; cases z)]
    exact z
  refine ⟨I.ok, I.os, I.bare, ⟨I.base.keep, I.base.slot, fun b o q n hx => hn b (I.base.free b o q n hx), I.base.there, fun b xs q => ht b xs (I.base.tups b xs q), fun b o x q => ?_, fun b ps q => ?_⟩, I.loc, I.cell, hn _ I.free, fun x c z => hn c (I.freeC x c z), fun p hp => ?_, fun b o q => ?_, I.len⟩
  · have hb : b ≠ d := fun y => by
      rw [y] at q
      exact n4 o x q
    rw [upd_ne hb]
    exact I.base.frzs b o x q
  · obtain ⟨m, z⟩ := I.base.tbls b ps q
    refine ⟨m, ?_⟩
    rw [upd_ne (fun y => by rw [y, e] at z; exact n2 _ (Option.some.inj z))]
    exact z
  · obtain ⟨a, b, c⟩ := I.pin p hp
    exact ⟨a, hn _ b, c⟩
  · by_cases hb : b = d
    · subst hb
      rw [upd_same] at q
      cases q
      exact ok
    · rw [upd_ne hb] at q
      refine (I.hok b o q).stay (fun _ _ _ z => z) (fun c z => ?_) ht
      rw [upd_ne (fun y => by rw [y, e] at z; exact n3 _ (Option.some.inj z))]
      exact z
theorem Inv.nofz {v : HO} (I : Inv X pins σ H s) (e : H d = some v) (hv : isDct v) : ∀ o u, X.H₀ d ≠ some (.frz o u) := fun o u z => by
  have y := I.base.frzs d o u z
  rw [e] at y
  cases y
  exact hv
theorem Inv.frz {v : HO} (I : Inv X pins σ H s) (e : H d = some v) (hv : isDct v) : ∃ o, s.heap.get? d = some o ∧ Inv X pins σ (upd H d (.frz o v)) s := by
  have hok := I.hok d v e
  obtain ⟨o, ho⟩ : ∃ o, s.heap.get? d = some o := by
    cases v with
    | dK kvs => obtain ⟨_, _, _, _, o, _, _, z, _⟩ := hok; exact ⟨o, z⟩
    | dT kvs => obtain ⟨_, _, _, _, o, _, _, z, _⟩ := hok; exact ⟨o, z⟩
    | _ => exact hv.elim
  have n1 : ∀ xs, v ≠ .tup xs := fun xs z => by rw [z] at hv; exact hv
  have n2 : ∀ ps, v ≠ .tbl ps := fun ps z => by rw [z] at hv; exact hv
  have n3 : ∀ y, v ≠ .own y := fun y z => by rw [z] at hv; exact hv
  refine ⟨o, ho, I.swap e n1 n2 n3 (I.nofz e hv) ⟨ho, hok.stay (fun _ _ _ z => z) (fun c z => ?_) (fun b xs z => ?_)⟩⟩
  · rw [upd_ne (fun y => by rw [y, e] at z; exact n3 _ (Option.some.inj z))]
    exact z
  · rw [upd_ne (fun y => by rw [y, e] at z; exact n1 _ (Option.some.inj z))]
    exact z
theorem Inv.thaw {v : HO} {o : Obj} (I : Inv X pins σ H s) (e : H d = some (.frz o v)) (n4 : ∀ o u, X.H₀ d ≠ some (.frz o u)) : Inv X pins σ (upd H d v) s := by
  refine I.swap e (fun _ z => nomatch z) (fun _ z => nomatch z) (fun _ z => nomatch z) n4 ((I.hok d _ e).2.stay (fun _ _ _ z => z) (fun c z => ?_) (fun b xs z => ?_))
  · rw [upd_ne (fun y => by rw [y, e] at z; cases z)]
    exact z
  · rw [upd_ne (fun y => by rw [y, e] at z; cases z)]
    exact z
end
/-- a statement while which a dict is known, and behind which it is no more -/
noncomputable def sThaw (t : TS) : TS := fun D σ H => ∃ d u, isDct u ∧ H d = some u ∧ t { D with nx := fun σ' H' => ∃ o, H' d = some (.frz o u) ∧ D.nx σ' (upd H' d u) } σ H
noncomputable def tThaw (t : TE) : TE := fun σ H Q => ∃ d u, isDct u ∧ H d = some u ∧ t σ H fun v H' => ∃ o, H' d = some (.frz o u) ∧ Q v (upd H' d u)
section
variable {X : Cx}
theorem ps_thaw {st : Stmt} {t : TS} (h : PS X st t) : PS X st (sThaw t) := by
  intro pins s σ H D I z
  obtain ⟨d, u, hu, e, z⟩ := z
  have n4 := I.nofz e hu
  refine thn (h pins s σ H _ I z) fun f s1 q => ?_
  cases f with
  | next =>
    obtain ⟨σ', H', I', o, e', q'⟩ := q
    exact ⟨σ', _, I'.thaw e' n4, q'⟩
  | brk => exact q
  | cont => exact q
  | ret v => exact q
end
/-! ### for x, y in d.items() -/
section
variable {P : Program} {w : World} {A : Around} {E : Value → Shared → Prop} {s : Shared}
theorem di_items {d : Addr} {o : Obj} {Q : Value → Shared → Prop} (hs : (d == sysModules) = false) (ho : s.heap.get? d = some o) (hx : o.ExactDict)
    (h : Q (.ref s.heap.objs.size) { s with heap := s.heap.push { cls := .type "dict_items", data := .fields #[.ref d] } }) : wpAny (model P w) A (call (.builtin "dict.items") [.ref d]) Q E s := by
  have hT : s.TypeIs (.ref d) "dict" := ⟨o, ho, hx.1⟩
  refine wpAny_call_entry F.slot_dict_items hT F.entry_dict_items ?_ (F.args_dict_items_1 _)
  unfold Builtin.«dict.items» Builtin.Dict.noArgs
  refine wpAny_bind (wpAny_bind (wpAny_notOrdered_dict hT ?_))
  refine wpAny_bind (wpAny_of_eq (a := ()) rfl ?_)
  refine wpAny_bind (wpAny_of_eq (a := Value.ref d) rfl ?_)
  refine wpAny_of_eq (a := d) rfl ?_
  refine wpAny_bind ?_
  unfold Builtin.Dict.showsAll
  rw [hs, if_neg Bool.false_ne_true]
  refine wpAny_pure ?_
  refine wpAny_bind ?_
  unfold newFields
  exact wpAny_newObj_type (wpAny_pure ⟨_, rfl, h⟩)
theorem di_iter {v d : Addr} {o : Obj} {es : Array DictEntry} {ep : Nat} {Q : Value → Shared → Prop} (hv : s.heap.IsItemsView v d) (ho : s.heap.get? d = some o) (hdd : o.data = .dict es ep)
    (h : Q (.ref s.heap.objs.size) { s with heap := s.heap.push { cls := .type "dict_itemiterator", data := .fields #[.none, .bool false, .ref d, .int 0 0, .int es.size 0, .int ep 0, .none, .none] } }) : wpAny (model P w) A (pyIter (.ref v)) Q E s := by
  obtain ⟨ov, hov, hc, hd⟩ := hv
  have hT : s.TypeIs (.ref v) "dict_items" := ⟨ov, hov, hc⟩
  refine wpAny_pyIter_slot hT F.slot_dict_items_iter (wpAny_call_entry F.slot_dict_items_iter hT F.entry_dict_items_iter ?_ (F.args_dict_items_iter_1 _))
  unfold Builtin.«dict_items.__iter__» Builtin.Dict_items.slot0 Builtin.Dict_items.dictOf Builtin.Dict_items.newIterator
  refine wpAny_bind (wpAny_bind (wpAny_of_eq (a := (Value.ref v, [])) rfl (wpAny_pure ?_)))
  refine wpAny_bind (wpAny_bind (wpAny_field hov hd (x := .ref d) rfl (wpAny_of_eq (a := d) rfl ?_)))
  refine wpAny_bind (wpAny_bind (wpAny_dictEntries ho hdd (wpAny_bind (wpAny_dictEpoch ho hdd ?_))))
  show wpAny (model P w) _ (newObj (.type "dict_itemiterator") (.fields #[.none, .bool false, .ref d, .int 0 0, .int es.size 0, .int ep 0, .none, .none]) none) _ _ _
  refine wpAny_newObj_type (wpAny_pure ⟨_, rfl, "dict_itemiterator", _, ⟨_, Heap.get?_push_size _ rfl, rfl⟩, F.slot_dict_itemiterator_next.lookup, h⟩)
theorem di_end {it d : Addr} {i ep : Nat} {es : Array DictEntry} {ok ov : Value} {o : Obj} {Q : Option Value → Shared → Prop} (hh : A.handled = none) (hit : IsItemIter s.heap it d i es.size ep ok ov) (hod : s.heap.get? d = some o) (hdd : o.data = .dict es ep)
    (he : es[i]? = none) (hQ : ∀ h', Heap.ExtBut it s.heap h' → Q none { s with heap := h' }) : wpAny (model P w) A (pyNext (.ref it)) Q E s := by
  have hT : s.TypeIs (.ref it) "dict_itemiterator" := ⟨_, hit, rfl⟩
  have own : Builtin.Dict_items.ownsTuple "dict_itemiterator" = true := by decide
  unfold pyNext; refine wpAny_bind (wpAny_attempt (wpAny_callSpecial?_slot (name := Str.ofString "__next__") hT F.slot_dict_itemiterator_next (wpAny_call_entry F.slot_dict_itemiterator_next hT F.entry_dict_itemiterator_next ?_ (F.args_dict_itemiterator_next_1 _))))
  refine wpAny_bind (wpAny_pure (wpAny_bind (wpAny_bind (wpAny_bind (wpAny_typeNameOfWhole_itemiter hT (wpAny_pure (wpAny_bind (wpAny_fieldsOf hit rfl ?_))))))))
  simp only [own, if_true]; show wpAny _ _ (if (Value.ref d == Value.none) = true then _ else _) _ _ s
  rw [if_neg (show ¬ (Value.ref d == Value.none) = true from Bool.false_ne_true)]; refine wpAny_bind (wpAny_pure (wpAny_bind (wpAny_dictEntries hod hdd ?_)))
  rw [if_neg (show ¬ ((es.size : Int) != (es.size : Int)) = true by simp)]; refine wpAny_bind (wpAny_pure (wpAny_bind (wpAny_dictEpoch hod hdd ?_)))
  rw [if_neg (show ¬ ((ep : Int) != (ep : Int)) = true by simp)]; refine wpAny_pure ?_
  simp only [show ¬ ((i : Int) < 0) by omega, if_false, Int.toNat_natCast, he]
  refine wpAny_bind (wpAny_bind (wpAny_typeNameOfWhole_itemiter hT (wpAny_pure ?_)))
  show wpAny _ _ (setField (.ref it) 2 Value.none >>= _) _ _ s
  refine wpAny_bind (wpAny_setField hit rfl (by simp) ?_)
  generalize hg : Heap.update s.heap it (Obj.mapFields (·.setIfInBounds 2 Value.none)) = h2
  have eb : Heap.ExtBut it s.heap h2 := by
    rw [← hg]
    exact fun b ob hb e => (Heap.get?_update_other _ _ (Ne.symm hb)).trans e
  show wpAny (model P w) _ (newExc (.type "StopIteration") [] >>= _) _ _ { s with heap := h2 }
  refine wpAny_bind ?_; simp only [newExc, newTuple]
  refine wpAny_bind (wpAny_newObj_type (T := "tuple") ?_ (by size_fits))
  refine wpAny_bind (m := firstArgMember _ _) (wpAny_of_eq (a := Value.none) (by first | rfl | simp only [firstArgMember]) ?_)
  refine wpAny_newObj_type (T := "StopIteration") ?_ (by size_fits)
  simp only [raiseNew]; refine wpAny_bind (wpAny_handled ?_)
  first | rw [show A.in1.handled = Option.none from hh] | rw [hh]
  refine wpAny_bind (wpAny_pure (wpAny_throw ?_)); refine wpAny_bind (wpAny_isInstance (T := "StopIteration") (b := true) ⟨_, Heap.get?_push_size _ rfl, rfl⟩ isSubtype_stop ?_)
  exact wpAny_pure (hQ _ ((eb.push _).push _))
end
theorem di_ientry : entryFor table "dict_itemiterator.__iter__" = some Builtin.«dict_keyiterator.__iter__» :=
  entryFor_alias (id' := "dict_keyiterator.__iter__") (by kernel_rfl) (by first | rfl | decide +kernel | (unfold String.splitOn; simp +decide [String.splitOnAux])) (by decide +kernel) (by kernel_rfl)
/-- the pair at place i -/
noncomputable def itD : HO → Hp → Nat → V → V → Prop
  | .dT kvs, H, i, x, y => ∃ k b, kvs[i]? = some (k, y) ∧ x = .ref b ∧ StH H b k
  | .dK kvs, _, i, x, y => ∃ k, kvs[i]? = some (k, y) ∧ x = kV k
  | _, _, _, _, _ => False
noncomputable def lenD : HO → Nat
  | .dT kvs => kvs.length
  | .dK kvs => kvs.length
  | _ => 0
noncomputable def Iti (d : Addr) (o : Obj) (u : HO) : It :=
  ⟨fun i H => H d = some (.frz o u) ∧ i < lenD u, fun i H v H' => ∃ T x y, v = .ref T ∧ H T = none ∧ H' = upd H T (.tup [x, y]) ∧ itD u H i x y, fun i H => H d = some (.frz o u) ∧ lenD u ≤ i⟩
theorem mix_rel {P : Program} {w : World} {k : Key} {u : Value} (h : (mixKind P w).is k u = true) : RelV (kV k) u := by
  have h' : keyIs k u = true := h
  cases k with
  | inl i =>
    cases u <;> simp [keyIs, Value.isInt] at h'
    subst h'
    exact ⟨_, rfl⟩
  | inr x =>
    cases u <;> simp [keyIs, Value.isStrOf] at h'
    subst h'
    exact ⟨_, rfl⟩
theorem paired_get {α β : Type} {F : α → β → Prop} : ∀ {xs : List α} {ys : List β} {i : Nat}, Paired F xs ys → i < xs.length → ∃ x y, xs[i]? = some x ∧ ys[i]? = some y ∧ F x y
  | _, _, i, .nil, h => absurd h (by simp)
  | _, _, 0, .cons r _, _ => ⟨_, _, rfl, rfl, r⟩
  | _, _, i + 1, .cons _ t, h => by
    obtain ⟨x, y, e1, e2, e3⟩ := paired_get (i := i) t (by simpa using h)
    exact ⟨x, y, by simpa using e1, by simpa using e2, e3⟩
theorem paired_len {α β : Type} {F : α → β → Prop} {xs : List α} {ys : List β} (h : Paired F xs ys) : xs.length = ys.length := by
  induction h with
  | nil => rfl
  | cons r t ih => rw [List.length_cons, List.length_cons, ih]
theorem pairs_get {P : Program} {w : World} {K : Type} [DecidableEq K] {knd : PySem.KeyKind P w K} : ∀ {es : List DictEntry} {vs : List (K × Value)} {i : Nat} {kv : K × Value}, Pairs knd es vs → vs[i]? = some kv → ∃ e, es[i]? = some e ∧ knd.is kv.1 e.key = true ∧ e.val = kv.2
  | _, _, i, kv, .nil, h => by simp at h
  | _, _, 0, kv, .cons h1 h2 _, h => by
    cases (show some _ = some _ from h)
    exact ⟨_, rfl, h1, h2⟩
  | _, _, i + 1, kv, .cons _ _ t, h => by
    obtain ⟨e, e1, e2⟩ := pairs_get t (i := i) (by simpa using h)
    exact ⟨e, by simpa using e1, e2⟩
theorem pairs_len {P : Program} {w : World} {K : Type} [DecidableEq K] {knd : PySem.KeyKind P w K} {es : List DictEntry} {vs : List (K × Value)} (h : Pairs knd es vs) : es.length = vs.length := by
  induction h with
  | nil => rfl
  | cons r q t ih => rw [List.length_cons, List.length_cons, ih]
/-- a dict's entries, by what is known of it -/
theorem ent_at {P : Program} {w : World} {H : Hp} {h : Heap} {d : Addr} {o : Obj} {u : HO} {es : Array DictEntry} {ep : Nat} (ok : ObjOk P w H h d u) (hu : isDct u) (ho : h.get? d = some o) (hd : o.data = .dict es ep) :
    es.size = lenD u ∧ ∀ i, i < lenD u → ∃ e x y, es[i]? = some e ∧ RelV x e.key ∧ RelV y e.val ∧ itD u H i x y := by
  cases u with
  | dT kvs =>
    obtain ⟨_, _, xs, r, o', es', ep', h1, h2, h3, h4, h5⟩ := ok
    rw [ho] at h1
    cases h1
    rw [hd] at h3
    cases h3
    have hl := paired_len r
    refine ⟨?_, fun i hi => ?_⟩
    · show es.size = kvs.length
      rw [← Array.length_toList, h4, List.length_map, hl]
    · obtain ⟨p, q, e1, e2, e3, e4, e5⟩ := paired_get r hi
      refine ⟨entryOfKey (standKind P w) q, .ref q.2.1, p.2, ?_, rfl, e5, p.1, q.2.1, e1, rfl, e4⟩
      rw [← Array.getElem?_toList, h4, List.getElem?_map, e2]
      rfl
  | dK kvs =>
    obtain ⟨_, _, vs, r, o', es', ep', h1, h2, h3, h4, h5, h6⟩ := ok
    rw [ho] at h1
    cases h1
    rw [hd] at h3
    cases h3
    have hl : kvs.length = vs.length := r.length
    refine ⟨?_, fun i hi => ?_⟩
    · show es.size = kvs.length
      rw [← Array.length_toList, pairs_len h5, hl]
    · obtain ⟨p, q, e1, e2, e3⟩ := paired_get r hi
      obtain ⟨e, f1, f2, f3⟩ := pairs_get h5 e2
      refine ⟨e, kV p.1, p.2, by rw [← Array.getElem?_toList]; exact f1, ?_, ?_, p.1, e1, rfl⟩
      · rw [e3.1]
        exact mix_rel f2
      · rw [f3]
        exact e3.2
  | _ => exact hu.elim
theorem turn_items {P : Program} {w : World} {K : PySem.W.Frag} {elts : List Expr} {kk : Nat} {pos : Pos} {it d : Addr} {o : Obj} {u : HO} {es : Array DictEntry} {ep : Nat} (hu : isDct u) (hd : o.data = .dict es ep) (hne : d ≠ it) :
    Turn P w K (.Tuple elts kk pos) (Iti d o u) [it] it (fun i h => ∃ ok ov, IsItemIter h it d i es.size ep ok ov) where
  mem := by simp
  obj := fun i h ⟨ok, ov, st⟩ b hb => by
    have e : b = it := by simpa using hb
    subst e
    exact ⟨_, st, fun v z => by cases z⟩
  keep := fun i h h' ⟨ok, ov, st⟩ k => ⟨ok, ov, k it (by simp) _ st⟩
  item := by
    intro X hP hw hK hc i pins s σ H E I hf ⟨ok, ov, st⟩ ⟨hg1, hg2⟩
    subst hP hw hK
    obtain ⟨ho, hok⟩ := I.hok d _ hg1
    obtain ⟨hsz, hat⟩ := ent_at hok hu ho hd
    obtain ⟨e, x, y, e1, rx, ry, hi⟩ := hat i hg2
    have hlt : it < s.heap.objs.size := Heap.lt_size st
    refine di_place st ho hd e1 fun h' a1 a2 a3 => ⟨_, rfl, ?_⟩
    refine wpAny_letOwnedTupleGo_items (s := { s with heap := h' }) a1 fun h'' b1 b2 => ?_
    have hTp : h''.get? s.heap.objs.size = some { cls := .type "tuple", data := .seq #[e.key, e.val] } := b2.extBut _ _ (Nat.ne_of_gt hlt) a2
    refine ⟨.ref s.heap.objs.size, upd H s.heap.objs.size (.tup [x, y]), I.turnLaid (t' := s.toks) (ch := [it]) hf (fun c ob hc e => ?_) (Nat.le_refl _) ?_, rfl, ⟨_, x, y, rfl, I.fresh, rfl, hi⟩, ⟨_, _, b1⟩, fun c hc => ?_⟩
    · have hc' : c ≠ it := by simpa using hc
      exact b2.extBut _ _ hc' (a3 c ob hc' e)
    · exact ⟨⟨Nat.le_trans (by decide : 2 ≤ 1000) (small63 (Nat.le_refl _)), _, hTp, rfl⟩, [e.key, e.val], .cons rx (.cons ry .nil), ⟨_, hTp, rfl, 0, rfl⟩⟩
    · have hc' : c = it := by simpa using hc
      subst hc'
      rw [upd_ne (Nat.ne_of_lt hlt)]
      exact (hf c hc).1
  done := by
    intro X hP hw hK hc i pins s σ H E I hf ⟨ok, ov, st⟩ ⟨hg1, hg2⟩
    subst hP hw hK
    obtain ⟨ho, hok⟩ := I.hok d _ hg1
    obtain ⟨hsz, hat⟩ := ent_at hok hu ho hd
    refine di_end (I.ok.hd hc) st ho hd (Array.getElem?_eq_none (by omega)) fun h' eb => ⟨rfl, I.turnMany (t' := s.toks) (ch := [it]) hf fun c ob hc e => ?_⟩
    have hc' : c ≠ it := by simpa using hc
    exact eb c ob hc' e
  self := fun A i s Q E ⟨ok, ov, st⟩ hQ => by
    have hT : s.TypeIs (.ref it) "dict_itemiterator" := ⟨_, st, rfl⟩
    refine wpAny_pyIter_slot hT F.slot_dict_itemiterator_iter (wpAny_call_entry F.slot_dict_itemiterator_iter hT di_ientry ?_ (F.args_dict_itemiterator_iter_1 _))
    exact wpAny_pure ⟨_, rfl, "dict_itemiterator", _, hT, F.slot_dict_itemiterator_next.lookup, hQ⟩
section
variable {X : Cx}
noncomputable def iItems (td : TE) : TI := fun σ H R => td σ H fun x H1 => ∃ d u, x = .ref d ∧ isDct u ∧ H1 d = some u ∧ ∀ o, R (Iti d o u) (upd H1 d (.frz o u))
theorem pi_items {elts : List Expr} {kk : Nat} {tpos apos pos : Pos} {e : Expr} {td : TE} (he : PE X e td) (hbase : attributeBase e "items" X.env (eval e X.env) = eval e X.env := by rfl) (hline : (apos.endLine == pos.line) = true := by rfl) :
    PI X (.Tuple elts kk tpos) (.Call (.Attribute e "items" apos) [] [] pos) (iItems td) := by
  intro pins s σ H R I h
  refine wpAny_Call_method0_late hbase hline (thn (he pins s σ H _ I h) fun v s1 hz0 => ?_)
  obtain ⟨x, H1, I1, r1, d, u, ex, hu, hd, q⟩ := hz0
  subst ex
  obtain rfl : v = Value.ref d := r1
  obtain ⟨o, ho, I2⟩ := I1.frz hd hu
  obtain ⟨es, ep, hx, hdd, hsys⟩ : ∃ es ep, o.ExactDict ∧ o.data = .dict es ep ∧ (d == sysModules) = false := by
    have hok := I1.hok d u hd
    cases u with
    | dT kvs =>
      obtain ⟨_, y, xs, r, o', es', ep', h1, h2, h3, _⟩ := hok
      rw [ho] at h1
      cases h1
      exact ⟨es', ep', h2, h3, y⟩
    | dK kvs =>
      obtain ⟨_, y, vs, r, o', es', ep', h1, h2, h3, _⟩ := hok
      rw [ho] at h1
      cases h1
      exact ⟨es', ep', h2, h3, y⟩
    | _ => exact hu.elim
  have hT : s1.TypeIs (.ref d) "dict" := ⟨o, ho, hx.1⟩
  refine ⟨"dict", "dict.items", PySem.F.plainAttrs_dict, PySem.F.slot_dict_items, PySem.F.type_dict_items, hT, ?_, Calls.callWith_builtin rfl (PySem.evalArgs_none (di_items hsys ho hx ?_))⟩
  · intro a z
    cases z
    exact ⟨o, ho, hx.2.1⟩
  have hov : (s1.heap.push { cls := .type "dict_items", data := .fields #[.ref d] }).get? d = some o := Heap.get?_push_of_some _ ho
  refine di_iter (s := { s1 with heap := s1.heap.push { cls := .type "dict_items", data := .fields #[.ref d] } }) ⟨_, Heap.get?_push_size _ rfl, rfl, rfl⟩ hov hdd ?_
  have hk : ∀ b ob, s1.heap.get? b = some ob → ((s1.heap.push { cls := .type "dict_items", data := .fields #[.ref d] }).push { cls := .type "dict_itemiterator", data := .fields #[.none, .bool false, .ref d, .int 0 0, .int es.size 0, .int ep 0, .none, .none] }).get? b = some ob := fun b ob z => Heap.get?_push_of_some _ (Heap.get?_push_of_some _ z)
  have hsz : (s1.heap.push { cls := .type "dict_items", data := .fields #[.ref d] }).objs.size = s1.heap.objs.size + 1 := by simp [Heap.push]
  have hdl : d < s1.heap.objs.size := Heap.lt_size ho
  refine ⟨_, [_], _, Iti d o u, upd H1 d (.frz o u), rfl, I2.kept (t' := s1.toks) hk, turn_items (es := es) (ep := ep) hu hdd ?_, ⟨.none, .none, Heap.get?_push_size _ rfl⟩, fun c hc => ?_, q o⟩
  · rw [hsz]
    exact Nat.ne_of_lt (Nat.lt_succ_of_lt hdl)
  · have hle : s1.heap.objs.size ≤ c := by
      have : c = (s1.heap.push { cls := .type "dict_items", data := .fields #[.ref d] }).objs.size := by simpa using hc
      rw [this, hsz]
      omega
    exact I2.fpOk hle (I2.hok.fresh hle)
end
/-! ### loops and comprehensions over d.items(), by what holds between two turns; the dict is known while they go -/
theorem for_items {o : Obj} {u : HO} {d : Addr} {g : TG} {tb : TS} {D : Ends} {σ : St} {H : Hp} (Pv : Nat → St → Hp → Prop) (h0 : Pv 0 σ H) (hl : ∀ i σ H, i ≤ lenD u → Pv i σ H → H d = some (.frz o u))
    (hs : ∀ i x y T σ H, i < lenD u → itD u H i x y → Pv i σ H → H T = none → g (.ref T) σ (upd H T (.tup [x, y])) fun σ2 H2 => tb { D with nx := Pv (i + 1), ct := Pv (i + 1), bk := D.nx } σ2 H2) (hd : ∀ σ H, Pv (lenD u) σ H → D.nx σ H) :
    ∃ W : Nat → Nat → St → Hp → Prop, (∃ m, W 0 m σ H) ∧ ∀ i m σ H, W i m σ H →
      ((Iti d o u).stop i H ∧ D.nx σ H) ∨ ((Iti d o u).go i H ∧ ∃ N : St → Hp → Prop, (∀ σ' H', N σ' H' → ∃ m', m' < m ∧ W (i + 1) m' σ' H') ∧ ∀ x H', (Iti d o u).yld i H x H' → g x σ H' fun σ2 H2 => tb { D with nx := N, ct := N, bk := D.nx } σ2 H2) := by
  refine ⟨fun i m σ H => m = lenD u - i ∧ i ≤ lenD u ∧ Pv i σ H, ⟨lenD u, by simp, Nat.zero_le _, h0⟩, ?_⟩
  rintro i m σ H ⟨rfl, hi, p⟩
  have q1 := hl i σ H hi p
  by_cases hlt : i < lenD u
  · refine .inr ⟨⟨q1, hlt⟩, Pv (i + 1), fun σ' H' p' => ⟨lenD u - (i + 1), by omega, rfl, hlt, p'⟩, fun v H' y => ?_⟩
    obtain ⟨T, x, z, rfl, hT, rfl, e1⟩ := y
    exact hs i x z T σ H hlt e1 p hT
  · have e : i = lenD u := by omega
    subst e
    exact .inl ⟨⟨q1, Nat.le_refl _⟩, hd σ H p⟩
theorem comp_items {K : PySem.W.Frag} {o : Obj} {u : HO} {d : Addr} {fr : List Nat} {tt : TT} {te : TE} {σ : St} {D : Addr} {H1 : Hp} {Q : Hp → Prop} (Pv : Nat → List V → Hp → Prop) (h0 : Pv 0 [] (upd H1 D (.lst [])))
    (hl : ∀ i zs H, i ≤ lenD u → Pv i zs H → H d = some (.frz o u))
    (hs : ∀ i x y T zs H, i < lenD u → itD u H i x y → Pv i zs H → H T = none → tt (some x :: some y :: compFr fr σ) (upd H T (.tup [x, y])) fun b H4 =>
      if b = true then te (some x :: some y :: compFr fr σ) H4 fun v H5 => H5 D = some (.lst zs) ∧ zs.length < sizeLine ∧ Pv (i + 1) (zs ++ [v]) (upd H5 D (.lst (zs ++ [v]))) else Pv (i + 1) zs H4)
    (mt : ∀ σ H Q Q', (∀ b H', Q b H' → Q' b H') → tt σ H Q → tt σ H Q') (me : ∀ σ H Q Q', (∀ v H', Q v H' → Q' v H') → te σ H Q → te σ H Q')
    (hd : ∀ zs H, Pv (lenD u) zs H → Q H) : CompRun 2 fr (Iti d o u) (gTwo K) tt te σ D H1 Q := by
  refine ⟨fun i m zs H => m = lenD u - i ∧ i ≤ lenD u ∧ Pv i zs H, ⟨lenD u, by simp, Nat.zero_le _, h0⟩, ?_⟩
  rintro i m zs H' ⟨rfl, hi, p⟩
  have q1 := hl i zs H' hi p
  by_cases hlt : i < lenD u
  · refine .inr ⟨⟨q1, hlt⟩, fun v H2 y => ?_⟩
    obtain ⟨T, x, z, rfl, hT, rfl, e1⟩ := y
    refine ⟨T, _, rfl, SqT.of upd_same, rfl, x, _, rfl, z, _, rfl, rfl, ⟨[some x, some z], rfl, rfl⟩, ?_⟩
    refine mt _ _ _ _ ?_ (hs i x z T zs H' hlt e1 p hT)
    intro b H4 q
    cases b with
    | false => exact ⟨lenD u - (i + 1), by omega, rfl, hlt, q⟩
    | true => exact me _ _ _ _ (fun v H5 ⟨r1, r2, r3⟩ => ⟨r1, r2, lenD u - (i + 1), by omega, rfl, hlt, r3⟩) q
  · have e : i = lenD u := by omega
    subst e
    exact .inl ⟨⟨q1, Nat.le_refl _⟩, hd zs H' p⟩
/-! ### d.setdefault(k, x) at a key that lies in the heap; whether a dict is empty -/
section
variable {prog : Program} {w : World} {K : Type} [DecidableEq K] {knd : HeapKind prog w K} {A : Around} {E : Value → Shared → Prop} {s : Shared} {d a : Addr} {k : K} {xs : List (K × Addr × Value)}
theorem keys_snoc {v : Value} (hn : (xs.map (·.1)).Nodup) (hnot : k ∉ xs.map (·.1)) : ((xs ++ [(k, a, v)]).map (·.1)).Nodup := by
  rw [List.map_append, List.nodup_append]
  refine ⟨hn, by simp, fun x hx y hy => ?_⟩
  have e : y = k := by simpa using hy
  rw [e]
  exact fun e => hnot (e ▸ hx)
/-- setdefault at a key that lies in the heap -/
theorem sdf_heap {dflt : Value} {Q : Value → Shared → Prop} (hu : knd.room A) (hkey : knd.is s.heap k a) (hm : s.heap.DictOfH knd d xs) (hsz : xs.length ≤ sizeLine)
    (h1 : ∀ p, atKey xs k = some p → Q p.2 { s with toks := s.toks + knd.draws k })
    (h2 : atKey xs k = none → ∀ h', h'.DictOfH knd d (xs ++ [(k, a, dflt)]) → Heap.SameBut d s.heap h' → Q dflt { s with heap := h', toks := s.toks + knd.draws k }) :
    wpAny (model prog w) A (dictSetDefault d (.ref a) dflt) Q E s := by
  obtain ⟨o, es, ep, ho, hc, hd, he, his, hn⟩ := hm
  unfold dictSetDefault
  try with_reducible refine wpAny_holding ?_
  refine wpAny_bind (knd.pyHash hu hkey ?_)
  refine wpAny_bind (wpAny_dictFind_heap (s := { s with toks := s.toks + knd.draws k }) hu hkey ho hd he his hn ?_ ?_)
  · intro hno
    have hnot : k ∉ xs.map (·.1) := not_mem_keys_of_get hno
    have hat := atKey_none_of_get hno
    have hz : es.size ≤ sizeLine := by
      have e := size_of_entries he
      omega
    refine wpAny_bind (wpAny_rule (wpAny_bind (wpAny_updateDictKeys (hz := hz) (s := { s with toks := s.toks + knd.draws k }) ho hd (wpAny_pure (h2 hat _
      ⟨_, _, ep + 1, Heap.get?_update_self _ ho (Obj.isFreed_of_dict (Obj.data_mapDictKeys hd _)), hc.mapDictKeys _, Obj.data_mapDictKeys hd _, ?_, ?_, keys_snoc hn hnot⟩ (Heap.SameBut.update ..))))))
    · simp [he, entryOfKey]
    · intro x hx
      rcases List.mem_append.mp hx with hx | hx
      · exact knd.keeps (his x hx) ho hd (Heap.SameBut.update ..)
      · cases List.mem_singleton.mp hx
        exact knd.keeps hkey ho hd (Heap.SameBut.update ..)
  · intro j p hj
    have hat := atKey_of_get hn hj
    refine wpAny_bind (wpAny_dictEntries (s := { s with toks := s.toks + knd.draws k }) ho hd ?_)
    rw [entry_at he j, hj]
    exact wpAny_bind (wpAny_rule (wpAny_pure (h1 p hat)))
theorem meetsH_sdf (hd : (d == sysModules) = false) (dflt : Value) :
    MeetsIn prog w (Builtin.«dict.setdefault» ⟨[.ref d, .ref a, dflt], []⟩) (fun A R s => knd.room A.in1 ∧ ∃ k xs, knd.is s.heap k a ∧ s.heap.DictOfH knd d xs ∧ xs.length ≤ sizeLine ∧
      (∀ p, atKey xs k = some p → R (.ok (.ret p.2)) { s with toks := s.toks + knd.draws k }) ∧
      (atKey xs k = none → ∀ h', h'.DictOfH knd d (xs ++ [(k, a, dflt)]) → Heap.SameBut d s.heap h' → R (.ok (.ret dflt)) { s with heap := h', toks := s.toks + knd.draws k })) :=
  .of_wp fun A R s ⟨hu, k, xs, hkey, hm, hz, h1, h2⟩ => by
    unfold Builtin.«dict.setdefault» Builtin.Dict.keyAndDefault
    refine wpAny_bind (wpAny_bind (wpAny_notOrdered_dict hm.typeIs ?_))
    show wpAny _ _ (pure (d, Value.ref a, some dflt)) _ _ s
    refine wpAny_pure ?_
    show wpAny _ _ (if (d == sysModules) = true then _ else (dictSetDefault d (.ref a) dflt >>= _)) _ _ s
    rw [if_neg (by rw [hd]; exact Bool.false_ne_true)]
    exact wpAny_bind (sdf_heap hu hkey hm hz (fun p hp => wpAny_pure ⟨p.2, rfl, h1 p hp⟩) fun hn h' hm' hs' => wpAny_pure ⟨dflt, rfl, h2 hn h' hm' hs'⟩)
end
section
variable {X : Cx} {pins : List (Addr × Obj)} {σ : St} {H : Hp} {s : Shared} {a b : Addr} {kvs : List ((List Int × Int) × V)} {k : List Int × Int} {z : V} {r : Value} {A : Around} {E : Value → Shared → Prop}
theorem d_sdf {Q : Value → Shared → Prop} (hu : A.units + 20 < cLine) (I : Inv X pins σ H s) (e : H a = some (.dT kvs)) (eb : StH H b k) (hl : kvs.length < sizeLine) (rz : RelV z r)
    (h1 : ∀ v w' s', valV kvs k = some v → Inv X pins σ H s' → RelV v w' → Q w' s') (h2 : valV kvs k = none → ∀ s', Inv X pins σ (upd H a (.dT (putK kvs k z))) s' → Q r s') :
    wpAny (model X.prog X.w) A (call (.builtin "dict.setdefault") [.ref a, .ref b, r]) Q E s := by
  obtain ⟨z0, hd, xs, rel, dd⟩ := dt_of I.hok e
  have hz : xs.length ≤ sizeLine := by rw [← Paired.length rel]; exact z0
  have hv := rel.val k
  refine call_meetsIn PySem.F.slot_dict_setdefault dd.typeIs PySem.F.entry_dict_setdefault (PySem.F.args_dict_setdefault_3 _ _ _) (meetsH_sdf (knd := standKind X.prog X.w) hd r) ⟨stand_room hu, k, xs, key_of I.hok eb, dd, hz, fun p hp => ?_, fun hn h' dd' hs => ?_⟩
  · rw [hp] at hv
    cases e2 : valV kvs k with
    | none => rw [e2] at hv; exact hv.elim
    | some v =>
      rw [e2] at hv
      exact h1 v p.2 _ e2 (I.tok _) hv
  · rw [hn] at hv
    cases e2 : valV kvs k with
    | some v => rw [e2] at hv; exact hv.elim
    | none =>
      have hp : putK kvs k z = kvs ++ [(k, z)] := putK_new z e2
      refine h2 e2 _ ?_
      rw [hp]
      obtain ⟨q, es, ep, hq, g2, g3, g4, _, g5⟩ := dd'
      refine d_write I (by rw [e]; exact True.intro) hs ⟨q, hq⟩ ⟨by rw [List.length_append, List.length_singleton]; omega, hd, _, KT.keeps (Paired.snoc rel ⟨rfl, eb, rz⟩) (fun c ys ec => ?_), q, es, ep, hq, g2, g3, g4, g5⟩
      rw [upd_ne (ne_of ec e (fun z => nomatch z))]
      exact ec
end
/-- d.setdefault(y, x): what is there, or x put there -/
noncomputable def tDSdf (td ty tx : TE) : TE := fun σ H Q => td σ H fun x H1 => ∃ a, x = .ref a ∧ IsD H1 a ∧ ty σ H1 fun y H2 => tx σ H2 fun z H3 => ∃ kvs k b, y = .ref b ∧ StH H3 b k ∧ H3 a = some (.dT kvs) ∧ kvs.length < sizeLine ∧
  (∀ v, valV kvs k = some v → Q v H3) ∧ (valV kvs k = none → Q z (upd H3 a (.dT (putK kvs k z))))
section
variable {X : Cx} {o e f : Expr} {apos cpos : Pos} {td ty tx : TE}
theorem pe_dsdf (hu : X.A.units + 20 < cLine) (ho : PE X o td) (he : PE X e ty) (hf : PE X f tx) (m : M2 X o "setdefault" apos e f cpos) : PE X (.Call (.Attribute o "setdefault" apos) [e, f] [] cpos) (tDSdf td ty tx) := by
  intro pins s σ H Q I h
  refine wpAny_Call_method m.base m.few m.line PySem.F.plainAttrs_dict PySem.F.slot_dict_setdefault PySem.F.type_dict_setdefault (thn (ho pins s σ H _ I h) fun u s1 hz0 => ?_)
  obtain ⟨x, H1, I1, rx, a, ex, d, q1⟩ := hz0
  subst ex
  obtain rfl : u = Value.ref a := rx
  obtain ⟨t1, t2, _⟩ := isD_at I1 d
  refine ⟨t1, t2, ?_⟩
  rw [m.trees]
  refine Calls.callWith_builtin rfl (Calls.evalArgs_plain (Calls.spliced_cons (thn (he pins s1 σ H1 _ I1 q1) fun iv s2 ⟨y, H2, I2, ry, q2⟩ =>
    Calls.spliced_cons (thn (hf pins s2 σ H2 _ I2 q2) fun fv s3 ⟨z, H3, I3, rz, kvs, k, b, ey, eb, ea, hl, q3, q4⟩ => Calls.spliced_nil ?_))))
  subst ey
  obtain rfl : iv = Value.ref b := ry
  exact d_sdf hu I3 ea eb hl rz (fun v w' s4 hv I4 rw' => ⟨v, H3, I4, rw', q3 v hv⟩) fun hn s4 I4 => ⟨z, _, I4, rz, q4 hn⟩
/-- a dict of ints or texts as a test -/
theorem pt_truK {a : Expr} {ta : TE} (ha : PE X a ta) (he : ∀ whole, isTrue a X.env whole = (do let v ← whole; standAt a.pos; holding [v] (truthy v)) := by intro _; rfl) :
    PT X a (fun σ H Q => ta σ H fun x H' => ∃ d kvs, x = .ref d ∧ Rd H' d (.dK kvs) ∧ Q (!kvs.isEmpty) H') := by
  intro pins s σ H Q I h
  refine isTrue_plain (thn (ha pins s σ H _ I h) fun v s1 ⟨x, H1, I1, r1, d, kvs, ex, hd, q1⟩ => ?_) (he _)
  subst ex
  obtain rfl : v = Value.ref d := r1
  obtain ⟨z, hs, vs, rel, dd⟩ := dk_rd I1.hok hd
  have hl : kvs.length = vs.length := rel.length
  have h24 : sizeLine < 2 ^ 30 := by decide
  refine wpAny_truthy_dict hs dd (by omega) ⟨H1, I1.tok _, ?_⟩
  have e : kvs.isEmpty = vs.isEmpty := by
    cases kvs <;> cases vs <;> simp at hl <;> rfl
  rw [← e]
  exact q1
end
open PySem PySem.Spec PyProof.Rows PySem.SeqAt
/-- x > y tells b, and nothing changes -/
noncomputable def GtAt (A : Around) (s : Shared) (x y : Value) (b : Bool) : Prop := ∀ (prog : Program) (w : World) (E : Value → Shared → Prop) (Q : Value → Shared → Prop), Q (.bool b) s → wpAny (model prog w) A (richCompare .Gt x y) Q E s
theorem tup_gt (l b : Addr) (xs ys : Array Value) (n n2 : Nat) (dd dd2 : Option Addr) (sl sl2 : Array (Option Value)) (e : Nat → Bool) (r : Bool) :
    Meets (Builtin.«tuple.__gt__» ⟨[.ref l, .ref b], []⟩)
      (fun A R s => s.heap.get? l = some { cls := .type "tuple", dict := dd, data := .seq xs n, slots := sl } ∧ s.heap.get? b = some { cls := .type "tuple", dict := dd2, data := .seq ys n2, slots := sl2 } ∧
        (∀ j (h1 : j < xs.size) (h2 : j < ys.size), EqAt A.in1 s xs[j] ys[j] (e j)) ∧ (∀ j (h1 : j < xs.size) (h2 : j < ys.size), (∀ i, i < j → e i = true) → e j = false → GtAt A.in1 s xs[j] ys[j] r) ∧
        ((∀ j, j < min xs.size ys.size → e j = true) → r = decide (xs.size > ys.size)) ∧ R (.ok (.ret (.bool r))) s) :=
  .of_wp fun prog w A R s h => by
    obtain ⟨hp, g, d, tk, os⟩ := s
    obtain ⟨hl, hb, he, hf, hz, h⟩ := h
    have f2 := AutoSeq1.sub_tuple_tuple
    have hZ : (xs.toList.zip ys.toList).length = min xs.size ys.size := by simp
    wp_walk using wpAny_loadPart' hl, wpAny_loadPart' hb, wpAny_forIn_list _ (fun rest b s' => b.1 = none ∧ s' = ⟨hp, g, d, tk, os⟩ ∧ ∃ i, rest = (xs.toList.zip ys.toList).drop i ∧ ∀ k, k < i → k < min xs.size ys.size → e k = true) _
    case turn =>
      rintro ⟨y, x⟩ rest b s' ⟨hb', rfl, i, hq, hR⟩
      have hlt : i < (xs.toList.zip ys.toList).length := by
        apply Classical.byContradiction
        intro z
        rw [List.drop_of_length_le (by omega)] at hq
        cases hq
      have h1 : i < xs.size := by omega
      have h2 : i < ys.size := by omega
      rw [List.drop_eq_getElem_cons hlt] at hq
      injection hq with hyx hrest
      have hy : y = xs[i] := by simpa using congrArg Prod.fst hyx
      have hx : x = ys[i] := by simpa using congrArg Prod.snd hyx
      subst hy hx
      refine wpAny_bind (he i h1 h2 prog w _ _ ?_)
      cases hy : e i with
      | true =>
        wp_walk
        refine ⟨rfl, rfl, i + 1, hrest, fun k hk hk2 => ?_⟩
        by_cases z : k = i
        · rw [z]
          exact hy
        · exact hR k (by omega) hk2
      | false =>
        have hl2 := hf i h1 h2 (fun k hk => hR k hk (by omega)) hy prog w
        wp_walk using hl2 _ _
        exact ⟨_, rfl, h⟩
    case fin =>
      rintro ⟨b1, b2⟩ s' ⟨hb', rfl, i, hq, hR⟩
      simp only at hb'
      subst hb'
      have hge : min xs.size ys.size ≤ i := by
        apply Classical.byContradiction
        intro z
        rw [List.drop_eq_getElem_cons (by omega)] at hq
        cases hq
      have hr := hz fun j hj => hR j (by omega) hj
      wp_walk
      refine ⟨_, rfl, ?_⟩
      rw [hr] at h
      simpa [Builtin.Tuple.tupleCompareSizes] using h
    case h =>
      exact ⟨rfl, rfl, 0, rfl, fun k hk => absurd hk (Nat.not_lt_zero k)⟩
/-! ### the order of nested tuples of ints, from above -/
mutual
noncomputable def gtv : PyData → PyData → Bool
  | .int a, .int b => decide (a > b)
  | .tuple xs, .tuple ys => gtvAll xs ys
  | _, _ => false
noncomputable def gtvAll : List PyData → List PyData → Bool
  | [], [] => false
  | [], _ :: _ => false
  | _ :: _, [] => true
  | x :: xs, y :: ys => if PyData.eqv x y then gtvAll xs ys else gtv x y
end
theorem gtv_sizes : ∀ (xs ys : List PyData), (∀ j, j < min xs.length ys.length → pairEq xs ys j = true) → gtvAll xs ys = decide (xs.length > ys.length)
  | [], [], _ => rfl
  | [], y :: ys, _ => by simp [gtvAll]
  | x :: xs, [], _ => by simp [gtvAll]
  | x :: xs, y :: ys, h => by
    have h0 : PyData.eqv x y = true := h 0 (by simp only [List.length_cons]; omega)
    have ih := gtv_sizes xs ys fun j hj => h (j + 1) (by simp only [List.length_cons]; omega)
    rw [gtvAll, if_pos h0, ih]
    simp
mutual
theorem gt_reads : ∀ (da db : PyData) (A : Around) (s : Shared) (a b : Value) (as bs : List Addr), Reads s.heap a da as → Reads s.heap b db bs → da.canLay0 = true → db.canLay0 = true → Cmpb da db →
    A.units + min da.depth db.depth < cLine → GtAt A s a b (gtv da db)
  | .int x, db, A, s, _, _, _, _, ra, rb, _, _, hc, hu => by
    cases db with
    | int y =>
      cases ra with
      | int _ t =>
        cases rb with
        | int _ u =>
          intro prog w E Q h
          exact richCompare_gives (op := .Gt) (typeIs_int s _ t) (typeIs_int s _ u) F.slot_int_gt F.entry_int_gt (F.args_int_gt_2 _ _) (gives_int_gt _ _ t u) (fun z => nomatch z) h
    | none => exact hc.elim
    | bool _ => exact hc.elim
    | str _ => exact hc.elim
    | list _ => exact hc.elim
    | tuple _ => exact hc.elim
    | dict _ => exact hc.elim
  | .tuple xs, db, A, s, _, _, _, _, ra, rb, ha, hb, hc, hu => by
    cases db with
    | tuple ys =>
      cases ra with
      | @tuple l o vs n _ as₁ h1 h2 h3 h4 =>
        cases rb with
        | @tuple l' o' vs' n' _ bs₁ k1 k2 k3 k4 =>
          obtain ⟨oc, od, odt, osl⟩ := o
          obtain ⟨oc', od', odt', osl'⟩ := o'
          simp only at h2 h3 k2 k3
          subst h2 h3 k2 k3
          have n1 : vs.size = xs.length := by simpa using ReadsAll.length _ _ _ h4
          have n2 : vs'.size = ys.length := by simpa using ReadsAll.length _ _ _ k4
          intro prog w E Q h
          refine richCompare_meets_room (op := .Gt) ⟨_, h1, rfl⟩ ⟨_, k1, rfl⟩ F.slot_tuple_gt F.entry_tuple_gt (F.args_tuple_gt_2 _ _) (tup_gt l l' vs vs' n n' od od' osl osl' (pairEq xs ys) (gtvAll xs ys)) ⟨h1, k1, fun j j1 j2 => ?_, fun j j1 j2 f1 f2 => ?_, fun f => ?_, (fun z => nomatch z), h⟩ (room_here hu)
          · have := eqAt_readsAll xs ys A.in1 s vs.toList vs'.toList _ _ h4 k4 ha hb (room_in hu) j (by simpa using j1) (by simpa using j2)
            simpa using this
          · have := gt_readsAll xs ys A.in1 s vs.toList vs'.toList _ _ h4 k4 ha hb hc (room_in hu) j (by simpa using j1) (by simpa using j2) f1 f2
            simpa using this
          · rw [n1, n2] at f ⊢
            exact gtv_sizes xs ys f
    | none => exact hc.elim
    | bool _ => exact hc.elim
    | str _ => exact hc.elim
    | list _ => exact hc.elim
    | int _ => exact hc.elim
    | dict _ => exact hc.elim
  | .none, _, _, _, _, _, _, _, _, _, _, _, hc, _ => hc.elim
  | .bool _, _, _, _, _, _, _, _, _, _, _, _, hc, _ => hc.elim
  | .str _, _, _, _, _, _, _, _, _, _, _, _, hc, _ => hc.elim
  | .list _, _, _, _, _, _, _, _, _, _, _, _, hc, _ => hc.elim
  | .dict _, _, _, _, _, _, _, _, _, _, _, _, hc, _ => hc.elim
theorem gt_readsAll : ∀ (xs ys : List PyData) (A : Around) (s : Shared) (vs ws : List Value) (as bs : List Addr), ReadsAll s.heap vs xs as → ReadsAll s.heap ws ys bs → PyData.canLayAll0 xs = true → PyData.canLayAll0 ys = true → CmpbAll xs ys →
    A.units + min (PyData.depthAll xs) (PyData.depthAll ys) < cLine → ∀ j (h1 : j < vs.length) (h2 : j < ws.length), (∀ i, i < j → pairEq xs ys i = true) → pairEq xs ys j = false → GtAt A s vs[j] ws[j] (gtvAll xs ys)
  | [], _, _, _, _, _, _, _, ra, _, _, _, _, _, j, h1, _, _, _ => by cases ra; exact absurd h1 (Nat.not_lt_zero _)
  | _ :: _, [], _, _, _, _, _, _, _, rb, _, _, _, _, j, _, h2, _, _ => by cases rb; exact absurd h2 (Nat.not_lt_zero _)
  | x :: xs, y :: ys, A, s, _, _, _, _, ra, rb, ca, cb, hc, hu, j, h1, h2, f1, f2 => by
    cases ra with
    | cons r1 r2 =>
      cases rb with
      | cons q1 q2 =>
        have ca1 : x.canLay0 = true ∧ PyData.canLayAll0 xs = true := by simpa [PyData.canLayAll0] using ca
        have cb1 : y.canLay0 = true ∧ PyData.canLayAll0 ys = true := by simpa [PyData.canLayAll0] using cb
        have hd : A.units + min x.depth y.depth < cLine ∧ A.units + min (PyData.depthAll xs) (PyData.depthAll ys) < cLine := by
          simp only [PyData.depthAll] at hu
          omega
        cases j with
        | zero =>
          have e : gtvAll (x :: xs) (y :: ys) = gtv x y := by
            have f3 : PyData.eqv x y = false := f2
            rw [gtvAll, f3]
            rfl
          rw [e]
          exact gt_reads x y A s _ _ _ _ r1 q1 ca1.1 cb1.1 hc.1 hd.1
        | succ j =>
          have e : gtvAll (x :: xs) (y :: ys) = gtvAll xs ys := by
            have f3 : PyData.eqv x y = true := f1 0 (Nat.succ_pos _)
            rw [gtvAll, f3]
            rfl
          rw [e]
          exact gt_readsAll xs ys A s _ _ _ _ r2 q2 ca1.2 cb1.2 hc.2 hd.2 j (Nat.lt_of_succ_lt_succ h1) (Nat.lt_of_succ_lt_succ h2) (fun i hi => f1 (i + 1) (Nat.succ_lt_succ hi)) f2
end
section
variable {X : Cx} {k : Nat}
noncomputable def rGtD : R2 := fun x y H Q => ∃ d e : PyData, Rp H d x ∧ Rp H e y ∧ Cmpb d e ∧ d.depth ≤ 60 ∧ Q (.bl (gtv d e)) H
end
open PySem PySem.Spec PyProof.Rows PySem.SeqAt
/-! ### min and max of a list of data, of two data -/
section
variable {prog : Program} {w : World} {A : Around} {R : Result → Shared → Prop} {I S : Addr} {fp wr : List Addr} {St : Nat → Heap → Prop} {its : Array Value} {bt : Nat → Nat → Bool} {Good : Heap → Prop}
end

section
variable {prog : Program} {w : World} {A : Around} {R : Result → Shared → Prop} {I S : Addr} {fp wr : List Addr} {St : Nat → Heap → Prop} {its : Array Value} {bt : Nat → Nat → Bool} {Good : Heap → Prop}
end
open PySem PySem.Spec PyProof.Rows PySem.SeqAt
/-! ### min(xs), max(xs), min(x, y), max(x, y) of data -/
section
variable {X : Cx} {k : Nat}
noncomputable def bestMin (ds : List PyData) : Nat := argBest (fun i j => ltv (ds.getD i .none) (ds.getD j .none)) (ds.length - 1)
noncomputable def rMin1 (K : PySem.W.Frag) : List V → Hp → VK → Prop := fun xs H Q => ∃ (p : Addr) (us : List V) (ds : List PyData), xs = [.ref p] ∧ SqL K H p us ∧ RpAll H ds us ∧ 0 < us.length ∧ (∀ d ∈ ds, ∀ e ∈ ds, Cmpb d e) ∧ (∀ d ∈ ds, d.depth ≤ 50) ∧ ∀ v, us[bestMin ds]? = some v → Q v H
noncomputable def rMin2 : List V → Hp → VK → Prop := fun xs H Q => ∃ (x y : V) (d e : PyData), xs = [x, y] ∧ Rp H d x ∧ Rp H e y ∧ (∀ a ∈ [d, e], ∀ b ∈ [d, e], Cmpb a b) ∧ d.depth ≤ 50 ∧ e.depth ≤ 50 ∧ Q (if ltv e d = true then y else x) H
end

section
variable {X : Cx} {k : Nat}
noncomputable def bestMax (ds : List PyData) : Nat := argBest (fun i j => gtv (ds.getD i .none) (ds.getD j .none)) (ds.length - 1)
noncomputable def rMax1 (K : PySem.W.Frag) : List V → Hp → VK → Prop := fun xs H Q => ∃ (p : Addr) (us : List V) (ds : List PyData), xs = [.ref p] ∧ SqL K H p us ∧ RpAll H ds us ∧ 0 < us.length ∧ (∀ d ∈ ds, ∀ e ∈ ds, Cmpb d e) ∧ (∀ d ∈ ds, d.depth ≤ 50) ∧ ∀ v, us[bestMax ds]? = some v → Q v H
noncomputable def rMax2 : List V → Hp → VK → Prop := fun xs H Q => ∃ (x y : V) (d e : PyData), xs = [x, y] ∧ Rp H d x ∧ Rp H e y ∧ (∀ a ∈ [d, e], ∀ b ∈ [d, e], Cmpb a b) ∧ d.depth ≤ 50 ∧ e.depth ≤ 50 ∧ Q (if gtv e d = true then y else x) H
end
/-! ### how many keys a dict has, where they lie in the heap -/
section
variable {prog : Program} {w : World} {K : Type} [DecidableEq K] {knd : HeapKind prog w K} {A : Around} {E : Value → Shared → Prop} {s : Shared} {d : Addr} {xs : List (K × Addr × Value)}
end
section
variable {X : Cx}
end
/-! ### {k: v}, k in the heap -/
section
variable {X : Cx} {pos : Pos} {ke ve : Expr} {tk tv : TE}
noncomputable def tDispT (tk tv : TE) : TE := fun σ H Q => ∀ p, H p = none → tPairs [(tk, tv)] σ (upd H p (.dT [])) fun ps H2 => H2 p = some (.dT []) ∧ ∃ b k y, ps = [(.ref b, y)] ∧ StH H2 b k ∧ Q (.ref p) (upd H2 p (.dT [(k, y)]))
theorem pe_dispT (hu : X.A.units + 20 < cLine) (hk : PE X ke tk) (hv : PE X ve tv) : PE X (.Dict [some ke] [ve] pos) (tDispT tk tv) := by
  intro pins s σ H Q I q
  have hn := I.hok.fresh (Nat.le_refl s.heap.objs.size)
  have I1 := I.laid (a := s.heap.objs.size) (o := .dT []) (h' := s.heap.push { cls := .type "dict", data := .dict #[] }) (t' := s.toks) (fun _ _ q => Heap.get?_push_of_some _ q) (Nat.le_refl _) (dt_empty s.heap I.big)
  have h : PPs X pos [some ke] [ve] [(tk, tv)] := pps_cons hk hv pps_nil
  rw [arm_eval_Dict, zip_pairTrees [some ke] [ve] X.env pos rfl rfl, dictDisplay_pairs _ (by intro e; cases e) (by show 1 < 17; decide)]
  refine wpAny_bind (wpAny_standAt (wpAny_bind ?_))
  unfold subDict
  refine wpAny_bind (wpAny_alloc ?_)
  refine wpAny_bind (wpAny_holding ?_)
  rw [if_pos (show (pairTrees [some ke] [ve] X.env pos).length ≤ 15 by show 1 ≤ 15; decide)]
  refine wpAny_bind (thn (h pins _ σ _ _ I1 (q _ hn)) fun ws s2 hz0 => ?_)
  obtain ⟨ps, H2, I2, rel, e, b, k, y, ep, hb, q2⟩ := hz0
  subst ep
  cases rel with
  | @cons pa qa as bs r0 rr =>
    cases rr
    obtain ⟨w1, w2⟩ := qa
    obtain ⟨ra, ry⟩ := r0
    obtain rfl : w1 = Value.ref b := ra
    obtain ⟨z0, hd, xs, rel2, dd⟩ := dt_of I2.hok e
    cases rel2
    refine wpAny_holding ?_
    rw [List.forIn_cons]
    refine wpAny_bind (wpAny_bind (wpAny_bind (wpAny_dictSet_heap (show (standKind X.prog X.w).room X.A from (show X.A.units + 8 < cLine by omega)) (key_of I2.hok hb) dd (fun h' dd' hs => wpAny_pure ?_) (by show 0 ≤ _; exact Nat.zero_le _))))
    show wpAny _ _ (forIn ([] : List (Value × Value)) PUnit.unit _) _ _ _
    rw [List.forIn_nil]
    refine wpAny_pure (wpAny_pure (wpAny_pure (wpAny_pure ⟨.ref s.heap.objs.size, _, ?_, rfl, q2⟩)))
    obtain ⟨qo, es, ep, hq, g2, g3, g4, _, g5⟩ := dd'
    have e0 : storedH ([] : List ((List Int × Int) × Addr × Value)) k b w2 = [(k, b, w2)] := rfl
    rw [e0] at g4 g5
    refine d_write I2 (by rw [e]; exact True.intro) hs ⟨qo, hq⟩ ⟨by show 1 ≤ sizeLine; decide, hd, _, KT.keeps (.cons ⟨rfl, hb, ry⟩ .nil) (fun c ys ec => ?_), qo, es, ep, hq, g2, g3, g4, g5⟩
    rw [upd_ne (ne_of ec e (fun z => nomatch z))]
    exact ec
end
section
variable {P : Program} {w : World} {A : Around} {E : Value → Shared → Prop} {s : Shared}
end
section
variable {X : Cx}
/-- dict(D) of a dict whose keys are standings, no two of the same hash -/
noncomputable def rDictC (P : Program) (w : World) : List V → Hp → VK → Prop := fun xs H Q => ∃ (D : Addr) (kvs : List ((List Int × Int) × V)), xs = [.ref D] ∧ H D = some (.dT kvs) ∧ (kvs.map fun kv => standHash P w kv.1).Nodup ∧ ∀ d, H d = none → Q (.ref d) (upd H d (.dT kvs))
end
/-! ### the place of a thing in a list, by what they are through the heap -/
section
variable {X : Cx} {pins : List (Addr × Obj)} {σ : St} {H : Hp} {s : Shared} {k : Nat}
theorem like_get (I : Inv X pins σ H s) {d : PyData} : ∀ {ds : List PyData} {vs : List V} {us : List Value}, RpAll H ds vs → Vals vs us → ds.length = us.length ∧ ∀ (m : Nat) (w : Value) (e : PyData), us[m]? = some w → ds[m]? = some e → likeD s.heap d w = PyData.eqv e d
  | [], vs, us, h, r => by
    unfold RpAll at h
    subst h
    cases r
    exact ⟨rfl, fun m w e z => by simp at z⟩
  | e :: ds, vs, us, h, r => by
    unfold RpAll at h
    obtain ⟨x, xs, rfl, h1, h2⟩ := h
    cases r with
    | cons r1 r2 =>
      obtain ⟨as, q⟩ := rp_readsP I h1 r1
      obtain ⟨l, ih⟩ := like_get I h2 r2
      refine ⟨by rw [List.length_cons, List.length_cons, l], fun m w e' z1 z2 => ?_⟩
      cases m with
      | zero =>
        rw [List.getElem?_cons_zero] at z1 z2
        cases z1
        cases z2
        exact likeD_at q (rp_can e x h1)
      | succ m =>
        rw [List.getElem?_cons_succ] at z1 z2
        exact ih m w e' z1 z2
noncomputable def rIndexD (K : PySem.W.Frag) : V → List V → Hp → VK → Prop := fun x vs H Q => ∃ (l : Addr) (us : List V) (y : V) (d : PyData) (ds : List PyData) (j : Nat), x = .ref l ∧ vs = [y] ∧ SqL K H l us ∧ Rp H d y ∧ RpAll H ds us ∧ d.depth ≤ 50 ∧ (∃ e, ds[j]? = some e ∧ PyData.eqv e d = true) ∧ (∀ m e, m < j → ds[m]? = some e → PyData.eqv e d = false) ∧ Q (.int (j : Nat)) H
theorem mt_indexD (hr : Room k X.A) : MtM X "list.index" (rIndexD X.K) := by
  intro pins s σ H x vs v us Q I rx rv h
  obtain ⟨l, ys, y, d, ds, j, rfl, rfl, hq, hy, hall, hdep, ⟨e0, hj, he0⟩, hno, q⟩ := h
  cases rx
  obtain ⟨u, rfl, ru⟩ := rv.one
  obtain ⟨its, r, pl, hz⟩ := I.list hq
  obtain ⟨⟨oc, od, odt, osl⟩, n, e, hc, hd, hs⟩ := pl
  obtain rfl : oc = .type "list" := hc
  obtain rfl : odt = .seq its.toArray n := hs
  have hlen := r.length
  have hu := hr.units
  obtain ⟨hl2, hat⟩ := like_get (d := d) I hall r
  have hjn : j < ds.length := (List.getElem?_eq_some_iff.mp hj).1
  have h63 := line63
  refine call_meets F.slot_list_index ⟨_, e, rfl⟩ F.entry_list_index (F.args_list_index_2 _ _) (PySem.SeqAt.list_indexAt l its.toArray n od osl u (likeD s.heap d) j (by rw [List.size_toArray]; omega) ?_ ?_ ?_) ⟨e, fun z hz' => ?_, ?_⟩
  · omega
  · have hj2 : j < its.length := by omega
    have e1 : its.toArray[j]'(by rw [List.size_toArray]; omega) = its[j] := by simp
    rw [e1, hat j its[j] e0 (List.getElem?_eq_getElem hj2) hj]
    exact he0
  · intro m hm hmj
    rw [List.size_toArray] at hm
    have e1 : its.toArray[m]'(by rw [List.size_toArray]; omega) = its[m] := by simp
    rw [e1, hat m its[m] ds[m] (List.getElem?_eq_getElem hm) (List.getElem?_eq_getElem (by omega))]
    exact hno m _ hmj (List.getElem?_eq_getElem (by omega))
  · exact mem_like I hy ru (by show X.A.units + 1 + d.depth < cLine; omega) hall r z (by simpa using hz')
  · exact ⟨.int (j : Nat), H, I.tok _, ⟨_, rfl⟩, q⟩
end
/-! ### list.count by data; dict.clear of a dict with keys in the heap -/
section
variable {X : Cx} {k : Nat}
theorem count_like {pins : List (Addr × Obj)} {σ : St} {H : Hp} {s : Shared} (I : Inv X pins σ H s) {d : PyData} : ∀ {ds : List PyData} {vs : List V} {us : List Value}, RpAll H ds vs → Vals vs us → us.countP (likeD s.heap d) = ds.countP fun e => PyData.eqv e d
  | [], vs, us, h, r => by
    unfold RpAll at h
    subst h
    cases r
    rfl
  | e :: ds, vs, us, h, r => by
    unfold RpAll at h
    obtain ⟨x, xs, rfl, h1, h2⟩ := h
    cases r with
    | cons r1 r2 =>
      obtain ⟨as, q⟩ := rp_readsP I h1 r1
      rw [List.countP_cons, List.countP_cons, likeD_at q (rp_can e x h1), count_like I h2 r2]
noncomputable def rCountD (K : PySem.W.Frag) : V → List V → Hp → VK → Prop := fun x vs H Q => ∃ (l : Addr) (us : List V) (y : V) (d : PyData) (ds : List PyData), x = .ref l ∧ vs = [y] ∧ SqL K H l us ∧ Rp H d y ∧ RpAll H ds us ∧ d.depth ≤ 50 ∧ Q (.int ((ds.countP fun e => PyData.eqv e d : Nat) : Int)) H
theorem mt_countD (hr : Room k X.A) : MtM X "list.count" (rCountD X.K) := by
  intro pins s σ H x vs v us Q I rx rv h
  obtain ⟨l, ys, y, d, ds, rfl, rfl, hq, hy, hall, hdep, q⟩ := h
  cases rx
  obtain ⟨u, rfl, ru⟩ := rv.one
  obtain ⟨its, r, pl, hz⟩ := I.list hq
  obtain ⟨⟨oc, od, odt, osl⟩, n, e, hc, hd, hs⟩ := pl
  obtain rfl : oc = .type "list" := hc
  obtain rfl : odt = .seq its.toArray n := hs
  have hu := hr.units
  refine call_meets F.slot_list_count ⟨_, e, rfl⟩ F.entry_list_count (F.args_list_count_2 _ _) (PySem.SeqAt.list_countAt l its.toArray n od osl u (likeD s.heap d)) ⟨e, fun z hz' => ?_, ?_⟩
  · exact mem_like I hy ru (by show X.A.units + 1 + d.depth < cLine; omega) hall r z (by simpa using hz')
  · rw [count_like (d := d) I hall r]
    exact ⟨.int _, H, I.tok _, ⟨_, rfl⟩, q⟩
end
section
variable {P : Program} {w : World} {A : Around} {E : Value → Shared → Prop} {s : Shared}
end
section
variable {X : Cx}
noncomputable def rClearT : V → List V → Hp → VK → Prop := fun x vs H Q => ∃ D kvs, x = .ref D ∧ vs = [] ∧ H D = some (.dT kvs) ∧ Q .non (upd H D (.dT []))
end
/-! ### rows of arguments without stars, asked by a def that looks at the top alone -/
noncomputable def notStar : Expr → Bool
  | .Starred _ _ => false
  | _ => true
section
variable {X : Cx} {e : Expr} {es : List Expr} {te : TE} {t : TA}
/-- the same reading, written otherwise -/
theorem pe_eq {u u' : TE} (h : PE X e u) (hu : u = u' := by rfl) : PE X e u' := hu ▸ h
theorem pi_eq {tg : Expr} {w w' : TI} (h : PI X tg e w) (hw : w = w' := by rfl) : PI X tg e w' := hw ▸ h
noncomputable def rTupK (K : PySem.W.Frag) : List V → Hp → VK → Prop := fun xs H Q => ∃ p ys, xs = [.ref p] ∧ ((SqL K H p ys ∧ ∀ l, H l = none → Q (.ref l) (upd H l (.tup ys))) ∨ (SqT K H p ys ∧ Q (.ref p) H))
theorem call_tupK (K : PySem.W.Frag) (hK : X.K = K := by rfl) : CallR X (.type "tuple") (rTupK K) := by
  subst hK
  exact call_tuple_of
end
end L2


namespace Law
local macro_rules | `(tactic| omega) => `(tactic| lia)
open PySem L2 PyProof.Rows
open PySem.Builtin.Int (intBits)
noncomputable def top (i : Nat) : Stmt := PySem.Challenge.pw_roundcall_k88_joining_refused.main.body.getD i (.Pass ⟨0, 0, 0, 0⟩)
noncomputable abbrev s_hall_of : Stmt := top 16
noncomputable abbrev s_may_lose : Stmt := top 17
noncomputable abbrev s_is_listener : Stmt := top 18
noncomputable abbrev s_refuse_wrong_turn : Stmt := top 19
noncomputable abbrev s_left_behind : Stmt := top 20
noncomputable abbrev s_quiet_behind : Stmt := top 21
noncomputable abbrev s_after : Stmt := top 22
noncomputable abbrev s_all_behind : Stmt := top 23
noncomputable abbrev s_quiet_values : Stmt := top 24
noncomputable abbrev s_how_many : Stmt := top 25
noncomputable abbrev s_all_left : Stmt := top 26
noncomputable abbrev s_standings : Stmt := top 27
noncomputable abbrev s_calls_by_standing : Stmt := top 29
noncomputable abbrev s_ways_to : Stmt := top 30
noncomputable abbrev s_without_calls_left : Stmt := top 31
noncomputable abbrev s_ranks : Stmt := top 32
noncomputable abbrev s_with_newcomer : Stmt := top 34
noncomputable abbrev s_joined : Stmt := top 35
noncomputable abbrev s_may_join : Stmt := top 36
noncomputable abbrev s_lengthen_ways : Stmt := top 37
noncomputable abbrev s_way_in : Stmt := top 38
noncomputable abbrev s_law_cell : Stmt := top 40
noncomputable abbrev s_law_other : Stmt := top 41
noncomputable abbrev s_law_refusal : Stmt := top 42
noncomputable abbrev s_law_many : Stmt := top 43
noncomputable abbrev s_law_hall : Stmt := top 44
noncomputable abbrev s_law_standing : Stmt := top 45
noncomputable abbrev s_law_wait : Stmt := top 46
noncomputable abbrev s_law_due : Stmt := top 47
noncomputable abbrev s_law : Stmt := top 48
theorem sc_hall_of : FnScope (["waits", "calm"] : List Str) ["waits", "calm"] (defScope s_hall_of) := ⟨rfl, rfl, rfl, by decide +kernel, rfl, by decide +kernel, by decide +kernel⟩
theorem sc_may_lose : FnScope (["hall", "standing"] : List Str) ["hall", "standing"] (defScope s_may_lose) := ⟨rfl, rfl, rfl, by decide +kernel, rfl, by decide +kernel, by decide +kernel⟩
theorem sc_is_listener : FnScope (["hall", "who"] : List Str) ["hall", "who"] (defScope s_is_listener) := ⟨rfl, rfl, rfl, by decide +kernel, rfl, by decide +kernel, by decide +kernel⟩
theorem sc_refuse_wrong_turn : FnScope (["hall", "standing", "who", "lost"] : List Str) ["hall", "standing", "who", "lost"] (defScope s_refuse_wrong_turn) := ⟨rfl, rfl, rfl, by decide +kernel, rfl, by decide +kernel, by decide +kernel⟩
theorem sc_left_behind : FnScope (["hall", "standing", "who", "lost", "left"] : List Str) ["hall", "standing", "who", "lost"] (defScope s_left_behind) := ⟨rfl, rfl, rfl, by decide +kernel, rfl, by decide +kernel, by decide +kernel⟩
noncomputable def cx_left_behind_0 : Scope := { kind := .function, names := [(PySem.Str.ofString ".0", NameKind.local), (PySem.Str.ofString "turns", NameKind.local)], isGenerator := false, isCoroutine := false, more := [] }
theorem cs_left_behind_0 : CompSc (defScope s_left_behind) cx_left_behind_0 (["hall", "standing", "who", "lost", "left"] : List Str) (["turns"] : List Str) [] := ⟨rfl, by decide +kernel, by decide +kernel, by decide +kernel, by decide +kernel⟩
theorem nd_left_behind_0 : (compN (["hall", "standing", "who", "lost", "left"] : List Str) (["turns"] : List Str) []).Nodup := by decide +kernel
theorem sc_quiet_behind : FnScope (["hall", "standing", "lost"] : List Str) ["hall", "standing", "lost"] (defScope s_quiet_behind) := ⟨rfl, rfl, rfl, by decide +kernel, rfl, by decide +kernel, by decide +kernel⟩
theorem sc_after : FnScope (["hall", "standing", "who", "lost", "left"] : List Str) ["hall", "standing", "who", "lost"] (defScope s_after) := ⟨rfl, rfl, rfl, by decide +kernel, rfl, by decide +kernel, by decide +kernel⟩
theorem sc_all_behind : FnScope (["hall", "standing", "who", "behind"] : List Str) ["hall", "standing", "who"] (defScope s_all_behind) := ⟨rfl, rfl, rfl, by decide +kernel, rfl, by decide +kernel, by decide +kernel⟩
theorem sc_quiet_values : FnScope (["hall"] : List Str) ["hall"] (defScope s_quiet_values) := ⟨rfl, rfl, rfl, by decide +kernel, rfl, by decide +kernel, by decide +kernel⟩
theorem sc_how_many : FnScope (["hall", "product", "wait"] : List Str) ["hall"] (defScope s_how_many) := ⟨rfl, rfl, rfl, by decide +kernel, rfl, by decide +kernel, by decide +kernel⟩
theorem sc_all_left : FnScope (["waits", "rows", "wait", "longer", "row"] : List Str) ["waits"] (defScope s_all_left) := ⟨rfl, rfl, rfl, by decide +kernel, rfl, by decide +kernel, by decide +kernel⟩
noncomputable def cx_all_left_0 : Scope := { kind := .function, names := [(PySem.Str.ofString ".0", NameKind.local), (PySem.Str.ofString "turns", NameKind.local), (PySem.Str.ofString "row", NameKind.free)], isGenerator := false, isCoroutine := false, more := [] }
theorem cs_all_left_0 : CompSc (defScope s_all_left) cx_all_left_0 (["waits", "rows", "wait", "longer", "row"] : List Str) (["turns"] : List Str) [4] := ⟨rfl, by decide +kernel, by decide +kernel, by decide +kernel, by decide +kernel⟩
theorem nd_all_left_0 : (compN (["waits", "rows", "wait", "longer", "row"] : List Str) (["turns"] : List Str) [4]).Nodup := by decide +kernel
theorem sc_standings : FnScope (["hall", "told", "left"] : List Str) ["hall"] (defScope s_standings) := ⟨rfl, rfl, rfl, by decide +kernel, rfl, by decide +kernel, by decide +kernel⟩
noncomputable def cx_standings_0 : Scope := { kind := .function, names := [(PySem.Str.ofString ".0", NameKind.local), (PySem.Str.ofString "quiet", NameKind.local), (PySem.Str.ofString "left", NameKind.free)], isGenerator := false, isCoroutine := false, more := [] }
theorem cs_standings_0 : CompSc (defScope s_standings) cx_standings_0 (["hall", "told", "left"] : List Str) (["quiet"] : List Str) [2] := ⟨rfl, by decide +kernel, by decide +kernel, by decide +kernel, by decide +kernel⟩
theorem nd_standings_0 : (compN (["hall", "told", "left"] : List Str) (["quiet"] : List Str) [2]).Nodup := by decide +kernel
theorem sc_calls_by_standing : FnScope (["hall", "pending", "standing", "calls", "who", "behind"] : List Str) ["hall"] (defScope s_calls_by_standing) := ⟨rfl, rfl, rfl, by decide +kernel, rfl, by decide +kernel, by decide +kernel⟩
theorem sc_ways_to : FnScope (["pending", "ways", "standing", "calls", "who", "behind", "later"] : List Str) ["pending"] (defScope s_ways_to) := ⟨rfl, rfl, rfl, by decide +kernel, rfl, by decide +kernel, by decide +kernel⟩
theorem sc_without_calls_left : FnScope (["pending", "ways", "ranked", "bare", "later", "standing", "who", "calls"] : List Str) ["pending", "ways", "ranked"] (defScope s_without_calls_left) := ⟨rfl, rfl, rfl, by decide +kernel, rfl, by decide +kernel, by decide +kernel⟩
theorem sc_ranks : FnScope (["hall", "pending", "ways", "table", "rank", "ranked", "standing"] : List Str) ["hall"] (defScope s_ranks) := ⟨rfl, rfl, rfl, by decide +kernel, rfl, by decide +kernel, by decide +kernel⟩
noncomputable def cx_ranks_0 : Scope := { kind := .function, names := [(PySem.Str.ofString ".0", NameKind.local), (PySem.Str.ofString "standing", NameKind.local), (PySem.Str.ofString "calls", NameKind.local)], isGenerator := false, isCoroutine := false, more := [] }
theorem cs_ranks_0 : CompSc (defScope s_ranks) cx_ranks_0 (["hall", "pending", "ways", "table", "rank", "ranked", "standing"] : List Str) (["standing", "calls"] : List Str) [] := ⟨rfl, by decide +kernel, by decide +kernel, by decide +kernel, by decide +kernel⟩
theorem nd_ranks_0 : (compN (["hall", "pending", "ways", "table", "rank", "ranked", "standing"] : List Str) (["standing", "calls"] : List Str) []).Nodup := by decide +kernel
theorem sc_with_newcomer : FnScope (["standing", "wait"] : List Str) ["standing", "wait"] (defScope s_with_newcomer) := ⟨rfl, rfl, rfl, by decide +kernel, rfl, by decide +kernel, by decide +kernel⟩
theorem sc_joined : FnScope (["hall", "standing", "wait"] : List Str) ["hall", "standing", "wait"] (defScope s_joined) := ⟨rfl, rfl, rfl, by decide +kernel, rfl, by decide +kernel, by decide +kernel⟩
theorem sc_may_join : FnScope (["hall", "standing", "wait", "coming"] : List Str) ["hall", "standing", "wait"] (defScope s_may_join) := ⟨rfl, rfl, rfl, by decide +kernel, rfl, by decide +kernel, by decide +kernel⟩
theorem sc_lengthen_ways : FnScope (["hall", "unsafe", "ways", "ends", "fresh", "standing", "who", "behind"] : List Str) ["hall", "unsafe", "ways", "ends"] (defScope s_lengthen_ways) := ⟨rfl, rfl, rfl, by decide +kernel, rfl, by decide +kernel, by decide +kernel⟩
theorem sc_way_in : FnScope (["hall", "standing", "wait", "larger", "unsafe_with", "unsafe", "ways", "ends", "end"] : List Str) ["hall", "standing", "wait"] (defScope s_way_in) := ⟨rfl, rfl, rfl, by decide +kernel, rfl, by decide +kernel, by decide +kernel⟩
theorem sc_law_cell : FnScope (["script", "k"] : List Str) ["script", "k"] (defScope s_law_cell) := ⟨rfl, rfl, rfl, by decide +kernel, rfl, by decide +kernel, by decide +kernel⟩
theorem sc_law_other : FnScope (["e"] : List Str) ["e"] (defScope s_law_other) := ⟨rfl, rfl, rfl, by decide +kernel, rfl, by decide +kernel, by decide +kernel⟩
theorem sc_law_refusal : FnScope (["hall", "standing", "wait", "way", "caught", "e", "kinds"] : List Str) ["hall", "standing", "wait", "way"] (defScope s_law_refusal) := ⟨rfl, rfl, rfl, by decide +kernel, rfl, by decide +kernel, by decide +kernel⟩
theorem sc_law_many : FnScope (["hall", "many", "wait"] : List Str) ["hall"] (defScope s_law_many) := ⟨rfl, rfl, rfl, by decide +kernel, rfl, by decide +kernel, by decide +kernel⟩
theorem sc_law_hall : FnScope (["script", "cell", "waits", "calm"] : List Str) ["script"] (defScope s_law_hall) := ⟨rfl, rfl, rfl, by decide +kernel, rfl, by decide +kernel, by decide +kernel⟩
theorem sc_law_standing : FnScope (["hall", "cell", "left", "wait"] : List Str) ["hall", "cell"] (defScope s_law_standing) := ⟨rfl, rfl, rfl, by decide +kernel, rfl, by decide +kernel, by decide +kernel⟩
theorem sc_law_wait : FnScope (["hall", "cell", "more"] : List Str) ["hall", "cell"] (defScope s_law_wait) := ⟨rfl, rfl, rfl, by decide +kernel, rfl, by decide +kernel, by decide +kernel⟩
theorem sc_law_due : FnScope (["hall", "standing", "wait", "way"] : List Str) ["hall", "standing", "wait", "way"] (defScope s_law_due) := ⟨rfl, rfl, rfl, by decide +kernel, rfl, by decide +kernel, by decide +kernel⟩
theorem sc_law : FnScope (["script", "hall", "standing", "wait", "way"] : List Str) ["script"] (defScope s_law) := ⟨rfl, rfl, rfl, by decide +kernel, rfl, by decide +kernel, by decide +kernel⟩
set_option genInjectivity false in
set_option genSizeOf false in
structure Ads where
  f_hall_of : Addr
  f_may_lose : Addr
  f_is_listener : Addr
  f_refuse_wrong_turn : Addr
  f_left_behind : Addr
  f_quiet_behind : Addr
  f_after : Addr
  f_all_behind : Addr
  f_quiet_values : Addr
  f_how_many : Addr
  f_all_left : Addr
  f_standings : Addr
  f_calls_by_standing : Addr
  f_ways_to : Addr
  f_without_calls_left : Addr
  f_ranks : Addr
  f_with_newcomer : Addr
  f_joined : Addr
  f_may_join : Addr
  f_lengthen_ways : Addr
  f_way_in : Addr
  f_law_cell : Addr
  f_law_other : Addr
  f_law_refusal : Addr
  f_law_many : Addr
  f_law_hall : Addr
  f_law_standing : Addr
  f_law_wait : Addr
  f_law_due : Addr
  f_law : Addr
structure Txt (K : PySem.W.Frag) (mg : Str → Option Value) (ad : Ads) (C_NoHall C_TooMany C_Unsafe C_RoundError C_NoChain C_NoListener C_NoLoss C_NoPart C_NoRow C_NoStand C_NoWheel C_TooMuch : Addr) : Prop where
  m_hall_of : mg "hall_of" = some (.ref ad.f_hall_of)
  k_hall_of : PySem.W.keepIn K (.ref ad.f_hall_of) = true
  m_may_lose : mg "may_lose" = some (.ref ad.f_may_lose)
  k_may_lose : PySem.W.keepIn K (.ref ad.f_may_lose) = true
  m_is_listener : mg "is_listener" = some (.ref ad.f_is_listener)
  k_is_listener : PySem.W.keepIn K (.ref ad.f_is_listener) = true
  m_refuse_wrong_turn : mg "refuse_wrong_turn" = some (.ref ad.f_refuse_wrong_turn)
  k_refuse_wrong_turn : PySem.W.keepIn K (.ref ad.f_refuse_wrong_turn) = true
  m_left_behind : mg "left_behind" = some (.ref ad.f_left_behind)
  k_left_behind : PySem.W.keepIn K (.ref ad.f_left_behind) = true
  m_quiet_behind : mg "quiet_behind" = some (.ref ad.f_quiet_behind)
  k_quiet_behind : PySem.W.keepIn K (.ref ad.f_quiet_behind) = true
  m_after : mg "after" = some (.ref ad.f_after)
  k_after : PySem.W.keepIn K (.ref ad.f_after) = true
  m_all_behind : mg "all_behind" = some (.ref ad.f_all_behind)
  k_all_behind : PySem.W.keepIn K (.ref ad.f_all_behind) = true
  m_quiet_values : mg "quiet_values" = some (.ref ad.f_quiet_values)
  k_quiet_values : PySem.W.keepIn K (.ref ad.f_quiet_values) = true
  m_how_many : mg "how_many" = some (.ref ad.f_how_many)
  k_how_many : PySem.W.keepIn K (.ref ad.f_how_many) = true
  m_all_left : mg "all_left" = some (.ref ad.f_all_left)
  k_all_left : PySem.W.keepIn K (.ref ad.f_all_left) = true
  m_standings : mg "standings" = some (.ref ad.f_standings)
  k_standings : PySem.W.keepIn K (.ref ad.f_standings) = true
  m_calls_by_standing : mg "calls_by_standing" = some (.ref ad.f_calls_by_standing)
  k_calls_by_standing : PySem.W.keepIn K (.ref ad.f_calls_by_standing) = true
  m_ways_to : mg "ways_to" = some (.ref ad.f_ways_to)
  k_ways_to : PySem.W.keepIn K (.ref ad.f_ways_to) = true
  m_without_calls_left : mg "without_calls_left" = some (.ref ad.f_without_calls_left)
  k_without_calls_left : PySem.W.keepIn K (.ref ad.f_without_calls_left) = true
  m_ranks : mg "ranks" = some (.ref ad.f_ranks)
  k_ranks : PySem.W.keepIn K (.ref ad.f_ranks) = true
  m_with_newcomer : mg "with_newcomer" = some (.ref ad.f_with_newcomer)
  k_with_newcomer : PySem.W.keepIn K (.ref ad.f_with_newcomer) = true
  m_joined : mg "joined" = some (.ref ad.f_joined)
  k_joined : PySem.W.keepIn K (.ref ad.f_joined) = true
  m_may_join : mg "may_join" = some (.ref ad.f_may_join)
  k_may_join : PySem.W.keepIn K (.ref ad.f_may_join) = true
  m_lengthen_ways : mg "lengthen_ways" = some (.ref ad.f_lengthen_ways)
  k_lengthen_ways : PySem.W.keepIn K (.ref ad.f_lengthen_ways) = true
  m_way_in : mg "way_in" = some (.ref ad.f_way_in)
  k_way_in : PySem.W.keepIn K (.ref ad.f_way_in) = true
  m_law_cell : mg "_law_cell" = some (.ref ad.f_law_cell)
  k_law_cell : PySem.W.keepIn K (.ref ad.f_law_cell) = true
  m_law_other : mg "_law_other" = some (.ref ad.f_law_other)
  k_law_other : PySem.W.keepIn K (.ref ad.f_law_other) = true
  m_law_refusal : mg "_law_refusal" = some (.ref ad.f_law_refusal)
  k_law_refusal : PySem.W.keepIn K (.ref ad.f_law_refusal) = true
  m_law_many : mg "_law_many" = some (.ref ad.f_law_many)
  k_law_many : PySem.W.keepIn K (.ref ad.f_law_many) = true
  m_law_hall : mg "_law_hall" = some (.ref ad.f_law_hall)
  k_law_hall : PySem.W.keepIn K (.ref ad.f_law_hall) = true
  m_law_standing : mg "_law_standing" = some (.ref ad.f_law_standing)
  k_law_standing : PySem.W.keepIn K (.ref ad.f_law_standing) = true
  m_law_wait : mg "_law_wait" = some (.ref ad.f_law_wait)
  k_law_wait : PySem.W.keepIn K (.ref ad.f_law_wait) = true
  m_law_due : mg "_law_due" = some (.ref ad.f_law_due)
  k_law_due : PySem.W.keepIn K (.ref ad.f_law_due) = true
  m_law : mg "law" = some (.ref ad.f_law)
  k_law : PySem.W.keepIn K (.ref ad.f_law) = true
  n_min : mg "min" = none
  n_tuple : mg "tuple" = none
  n_len : mg "len" = none
  n_max : mg "max" = none
  n_range : mg "range" = none
  n_isinstance : mg "isinstance" = none
  n_ValueError : mg "ValueError" = none
  g_MOST_LISTENERS : ∃ t, mg "MOST_LISTENERS" = some (.int 8 t)
  g_MOST_STANDINGS : ∃ t, mg "MOST_STANDINGS" = some (.int 3000 t)
  c_NoHall : mg "NoHall" = some (.ref C_NoHall)
  c_TooMany : mg "TooMany" = some (.ref C_TooMany)
  c_Unsafe : mg "Unsafe" = some (.ref C_Unsafe)
  c_RoundError : mg "RoundError" = some (.ref C_RoundError)
  c_NoChain : mg "NoChain" = some (.ref C_NoChain)
  c_NoListener : mg "NoListener" = some (.ref C_NoListener)
  c_NoLoss : mg "NoLoss" = some (.ref C_NoLoss)
  c_NoPart : mg "NoPart" = some (.ref C_NoPart)
  c_NoRow : mg "NoRow" = some (.ref C_NoRow)
  c_NoStand : mg "NoStand" = some (.ref C_NoStand)
  c_NoWheel : mg "NoWheel" = some (.ref C_NoWheel)
  c_TooMuch : mg "TooMuch" = some (.ref C_TooMuch)
  e_NoHall : ExcC K C_NoHall
  e_TooMany : ExcC K C_TooMany
  e_Unsafe : ExcC K C_Unsafe
  e_RoundError : ExcC K C_RoundError
  b_RoundError : PySem.W.subIn K (.ref C_RoundError) (.type "BaseException") = some true
  xgs : PySem.W.specialIn K (.builtin "object.__class__") "__get__" = some (some (.builtin "getset_descriptor.__get__"))
  xtk : PySem.W.takesIn K (.builtin "object.__class__") = some true
  xga_NoHall : PySem.W.findIn K (.ref C_NoHall) "__getattribute__" = some (some (.builtin "BaseException.__getattribute__"))
  xgt_NoHall : PySem.W.findIn K (.ref C_NoHall) "__getattr__" = some none
  xcl_NoHall : PySem.W.findIn K (.ref C_NoHall) "__class__" = some (some (.builtin "object.__class__"))
  xob_NoHall : PySem.W.mroIn K C_NoHall (.type "object") = some true
  xbe_NoHall : PySem.W.subIn K (.ref C_NoHall) (.type "BaseException") = some true
  u_NoHall_RoundError : PySem.W.subIn K (.ref C_NoHall) (.ref C_RoundError) = some true
  j_NoHall_NoHall : PySem.W.kitOne K (.ref C_NoHall) (.ref C_NoHall) = some true
  j_NoHall_TooMany : PySem.W.kitOne K (.ref C_NoHall) (.ref C_TooMany) = some false
  j_NoHall_Unsafe : PySem.W.kitOne K (.ref C_NoHall) (.ref C_Unsafe) = some false
  j_NoHall_ValueError : PySem.W.kitOne K (.ref C_NoHall) (.type "ValueError") = some true
  j_NoHall_NoChain : PySem.W.kitOne K (.ref C_NoHall) (.ref C_NoChain) = some false
  j_NoHall_NoListener : PySem.W.kitOne K (.ref C_NoHall) (.ref C_NoListener) = some false
  j_NoHall_NoLoss : PySem.W.kitOne K (.ref C_NoHall) (.ref C_NoLoss) = some false
  j_NoHall_NoPart : PySem.W.kitOne K (.ref C_NoHall) (.ref C_NoPart) = some false
  j_NoHall_NoRow : PySem.W.kitOne K (.ref C_NoHall) (.ref C_NoRow) = some false
  j_NoHall_NoStand : PySem.W.kitOne K (.ref C_NoHall) (.ref C_NoStand) = some false
  j_NoHall_NoWheel : PySem.W.kitOne K (.ref C_NoHall) (.ref C_NoWheel) = some false
  j_NoHall_TooMuch : PySem.W.kitOne K (.ref C_NoHall) (.ref C_TooMuch) = some false
  xga_TooMany : PySem.W.findIn K (.ref C_TooMany) "__getattribute__" = some (some (.builtin "BaseException.__getattribute__"))
  xgt_TooMany : PySem.W.findIn K (.ref C_TooMany) "__getattr__" = some none
  xcl_TooMany : PySem.W.findIn K (.ref C_TooMany) "__class__" = some (some (.builtin "object.__class__"))
  xob_TooMany : PySem.W.mroIn K C_TooMany (.type "object") = some true
  xbe_TooMany : PySem.W.subIn K (.ref C_TooMany) (.type "BaseException") = some true
  u_TooMany_RoundError : PySem.W.subIn K (.ref C_TooMany) (.ref C_RoundError) = some true
  j_TooMany_NoHall : PySem.W.kitOne K (.ref C_TooMany) (.ref C_NoHall) = some false
  j_TooMany_TooMany : PySem.W.kitOne K (.ref C_TooMany) (.ref C_TooMany) = some true
  j_TooMany_Unsafe : PySem.W.kitOne K (.ref C_TooMany) (.ref C_Unsafe) = some false
  j_TooMany_ValueError : PySem.W.kitOne K (.ref C_TooMany) (.type "ValueError") = some true
  j_TooMany_NoChain : PySem.W.kitOne K (.ref C_TooMany) (.ref C_NoChain) = some false
  j_TooMany_NoListener : PySem.W.kitOne K (.ref C_TooMany) (.ref C_NoListener) = some false
  j_TooMany_NoLoss : PySem.W.kitOne K (.ref C_TooMany) (.ref C_NoLoss) = some false
  j_TooMany_NoPart : PySem.W.kitOne K (.ref C_TooMany) (.ref C_NoPart) = some false
  j_TooMany_NoRow : PySem.W.kitOne K (.ref C_TooMany) (.ref C_NoRow) = some false
  j_TooMany_NoStand : PySem.W.kitOne K (.ref C_TooMany) (.ref C_NoStand) = some false
  j_TooMany_NoWheel : PySem.W.kitOne K (.ref C_TooMany) (.ref C_NoWheel) = some false
  j_TooMany_TooMuch : PySem.W.kitOne K (.ref C_TooMany) (.ref C_TooMuch) = some false
  xga_Unsafe : PySem.W.findIn K (.ref C_Unsafe) "__getattribute__" = some (some (.builtin "BaseException.__getattribute__"))
  xgt_Unsafe : PySem.W.findIn K (.ref C_Unsafe) "__getattr__" = some none
  xcl_Unsafe : PySem.W.findIn K (.ref C_Unsafe) "__class__" = some (some (.builtin "object.__class__"))
  xob_Unsafe : PySem.W.mroIn K C_Unsafe (.type "object") = some true
  xbe_Unsafe : PySem.W.subIn K (.ref C_Unsafe) (.type "BaseException") = some true
  u_Unsafe_RoundError : PySem.W.subIn K (.ref C_Unsafe) (.ref C_RoundError) = some true
  j_Unsafe_NoHall : PySem.W.kitOne K (.ref C_Unsafe) (.ref C_NoHall) = some false
  j_Unsafe_TooMany : PySem.W.kitOne K (.ref C_Unsafe) (.ref C_TooMany) = some false
  j_Unsafe_Unsafe : PySem.W.kitOne K (.ref C_Unsafe) (.ref C_Unsafe) = some true
  j_Unsafe_ValueError : PySem.W.kitOne K (.ref C_Unsafe) (.type "ValueError") = some true
  j_Unsafe_NoChain : PySem.W.kitOne K (.ref C_Unsafe) (.ref C_NoChain) = some false
  j_Unsafe_NoListener : PySem.W.kitOne K (.ref C_Unsafe) (.ref C_NoListener) = some false
  j_Unsafe_NoLoss : PySem.W.kitOne K (.ref C_Unsafe) (.ref C_NoLoss) = some false
  j_Unsafe_NoPart : PySem.W.kitOne K (.ref C_Unsafe) (.ref C_NoPart) = some false
  j_Unsafe_NoRow : PySem.W.kitOne K (.ref C_Unsafe) (.ref C_NoRow) = some false
  j_Unsafe_NoStand : PySem.W.kitOne K (.ref C_Unsafe) (.ref C_NoStand) = some false
  j_Unsafe_NoWheel : PySem.W.kitOne K (.ref C_Unsafe) (.ref C_NoWheel) = some false
  j_Unsafe_TooMuch : PySem.W.kitOne K (.ref C_Unsafe) (.ref C_TooMuch) = some false
inductive All3 (p0 p1 p2 : Prop) : Prop where
  | mk (h0 : p0) (h1 : p1) (h2 : p2) : All3 p0 p1 p2
inductive All4 (p0 p1 p2 p3 : Prop) : Prop where
  | mk (h0 : p0) (h1 : p1) (h2 : p2) (h3 : p3) : All4 p0 p1 p2 p3
inductive All5 (p0 p1 p2 p3 p4 : Prop) : Prop where
  | mk (h0 : p0) (h1 : p1) (h2 : p2) (h3 : p3) (h4 : p4) : All5 p0 p1 p2 p3 p4
inductive All6 (p0 p1 p2 p3 p4 p5 : Prop) : Prop where
  | mk (h0 : p0) (h1 : p1) (h2 : p2) (h3 : p3) (h4 : p4) (h5 : p5) : All6 p0 p1 p2 p3 p4 p5
inductive All7 (p0 p1 p2 p3 p4 p5 p6 : Prop) : Prop where
  | mk (h0 : p0) (h1 : p1) (h2 : p2) (h3 : p3) (h4 : p4) (h5 : p5) (h6 : p6) : All7 p0 p1 p2 p3 p4 p5 p6
inductive All8 (p0 p1 p2 p3 p4 p5 p6 p7 : Prop) : Prop where
  | mk (h0 : p0) (h1 : p1) (h2 : p2) (h3 : p3) (h4 : p4) (h5 : p5) (h6 : p6) (h7 : p7) : All8 p0 p1 p2 p3 p4 p5 p6 p7
inductive All9 (p0 p1 p2 p3 p4 p5 p6 p7 p8 : Prop) : Prop where
  | mk (h0 : p0) (h1 : p1) (h2 : p2) (h3 : p3) (h4 : p4) (h5 : p5) (h6 : p6) (h7 : p7) (h8 : p8) : All9 p0 p1 p2 p3 p4 p5 p6 p7 p8
inductive All10 (p0 p1 p2 p3 p4 p5 p6 p7 p8 p9 : Prop) : Prop where
  | mk (h0 : p0) (h1 : p1) (h2 : p2) (h3 : p3) (h4 : p4) (h5 : p5) (h6 : p6) (h7 : p7) (h8 : p8) (h9 : p9) : All10 p0 p1 p2 p3 p4 p5 p6 p7 p8 p9
inductive All11 (p0 p1 p2 p3 p4 p5 p6 p7 p8 p9 p10 : Prop) : Prop where
  | mk (h0 : p0) (h1 : p1) (h2 : p2) (h3 : p3) (h4 : p4) (h5 : p5) (h6 : p6) (h7 : p7) (h8 : p8) (h9 : p9) (h10 : p10) : All11 p0 p1 p2 p3 p4 p5 p6 p7 p8 p9 p10
inductive All15 (p0 p1 p2 p3 p4 p5 p6 p7 p8 p9 p10 p11 p12 p13 p14 : Prop) : Prop where
  | mk (h0 : p0) (h1 : p1) (h2 : p2) (h3 : p3) (h4 : p4) (h5 : p5) (h6 : p6) (h7 : p7) (h8 : p8) (h9 : p9) (h10 : p10) (h11 : p11) (h12 : p12) (h13 : p13) (h14 : p14) : All15 p0 p1 p2 p3 p4 p5 p6 p7 p8 p9 p10 p11 p12 p13 p14
inductive All16 (p0 p1 p2 p3 p4 p5 p6 p7 p8 p9 p10 p11 p12 p13 p14 p15 : Prop) : Prop where
  | mk (h0 : p0) (h1 : p1) (h2 : p2) (h3 : p3) (h4 : p4) (h5 : p5) (h6 : p6) (h7 : p7) (h8 : p8) (h9 : p9) (h10 : p10) (h11 : p11) (h12 : p12) (h13 : p13) (h14 : p14) (h15 : p15) : All16 p0 p1 p2 p3 p4 p5 p6 p7 p8 p9 p10 p11 p12 p13 p14 p15
inductive Ex2 {T0 T1 : Type} (p : T0 → T1 → Prop) : Prop where
  | mk (x0 : T0) (x1 : T1) (h : p x0 x1) : Ex2 p
inductive Ex3 {T0 T1 T2 : Type} (p : T0 → T1 → T2 → Prop) : Prop where
  | mk (x0 : T0) (x1 : T1) (x2 : T2) (h : p x0 x1 x2) : Ex3 p
inductive Ex4 {T0 T1 T2 T3 : Type} (p : T0 → T1 → T2 → T3 → Prop) : Prop where
  | mk (x0 : T0) (x1 : T1) (x2 : T2) (x3 : T3) (h : p x0 x1 x2 x3) : Ex4 p
inductive Ex5 {T0 T1 T2 T3 T4 : Type} (p : T0 → T1 → T2 → T3 → T4 → Prop) : Prop where
  | mk (x0 : T0) (x1 : T1) (x2 : T2) (x3 : T3) (x4 : T4) (h : p x0 x1 x2 x3 x4) : Ex5 p
inductive Ex6 {T0 T1 T2 T3 T4 T5 : Type} (p : T0 → T1 → T2 → T3 → T4 → T5 → Prop) : Prop where
  | mk (x0 : T0) (x1 : T1) (x2 : T2) (x3 : T3) (x4 : T4) (x5 : T5) (h : p x0 x1 x2 x3 x4 x5) : Ex6 p
inductive Ex7 {T0 T1 T2 T3 T4 T5 T6 : Type} (p : T0 → T1 → T2 → T3 → T4 → T5 → T6 → Prop) : Prop where
  | mk (x0 : T0) (x1 : T1) (x2 : T2) (x3 : T3) (x4 : T4) (x5 : T5) (x6 : T6) (h : p x0 x1 x2 x3 x4 x5 x6) : Ex7 p
inductive Ex8 {T0 T1 T2 T3 T4 T5 T6 T7 : Type} (p : T0 → T1 → T2 → T3 → T4 → T5 → T6 → T7 → Prop) : Prop where
  | mk (x0 : T0) (x1 : T1) (x2 : T2) (x3 : T3) (x4 : T4) (x5 : T5) (x6 : T6) (x7 : T7) (h : p x0 x1 x2 x3 x4 x5 x6 x7) : Ex8 p
inductive Ex10 {T0 T1 T2 T3 T4 T5 T6 T7 T8 T9 : Type} (p : T0 → T1 → T2 → T3 → T4 → T5 → T6 → T7 → T8 → T9 → Prop) : Prop where
  | mk (x0 : T0) (x1 : T1) (x2 : T2) (x3 : T3) (x4 : T4) (x5 : T5) (x6 : T6) (x7 : T7) (x8 : T8) (x9 : T9) (h : p x0 x1 x2 x3 x4 x5 x6 x7 x8 x9) : Ex10 p
inductive Ex12 {T0 T1 T2 T3 T4 T5 T6 T7 T8 T9 T10 T11 : Type} (p : T0 → T1 → T2 → T3 → T4 → T5 → T6 → T7 → T8 → T9 → T10 → T11 → Prop) : Prop where
  | mk (x0 : T0) (x1 : T1) (x2 : T2) (x3 : T3) (x4 : T4) (x5 : T5) (x6 : T6) (x7 : T7) (x8 : T8) (x9 : T9) (x10 : T10) (x11 : T11) (h : p x0 x1 x2 x3 x4 x5 x6 x7 x8 x9 x10 x11) : Ex12 p

theorem cutR {t u : TS} {D : Ends} {σ : L2.St} {H : Hp} (h : ∀ N : L2.St → Hp → Prop, (∀ σ' H', u D σ' H' → N σ' H') → t { D with nx := N } σ H) : tSeq t u D σ H := h (u D) fun _ _ z => z

/-! ### halls and standings in the heap -/
noncomputable def HallAt (H : Hp) (a : Addr) (ws : List Int) (calm : Option Int) : Prop := ∃ t, H a = some (.tup [.ref t, vO calm]) ∧ H t = some (.tup (ws.map V.int))
noncomputable def StAt (H : Hp) (b : Addr) (ls : List Int) (q : Int) : Prop := ∃ u, H b = some (.tup [.ref u, .int q]) ∧ H u = some (.tup (ls.map V.int))
theorem HallAt.same {H H' : Hp} {a : Addr} {ws : List Int} {calm : Option Int} (s : Same H H') (h : HallAt H a ws calm) : HallAt H' a ws calm := by
  obtain ⟨t, h1, h2⟩ := h
  exact ⟨t, s _ _ h1, s _ _ h2⟩
theorem StAt.same {H H' : Hp} {a : Addr} {ls : List Int} {q : Int} (s : Same H H') (h : StAt H a ls q) : StAt H' a ls q := by
  obtain ⟨t, h1, h2⟩ := h
  exact ⟨t, s _ _ h1, s _ _ h2⟩
theorem vO_non (c : Option Int) : decide (vO c = V.non) = decide (c = none) := by cases c <;> simp [vO]
noncomputable def leftB (ws ls : List Int) (who : Nat) (lost : Bool) : List Int := if lost = true then ls.map (fun x => x - 1) else (ls.map (fun x => x - 1)).set who (ws.getD who 0)
noncomputable def quietB (calm : Option Int) (q : Int) (lost : Bool) : Int := if lost = true then calm.getD 0 else max (q - 1) 0
/-- the road may do so -/
noncomputable def MayB (calm : Option Int) (q : Int) (lost : Bool) : Prop := lost = true → calm ≠ none ∧ q = 0
theorem leftB_length (ws ls : List Int) (who : Nat) (lost : Bool) : (leftB ws ls who lost).length = ls.length := by
  unfold leftB
  split <;> simp
theorem inV_ints (x : Int) : ∀ ns : List Int, inV (.int x) (ns.map V.int) = decide (x ∈ ns)
  | [] => rfl
  | n :: ns => by
    show (eqV (V.int n) (V.int x) || inV (.int x) (ns.map V.int)) = _
    rw [inV_ints x ns]
    show ((n == x) || decide (x ∈ ns)) = _
    by_cases h : n = x
    · simp [h]
    · have h' : ¬ x = n := fun e => h e.symm
      simp [h, h']
theorem flat_ints : ∀ ns : List Int, (ns.map V.int).all flatV = true
  | [] => rfl
  | n :: ns => by
    show (flatV (V.int n) && (ns.map V.int).all flatV) = true
    rw [flat_ints ns]
    rfl
theorem getD_at {ws : List Int} {k : Nat} (h : k < ws.length) : atI (ws.map V.int) (k : Int) = some (.int (ws.getD k 0)) := by
  refine atI_nat ?_
  rw [List.getElem?_map, List.getElem?_eq_getElem h, List.getD_eq_getElem?_getD, List.getElem?_eq_getElem h]
  rfl
theorem ixN_nat {n k : Nat} (h : k < n) : ixN n (k : Int) = some k := by
  unfold ixN
  rw [if_pos (by omega), if_pos (by omega)]
  simp

theorem bits_lt {a : Int} {n : Nat} (h : a.natAbs < 2 ^ n) : intBits a ≤ n := intBits_le h
theorem emod_range (x : Int) {m : Int} (h : 0 < m) : 0 ≤ x % m ∧ x % m < m := ⟨Int.emod_nonneg x (by omega), Int.emod_lt_of_pos x h⟩
theorem ixN_in {n : Nat} {i : Int} (h0 : 0 ≤ i) (h : i < n) : ixN n i = some i.toNat := by
  unfold ixN
  rw [if_pos h0, if_pos h]
noncomputable def cutI (xs : List Int) (lo hi : Option Int) : List Int := (xs.drop (HT.sIx xs.length 0 lo)).take (HT.sIx xs.length xs.length hi - HT.sIx xs.length 0 lo)
noncomputable def vN : Option Nat → V
  | none => .non
  | some k => .int (k : Nat)
/-! ### a round of calls that goes on for ever: the ways from a call to the next one -/
noncomputable def rd (xs : List Int) (j : Nat) : Option Int := xs[j % xs.length]?
noncomputable def GapAt (xs : List Int) (w : Int) (p g : Nat) : Prop := 0 < g ∧ rd xs p = some w ∧ rd xs (p + g) = some w ∧ ∀ s, 0 < s → s < g → rd xs (p + s) ≠ some w
noncomputable def MaxGap (xs : List Int) (w : Int) (m : Nat) : Prop := (∃ p, GapAt xs w p m) ∧ ∀ p g, GapAt xs w p g → g ≤ m
noncomputable def LongOk (xs : List Int) (w : Int) : Option Nat → Prop
  | none => w ∉ xs
  | some m => MaxGap xs w m
theorem rd_mem {xs : List Int} {w : Int} {j : Nat} (h : rd xs j = some w) : w ∈ xs := List.mem_of_getElem? h
theorem LongOk.eq {xs ys : List Int} {w : Int} {r r' : Option Nat} (hm : w ∈ xs ↔ w ∈ ys) (hg : ∀ g, (∃ p, GapAt xs w p g) ↔ ∃ p, GapAt ys w p g) (h : LongOk xs w r) (h' : LongOk ys w r') : r = r' := by
  cases r with
  | none =>
    cases r' with
    | none => rfl
    | some m =>
      obtain ⟨⟨p, hp⟩, _⟩ := h'
      exact absurd (hm.mpr (rd_mem hp.2.1)) h
  | some m =>
    cases r' with
    | none =>
      obtain ⟨⟨p, hp⟩, _⟩ := h
      exact absurd (hm.mp (rd_mem hp.2.1)) h'
    | some m' =>
      obtain ⟨h1, h2⟩ := h
      obtain ⟨h1', h2'⟩ := h'
      obtain ⟨p, hp⟩ := (hg m).mp h1
      obtain ⟨p', hp'⟩ := (hg m').mpr h1'
      have a := h2' p m hp
      have b := h2 p' m' hp'
      congr 1
      omega
theorem rd_mod (xs : List Int) (j s : Nat) : rd xs (j % xs.length + s) = rd xs (j + s) := by
  unfold rd
  rw [Nat.mod_add_mod]
theorem rd_lt {xs : List Int} {j : Nat} (h : j < xs.length) : rd xs j = xs[j]? := by
  unfold rd
  rw [Nat.mod_eq_of_lt h]
theorem gap_mod {xs : List Int} {w : Int} {p g : Nat} (h : GapAt xs w p g) : GapAt xs w (p % xs.length) g := by
  obtain ⟨h0, h1, h2, h3⟩ := h
  refine ⟨h0, ?_, by rw [rd_mod]; exact h2, fun s a b => by rw [rd_mod]; exact h3 s a b⟩
  have e := rd_mod xs p 0
  rw [Nat.add_zero, Nat.add_zero] at e
  rw [e]
  exact h1
theorem gap_uniq {xs : List Int} {w : Int} {p g g' : Nat} (h : GapAt xs w p g) (h' : GapAt xs w p g') : g = g' := by
  rcases Nat.lt_trichotomy g g' with a | a | a
  · exact absurd h.2.2.1 (h'.2.2.2 g h.1 a)
  · exact a
  · exact absurd h'.2.2.1 (h.2.2.2 g' h'.1 a)
/-- the places of a call, rising -/
noncomputable def plc (xs : List Int) (w : Int) (i : Nat) : List Nat := (List.range i).filter fun k => decide (xs[k]? = some w)
noncomputable def gapL (ps : List Nat) (i : Nat) : List Int := (List.range i).map fun j => (ps.getD (j + 1) 0 : Int) - (ps.getD j 0 : Int)
noncomputable def StepsTo (xs : List Int) (w : Int) (i : Nat) : Option Nat → Prop
  | none => ∀ p, p < i → xs[p]? ≠ some w
  | some m => (∃ p, GapAt xs w p m) ∧ ∀ p, p < i → ∀ g, GapAt xs w p g → g ≤ m
theorem StepsTo.skip {xs : List Int} {w : Int} {i : Nat} {r : Option Nat} (hi : i < xs.length) (hn : xs[i]? ≠ some w) (h : StepsTo xs w i r) : StepsTo xs w (i + 1) r := by
  cases r with
  | none =>
    intro p hp
    by_cases e : p = i
    · subst e
      exact hn
    · exact h p (by omega)
  | some m =>
    refine ⟨h.1, fun p hp g hg => ?_⟩
    by_cases e : p = i
    · subst e
      have z := hg.2.1
      rw [rd_lt hi] at z
      exact absurd z hn
    · exact h.2 p (by omega) g hg
noncomputable def stepR : Option Nat → Nat → Nat
  | none, g => g
  | some m, g => if m < g then g else m
theorem StepsTo.take {xs : List Int} {w : Int} {i g : Nat} {r : Option Nat} (hg : GapAt xs w i g) (h : StepsTo xs w i r) : StepsTo xs w (i + 1) (some (stepR r g)) := by
  have hi0 := hg.2.1
  cases r with
  | none =>
    refine ⟨⟨i, hg⟩, fun p hp g' hg' => ?_⟩
    by_cases e : p = i
    · subst e
      exact Nat.le_of_eq (gap_uniq hg' hg)
    · have z := hg'.2.1
      rcases Nat.lt_or_ge p xs.length with hl | hl
      · rw [rd_lt hl] at z
        exact absurd z (h p (by omega))
      · have hn : 0 < xs.length := by
          cases xs with
          | nil => unfold rd at z; simp at z
          | cons => simp
        have z2 := gap_mod hg'
        have hlt := Nat.mod_lt p hn
        have z3 := z2.2.1
        rw [rd_lt hlt] at z3
        exact absurd z3 (h _ (by omega))
  | some m =>
    show (∃ p, GapAt xs w p (if m < g then g else m)) ∧ ∀ p, p < i + 1 → ∀ g', GapAt xs w p g' → g' ≤ (if m < g then g else m)
    by_cases hmg : m < g
    · rw [if_pos hmg]
      refine ⟨⟨i, hg⟩, fun p hp g' hg' => ?_⟩
      by_cases e : p = i
      · subst e
        exact Nat.le_of_eq (gap_uniq hg' hg)
      · have := h.2 p (by omega) g' hg'
        omega
    · rw [if_neg hmg]
      refine ⟨h.1, fun p hp g' hg' => ?_⟩
      by_cases e : p = i
      · subst e
        have := gap_uniq hg' hg
        omega
      · exact h.2 p (by omega) g' hg'

theorem bits_mulc {a b : Int} {m n : Nat} (ha : intBits a ≤ m) (hb : intBits b ≤ n) : intBits (a * b) ≤ m + n := by
  apply intBits_le
  rw [Int.natAbs_mul, Nat.pow_add]
  have h1 := Nat.lt_of_lt_of_le (natAbs_lt_pow_bits a) (Nat.pow_le_pow_right (by decide) ha)
  have h2 := Nat.lt_of_lt_of_le (natAbs_lt_pow_bits b) (Nat.pow_le_pow_right (by decide) hb)
  exact Nat.mul_lt_mul'' h1 h2

theorem small3000 {n : Nat} (h : n ≤ 10000) : n < sizeLine := Nat.lt_of_le_of_lt h (by decide)
noncomputable def Tups (H H' : Hp) : Prop := ∀ b xs, H b = some (.tup xs) → H' b = some (.tup xs)
theorem Tups.of {H H' : Hp} (s : Same H H') : Tups H H' := fun b xs e => s b _ e
theorem Tups.trans {H H1 H2 : Hp} (a : Tups H H1) (b : Tups H1 H2) : Tups H H2 := fun c xs e => b c xs (a c xs e)
theorem Tups.lst {H : Hp} {D : Addr} {zs : List V} {o : HO} (h : H D = some (.lst zs)) : Tups H (upd H D o) := fun b xs e => by
  rw [upd_ne (ne_of e h (by intro z; cases z))]
  exact e
noncomputable def RowAt (H : Hp) (r : List Int) (v : V) : Prop := ∃ p, v = .ref p ∧ H p = some (.tup (r.map V.int))
noncomputable def StV (H : Hp) (z : List Int × Int) (v : V) : Prop := ∃ p u, v = .ref p ∧ H p = some (.tup [.ref u, .int z.2]) ∧ H u = some (.tup (z.1.map V.int))
theorem RowAt.up {H H' : Hp} {r : List Int} {v : V} (t : Tups H H') (h : RowAt H r v) : RowAt H' r v := by
  obtain ⟨p, e, h1⟩ := h
  exact ⟨p, e, t _ _ h1⟩
theorem StV.up {H H' : Hp} {z : List Int × Int} {v : V} (t : Tups H H') (h : StV H z v) : StV H' z v := by
  obtain ⟨p, u, e, h1, h2⟩ := h
  exact ⟨p, u, e, t _ _ h1, t _ _ h2⟩
noncomputable def AllAt {α : Type} (P : α → V → Prop) (rs : List α) (vs : List V) : Prop := vs.length = rs.length ∧ ∀ (i : Nat) (r : α) (v : V), rs[i]? = some r → vs[i]? = some v → P r v
theorem AllAt.nil {α : Type} {P : α → V → Prop} : AllAt P [] [] := ⟨rfl, fun i r v e => by cases e⟩
theorem AllAt.imp {α : Type} {P P' : α → V → Prop} {rs : List α} {vs : List V} (f : ∀ r v, P r v → P' r v) (h : AllAt P rs vs) : AllAt P' rs vs := ⟨h.1, fun i r v e1 e2 => f _ _ (h.2 i r v e1 e2)⟩
theorem AllAt.append {α : Type} {P : α → V → Prop} {rs ss : List α} {vs us : List V} (h : AllAt P rs vs) (g : AllAt P ss us) : AllAt P (rs ++ ss) (vs ++ us) := by
  refine ⟨by rw [List.length_append, List.length_append, h.1, g.1], fun i r v e1 e2 => ?_⟩
  rcases Nat.lt_or_ge i rs.length with z | z
  · rw [List.getElem?_append_left z] at e1
    rw [List.getElem?_append_left (by rw [h.1]; exact z)] at e2
    exact h.2 i r v e1 e2
  · rw [List.getElem?_append_right z] at e1
    rw [List.getElem?_append_right (by rw [h.1]; exact z), h.1] at e2
    exact g.2 _ r v e1 e2
theorem AllAt.one {α : Type} {P : α → V → Prop} {r : α} {v : V} (h : P r v) : AllAt P [r] [v] := by
  refine ⟨rfl, fun i r' v' e1 e2 => ?_⟩
  cases i with
  | zero => cases e1; cases e2; exact h
  | succ i => cases e1
theorem AllAt.get {α : Type} {P : α → V → Prop} {rs : List α} {vs : List V} (h : AllAt P rs vs) {i : Nat} {v : V} (e : vs[i]? = some v) : ∃ r, rs[i]? = some r ∧ P r v := by
  have hi := (List.getElem?_eq_some_iff.mp e).1
  have hi2 : i < rs.length := by
    rw [← h.1]
    exact hi
  have h2 : rs[i]? = some rs[i] := List.getElem?_eq_getElem hi2
  exact ⟨_, h2, h.2 i _ v h2 e⟩
noncomputable def qv : Option Int → Int
  | none => 1
  | some c => c + 1
noncomputable def prodI (q : Int) (ws : List Int) : Int := ws.foldl (· * ·) q
noncomputable def lngR (r : List Int) (w : Int) : List (List Int) := (List.range w.toNat).map fun t => r ++ [1 + ((t : Nat) : Int)]
noncomputable def stepRows (rows : List (List Int)) (w : Int) : List (List Int) := rows.flatMap fun r => lngR r w
noncomputable def rowsOf (ws : List Int) : List (List Int) := ws.foldl stepRows [[]]
noncomputable def stsOf (r : List Int) (q : Int) : List (List Int × Int) := (List.range q.toNat).map fun k => (r, 0 + ((k : Nat) : Int))
noncomputable def standL (ws : List Int) (q : Int) : List (List Int × Int) := (rowsOf ws).flatMap fun r => stsOf r q
theorem fold_snoc {α β : Type} (f : β → α → β) (b : β) (xs : List α) {i : Nat} {x : α} (h : xs[i]? = some x) : (xs.take (i + 1)).foldl f b = f ((xs.take i).foldl f b) x := by
  rw [List.take_add_one, h, List.foldl_append]
  rfl
theorem flat_snoc {α β : Type} (f : α → List β) (xs : List α) {i : Nat} {x : α} (h : xs[i]? = some x) : (xs.take (i + 1)).flatMap f = (xs.take i).flatMap f ++ f x := by
  rw [List.take_add_one, h, List.flatMap_append]
  simp
theorem prod_bits {q : Int} (hq : intBits q ≤ 256) : ∀ {ws : List Int}, (∀ w ∈ ws, intBits w ≤ 256) → ∀ i, i ≤ ws.length → intBits (prodI q (ws.take i)) ≤ 256 * (i + 1)
  | ws, h, 0, _ => by simpa [prodI] using hq
  | ws, h, i + 1, hi => by
    have hx : ws[i]? = some ws[i] := List.getElem?_eq_getElem (by omega)
    have ih := prod_bits hq h i (by omega)
    unfold prodI at ih ⊢
    rw [fold_snoc _ _ _ hx]
    exact Nat.le_trans (bits_mulc ih (h _ (List.getElem_mem _))) (by omega)
theorem prod_q (q : Int) : ∀ (ws : List Int) (a : Int), prodI (q * a) ws = q * prodI a ws
  | [], a => rfl
  | w :: ws, a => by
    show prodI (q * a * w) ws = q * prodI (a * w) ws
    rw [Int.mul_assoc, prod_q q ws (a * w)]
theorem flat_len {α β : Type} {f : α → List β} {n : Nat} : ∀ {xs : List α}, (∀ x ∈ xs, (f x).length = n) → (xs.flatMap f).length = xs.length * n
  | [], _ => by simp
  | x :: xs, h => by
    rw [List.flatMap_cons, List.length_append, h x (List.mem_cons_self ..), flat_len fun y hy => h y (List.mem_cons_of_mem _ hy), List.length_cons, Nat.succ_mul]
    omega
theorem lngR_len (r : List Int) (w : Int) : (lngR r w).length = w.toNat := by simp [lngR]
theorem stsOf_len (r : List Int) (q : Int) : (stsOf r q).length = q.toNat := by simp [stsOf]
theorem step_len (rows : List (List Int)) (w : Int) : (stepRows rows w).length = rows.length * w.toNat := flat_len fun r _ => lngR_len r w
theorem rows_len : ∀ (ws : List Int) (rows : List (List Int)), (∀ w ∈ ws, 1 ≤ w) → ((ws.foldl stepRows rows).length : Int) = prodI (rows.length : Int) ws
  | [], rows, _ => rfl
  | w :: ws, rows, h => by
    have hw := h w (List.mem_cons_self ..)
    show ((ws.foldl stepRows (stepRows rows w)).length : Int) = prodI ((rows.length : Int) * w) ws
    rw [rows_len ws _ (fun x hx => h x (List.mem_cons_of_mem _ hx)), step_len]
    congr 1
    rw [Int.natCast_mul]
    congr 1
    omega
theorem prod_le : ∀ (ws : List Int) (a : Int), 0 ≤ a → (∀ w ∈ ws, 1 ≤ w) → a ≤ prodI a ws
  | [], a, _, _ => Int.le_refl _
  | w :: ws, a, ha, h => by
    have hw := h w (List.mem_cons_self ..)
    have h1 : a ≤ a * w := by
      have := Int.mul_le_mul_of_nonneg_left hw ha
      rw [Int.mul_one] at this
      exact this
    exact Int.le_trans h1 (prod_le ws (a * w) (Int.le_trans ha h1) fun x hx => h x (List.mem_cons_of_mem _ hx))
theorem prod_part {ws : List Int} {a : Int} (ha : 0 ≤ a) (h : ∀ w ∈ ws, 1 ≤ w) (i : Nat) : prodI a (ws.take i) ≤ prodI a ws := by
  have e : prodI a ws = prodI (prodI a (ws.take i)) (ws.drop i) := by
    unfold prodI
    rw [← List.foldl_append, List.take_append_drop]
  rw [e]
  refine prod_le _ _ (Int.le_trans ha (prod_le _ _ ha fun w hw => h w (List.mem_of_mem_take hw))) fun w hw => h w (List.mem_of_mem_drop hw)
theorem mem_lng {r x : List Int} {w : Int} (h : x ∈ lngR r w) : ∃ t : Nat, t < w.toNat ∧ x = r ++ [1 + (t : Int)] := by
  unfold lngR at h
  obtain ⟨t, h1, rfl⟩ := List.mem_map.mp h
  exact ⟨t, List.mem_range.mp h1, rfl⟩
theorem rows_ok (ws : List Int) : ∀ i, i ≤ ws.length → ∀ r ∈ rowsOf (ws.take i), r.length = i ∧ ∀ (k : Nat) (x w : Int), r[k]? = some x → ws[k]? = some w → 1 ≤ x ∧ x ≤ w
  | 0, _, r, h => by
    have e : r = [] := List.mem_singleton.mp h
    subst e
    exact ⟨rfl, fun k x w e => by cases e⟩
  | i + 1, hi, r, h => by
    have hw : ws[i]? = some ws[i] := List.getElem?_eq_getElem (by omega)
    have e : rowsOf (ws.take (i + 1)) = stepRows (rowsOf (ws.take i)) ws[i] := fold_snoc _ _ _ hw
    rw [e] at h
    obtain ⟨r', h1, h2⟩ := List.mem_flatMap.mp h
    obtain ⟨t, h3, rfl⟩ := mem_lng h2
    obtain ⟨h4, h5⟩ := rows_ok ws i (by omega) r' h1
    refine ⟨by simp [h4], fun k x w e1 e2 => ?_⟩
    rcases Nat.lt_or_ge k r'.length with z | z
    · rw [List.getElem?_append_left z] at e1
      exact h5 k x w e1 e2
    · have hk : k = i := by
        have := (List.getElem?_eq_some_iff.mp e1).1
        rw [List.length_append, List.length_singleton] at this
        omega
      subst hk
      rw [List.getElem?_append_right z, h4, Nat.sub_self] at e1
      cases e1
      rw [hw] at e2
      cases e2
      omega
/-- the order of rows -/
noncomputable def LtI (r s : List Int) : Prop := ltvAll (r.map PyData.int) (s.map PyData.int) = true
theorem eqv_int (a b : Int) : PyData.eqv (.int a) (.int b) = decide (a = b) := by
  show (a == b) = _
  by_cases h : a = b <;> simp [h]
theorem lti_irr : ∀ r : List Int, ¬ LtI r r
  | [] => by unfold LtI; simp [ltvAll]
  | x :: r => fun h => by
    have ih := lti_irr r
    unfold LtI at h ih
    rw [List.map_cons, ltvAll, eqv_int, if_pos (by simp)] at h
    exact ih h
theorem lti_snoc : ∀ {r s : List Int} {x y : Int}, r.length = s.length → LtI r s → LtI (r ++ [x]) (s ++ [y])
  | [], [], x, y, _, h => absurd h (lti_irr [])
  | [], _ :: _, _, _, hl, _ => by simp at hl
  | _ :: _, [], _, _, hl, _ => by simp at hl
  | a :: r, b :: s, x, y, hl, h => by
    unfold LtI at h ⊢
    rw [List.cons_append, List.cons_append, List.map_cons, List.map_cons, ltvAll] at *
    by_cases e : PyData.eqv (.int a) (.int b) = true
    · rw [if_pos e] at h ⊢
      exact lti_snoc (r := r) (s := s) (by simpa using hl) h
    · rw [if_neg e] at h ⊢
      exact h
theorem lti_last : ∀ {r : List Int} {x y : Int}, x < y → LtI (r ++ [x]) (r ++ [y])
  | [], x, y, h => by
    unfold LtI
    show ltvAll [PyData.int x] [PyData.int y] = true
    rw [ltvAll, eqv_int, if_neg (by simp; omega), ltv]
    exact decide_eq_true h
  | a :: r, x, y, h => by
    unfold LtI
    rw [List.cons_append, List.cons_append, List.map_cons, List.map_cons, ltvAll, eqv_int, if_pos (by simp)]
    exact lti_last (r := r) h
theorem lng_sorted (r : List Int) (w : Int) : (lngR r w).Pairwise LtI := by
  unfold lngR
  rw [List.pairwise_map]
  exact List.pairwise_lt_range.imp fun h => lti_last (by omega)
theorem rows_sorted (ws : List Int) : ∀ i, i ≤ ws.length → (rowsOf (ws.take i)).Pairwise LtI
  | 0, _ => by
    show ([[]] : List (List Int)).Pairwise LtI
    exact List.pairwise_singleton _ _
  | i + 1, hi => by
    have hw : ws[i]? = some ws[i] := List.getElem?_eq_getElem (by omega)
    have e : rowsOf (ws.take (i + 1)) = stepRows (rowsOf (ws.take i)) ws[i] := fold_snoc _ _ _ hw
    rw [e]
    unfold stepRows
    rw [List.pairwise_flatMap]
    refine ⟨fun r _ => lng_sorted r _, ?_⟩
    refine (rows_sorted ws i (by omega)).imp_of_mem fun {a b} ha hb h x hx y hy => ?_
    obtain ⟨t, _, rfl⟩ := mem_lng hx
    obtain ⟨u, _, rfl⟩ := mem_lng hy
    have h1 := (rows_ok ws i (by omega) a ha).1
    have h2 := (rows_ok ws i (by omega) b hb).1
    exact lti_snoc (by omega) h
noncomputable def dS (z : List Int × Int) : PyData := dP (dT z.1) (.int z.2)
theorem ltv_dS {a b : List Int × Int} (h : LtI a.1 b.1 ∨ (a.1 = b.1 ∧ a.2 < b.2)) : ltv (dS a) (dS b) = true := by
  show ltvAll [dT a.1, .int a.2] [dT b.1, .int b.2] = true
  rw [ltvAll, eqv_dT]
  rcases h with h | ⟨h1, h2⟩
  · have hne : ¬ a.1 = b.1 := fun e => by
      rw [e] at h
      exact lti_irr _ h
    rw [if_neg (by simpa using hne)]
    exact h
  · rw [if_pos (by simpa using h1), ltvAll, eqv_int, if_neg (by simp; omega), ltv]
    exact decide_eq_true h2
theorem mem_sts {r : List Int} {q : Int} {z : List Int × Int} (h : z ∈ stsOf r q) : z.1 = r ∧ 0 ≤ z.2 ∧ z.2 < q := by
  unfold stsOf at h
  obtain ⟨k, h1, rfl⟩ := List.mem_map.mp h
  have := List.mem_range.mp h1
  exact ⟨rfl, by show 0 ≤ 0 + (k : Int); omega, by show 0 + (k : Int) < q; omega⟩
theorem stand_sorted (ws : List Int) (q : Int) : (standL ws q).Pairwise fun a b => ltv (dS a) (dS b) = true := by
  unfold standL
  rw [List.pairwise_flatMap]
  refine ⟨fun r _ => ?_, ?_⟩
  · unfold stsOf
    rw [List.pairwise_map]
    exact List.pairwise_lt_range.imp fun {a b} h => ltv_dS (a := (r, 0 + ((a : Nat) : Int))) (b := (r, 0 + ((b : Nat) : Int))) (.inr ⟨rfl, by show 0 + ((a : Nat) : Int) < 0 + ((b : Nat) : Int); omega⟩)
  · have h := rows_sorted ws ws.length (Nat.le_refl _)
    rw [List.take_length] at h
    refine h.imp fun {a b} h x hx y hy => ?_
    exact ltv_dS (.inl (by rw [(mem_sts hx).1, (mem_sts hy).1]; exact h))
theorem stand_len {ws : List Int} {q : Int} (h : ∀ w ∈ ws, 1 ≤ w) (hq : 0 ≤ q) : ((standL ws q).length : Int) = prodI q ws := by
  unfold standL
  rw [flat_len fun r _ => stsOf_len r q, Int.natCast_mul]
  have e : ((rowsOf ws).length : Int) = prodI 1 ws := rows_len ws [[]] h
  rw [e, Int.toNat_of_nonneg hq, Int.mul_comm, ← prod_q, Int.mul_one]
theorem stand_mem {ws : List Int} {q : Int} {z : List Int × Int} (h : z ∈ standL ws q) : z.1.length = ws.length ∧ (∀ (k : Nat) (x w : Int), z.1[k]? = some x → ws[k]? = some w → 1 ≤ x ∧ x ≤ w) ∧ 0 ≤ z.2 ∧ z.2 < q := by
  obtain ⟨r, h1, h2⟩ := List.mem_flatMap.mp h
  obtain ⟨h3, h4, h5⟩ := mem_sts h2
  have h6 := rows_ok ws ws.length (Nat.le_refl _) r (by rw [List.take_length]; exact h1)
  rw [h3]
  exact ⟨h6.1, h6.2, h4, h5⟩
theorem rows_part {ws : List Int} (h : ∀ w ∈ ws, 1 ≤ w) (hp : prodI 1 ws ≤ 3000) (i : Nat) : (rowsOf (ws.take i)).length ≤ 3000 := by
  have e := rows_len (ws.take i) [[]] fun w hw => h w (List.mem_of_mem_take hw)
  have e2 := prod_part (ws := ws) (a := 1) (by decide) h i
  have e3 : prodI (([[]] : List (List Int)).length : Int) (ws.take i) = prodI 1 (ws.take i) := rfl
  unfold rowsOf
  omega

theorem AllAt.drop {α : Type} {P : α → V → Prop} {rs : List α} {vs : List V} (h : AllAt P rs vs) (n : Nat) : AllAt P (rs.drop n) (vs.drop n) := by
  refine ⟨by rw [List.length_drop, List.length_drop, h.1], fun i r v e1 e2 => ?_⟩
  rw [List.getElem?_drop] at e1 e2
  exact h.2 _ r v e1 e2
/-! ### walks -/
noncomputable def StO (H : Hp) (v : V) : Option (List Int × Int) → Prop
  | none => v = .non
  | some r => ∃ b, v = .ref b ∧ StAt H b r.1 r.2
noncomputable def WalkAt (H : Hp) (p : Addr) (r : Nat × Option (List Int × Int)) : Prop := ∃ v, H p = some (.tup [.int (r.1 : Nat), v]) ∧ StO H v r.2
theorem StO.same {H H' : Hp} {v : V} {r : Option (List Int × Int)} (s : Same H H') (h : StO H v r) : StO H' v r := by
  cases r with
  | none => exact h
  | some r =>
    obtain ⟨b, e, h⟩ := h
    exact ⟨b, e, h.same s⟩
theorem WalkAt.same {H H' : Hp} {p : Addr} {r : Nat × Option (List Int × Int)} (s : Same H H') (h : WalkAt H p r) : WalkAt H' p r := by
  obtain ⟨v, e, h⟩ := h
  exact ⟨v, s _ _ e, h.same s⟩
noncomputable def dSt : Option (List Int × Int) → PyData
  | none => .none
  | some r => dP (dT r.1) (.int r.2)
theorem rp_StO {H : Hp} {v : V} {r : Option (List Int × Int)} (h : StO H v r) : Rp H (dSt r) v := by
  cases r with
  | none =>
    cases h
    exact rp_non
  | some r =>
    obtain ⟨b, rfl, t, h1, h2⟩ := h
    exact rp_dP h1 (rp_dT h2) (rp_int _)
noncomputable def QuietOk (calm : Option Int) : Int → List Bool → Prop
  | _, [] => True
  | q, l :: r => MayB calm q l ∧ QuietOk calm (quietB calm q l) r
noncomputable def walkB (ws : List Int) (calm : Option Int) : List Int → Int → List (Nat × Bool) → Nat × Option (List Int × Int)
  | ls, q, [] => (0, some (ls, q))
  | ls, q, (k, l) :: r => if (0 : Int) ∈ leftB ws ls k l then (0, none) else ((walkB ws calm (leftB ws ls k l) (quietB calm q l) r).1 + 1, (walkB ws calm (leftB ws ls k l) (quietB calm q l) r).2)
theorem AllAt.tail {α : Type} {P : α → V → Prop} {r : α} {v : V} {rs : List α} {vs : List V} (h : AllAt P (r :: rs) (v :: vs)) : P r v ∧ AllAt P rs vs := ⟨h.2 0 r v rfl rfl, by have := h.1; simpa using this, fun i a b e1 e2 => h.2 (i + 1) a b e1 e2⟩
theorem mem_snoc {α : Type} {P : α → Prop} {xs : List α} {x : α} (h : ∀ y ∈ xs, P y) (hx : P x) : ∀ y ∈ xs ++ [x], P y := fun y hy => by
  rcases List.mem_append.mp hy with z | z
  · exact h y z
  · cases List.mem_singleton.mp z
    exact hx


/-! ### what is settled of a hall -/
theorem StAt.up {H H' : Hp} {b : Addr} {ls : List Int} {q : Int} (t : Tups H H') (h : StAt H b ls q) : StAt H' b ls q := by
  obtain ⟨u, h1, h2⟩ := h
  exact ⟨u, t _ _ h1, t _ _ h2⟩
theorem HallAt.up {H H' : Hp} {a : Addr} {ws : List Int} {calm : Option Int} (s : Tups H H') (h : HallAt H a ws calm) : HallAt H' a ws calm := by
  obtain ⟨t, h1, h2⟩ := h
  exact ⟨t, s _ _ h1, s _ _ h2⟩
theorem StO.up {H H' : Hp} {v : V} {r : Option (List Int × Int)} (s : Tups H H') (h : StO H v r) : StO H' v r := by
  cases r with
  | none => exact h
  | some r =>
    obtain ⟨b, e, h⟩ := h
    exact ⟨b, e, h.up s⟩
noncomputable def aft (ws ls : List Int) (cm : Option Int) (q : Int) (who : Nat) (lost : Bool) : Option (List Int × Int) := if (0 : Int) ∈ leftB ws ls who lost then none else some (leftB ws ls who lost, quietB cm q lost)
noncomputable def mayL (cm : Option Int) (q : Int) : Bool := !decide (cm = none) && decide (q = 0)
noncomputable def behL (ws ls : List Int) (cm : Option Int) (q : Int) (who : Nat) : List (Option (List Int × Int)) := aft ws ls cm q who false :: if mayL cm q = true then [aft ws ls cm q who true] else []
noncomputable def BehV (H : Hp) (r : Option (List Int × Int)) (v : V) : Prop := StO H v r
theorem BehV.up {H H' : Hp} {v : V} {r : Option (List Int × Int)} (s : Tups H H') (h : BehV H r v) : BehV H' r v := StO.up s h
theorem AllAt.cons {α : Type} {P : α → V → Prop} {r : α} {v : V} {rs : List α} {vs : List V} (h : P r v) (g : AllAt P rs vs) : AllAt P (r :: rs) (v :: vs) := (AllAt.one h).append g
theorem rpAll_beh {H : Hp} : ∀ {rs : List (Option (List Int × Int))} {us : List V}, AllAt (BehV H) rs us → RpAll H (rs.map dSt) us
  | [], [], _ => by unfold RpAll; rfl
  | [], _ :: _, h => by have := h.1; simp at this
  | _ :: _, [], h => by have := h.1; simp at this
  | r :: rs, u :: us, h => by
    obtain ⟨h1, h2⟩ := h.tail
    show RpAll H (dSt r :: rs.map dSt) (u :: us)
    unfold RpAll
    exact ⟨_, _, rfl, rp_StO h1, rpAll_beh h2⟩
theorem eqv_non (r : Option (List Int × Int)) : PyData.eqv (dSt r) .none = decide (r = none) := by cases r <;> rfl
theorem any_non : ∀ rs : List (Option (List Int × Int)), (rs.map dSt).any (fun e => PyData.eqv e .none) = decide (none ∈ rs)
  | [] => rfl
  | r :: rs => by
    rw [List.map_cons, List.any_cons, any_non rs, eqv_non, Bool.eq_iff_iff]
    simp only [Bool.or_eq_true, decide_eq_true_eq, List.mem_cons]
    exact ⟨fun z => z.imp Eq.symm id, fun z => z.imp Eq.symm id⟩
/-- a standing lies there -/
noncomputable def SV (H : Hp) (v : V) : Prop := ∃ b k, v = .ref b ∧ StH H b k
theorem SV.up {H H' : Hp} {v : V} (t : Tups H H') (h : SV H v) : SV H' v := by
  obtain ⟨b, k, e, h1⟩ := h
  exact ⟨b, k, e, h1.up t⟩
/-- the calls that are left: a listener's number, what is behind -/
noncomputable def CallsOk (H : Hp) (cs : List (Key × V)) : Prop := ∀ e ∈ cs, (∃ i : Int, e.1 = .inl i) ∧ ∃ (l : Addr) (us : List V), e.2 = .ref l ∧ H l = some (.lst us) ∧ us.length ≤ 2 ∧ ∀ u ∈ us, SV H u
noncomputable def CallD (H : Hp) (v : V) : Prop := ∃ (c : Addr) (cs : List (Key × V)), v = .ref c ∧ H c = some (.dK cs) ∧ cs.length ≤ 8 ∧ CallsOk H cs
/-- lists and tuples stay -/
noncomputable def LT (H H' : Hp) : Prop := (∀ b xs, H b = some (.lst xs) → H' b = some (.lst xs)) ∧ Tups H H'
theorem LT.of {H H' : Hp} (s : Same H H') : LT H H' := ⟨fun b xs e => s b _ e, Tups.of s⟩
theorem LT.dT {H : Hp} {D : Addr} {kvs : List ((List Int × Int) × V)} {o : HO} (h : H D = some (.dT kvs)) : LT H (upd H D o) :=
  ⟨fun b xs e => by rw [upd_ne (ne_of e h (by intro z; cases z))]; exact e, fun b xs e => by rw [upd_ne (ne_of e h (by intro z; cases z))]; exact e⟩
theorem LT.dK {H : Hp} {D : Addr} {kvs : List (Key × V)} {o : HO} (h : H D = some (.dK kvs)) : LT H (upd H D o) :=
  ⟨fun b xs e => by rw [upd_ne (ne_of e h (by intro z; cases z))]; exact e, fun b xs e => by rw [upd_ne (ne_of e h (by intro z; cases z))]; exact e⟩
theorem LT.trans {H H1 H2 : Hp} (a : LT H H1) (b : LT H1 H2) : LT H H2 := ⟨fun c xs e => b.1 c xs (a.1 c xs e), a.2.trans b.2⟩
theorem CallsOk.up {H H' : Hp} {cs : List (Key × V)} (t : LT H H') (h : CallsOk H cs) : CallsOk H' cs := fun e he => by
  obtain ⟨h1, l, us, h2, h3, h4, h5⟩ := h e he
  exact ⟨h1, l, us, h2, t.1 _ _ h3, h4, fun u hu => (h5 u hu).up t.2⟩
theorem CallD.up {H H' : Hp} {v : V} (t : LT H H') (k : ∀ c cs, H c = some (.dK cs) → H' c = some (.dK cs)) (h : CallD H v) : CallD H' v := by
  obtain ⟨c, cs, e, h1, h2, h3⟩ := h
  exact ⟨c, cs, e, k _ _ h1, h2, h3.up t⟩
theorem CallD.same {H H' : Hp} {v : V} (s : Same H H') (h : CallD H v) : CallD H' v := h.up (LT.of s) fun c cs e => s _ _ e
noncomputable def PendOk (H : Hp) (kvs : List ((List Int × Int) × V)) : Prop := ∀ kv ∈ kvs, CallD H kv.2
theorem put_all_mem {κ : Type} [DecidableEq κ] {P : V → Prop} {kvs : List (κ × V)} {k : κ} {v : V} (h : ∀ kv ∈ kvs, P kv.2) (hv : P v) : ∀ kv ∈ putK kvs k v, P kv.2 := fun kv hkv => by
  unfold putK at hkv
  split at hkv
  · obtain ⟨x, hx, rfl⟩ := List.mem_map.mp hkv
    split
    · exact hv
    · exact h x hx
  · rcases List.mem_append.mp hkv with z | z
    · exact h kv z
    · cases List.mem_singleton.mp z
      exact hv
theorem small20000 {n : Nat} (h : n ≤ 200000) : n < sizeLine := Nat.lt_of_le_of_lt h (by decide)

theorem valV_mem {κ : Type} [DecidableEq κ] {kvs : List (κ × V)} {k : κ} {v : V} (h : valV kvs k = some v) : (k, v) ∈ kvs := by
  unfold valV at h
  obtain ⟨p, hp, rfl⟩ := Option.map_eq_some_iff.mp h
  have h1 := List.find?_some hp
  have h2 := List.mem_of_find?_eq_some hp
  have h3 : p.1 = k := by simpa using h1
  rw [← h3]
  exact h2
theorem valV_of_mem {κ : Type} [DecidableEq κ] {kvs : List (κ × V)} {k : κ} {v : V} (h : (k, v) ∈ kvs) : ∃ w, valV kvs k = some w := by
  cases e : valV kvs k with
  | some w => exact ⟨w, rfl⟩
  | none => exact absurd (List.mem_map_of_mem (f := (·.1)) h) (valV_not e)
/-- a way: a standing of the hall, a call -/
noncomputable def WayV (kvs : List ((List Int × Int) × V)) (H : Hp) (u : V) : Prop := ∃ (t b : Addr) (i : Int) (k : List Int × Int), u = .ref t ∧ H t = some (.tup [.ref b, .int i]) ∧ StH H b k ∧ ∃ v, valV kvs k = some v
theorem WayV.up {kvs : List ((List Int × Int) × V)} {H H' : Hp} {u : V} (t : Tups H H') (h : WayV kvs H u) : WayV kvs H' u := by
  obtain ⟨a, b, i, k, e, h1, h2, h3⟩ := h
  exact ⟨a, b, i, k, e, t _ _ h1, h2.up t, h3⟩
noncomputable def WaysOk (H0 : Hp) (kvs : List ((List Int × Int) × V)) (n : Nat) (H : Hp) (wv : List ((List Int × Int) × V)) : Prop := ∀ kv ∈ wv, ∃ (l : Addr) (us : List V), kv.2 = .ref l ∧ H0 l = none ∧ H l = some (.lst us) ∧ us.length ≤ n ∧ ∀ u ∈ us, WayV kvs H u
theorem WaysOk.up {H0 H H' : Hp} {kvs wv : List ((List Int × Int) × V)} {n m : Nat} (t : LT H H') (hn : n ≤ m) (h : WaysOk H0 kvs n H wv) : WaysOk H0 kvs m H' wv := fun kv hkv => by
  obtain ⟨l, us, e, h0, h1, h2, h3⟩ := h kv hkv
  exact ⟨l, us, e, h0, t.1 _ _ h1, by omega, fun u hu => (h3 u hu).up t.2⟩
theorem WaysOk.app {H0 H : Hp} {kvs wv : List ((List Int × Int) × V)} {n : Nat} {l : Addr} {us : List V} {x : V} (h : WaysOk H0 kvs n H wv) (hl : H l = some (.lst us)) (hu : us.length ≤ n) (ha : ∀ u ∈ us, WayV kvs H u) (hx : WayV kvs H x) : WaysOk H0 kvs (n + 1) (upd H l (.lst (us ++ [x]))) wv := fun kv hkv => by
  have t : Tups H (upd H l (.lst (us ++ [x]))) := Tups.lst hl
  obtain ⟨l2, us2, e, h0, h1, h2, h3⟩ := h kv hkv
  by_cases z : l2 = l
  · subst z
    exact ⟨l2, us ++ [x], e, h0, upd_same, by rw [List.length_append, List.length_singleton]; omega, fun u hu => (mem_snoc ha hx u hu).up t⟩
  · exact ⟨l2, us2, e, h0, (upd_ne z).trans h1, by omega, fun u hu => (h3 u hu).up t⟩

/-- all stays but the dicts of calls -/
noncomputable def ChgP (kvs : List ((List Int × Int) × V)) (H H' : Hp) : Prop := ∀ b o, H b = some o → (∀ kv ∈ kvs, kv.2 ≠ .ref b) → H' b = some o
theorem ChgP.of {kvs : List ((List Int × Int) × V)} {H H' : Hp} (s : Same H H') : ChgP kvs H H' := fun b o e _ => s b o e
theorem ChgP.trans {kvs : List ((List Int × Int) × V)} {H H1 H2 : Hp} (a : ChgP kvs H H1) (b : ChgP kvs H1 H2) : ChgP kvs H H2 := fun c o e n => b c o (a c o e n) n
theorem ChgP.new {kvs : List ((List Int × Int) × V)} {H H' : Hp} {p : Addr} {o : HO} (a : ChgP kvs H H') (h : H p = none) : ChgP kvs H (upd H' p o) := fun b u e n => by
  rw [upd_ne (ne_of_none e h)]
  exact a b u e n
theorem ChgP.keep {kvs : List ((List Int × Int) × V)} {H H' : Hp} {b : Addr} {o : HO} (a : ChgP kvs H H') (p : PendOk H kvs) (e : H b = some o) (n : ∀ cs, o ≠ .dK cs) : H' b = some o := a b o e fun kv hkv z => by
  obtain ⟨c, cs, e1, e2, _⟩ := p kv hkv
  rw [z] at e1
  cases e1
  rw [e] at e2
  exact n cs (Option.some.inj e2)
theorem ChgP.lt {kvs : List ((List Int × Int) × V)} {H H' : Hp} (a : ChgP kvs H H') (p : PendOk H kvs) : LT H H' := ⟨fun b xs e => a.keep p e (fun cs z => nomatch z), fun b xs e => a.keep p e (fun cs z => nomatch z)⟩
theorem ChgP.pop {kvs : List ((List Int × Int) × V)} {H : Hp} {c : Addr} {o : HO} {kv : (List Int × Int) × V} (h : kv ∈ kvs) (e : kv.2 = .ref c) : ChgP kvs H (upd H c o) := fun b u eb n => by
  rw [upd_ne (fun z => n kv h (by rw [e, z]))]
  exact eb
noncomputable def szC (H : Hp) : V → Nat
  | .ref c => match H c with
    | some (.dK cs) => cs.length
    | _ => 0
  | _ => 0
/-- how many calls are left -/
noncomputable def leftC (H : Hp) (kvs : List ((List Int × Int) × V)) : Nat := (kvs.map fun kv => szC H kv.2).sum
theorem szC_at {H : Hp} {c : Addr} {cs : List (Key × V)} (h : H c = some (.dK cs)) : szC H (.ref c) = cs.length := by
  unfold szC
  simp only [h]
theorem leftC_keep {H H' : Hp} : ∀ {kvs : List ((List Int × Int) × V)}, PendOk H kvs → (∀ c cs, H c = some (.dK cs) → H' c = some (.dK cs)) → leftC H' kvs = leftC H kvs
  | [], _, _ => rfl
  | kv :: kvs, p, k => by
    obtain ⟨c, cs, e, h1, _⟩ := p kv (by simp)
    have ih := leftC_keep (kvs := kvs) (fun x hx => p x (List.mem_cons_of_mem _ hx)) k
    unfold leftC at ih ⊢
    rw [List.map_cons, List.map_cons, List.sum_cons, List.sum_cons, ih, e, szC_at h1, szC_at (k c cs h1)]
theorem leftC_le {H : Hp} : ∀ {kvs : List ((List Int × Int) × V)}, PendOk H kvs → leftC H kvs ≤ 8 * kvs.length
  | [], _ => Nat.zero_le _
  | kv :: kvs, p => by
    obtain ⟨c, cs, e, h1, h2, _⟩ := p kv (by simp)
    have ih := leftC_le (kvs := kvs) (fun x hx => p x (List.mem_cons_of_mem _ hx))
    unfold leftC at ih ⊢
    rw [List.map_cons, List.sum_cons, e, szC_at h1, List.length_cons]
    omega
theorem leftC_pop {H : Hp} {c : Addr} {cs cs' : List (Key × V)} (hc : H c = some (.dK cs)) (hlt : cs'.length < cs.length) : ∀ {kvs : List ((List Int × Int) × V)}, leftC (upd H c (.dK cs')) kvs ≤ leftC H kvs ∧ ((∃ kv ∈ kvs, kv.2 = .ref c) → leftC (upd H c (.dK cs')) kvs + 1 ≤ leftC H kvs)
  | [] => ⟨Nat.le_refl _, fun ⟨kv, h, _⟩ => by cases h⟩
  | kv :: kvs => by
    obtain ⟨i1, i2⟩ := leftC_pop hc hlt (kvs := kvs)
    have one : szC (upd H c (.dK cs')) kv.2 ≤ szC H kv.2 ∧ (kv.2 = .ref c → szC (upd H c (.dK cs')) kv.2 + 1 ≤ szC H kv.2) := by
      by_cases z : kv.2 = .ref c
      · rw [z, szC_at hc, szC_at upd_same]
        omega
      · refine ⟨Nat.le_of_eq ?_, fun y => absurd y z⟩
        unfold szC
        cases hv : kv.2 with
        | ref d =>
          rw [hv] at z
          have hd : d ≠ c := fun y => z (by rw [y])
          simp only [upd_ne hd]
        | _ => rfl
    unfold leftC at i1 i2 ⊢
    rw [List.map_cons, List.map_cons, List.sum_cons, List.sum_cons]
    refine ⟨by omega, fun ⟨x, hx, ex⟩ => ?_⟩
    rcases List.mem_cons.mp hx with y | y
    · subst y
      have := one.2 ex
      omega
    · have := i2 ⟨x, y, ex⟩
      omega
theorem drop_lt {cs : List (Key × V)} {k : Key} {v : V} (h : valV cs k = some v) : (dropK cs k).length < cs.length := by
  have hm := valV_mem h
  unfold dropK
  exact List.length_filter_lt_length_iff_exists.mpr ⟨(k, v), hm, by simp⟩
theorem drop_mem {cs : List (Key × V)} {k : Key} {e : Key × V} (h : e ∈ dropK cs k) : e ∈ cs := (List.mem_filter.mp h).1
theorem PendOk.pop {H : Hp} {c : Addr} {cs : List (Key × V)} {k : Key} {kvs : List ((List Int × Int) × V)} (p : PendOk H kvs) (hc : H c = some (.dK cs)) : PendOk (upd H c (.dK (dropK cs k))) kvs := fun kv hkv => by
  obtain ⟨d, ds, e, h1, h2, h3⟩ := p kv hkv
  have t : LT H (upd H c (.dK (dropK cs k))) := LT.dK hc
  by_cases z : d = c
  · subst z
    rw [hc] at h1
    cases h1
    refine ⟨d, dropK cs k, e, upd_same, Nat.le_trans (dropK_le cs k) h2, fun x hx => ?_⟩
    obtain ⟨g1, l, us, g2, g3, g4, g5⟩ := h3 x (drop_mem hx)
    exact ⟨g1, l, us, g2, t.1 _ _ g3, g4, fun u hu => (g5 u hu).up t.2⟩
  · exact ⟨d, ds, e, (upd_ne z).trans h1, h2, h3.up t⟩
/-- none of the lists of the calls is the one at B -/
noncomputable def NoB (B : Addr) (H : Hp) (kvs : List ((List Int × Int) × V)) : Prop := ∀ kv ∈ kvs, ∀ c cs, kv.2 = .ref c → H c = some (.dK cs) → ∀ e ∈ cs, e.2 ≠ .ref B
theorem NoB.start {B : Addr} {H : Hp} {kvs : List ((List Int × Int) × V)} (p : PendOk H kvs) (h : H B = none) : NoB B H kvs := fun kv hkv c cs e1 e2 e he z => by
  obtain ⟨d, ds, f1, f2, _, f3⟩ := p kv hkv
  rw [e1] at f1
  cases f1
  rw [e2] at f2
  cases f2
  obtain ⟨_, l, us, g1, g2, _⟩ := f3 e he
  rw [z] at g1
  cases g1
  rw [h] at g2
  cases g2
theorem NoB.keep {B : Addr} {H H' : Hp} {kvs : List ((List Int × Int) × V)} (n : NoB B H kvs) (p : PendOk H kvs) (k : ∀ c cs, H c = some (.dK cs) → H' c = some (.dK cs)) : NoB B H' kvs := fun kv hkv c cs e1 e2 => by
  obtain ⟨d, ds, f1, f2, _⟩ := p kv hkv
  have f1' := f1
  rw [e1] at f1'
  cases f1'
  have := k _ _ f2
  rw [e2] at this
  cases this
  exact n kv hkv c cs e1 f2
theorem NoB.pop {B c : Addr} {H : Hp} {cs : List (Key × V)} {k : Key} {kvs : List ((List Int × Int) × V)} (n : NoB B H kvs) (hc : H c = some (.dK cs)) : NoB B (upd H c (.dK (dropK cs k))) kvs := fun kv hkv d ds e1 e2 e he => by
  by_cases z : d = c
  · subst z
    rw [upd_same] at e2
    cases e2
    exact n kv hkv d cs e1 hc e (drop_mem he)
  · rw [upd_ne z] at e2
    exact n kv hkv d ds e1 e2 e he
theorem PendOk.keepB {B : Addr} {H H' : Hp} {kvs : List ((List Int × Int) × V)} (p : PendOk H kvs) (n : NoB B H kvs) (t : Tups H H') (kl : ∀ l us, l ≠ B → H l = some (.lst us) → H' l = some (.lst us)) (k : ∀ c cs, H c = some (.dK cs) → H' c = some (.dK cs)) : PendOk H' kvs := fun kv hkv => by
  obtain ⟨c, cs, e1, e2, e3, e4⟩ := p kv hkv
  refine ⟨c, cs, e1, k _ _ e2, e3, fun e he => ?_⟩
  obtain ⟨g1, l, us, g2, g3, g4, g5⟩ := e4 e he
  exact ⟨g1, l, us, g2, kl _ _ (fun z => n kv hkv c cs e1 e2 e he (by rw [g2, z])) g3, g4, fun u hu => (g5 u hu).up t⟩
theorem PendOk.keep {H H' : Hp} {kvs : List ((List Int × Int) × V)} (p : PendOk H kvs) (t : LT H H') (k : ∀ c cs, H c = some (.dK cs) → H' c = some (.dK cs)) : PendOk H' kvs := fun kv hkv => (p kv hkv).up t k

/-! ### what is settled of a hall, in full -/
theorem ltv_irr (k : List Int × Int) : ltv (dS k) (dS k) = false := by
  have e1 : PyData.eqv (dT k.1) (dT k.1) = true := by
    show PyData.eqvAll (k.1.map PyData.int) (k.1.map PyData.int) = true
    rw [eqvAll_ints]
    simp
  show ltvAll [dT k.1, .int k.2] [dT k.1, .int k.2] = false
  rw [ltvAll, if_pos e1, ltvAll, if_pos (show PyData.eqv (.int k.2) (.int k.2) = true from PySem.SeqAt.eqv_refl _ rfl)]
  rfl
theorem stand_nodup (ws : List Int) (q : Int) : (standL ws q).Nodup := (stand_sorted ws q).imp fun {a b} h e => by
  rw [e, ltv_irr] at h
  cases h
theorem nodup_new {α : Type} {xs : List α} {i : Nat} {x : α} (h : xs.Nodup) (e : xs[i]? = some x) : x ∉ xs.take i := fun z => by
  obtain ⟨j, hj⟩ := List.mem_iff_getElem?.mp z
  have hlt : j < i := by
    apply Classical.byContradiction
    intro y
    rw [List.getElem?_take_eq_none (by omega)] at hj
    cases hj
  rw [List.getElem?_take_of_lt hlt] at hj
  have h1 := (List.getElem?_eq_some_iff.mp hj)
  have h2 := (List.getElem?_eq_some_iff.mp e)
  obtain ⟨a1, a2⟩ := h1
  obtain ⟨b1, b2⟩ := h2
  exact (List.pairwise_iff_getElem.mp h) j i a1 b1 hlt (a2.trans b2.symm)
theorem valV_nodup {κ : Type} [DecidableEq κ] {kvs : List (κ × V)} {k : κ} {v : V} (hn : (kvs.map (·.1)).Nodup) (h : (k, v) ∈ kvs) : valV kvs k = some v := by
  induction kvs with
  | nil => cases h
  | cons p r ih =>
    rw [List.map_cons, List.nodup_cons] at hn
    rcases List.mem_cons.mp h with z | z
    · subst z
      exact valV_pos rfl
    · have hp : ¬ p.1 = k := fun e => hn.1 (by rw [e]; exact List.mem_map_of_mem (f := (·.1)) z)
      rw [valV_neg hp]
      exact ih hn.2 z
theorem val_inj {κ : Type} {kvs : List (κ × V)} {x y : κ × V} (hn : (kvs.map (·.2)).Nodup) (hx : x ∈ kvs) (hy : y ∈ kvs) (e : x.2 = y.2) : x = y := by
  induction kvs with
  | nil => cases hx
  | cons p r ih =>
    rw [List.map_cons, List.nodup_cons] at hn
    rcases List.mem_cons.mp hx with z | z <;> rcases List.mem_cons.mp hy with y' | y'
    · rw [z, y']
    · subst z
      exact absurd (by rw [e]; exact List.mem_map_of_mem (f := (·.2)) y') hn.1
    · subst y'
      exact absurd (by rw [← e]; exact List.mem_map_of_mem (f := (·.2)) z) hn.1
    · exact ih hn.2 z y'
theorem put_or {κ : Type} [DecidableEq κ] {kvs : List (κ × V)} {k : κ} {v : V} {e : κ × V} (h : e ∈ putK kvs k v) : e ∈ kvs ∨ e = (k, v) := by
  unfold putK at h
  split at h
  · obtain ⟨x, hx, rfl⟩ := List.mem_map.mp h
    split
    · rename_i hk
      exact .inr (by rw [hk])
    · exact .inl hx
  · rcases List.mem_append.mp h with z | z
    · exact .inl z
    · exact .inr (List.mem_singleton.mp z)
theorem isSome_put {κ : Type} [DecidableEq κ] {kvs : List (κ × V)} {k j : κ} {v : V} (h : (valV kvs j).isSome = true ∨ j = k) : (valV (putK kvs k v) j).isSome = true := by
  rw [valV_put]
  split
  · rfl
  · rename_i hn
    rcases h with h | h
    · exact h
    · exact absurd h hn
/-- the calls of a standing that are left -/
noncomputable def CallsE (ws : List Int) (cm : Option Int) (z : List Int × Int) (H : Hp) (cs : List (Key × V)) : Prop := ∀ e ∈ cs, ∃ (who : Nat) (l : Addr) (us : List V), e.1 = .inl (who : Int) ∧ who < ws.length ∧ none ∉ behL ws z.1 cm z.2 who ∧ e.2 = .ref l ∧ H l = some (.lst us) ∧ AllAt (BehV H) (behL ws z.1 cm z.2 who) us
noncomputable def CallE (ws : List Int) (cm : Option Int) (H : Hp) (z : List Int × Int) (v : V) : Prop := ∃ (c : Addr) (cs : List (Key × V)), v = .ref c ∧ H c = some (.dK cs) ∧ cs.length ≤ 8 ∧ CallsE ws cm z H cs
theorem CallsE.up {ws : List Int} {cm : Option Int} {z : List Int × Int} {H H' : Hp} {cs : List (Key × V)} (t : LT H H') (h : CallsE ws cm z H cs) : CallsE ws cm z H' cs := fun e he => by
  obtain ⟨who, l, us, h1, h2, h3, h4, h5, h6⟩ := h e he
  exact ⟨who, l, us, h1, h2, h3, h4, t.1 _ _ h5, h6.imp fun _ _ y => BehV.up t.2 y⟩
theorem CallsE.ok {ws : List Int} {cm : Option Int} {z : List Int × Int} {H : Hp} {cs : List (Key × V)} (h : CallsE ws cm z H cs) : CallsOk H cs := fun e he => by
  obtain ⟨who, l, us, h1, h2, h3, h4, h5, h6⟩ := h e he
  refine ⟨⟨_, h1⟩, l, us, h4, h5, ?_, fun u hu => ?_⟩
  · rw [h6.1]
    unfold behL
    split <;> simp
  · obtain ⟨m, hm⟩ := List.mem_iff_getElem?.mp hu
    obtain ⟨r, hr1, hr2⟩ := h6.get hm
    cases r with
    | none => exact absurd (List.mem_of_getElem? hr1) h3
    | some r =>
      obtain ⟨bb, e, h1⟩ := hr2
      exact ⟨bb, r, e, h1⟩
theorem CallE.up {ws : List Int} {cm : Option Int} {z : List Int × Int} {H H' : Hp} {v : V} (t : LT H H') (k : ∀ c cs, H c = some (.dK cs) → H' c = some (.dK cs)) (h : CallE ws cm H z v) : CallE ws cm H' z v := by
  obtain ⟨c, cs, e, h1, h2, h3⟩ := h
  exact ⟨c, cs, e, k _ _ h1, h2, h3.up t⟩
theorem CallE.same {ws : List Int} {cm : Option Int} {z : List Int × Int} {H H' : Hp} {v : V} (s : Same H H') (h : CallE ws cm H z v) : CallE ws cm H' z v := h.up (LT.of s) fun c cs e => s _ _ e
noncomputable def PendS (ws : List Int) (cm : Option Int) (H : Hp) (kvs : List ((List Int × Int) × V)) : Prop := (∀ kv ∈ kvs, CallE ws cm H kv.1 kv.2) ∧ (kvs.map (·.1)).Nodup ∧ (kvs.map (·.2)).Nodup
theorem PendS.ok {ws : List Int} {cm : Option Int} {H : Hp} {kvs : List ((List Int × Int) × V)} (h : PendS ws cm H kvs) : PendOk H kvs := fun kv hkv => by
  obtain ⟨c, cs, e, h1, h2, h3⟩ := h.1 kv hkv
  exact ⟨c, cs, e, h1, h2, h3.ok⟩
theorem PendS.keep {ws : List Int} {cm : Option Int} {H H' : Hp} {kvs : List ((List Int × Int) × V)} (p : PendS ws cm H kvs) (t : LT H H') (k : ∀ c cs, H c = some (.dK cs) → H' c = some (.dK cs)) : PendS ws cm H' kvs := ⟨fun kv hkv => (p.1 kv hkv).up t k, p.2⟩
/-- all calls in which nobody is broken at once are there -/
noncomputable def FullC (ws : List Int) (cm : Option Int) (H : Hp) (kvs : List ((List Int × Int) × V)) : Prop := ∀ kv ∈ kvs, ∀ c cs, kv.2 = .ref c → H c = some (.dK cs) → ∀ who : Nat, who < ws.length → none ∉ behL ws kv.1.1 cm kv.1.2 who → (valV cs (.inl (who : Int))).isSome = true
theorem FullC.keep {ws : List Int} {cm : Option Int} {H H' : Hp} {kvs : List ((List Int × Int) × V)} (f : FullC ws cm H kvs) (p : PendS ws cm H kvs) (k : ∀ c cs, H c = some (.dK cs) → H' c = some (.dK cs)) : FullC ws cm H' kvs := fun kv hkv c cs e1 e2 => by
  obtain ⟨d, ds, f1, f2, _⟩ := p.1 kv hkv
  have f1' := f1
  rw [e1] at f1'
  cases f1'
  have := k _ _ f2
  rw [e2] at this
  cases this
  exact f kv hkv c cs e1 f2
/-- a call is left -/
noncomputable def LeftP (H : Hp) (kvs : List ((List Int × Int) × V)) (k : List Int × Int) (who : Nat) : Prop := ∃ (c : Addr) (cs : List (Key × V)), valV kvs k = some (.ref c) ∧ H c = some (.dK cs) ∧ (valV cs (.inl (who : Int))).isSome = true

theorem nodup_snoc2 {α : Type} {xs : List α} {x : α} (h : xs.Nodup) (hx : x ∉ xs) : (xs ++ [x]).Nodup := by
  rw [List.nodup_append]
  refine ⟨h, by simp, fun a ha b hb e => ?_⟩
  rw [List.mem_singleton.mp hb] at e
  exact hx (e ▸ ha)

/-- a way that is kept: a standing of the hall, a call that leads there -/
noncomputable def WayE (ws : List Int) (cm : Option Int) (kvs : List ((List Int × Int) × V)) (H : Hp) (later : List Int × Int) (u : V) : Prop := ∃ (t b : Addr) (who : Nat) (k : List Int × Int), u = .ref t ∧ H t = some (.tup [.ref b, .int (who : Int)]) ∧ StH H b k ∧ (∃ v, valV kvs k = some v) ∧ some later ∈ behL ws k.1 cm k.2 who
theorem WayE.up {ws : List Int} {cm : Option Int} {kvs : List ((List Int × Int) × V)} {H H' : Hp} {later : List Int × Int} {u : V} (t : Tups H H') (h : WayE ws cm kvs H later u) : WayE ws cm kvs H' later u := by
  obtain ⟨a, b, i, k, e, h1, h2, h3, h4⟩ := h
  exact ⟨a, b, i, k, e, t _ _ h1, h2.up t, h3, h4⟩
noncomputable def WaysE (ws : List Int) (cm : Option Int) (H0 : Hp) (kvs : List ((List Int × Int) × V)) (n : Nat) (H : Hp) (wv : List ((List Int × Int) × V)) : Prop := (∀ kv ∈ wv, ∃ (l : Addr) (us : List V), kv.2 = .ref l ∧ H0 l = none ∧ H l = some (.lst us) ∧ us.length ≤ n ∧ ∀ u ∈ us, WayE ws cm kvs H kv.1 u) ∧ (wv.map (·.2)).Nodup
theorem WaysE.up {ws : List Int} {cm : Option Int} {H0 H H' : Hp} {kvs wv : List ((List Int × Int) × V)} {n m : Nat} (t : LT H H') (hn : n ≤ m) (h : WaysE ws cm H0 kvs n H wv) : WaysE ws cm H0 kvs m H' wv := ⟨fun kv hkv => by
  obtain ⟨l, us, e, h0, h1, h2, h3⟩ := h.1 kv hkv
  exact ⟨l, us, e, h0, t.1 _ _ h1, by omega, fun u hu => (h3 u hu).up t.2⟩, h.2⟩
theorem WaysE.app {ws : List Int} {cm : Option Int} {H0 H : Hp} {kvs wv : List ((List Int × Int) × V)} {n : Nat} {l : Addr} {us : List V} {x : V} {later : List Int × Int} (h : WaysE ws cm H0 kvs n H wv) (hm : (later, V.ref l) ∈ wv) (hl : H l = some (.lst us)) (hu : us.length ≤ n) (ha : ∀ u ∈ us, WayE ws cm kvs H later u) (hx : WayE ws cm kvs H later x) : WaysE ws cm H0 kvs (n + 1) (upd H l (.lst (us ++ [x]))) wv := ⟨fun kv hkv => by
  have t : Tups H (upd H l (.lst (us ++ [x]))) := Tups.lst hl
  obtain ⟨l2, us2, e, h0, h1, h2, h3⟩ := h.1 kv hkv
  by_cases z : l2 = l
  · subst z
    have ek : kv = (later, V.ref l2) := val_inj h.2 hkv hm e
    refine ⟨l2, us ++ [x], e, h0, upd_same, by rw [List.length_append, List.length_singleton]; omega, fun u hu => ?_⟩
    rw [ek]
    exact (mem_snoc ha hx u hu).up t
  · exact ⟨l2, us2, e, h0, (upd_ne z).trans h1, by omega, fun u hu => (h3 u hu).up t⟩, h.2⟩
/-- the way is there -/
noncomputable def HasWay (H : Hp) (wv : List ((List Int × Int) × V)) (later k : List Int × Int) (who : Nat) : Prop := ∃ (l : Addr) (us : List V) (t b : Addr), valV wv later = some (.ref l) ∧ H l = some (.lst us) ∧ V.ref t ∈ us ∧ H t = some (.tup [.ref b, .int (who : Int)]) ∧ StH H b k
theorem HasWay.up {H H' : Hp} {wv : List ((List Int × Int) × V)} {later k : List Int × Int} {who : Nat} (t : LT H H') (h : HasWay H wv later k who) : HasWay H' wv later k who := by
  obtain ⟨l, us, a, b, h1, h2, h3, h4, h5⟩ := h
  exact ⟨l, us, a, b, h1, t.1 _ _ h2, h3, t.2 _ _ h4, h5.up t.2⟩
theorem HasWay.put {H : Hp} {wv : List ((List Int × Int) × V)} {later k lk : List Int × Int} {who : Nat} {v : V} (hn : valV wv lk = none) (h : HasWay H wv later k who) : HasWay H (putK wv lk v) later k who := by
  obtain ⟨l, us, a, b, h1, h2⟩ := h
  refine ⟨l, us, a, b, ?_, h2⟩
  rw [valV_put, if_neg (fun e => by rw [e, hn] at h1; cases h1)]
  exact h1
theorem HasWay.app {H : Hp} {wv : List ((List Int × Int) × V)} {later k : List Int × Int} {who : Nat} {l : Addr} {us : List V} {x : V} (hl : H l = some (.lst us)) (h : HasWay H wv later k who) : HasWay (upd H l (.lst (us ++ [x]))) wv later k who := by
  have t : Tups H (upd H l (.lst (us ++ [x]))) := Tups.lst hl
  obtain ⟨l2, us2, a, b, h1, h2, h3, h4, h5⟩ := h
  by_cases z : l2 = l
  · subst z
    rw [hl] at h2
    cases h2
    exact ⟨l2, _, a, b, h1, upd_same, List.mem_append_left _ h3, t _ _ h4, h5.up t⟩
  · exact ⟨l2, us2, a, b, h1, (upd_ne z).trans h2, h3, t _ _ h4, h5.up t⟩

theorem drop_val {cs : List (Key × V)} {k j : Key} : valV (dropK cs k) j = if j = k then none else valV cs j := by
  induction cs with
  | nil => split <;> rfl
  | cons p r ih =>
    by_cases e : p.1 = k
    · rw [dropK_pos e, ih]
      by_cases z : j = k
      · rw [if_pos z, if_pos z]
      · rw [if_neg z, if_neg z, valV_neg (fun y => z (by rw [← y, e]))]
    · have ed : dropK (p :: r) k = p :: dropK r k := by
        unfold dropK
        rw [List.filter_cons, if_pos (by simpa using e)]
      rw [ed]
      by_cases z : p.1 = j
      · rw [valV_pos z, valV_pos z, if_neg (fun y => e (z.trans y))]
      · rw [valV_neg z, valV_neg z, ih]
theorem LeftP.keep {ws : List Int} {cm : Option Int} {H H' : Hp} {kvs : List ((List Int × Int) × V)} {k : List Int × Int} {who : Nat} (p : PendS ws cm H kvs) (kk : ∀ c cs, H c = some (.dK cs) → H' c = some (.dK cs)) : LeftP H' kvs k who ↔ LeftP H kvs k who := by
  constructor
  · rintro ⟨c, cs, h1, h2, h3⟩
    obtain ⟨d, ds, e, f1, _⟩ := p.1 _ (valV_mem h1)
    cases e
    have := kk _ _ f1
    rw [h2] at this
    cases this
    exact ⟨c, cs, h1, f1, h3⟩
  · rintro ⟨c, cs, h1, h2, h3⟩
    exact ⟨c, cs, h1, kk _ _ h2, h3⟩
theorem LeftP.pop {ws : List Int} {cm : Option Int} {H : Hp} {kvs : List ((List Int × Int) × V)} {k k' : List Int × Int} {who who' : Nat} {c : Addr} {cs : List (Key × V)} (p : PendS ws cm H kvs) (hk : valV kvs k = some (.ref c)) (hc : H c = some (.dK cs)) :
    LeftP (upd H c (.dK (dropK cs (.inl (who : Int))))) kvs k' who' ↔ LeftP H kvs k' who' ∧ ¬ (k' = k ∧ who' = who) := by
  constructor
  · rintro ⟨d, ds, h1, h2, h3⟩
    by_cases z : d = c
    · subst z
      rw [upd_same] at h2
      cases h2
      have ek : (k', V.ref d) = (k, V.ref d) := val_inj p.2.2 (valV_mem h1) (valV_mem hk) rfl
      cases ek
      rw [drop_val] at h3
      by_cases y : (Sum.inl (who' : Int) : Key) = .inl (who : Int)
      · rw [if_pos y] at h3
        cases h3
      · rw [if_neg y] at h3
        exact ⟨⟨d, cs, h1, hc, h3⟩, fun w => y (by rw [w.2])⟩
    · rw [upd_ne z] at h2
      refine ⟨⟨d, ds, h1, h2, h3⟩, fun w => z ?_⟩
      rw [w.1, hk] at h1
      cases h1
      rfl
  · rintro ⟨⟨d, ds, h1, h2, h3⟩, hn⟩
    by_cases z : d = c
    · subst z
      have ek : (k', V.ref d) = (k, V.ref d) := val_inj p.2.2 (valV_mem h1) (valV_mem hk) rfl
      cases ek
      rw [hc] at h2
      cases h2
      refine ⟨d, _, h1, upd_same, ?_⟩
      rw [drop_val, if_neg]
      · exact h3
      · intro y
        have y2 : (who' : Int) = (who : Int) := Sum.inl.inj y
        exact hn ⟨rfl, by omega⟩
    · exact ⟨d, ds, h1, (upd_ne z).trans h2, h3⟩
theorem PendS.pop {ws : List Int} {cm : Option Int} {H : Hp} {c : Addr} {cs : List (Key × V)} {k : Key} {kvs : List ((List Int × Int) × V)} (p : PendS ws cm H kvs) (hc : H c = some (.dK cs)) : PendS ws cm (upd H c (.dK (dropK cs k))) kvs := ⟨fun kv hkv => by
  obtain ⟨d, ds, e, h1, h2, h3⟩ := p.1 kv hkv
  have t : LT H (upd H c (.dK (dropK cs k))) := LT.dK hc
  by_cases z : d = c
  · subst z
    rw [hc] at h1
    cases h1
    exact ⟨d, dropK cs k, e, upd_same, Nat.le_trans (dropK_le cs k) h2, fun x hx => (h3.up t) x (drop_mem hx)⟩
  · exact ⟨d, ds, e, (upd_ne z).trans h1, h2, h3.up t⟩, p.2⟩
theorem PendS.keepB {ws : List Int} {cm : Option Int} {B : Addr} {H H' : Hp} {kvs : List ((List Int × Int) × V)} (p : PendS ws cm H kvs) (n : NoB B H kvs) (t : Tups H H') (kl : ∀ l us, l ≠ B → H l = some (.lst us) → H' l = some (.lst us)) (k : ∀ c cs, H c = some (.dK cs) → H' c = some (.dK cs)) : PendS ws cm H' kvs := ⟨fun kv hkv => by
  obtain ⟨c, cs, e1, e2, e3, e4⟩ := p.1 kv hkv
  refine ⟨c, cs, e1, k _ _ e2, e3, fun e he => ?_⟩
  obtain ⟨who, l, us, g1, g2, g3, g4, g5, g6⟩ := e4 e he
  exact ⟨who, l, us, g1, g2, g3, g4, kl _ _ (fun z => n kv hkv c cs e1 e2 e he (by rw [g4, z])) g5, g6.imp fun _ _ y => BehV.up t y⟩, p.2⟩

theorem map_int_inj : ∀ {xs ys : List Int}, xs.map V.int = ys.map V.int → xs = ys
  | [], [], _ => rfl
  | [], _ :: _, h => by cases h
  | _ :: _, [], h => by cases h
  | x :: xs, y :: ys, h => by
    rw [List.map_cons, List.map_cons] at h
    injection h with h1 h2
    injection h1 with h1
    rw [h1, map_int_inj h2]

/-- rank m fits a standing k, by what the table holds -/
noncomputable def RankE (ws : List Int) (cm : Option Int) (tv : List ((List Int × Int) × V)) (k : List Int × Int) (m : Int) : Prop :=
  (∀ who, who < ws.length → none ∈ behL ws k.1 cm k.2 who ∨ ∃ later m', some later ∈ behL ws k.1 cm k.2 who ∧ valV tv later = some (.int m') ∧ m' ≤ m - 1) ∧
  (m = 1 ∨ ∃ who, who < ws.length ∧ none ∉ behL ws k.1 cm k.2 who ∧ ∀ later m', some later ∈ behL ws k.1 cm k.2 who → valV tv later = some (.int m') → m - 1 ≤ m')
/-- what ranks comes to -/
noncomputable def RankOk (ws : List Int) (cm : Option Int) (tv : List ((List Int × Int) × V)) : Prop :=
  (∀ k v, valV tv k = some v → ∃ m : Int, v = .int m ∧ 1 ≤ m ∧ k ∈ standL ws (qv cm) ∧ RankE ws cm tv k m) ∧
  (∀ k, k ∈ standL ws (qv cm) → valV tv k = none → ∃ who, who < ws.length ∧ none ∉ behL ws k.1 cm k.2 who ∧ ∀ later, some later ∈ behL ws k.1 cm k.2 who → valV tv later = none)
/-- so far -/
noncomputable def RankI (ws : List Int) (cm : Option Int) (tv : List ((List Int × Int) × V)) (rho : List (List Int × Int)) (r : Int) (Lf : (List Int × Int) → Nat → Prop) : Prop :=
  1 ≤ r ∧ (∀ kv ∈ tv, ∃ n : Int, kv.2 = .int n ∧ 1 ≤ n ∧ n < r) ∧ (∀ k ∈ rho, k ∈ standL ws (qv cm) ∧ valV tv k = none) ∧ (∀ k v, valV tv k = some v → k ∈ standL ws (qv cm)) ∧
  (∀ k who, Lf k who ↔ (k ∈ standL ws (qv cm) ∧ who < ws.length ∧ none ∉ behL ws k.1 cm k.2 who ∧ ∀ later, some later ∈ behL ws k.1 cm k.2 who → valV tv later = none)) ∧
  (∀ k, k ∈ standL ws (qv cm) → ((∀ who, ¬ Lf k who) ↔ (k ∈ rho ∨ (valV tv k).isSome = true))) ∧
  (∀ k m, valV tv k = some (.int m) → RankE ws cm tv k m) ∧ ∀ k ∈ rho, RankE ws cm tv k r
theorem RankI.done {ws : List Int} {cm : Option Int} {tv : List ((List Int × Int) × V)} {r : Int} {Lf : (List Int × Int) → Nat → Prop} (h : RankI ws cm tv [] r Lf) : RankOk ws cm tv := by
  obtain ⟨h0, hv, ha1, ha2, hb, hc, hd1, hd2⟩ := h
  refine ⟨fun k v e => ?_, fun k hk e => ?_⟩
  · obtain ⟨n, e1, e2, _⟩ := hv _ (valV_mem e)
    have e1' : v = .int n := e1
    subst e1'
    exact ⟨n, rfl, e2, ha2 k _ e, hd1 k n e⟩
  · have hn : ¬ ∀ who, ¬ Lf k who := fun z => by
      rcases (hc k hk).mp z with y | y
      · cases y
      · rw [e] at y
        cases y
    obtain ⟨who, hw⟩ := Classical.not_forall.mp hn
    obtain ⟨g1, g2, g3, g4⟩ := (hb k who).mp (Classical.not_not.mp hw)
    exact ⟨who, g2, g3, g4⟩
theorem RankI.step {ws : List Int} {cm : Option Int} {tv tv' : List ((List Int × Int) × V)} {rho beta : List (List Int × Int)} {r : Int} {Lf Lf' : (List Int × Int) → Nat → Prop} (h : RankI ws cm tv rho r Lf)
    (ht : ∀ k, valV tv' k = if k ∈ rho then some (.int r) else valV tv k) (hv' : ∀ kv ∈ tv', ∃ n : Int, kv.2 = .int n ∧ 1 ≤ n ∧ n < r + 1)
    (hl : ∀ k who, Lf' k who ↔ (Lf k who ∧ ∀ later ∈ rho, some later ∉ behL ws k.1 cm k.2 who)) (hbt : ∀ k, k ∈ beta ↔ ((∃ who, Lf k who) ∧ ∀ who, ¬ Lf' k who)) : RankI ws cm tv' beta (r + 1) Lf' := by
  obtain ⟨h0, hv, ha1, ha2, hb, hc, hd1, hd2⟩ := h
  have none' : ∀ k, valV tv' k = none ↔ (k ∉ rho ∧ valV tv k = none) := fun k => by
    rw [ht]
    by_cases z : k ∈ rho
    · rw [if_pos z]
      exact ⟨fun y => (nomatch y), fun y => absurd z y.1⟩
    · rw [if_neg z]
      exact ⟨fun y => ⟨z, y⟩, fun y => y.2⟩
  have old : ∀ later m', valV tv later = some (.int m') → valV tv' later = some (.int m') := fun later m' e => by
    rw [ht, if_neg (fun z => by rw [(ha1 later z).2] at e; cases e)]
    exact e
  have back : ∀ later m', valV tv' later = some (.int m') → (later ∈ rho ∧ m' = r) ∨ valV tv later = some (.int m') := fun later m' e => by
    rw [ht] at e
    by_cases z : later ∈ rho
    · rw [if_pos z] at e
      cases e
      exact .inl ⟨z, rfl⟩
    · rw [if_neg z] at e
      exact .inr e
  have more : ∀ k m, m ≤ r → RankE ws cm tv k m → RankE ws cm tv' k m := fun k m hm ⟨p1, p2⟩ => by
    refine ⟨fun who hw => ?_, ?_⟩
    · rcases p1 who hw with y | ⟨later, m', y1, y2, y3⟩
      · exact .inl y
      · exact .inr ⟨later, m', y1, old _ _ y2, y3⟩
    · rcases p2 with y | ⟨who, y1, y2, y3⟩
      · exact .inl y
      · refine .inr ⟨who, y1, y2, fun later m' z1 z2 => ?_⟩
        rcases back later m' z2 with ⟨_, e⟩ | e
        · omega
        · exact y3 later m' z1 e
  have hb' : ∀ k who, Lf' k who ↔ (k ∈ standL ws (qv cm) ∧ who < ws.length ∧ none ∉ behL ws k.1 cm k.2 who ∧ ∀ later, some later ∈ behL ws k.1 cm k.2 who → valV tv' later = none) := fun k who => by
    rw [hl, hb]
    constructor
    · rintro ⟨⟨g1, g2, g3, g4⟩, g5⟩
      exact ⟨g1, g2, g3, fun later z => (none' later).mpr ⟨fun y => g5 later y z, g4 later z⟩⟩
    · rintro ⟨g1, g2, g3, g4⟩
      exact ⟨⟨g1, g2, g3, fun later z => ((none' later).mp (g4 later z)).2⟩, fun later y z => ((none' later).mp (g4 later z)).1 y⟩
  refine ⟨by omega, hv', fun k hk => ?_, fun k v e => ?_, hb', fun k hk => ?_, fun k m e => ?_, fun k hk => ?_⟩
  · obtain ⟨⟨who, hw⟩, hn⟩ := (hbt k).mp hk
    have hs := ((hb k who).mp hw).1
    refine ⟨hs, (none' k).mpr ⟨fun z => ?_, ?_⟩⟩
    · exact (hc k hs).mpr (.inl z) who hw
    · cases hvk : valV tv k with
      | none => rfl
      | some v => exact absurd hw ((hc k hs).mpr (.inr (by rw [hvk]; rfl)) who)
  · rw [ht] at e
    by_cases z : k ∈ rho
    · exact (ha1 k z).1
    · rw [if_neg z] at e
      exact ha2 k v e
  · constructor
    · intro z
      by_cases y : ∃ who, Lf k who
      · exact .inl ((hbt k).mpr ⟨y, z⟩)
      · right
        rcases (hc k hk).mp (fun who w => y ⟨who, w⟩) with x | x
        · rw [ht, if_pos x]
          rfl
        · obtain ⟨v, hv2⟩ := Option.isSome_iff_exists.mp x
          obtain ⟨n, e1, _⟩ := hv _ (valV_mem hv2)
          have e1' : v = .int n := e1
          rw [e1'] at hv2
          rw [old k n hv2]
          rfl
    · rintro (z | z) who w
      · exact ((hbt k).mp z).2 who w
      · have w1 := ((hl k who).mp w).1
        rw [ht] at z
        by_cases y : k ∈ rho
        · exact (hc k hk).mpr (.inl y) who w1
        · rw [if_neg y] at z
          exact (hc k hk).mpr (.inr z) who w1
  · rcases back k m e with ⟨y1, y2⟩ | y
    · subst y2
      exact more k m (Int.le_refl _) (hd2 k y1)
    · obtain ⟨n, e1, e2, e3⟩ := hv _ (valV_mem y)
      cases e1
      exact more k m (by omega) (hd1 k m y)
  · obtain ⟨⟨who0, hw0⟩, hn⟩ := (hbt k).mp hk
    obtain ⟨g1, g2, g3, g4⟩ := (hb k who0).mp hw0
    refine ⟨fun who hw => ?_, .inr ⟨who0, g2, g3, fun later m' z1 z2 => ?_⟩⟩
    · by_cases y : none ∈ behL ws k.1 cm k.2 who
      · exact .inl y
      · right
        have hnn : ¬ ∀ later, some later ∈ behL ws k.1 cm k.2 who → valV tv' later = none := fun z => hn who ((hb' k who).mpr ⟨g1, hw, y, z⟩)
        obtain ⟨later, hx⟩ := Classical.not_forall.mp hnn
        obtain ⟨x1, x2⟩ := Classical.not_imp.mp hx
        cases hvl : valV tv' later with
        | none => exact absurd hvl x2
        | some v =>
          obtain ⟨n, e1, e2, e3⟩ := hv' _ (valV_mem hvl)
          have e1' : v = .int n := e1
          exact ⟨later, n, x1, by rw [hvl, e1'], by omega⟩
    · rcases back later m' z2 with ⟨_, e⟩ | e
      · omega
      · rw [g4 later z1] at e
        cases e
theorem nd_put {κ : Type} [DecidableEq κ] {kvs : List (κ × V)} {k : κ} {v : V} (hn : (kvs.map (·.1)).Nodup) : ((putK kvs k v).map (·.1)).Nodup := by
  cases e : valV kvs k with
  | none =>
    rw [putK_new v e, List.map_append]
    exact nodup_snoc2 hn (valV_not e)
  | some w =>
    have hk : (kvs.any fun kv => decide (kv.1 = k)) = true := by
      rw [valV_any, e]
      rfl
    unfold putK
    rw [if_pos hk, List.map_map]
    have : (kvs.map ((fun x => x.1) ∘ fun kv => if kv.1 = k then (kv.1, v) else kv)) = kvs.map (·.1) := by
      apply List.map_congr_left
      intro x _
      show (if x.1 = k then (x.1, v) else x).1 = x.1
      split <;> rfl
    rw [this]
    exact hn
noncomputable def EmptyC (H : Hp) (v : V) : Prop := ∃ c, v = .ref c ∧ H c = some (.dK [])
theorem RankI.start {ws : List Int} {cm : Option Int} {H : Hp} {kvs : List ((List Int × Int) × V)} {rho : List (List Int × Int)} (hp : PendS ws cm H kvs) (hk : kvs.map (·.1) = standL ws (qv cm)) (hf : FullC ws cm H kvs) (hr : ∀ k, k ∈ rho ↔ ∃ v, (k, v) ∈ kvs ∧ EmptyC H v) : RankI ws cm [] rho 1 (LeftP H kvs) := by
  have mem : ∀ k, k ∈ standL ws (qv cm) ↔ ∃ v, (k, v) ∈ kvs := fun k => by
    rw [← hk, List.mem_map]
    exact ⟨fun ⟨x, h1, h2⟩ => ⟨x.2, by rw [← h2]; exact h1⟩, fun ⟨v, h1⟩ => ⟨_, h1, rfl⟩⟩
  have hb : ∀ k who, LeftP H kvs k who ↔ (k ∈ standL ws (qv cm) ∧ who < ws.length ∧ none ∉ behL ws k.1 cm k.2 who) := fun k who => by
    constructor
    · rintro ⟨c, cs, h1, h2, h3⟩
      have hm := valV_mem h1
      obtain ⟨d, ds, e, f1, _, f2⟩ := hp.1 _ hm
      cases e
      rw [h2] at f1
      cases f1
      obtain ⟨w', hw'⟩ := Option.isSome_iff_exists.mp h3
      obtain ⟨who2, l, us, g1, g2, g3, _⟩ := f2 _ (valV_mem hw')
      have g1' : (who : Int) = (who2 : Int) := Sum.inl.inj g1
      have : who = who2 := by omega
      subst this
      exact ⟨(mem k).mpr ⟨_, hm⟩, g2, g3⟩
    · rintro ⟨h1, h2, h3⟩
      obtain ⟨v, hm⟩ := (mem k).mp h1
      obtain ⟨c, cs, e, f1, _, f2⟩ := hp.1 _ hm
      have e' : v = .ref c := e
      subst e'
      exact ⟨c, cs, valV_nodup hp.2.1 hm, f1, hf _ hm c cs rfl f1 who h2 h3⟩
  have hc : ∀ k, k ∈ standL ws (qv cm) → ((∀ who, ¬ LeftP H kvs k who) ↔ k ∈ rho) := fun k hks => by
    obtain ⟨v, hm⟩ := (mem k).mp hks
    obtain ⟨c, cs, e, f1, _, f2⟩ := hp.1 _ hm
    have e' : v = .ref c := e
    subst e'
    rw [hr]
    constructor
    · intro z
      refine ⟨_, hm, c, rfl, ?_⟩
      cases cs with
      | nil => exact f1
      | cons x xs =>
        obtain ⟨who, l, us, g1, _⟩ := f2 x (by simp)
        exact absurd ⟨c, _, valV_nodup hp.2.1 hm, f1, by rw [valV_pos g1]; rfl⟩ (z who)
    · rintro ⟨v', hm', c', e1, e2⟩ who ⟨c2, cs2, g1, g2, g3⟩
      have h1 := valV_nodup hp.2.1 hm
      rw [valV_nodup hp.2.1 hm', e1] at h1
      cases h1
      rw [valV_nodup hp.2.1 hm] at g1
      cases g1
      rw [e2] at g2
      cases g2
      cases g3
  refine ⟨Int.le_refl _, (fun kv z => by cases z), fun k hk' => ?_, (fun k v z => by cases z), fun k who => ?_, fun k hks => ?_, (fun k m z => by cases z), fun k hk' => ?_⟩
  · obtain ⟨v, hm, _⟩ := (hr k).mp hk'
    exact ⟨(mem k).mpr ⟨v, hm⟩, rfl⟩
  · rw [hb]
    exact ⟨fun z => ⟨z.1, z.2.1, z.2.2, fun _ _ => rfl⟩, fun z => ⟨z.1, z.2.1, z.2.2.1⟩⟩
  · rw [hc k hks]
    exact ⟨fun z => .inl z, fun z => z.elim id (fun y => by cases y)⟩
  · obtain ⟨v, hm, _⟩ := (hr k).mp hk'
    have hks := (mem k).mpr ⟨v, hm⟩
    refine ⟨fun who hw => ?_, .inl rfl⟩
    left
    apply Classical.byContradiction
    intro y
    exact (hc k hks).mpr hk' who ((hb k who).mpr ⟨hks, hw, y⟩)
theorem map_snoc (ws : List Int) (w : Int) : ws.map V.int ++ [V.int w] = (ws ++ [w]).map V.int := by rw [List.map_append]; rfl

theorem len_snoc {α : Type} {ls : List α} {x : α} {i : Nat} (h : ls.length = i) : (ls ++ [x]).length = i + 1 := by
  rw [List.length_append, h]
  rfl
theorem lst_snoc {H : Hp} {L : Addr} {ls : List Int} {x : Int} : (upd H L (.lst (ls.map V.int ++ [V.int x]))) L = some (.lst ((ls ++ [x]).map V.int)) := by
  rw [map_snoc]
  exact upd_same
theorem getD_get {ls : List Int} {j : Nat} (h : j < ls.length) : ls[j]? = some (ls.getD j 0) := by
  rw [List.getD_eq_getElem?_getD, List.getElem?_eq_getElem h]
  rfl
theorem getD_memL {ls : List Int} {j : Nat} (h : j < ls.length) : ls.getD j 0 ∈ ls := List.mem_of_getElem? (getD_get h)

noncomputable def HallOk (ws : List Int) (cm : Option Int) : Prop := (∀ w ∈ ws, 1 ≤ w ∧ w ≤ 3000) ∧ (∀ c, cm = some c → 1 ≤ c ∧ c < 3000) ∧ 0 < ws.length ∧ ws.length ≤ 8 ∧ prodI (qv cm) ws ≤ 300
theorem bits3000 {w : Int} (h1 : 0 ≤ w) (h2 : w ≤ 3000) : intBits w ≤ 256 := Nat.le_trans (bits_lt (n := 12) (by omega)) (by decide)
theorem HallOk.qv {ws : List Int} {cm : Option Int} (h : HallOk ws cm) : 1 ≤ qv cm ∧ qv cm ≤ 3000 := by
  cases cm with
  | none => exact ⟨Int.le_refl _, by decide⟩
  | some c =>
    have := h.2.1 c rfl
    show 1 ≤ c + 1 ∧ c + 1 ≤ 3000
    omega
theorem prod_pow {b : Int} : ∀ (ws : List Int) (a : Int), 0 ≤ a → (∀ w ∈ ws, 1 ≤ w ∧ w ≤ b) → prodI a ws ≤ a * b ^ ws.length
  | [], a, _, _ => by
    show a ≤ a * b ^ 0
    rw [Int.pow_zero, Int.mul_one]
    exact Int.le_refl _
  | w :: ws, a, h0, hw => by
    have h1 := hw w (by simp)
    have ih := prod_pow ws (a * w) (Int.mul_nonneg h0 (by omega)) fun x hx => hw x (List.mem_cons_of_mem _ hx)
    have hb : 0 ≤ b ^ ws.length := Int.pow_nonneg (by omega)
    have h2 : a * w * b ^ ws.length ≤ a * b * b ^ ws.length := Int.mul_le_mul_of_nonneg_right (Int.mul_le_mul_of_nonneg_left h1.2 h0) hb
    have e : a * b ^ (w :: ws).length = a * b * b ^ ws.length := by
      rw [List.length_cons, Int.pow_succ, Int.mul_comm (b ^ ws.length) b, Int.mul_assoc]
    rw [e]
    exact Int.le_trans ih h2
/-- waits and the most calm, so far -/
noncomputable def Stg (ws : List Int) (most : Int) : Prop := (∀ w ∈ ws, 1 ≤ w ∧ w ≤ 3000) ∧ 0 < ws.length ∧ ws.length ≤ 8 ∧ 1 ≤ most ∧ most ≤ 4 ∧ prodI 1 ws * (most + 1) ≤ 300
theorem Stg.of {ws : List Int} {most b : Int} {n : Nat} (h : ∀ w ∈ ws, 1 ≤ w ∧ w ≤ b) (hl : ws.length = n) (h0 : 0 < n) (h8 : n ≤ 8) (hb : b ≤ 3000) (hm : 1 ≤ most ∧ most ≤ 4) (hp : b ^ n * (most + 1) ≤ 300) : Stg ws most := by
  have h1 := prod_pow ws 1 (by decide) h
  rw [hl, Int.one_mul] at h1
  have h2 : prodI 1 ws * (most + 1) ≤ b ^ n * (most + 1) := Int.mul_le_mul_of_nonneg_right h1 (by omega)
  exact ⟨fun w hw => by have := h w hw; omega, by omega, by omega, hm.1, hm.2, by omega⟩
theorem Stg.hall {ws : List Int} {most : Int} (h : Stg ws most) : HallOk ws none ∧ ∀ x : Int, HallOk ws (some (1 + x % most)) := by
  obtain ⟨h1, h2, h3, h4, h5, h6⟩ := h
  have hp := prod_le ws 1 (by decide) fun w hw => (h1 w hw).1
  refine ⟨⟨h1, (fun c z => nomatch z), h2, h3, ?_⟩, fun x => ⟨h1, (fun c z => ?_), h2, h3, ?_⟩⟩
  · show prodI 1 ws ≤ 300
    have : prodI 1 ws * 1 ≤ prodI 1 ws * (most + 1) := Int.mul_le_mul_of_nonneg_left (by omega) (by omega)
    omega
  · cases z
    have := emod_range x (m := most) (by omega)
    omega
  · have hx := emod_range x (m := most) (by omega)
    show prodI (1 + x % most + 1) ws ≤ 300
    have e : prodI (1 + x % most + 1) ws = (1 + x % most + 1) * prodI 1 ws := by rw [← prod_q, Int.mul_one]
    rw [e, Int.mul_comm]
    have : prodI 1 ws * (1 + x % most + 1) ≤ prodI 1 ws * (most + 1) := Int.mul_le_mul_of_nonneg_left (by omega) (by omega)
    omega
theorem leftB_get {ws ls : List Int} {who i : Nat} {lost : Bool} (hi : i < ls.length) : (leftB ws ls who lost)[i]? = some (if i = who ∧ lost = false then ws.getD who 0 else ls.getD i 0 - 1) := by
  have e : (ls.map fun x => x - 1)[i]? = some (ls.getD i 0 - 1) := by
    rw [List.getElem?_map, List.getElem?_eq_getElem hi, List.getD_eq_getElem?_getD, List.getElem?_eq_getElem hi]
    rfl
  unfold leftB
  cases lost with
  | true =>
    rw [if_pos rfl, if_neg (fun z => nomatch z.2)]
    exact e
  | false =>
    rw [if_neg Bool.false_ne_true, List.getElem?_set]
    by_cases z : i = who
    · subst z
      rw [if_pos rfl, if_pos (by rw [List.length_map]; exact hi), if_pos ⟨rfl, rfl⟩]
    · rw [if_neg (fun y => z y.symm), if_neg (fun y => z y.1)]
      exact e

noncomputable def lossL (cm : Option Int) (q : Int) : List Bool := if mayL cm q = true then [false, true] else [false]
noncomputable def okO (tv : List ((List Int × Int) × V)) : Option (List Int × Int) → Bool
  | none => false
  | some k => (valV tv k).isNone
/-- no more left for anybody, no more quiet -/
noncomputable def LeK (z k : List Int × Int) : Prop := z.1.length = k.1.length ∧ (∀ i, i < k.1.length → 1 ≤ z.1.getD i 0 ∧ z.1.getD i 0 ≤ k.1.getD i 0) ∧ 0 ≤ z.2 ∧ z.2 ≤ k.2
theorem getD_at2 {xs : List Int} {i : Nat} (h : i < xs.length) : xs[i]? = some (xs.getD i 0) := by
  rw [List.getD_eq_getElem?_getD, List.getElem?_eq_getElem h]
  rfl
theorem rows_in : ∀ (ws : List Int) (rows : List (List Int)) (r0 ext : List Int), r0 ∈ rows → ext.length = ws.length → (∀ i, i < ws.length → 1 ≤ ext.getD i 0 ∧ ext.getD i 0 ≤ ws.getD i 0) → r0 ++ ext ∈ ws.foldl stepRows rows
  | [], rows, r0, ext, h, hl, _ => by
    have e : ext = [] := List.length_eq_zero_iff.mp hl
    rw [e, List.append_nil]
    exact h
  | w :: ws, rows, r0, [], h, hl, _ => by simp at hl
  | w :: ws, rows, r0, x :: ext, h, hl, hb => by
    have h0 := hb 0 (by simp)
    have hx : 1 ≤ x ∧ x ≤ w := h0
    have hmem : r0 ++ [x] ∈ stepRows rows w := by
      refine List.mem_flatMap.mpr ⟨r0, h, List.mem_map.mpr ⟨(x - 1).toNat, List.mem_range.mpr (by omega), ?_⟩⟩
      have e : 1 + (((x - 1).toNat : Nat) : Int) = x := by omega
      rw [e]
    have ih := rows_in ws (stepRows rows w) (r0 ++ [x]) ext hmem (by simpa using hl) fun i hi => hb (i + 1) (by simp; omega)
    rw [List.append_assoc] at ih
    exact ih
theorem stand_in {ws : List Int} {q : Int} {z : List Int × Int} (h1 : z.1.length = ws.length) (h2 : ∀ i, i < ws.length → 1 ≤ z.1.getD i 0 ∧ z.1.getD i 0 ≤ ws.getD i 0) (h3 : 0 ≤ z.2) (h4 : z.2 < q) : z ∈ standL ws q := by
  refine List.mem_flatMap.mpr ⟨z.1, ?_, List.mem_map.mpr ⟨z.2.toNat, List.mem_range.mpr (by omega), ?_⟩⟩
  · have := rows_in ws [[]] [] z.1 (by simp) h1 h2
    exact this
  · have e : 0 + ((z.2.toNat : Nat) : Int) = z.2 := by omega
    rw [e]
theorem stand_get {ws : List Int} {q : Int} {z : List Int × Int} (h : z ∈ standL ws q) : z.1.length = ws.length ∧ (∀ i, i < ws.length → 1 ≤ z.1.getD i 0 ∧ z.1.getD i 0 ≤ ws.getD i 0) ∧ 0 ≤ z.2 ∧ z.2 < q := by
  obtain ⟨m1, m2, m3, m4⟩ := stand_mem h
  exact ⟨m1, fun i hi => m2 i _ _ (getD_at2 (by omega)) (getD_at2 hi), m3, m4⟩
theorem leftB_D {ws ls : List Int} {who i : Nat} {lost : Bool} (hi : i < ls.length) : (leftB ws ls who lost).getD i 0 = if i = who ∧ lost = false then ws.getD who 0 else ls.getD i 0 - 1 := by
  rw [List.getD_eq_getElem?_getD, leftB_get hi]
  rfl
theorem aft_some {ws ls : List Int} {cm : Option Int} {q : Int} {who : Nat} {lost : Bool} {k : List Int × Int} (h : aft ws ls cm q who lost = some k) : (0 : Int) ∉ leftB ws ls who lost ∧ k = (leftB ws ls who lost, quietB cm q lost) := by
  unfold aft at h
  by_cases z : (0 : Int) ∈ leftB ws ls who lost
  · rw [if_pos z] at h
    cases h
  · rw [if_neg z] at h
    exact ⟨z, (Option.some.inj h).symm⟩
theorem aft_in {ws : List Int} {cm : Option Int} {k l : List Int × Int} {who : Nat} {lost : Bool} (hw1 : ∀ w ∈ ws, 1 ≤ w) (hk : k ∈ standL ws (qv cm)) (hwho : who < ws.length) (hlo : lost ∈ lossL cm k.2) (h : aft ws k.1 cm k.2 who lost = some l) : l ∈ standL ws (qv cm) := by
  obtain ⟨g1, g2, g3, g4⟩ := stand_get hk
  obtain ⟨hz, rfl⟩ := aft_some h
  have hwp : 1 ≤ ws.getD who 0 := hw1 _ (getD_memL hwho)
  have hlen : (leftB ws k.1 who lost).length = k.1.length := leftB_length _ _ _ _
  refine stand_in (by rw [hlen]; exact g1) (fun i hi => ?_) ?_ ?_
  · have b := g2 i hi
    have hne : (leftB ws k.1 who lost).getD i 0 ≠ 0 := fun e => by
      have := getD_at2 (xs := leftB ws k.1 who lost) (i := i) (by omega)
      rw [e] at this
      exact hz (List.mem_of_getElem? this)
    show 1 ≤ (leftB ws k.1 who lost).getD i 0 ∧ (leftB ws k.1 who lost).getD i 0 ≤ ws.getD i 0
    rw [leftB_D (by omega)] at hne ⊢
    by_cases y : i = who ∧ lost = false
    · rw [if_pos y, y.1]
      omega
    · rw [if_neg y] at hne
      rw [if_neg y]
      omega
  · show 0 ≤ quietB cm k.2 lost
    unfold quietB
    cases lost with
    | true =>
      rw [if_pos rfl]
      cases cm with
      | none => exact Int.le_refl _
      | some c =>
        show 0 ≤ c
        have : k.2 < c + 1 := g4
        omega
    | false =>
      rw [if_neg Bool.false_ne_true]
      omega
  · show quietB cm k.2 lost < qv cm
    unfold quietB
    cases lost with
    | true =>
      rw [if_pos rfl]
      cases cm with
      | none => decide
      | some c =>
        show c < c + 1
        omega
    | false =>
      rw [if_neg Bool.false_ne_true]
      have : 0 < qv cm := by omega
      omega
theorem LeK.set {ls : List Int} {n : Int} {i : Nat} (hp : ∀ i, i < ls.length → 1 ≤ ls.getD i 0) (hn : 0 ≤ n) (h : i < ls.length) (h1 : 1 < ls.getD i 0) : LeK (ls.take i ++ [ls.getD i 0 - 1] ++ ls.drop (i + 1), n) (ls, n) := by
  have e : ls.take i ++ [ls.getD i 0 - 1] ++ ls.drop (i + 1) = ls.set i (ls.getD i 0 - 1) := by
    rw [List.set_eq_take_append_cons_drop, if_pos h, List.append_assoc]
    rfl
  rw [e]
  refine ⟨List.length_set, fun j hj => ?_, hn, Int.le_refl _⟩
  show 1 ≤ (ls.set i (ls.getD i 0 - 1)).getD j 0 ∧ (ls.set i (ls.getD i 0 - 1)).getD j 0 ≤ ls.getD j 0
  have hj' : j < ls.length := hj
  have b := hp j hj'
  rw [List.getD_eq_getElem?_getD, List.getElem?_set]
  by_cases z : i = j
  · subst z
    rw [if_pos rfl, if_pos h]
    show 1 ≤ ls.getD i 0 - 1 ∧ ls.getD i 0 - 1 ≤ ls.getD i 0
    omega
  · rw [if_neg z, ← List.getD_eq_getElem?_getD]
    omega
noncomputable def JoinAt (H : Hp) (p : Addr) (ws : List Int) (calm : Option Int) (ls : List Int) (q : Int) : Prop := ∃ a b, H p = some (.tup [.ref a, .ref b]) ∧ HallAt H a ws calm ∧ StAt H b ls q
theorem JoinAt.same {H H' : Hp} {p : Addr} {ws : List Int} {calm : Option Int} {ls : List Int} {q : Int} (s : Same H H') (h : JoinAt H p ws calm ls q) : JoinAt H' p ws calm ls q := by
  obtain ⟨a, b, h1, h2, h3⟩ := h
  exact ⟨a, b, s _ _ h1, h2.same s, h3.same s⟩
theorem rank_same {ws : List Int} {cm : Option Int} {tv tv' : List ((List Int × Int) × V)} (h : RankOk ws cm tv) (h' : RankOk ws cm tv') : ∀ (n : Nat) (k : List Int × Int) (m : Int), m ≤ n → valV tv k = some (.int m) → (valV tv' k).isSome = true
  | 0, k, m, hm, hk => by
    obtain ⟨m0, e, h1, _⟩ := h.1 k _ hk
    cases e
    omega
  | n + 1, k, m, hm, hk => by
    obtain ⟨m0, e, h1, hks, p1, _⟩ := h.1 k _ hk
    cases e
    cases hv : valV tv' k with
    | some v => rfl
    | none =>
      obtain ⟨who, y1, y2, y3⟩ := h'.2 k hks hv
      rcases p1 who y1 with z | ⟨later, m', z1, z2, z3⟩
      · exact absurd z y2
      · have := rank_same h h' n later m' (by omega) z2
        rw [y3 later z1] at this
        cases this
theorem rank_iff {ws : List Int} {cm : Option Int} {tv tv' : List ((List Int × Int) × V)} (h : RankOk ws cm tv) (h' : RankOk ws cm tv') (k : List Int × Int) : (valV tv k).isSome = (valV tv' k).isSome := by
  have half : ∀ {a b : List ((List Int × Int) × V)}, RankOk ws cm a → RankOk ws cm b → (valV a k).isSome = true → (valV b k).isSome = true := fun ha hb hs => by
    obtain ⟨v, hv⟩ := Option.isSome_iff_exists.mp hs
    obtain ⟨m, e, h1, _⟩ := ha.1 k v hv
    subst e
    exact rank_same ha hb m.toNat k m (by omega) hv
  rw [Bool.eq_iff_iff]
  exact ⟨half h h', half h' h⟩

noncomputable def sk (j i : Nat) : Nat := if i < j then i else i + 1
noncomputable def Tn (ws : List Int) (cm : Option Int) : Prop := ∃ (b q : Int) (n : Nat), ((b = 6 ∧ n = 2 ∧ q = 3) ∨ (b = 4 ∧ n = 3 ∧ q = 2)) ∧ ws.length = n ∧ (∀ w ∈ ws, 1 ≤ w ∧ w ≤ b) ∧ (∀ c, cm = some c → 1 ≤ c) ∧ 1 ≤ qv cm ∧ qv cm ≤ q
theorem Tn.ok {ws us : List Int} {cm : Option Int} (h : Tn ws cm) (h0 : 0 < us.length) (h1 : us.length ≤ ws.length) (hm : ∀ u ∈ us, u ∈ ws) : HallOk us cm := by
  obtain ⟨b, q, n, hc, hl, hw, hcm, q1, q2⟩ := h
  have hb : ∀ u ∈ us, 1 ≤ u ∧ u ≤ b := fun u hu => hw u (hm u hu)
  have pp := prod_pow us (qv cm) (by omega) hb
  have qc : ∀ c, cm = some c → 1 ≤ c ∧ c < 3000 := fun c e => by
    have := hcm c e
    subst e
    have q3 : c + 1 ≤ q := q2
    omega
  refine ⟨fun w hw' => ?_, qc, h0, by omega, ?_⟩
  · have := hb w hw'
    omega
  · have bound : ∀ N : Int, b ^ us.length = N → 0 ≤ N → q * N ≤ 300 → prodI (qv cm) us ≤ 300 := fun N e hN hq => by
      rw [e] at pp
      have := Int.mul_le_mul_of_nonneg_right q2 hN
      omega
    rcases hc with ⟨rfl, rfl, rfl⟩ | ⟨rfl, rfl, rfl⟩
    · have : us.length = 1 ∨ us.length = 2 := by omega
      rcases this with e | e
      · exact bound 6 (by rw [e]; rfl) (by decide) (by decide)
      · exact bound 36 (by rw [e]; rfl) (by decide) (by decide)
    · have : us.length = 1 ∨ us.length = 2 ∨ us.length = 3 := by omega
      rcases this with e | e | e
      · exact bound 4 (by rw [e]; rfl) (by decide) (by decide)
      · exact bound 16 (by rw [e]; rfl) (by decide) (by decide)
      · exact bound 64 (by rw [e]; rfl) (by decide) (by decide)

noncomputable def TabsAt (H : Hp) (ws : List Int) (cm : Option Int) (TL : Addr) (ds : List V) : Prop := ∀ (m : Nat) (u : V), ds[m]? = some u → ∃ (D : Addr) (tvm : List ((List Int × Int) × V)), u = .ref D ∧ D ≠ TL ∧ H D = some (.dT tvm) ∧ RankOk (ws.eraseIdx m) cm tvm

/-! ### a search by levels: ways of least length -/
section
variable {α : Type} (nx : α → Nat → Option α) (n : Nat) (ok goal : α → Bool)
noncomputable def Wk : α → List Nat → α → Prop
  | s, [], k => s = k
  | s, w :: r, k => ∃ k', w < n ∧ nx s w = some k' ∧ ok k' = true ∧ Wk k' r k
theorem wk_snoc : ∀ (ns : List Nat) (s : α) (w : Nat) (k : α), Wk nx n ok s (ns ++ [w]) k ↔ ∃ e, Wk nx n ok s ns e ∧ w < n ∧ nx e w = some k ∧ ok k = true
  | [], s, w, k => by
    constructor
    · rintro ⟨k', h1, h2, h3, h4⟩
      cases h4
      exact ⟨s, rfl, h1, h2, h3⟩
    · rintro ⟨e, h0, h1, h2, h3⟩
      cases h0
      exact ⟨k, h1, h2, h3, rfl⟩
  | v :: ns, s, w, k => by
    constructor
    · rintro ⟨k', h1, h2, h3, h4⟩
      obtain ⟨e, g1, g2⟩ := (wk_snoc ns k' w k).mp h4
      exact ⟨e, ⟨k', h1, h2, h3, g1⟩, g2⟩
    · rintro ⟨e, ⟨k', h1, h2, h3, g1⟩, g2⟩
      exact ⟨k', h1, h2, h3, (wk_snoc ns k' w k).mpr ⟨e, g1, g2⟩⟩
structure Bfs (s : α) (r : Nat) (W : α → Option (List Nat)) (E : List α) : Prop where
  way : ∀ k ns, W k = some ns → Wk nx n ok s ns k ∧ ns.length ≤ r ∧ ∀ ns', Wk nx n ok s ns' k → ns.length ≤ ns'.length
  all : ∀ ns k, Wk nx n ok s ns k → ns.length ≤ r → (W k).isSome = true
  ends : ∀ k, k ∈ E ↔ ∃ ns, W k = some ns ∧ ns.length = r
  none : ∀ ns k, Wk nx n ok s ns k → ns.length < r → goal k = false
structure Longer (W W' : α → Option (List Nat)) (E F : List α) : Prop where
  old : ∀ k ns, W k = some ns → W' k = some ns
  new : ∀ k ns, W' k = some ns → W k = some ns ∨ (W k = none ∧ ∃ e w m, e ∈ E ∧ W e = some m ∧ w < n ∧ nx e w = some k ∧ ok k = true ∧ ns = m ++ [w])
  all : ∀ e, e ∈ E → ∀ w, w < n → ∀ k, nx e w = some k → ok k = true → (W' k).isSome = true
  fresh : ∀ k, k ∈ F ↔ (W k = none ∧ (W' k).isSome = true)
variable {nx n ok goal} {s : α} {r : Nat} {W W' : α → Option (List Nat)} {E F : List α}
theorem Bfs.start [DecidableEq α] (h : ∀ k, W k = if k = s then some [] else Option.none) : Bfs nx n ok goal s 0 W [s] := by
  refine ⟨fun k ns hk => ?_, fun ns k hw hl => ?_, fun k => ?_, fun ns k _ hl => absurd hl (Nat.not_lt_zero _)⟩
  · rw [h k] at hk
    by_cases z : k = s
    · rw [if_pos z] at hk
      cases hk
      exact ⟨z.symm, Nat.le_refl _, fun _ _ => Nat.zero_le _⟩
    · rw [if_neg z] at hk
      cases hk
  · have e : ns = [] := List.length_eq_zero_iff.mp (Nat.le_zero.mp hl)
    subst e
    have e2 : s = k := hw
    rw [h k, if_pos e2.symm]
    rfl
  · rw [List.mem_singleton, h k]
    constructor
    · intro z
      exact ⟨[], if_pos z, rfl⟩
    · rintro ⟨ns, h1, _⟩
      by_cases z : k = s
      · exact z
      · rw [if_neg z] at h1
        cases h1
theorem Bfs.next (h : Bfs nx n ok goal s r W E) (hg : ∀ k ∈ E, goal k = false) (l : Longer nx n ok W W' E F) : Bfs nx n ok goal s (r + 1) W' F := by
  have len : ∀ e ∈ E, ∀ m, W e = some m → m.length = r := fun e he m hm => by
    obtain ⟨ns, h1, h2⟩ := (h.ends e).mp he
    rw [hm] at h1
    cases h1
    exact h2
  have newlen : ∀ k ns, W' k = some ns → W k = Option.none → Wk nx n ok s ns k ∧ ns.length = r + 1 := fun k ns h1 h2 => by
    rcases l.new k ns h1 with z | ⟨_, e, w, m, e1, e2, e3, e4, e5, rfl⟩
    · rw [h2] at z
      cases z
    · refine ⟨(wk_snoc nx n ok m s w k).mpr ⟨e, (h.way e m e2).1, e3, e4, e5⟩, ?_⟩
      rw [List.length_append, len e e1 m e2]
      rfl
  refine ⟨fun k ns hk => ?_, fun ns k hw hl => ?_, fun k => ?_, fun ns k hw hl => ?_⟩
  · cases hv : W k with
    | some m =>
      have e := l.old k m hv
      rw [hk] at e
      cases e
      obtain ⟨a, b, c⟩ := h.way k _ hv
      exact ⟨a, by omega, c⟩
    | none =>
      obtain ⟨a, b⟩ := newlen k ns hk hv
      refine ⟨a, by omega, fun ns' hw => ?_⟩
      rcases Nat.lt_or_ge r ns'.length with z | z
      · omega
      · have := h.all ns' k hw z
        rw [hv] at this
        cases this
  · rcases Nat.lt_or_ge r ns.length with z | z
    · rcases List.eq_nil_or_concat ns with e | ⟨m', w, e⟩
      · subst e
        simp at z
      · rw [List.concat_eq_append] at e
        subst e
        obtain ⟨e, g1, g2, g3, g4⟩ := (wk_snoc nx n ok m' s w k).mp hw
        have hm' : m'.length = r := by
          rw [List.length_append, List.length_singleton] at hl z
          omega
        obtain ⟨m, hm⟩ := Option.isSome_iff_exists.mp (h.all m' e g1 (by omega))
        obtain ⟨a, b, c⟩ := h.way e m hm
        rcases Nat.lt_or_ge m.length r with y | y
        · have := h.all (m ++ [w]) k ((wk_snoc nx n ok m s w k).mpr ⟨e, a, g2, g3, g4⟩) (by rw [List.length_append, List.length_singleton]; omega)
          obtain ⟨v, hv⟩ := Option.isSome_iff_exists.mp this
          rw [l.old k v hv]
          rfl
        · exact l.all e ((h.ends e).mpr ⟨m, hm, by omega⟩) w g2 k g3 g4
    · obtain ⟨v, hv⟩ := Option.isSome_iff_exists.mp (h.all ns k hw z)
      rw [l.old k v hv]
      rfl
  · rw [l.fresh k]
    constructor
    · rintro ⟨h1, h2⟩
      obtain ⟨ns, hns⟩ := Option.isSome_iff_exists.mp h2
      exact ⟨ns, hns, (newlen k ns hns h1).2⟩
    · rintro ⟨ns, h1, h2⟩
      rcases l.new k ns h1 with z | ⟨z, _⟩
      · have := (h.way k ns z).2.1
        omega
      · exact ⟨z, by rw [h1]; rfl⟩
  · rcases Nat.lt_or_ge ns.length r with z | z
    · exact h.none ns k hw z
    · obtain ⟨m, hm⟩ := Option.isSome_iff_exists.mp (h.all ns k hw (by omega))
      obtain ⟨a, b, c⟩ := h.way k m hm
      rcases Nat.lt_or_ge m.length r with y | y
      · exact h.none m k a y
      · exact hg k ((h.ends k).mpr ⟨m, hm, by omega⟩)
/-- one more level, so far: done with the pairs of P -/
structure LongP (nx : α → Nat → Option α) (n : Nat) (ok : α → Bool) (W W' : α → Option (List Nat)) (E F : List α) (P : α → Nat → Prop) : Prop where
  old : ∀ k ns, W k = some ns → W' k = some ns
  new : ∀ k ns, W' k = some ns → W k = some ns ∨ (W k = none ∧ ∃ e w m, e ∈ E ∧ W e = some m ∧ w < n ∧ nx e w = some k ∧ ok k = true ∧ ns = m ++ [w])
  all : ∀ e w, P e w → ∀ k, nx e w = some k → ok k = true → (W' k).isSome = true
  fresh : ∀ k, k ∈ F ↔ (W k = none ∧ (W' k).isSome = true)
theorem LongP.start {P : α → Nat → Prop} (h : ∀ e w, ¬ P e w) : LongP nx n ok W W E [] P :=
  ⟨fun _ _ h => h, fun _ _ h => .inl h, fun e w hp => absurd hp (h e w), fun k => ⟨(fun h => by cases h), fun ⟨h1, h2⟩ => by rw [h1] at h2; cases h2⟩⟩
theorem LongP.skip {P P' : α → Nat → Prop} {e : α} {w : Nat} (l : LongP nx n ok W W' E F P) (h : ∀ e' w', P' e' w' → P e' w' ∨ (e' = e ∧ w' = w)) (hs : ∀ k, nx e w = some k → ok k = true → (W' k).isSome = true) : LongP nx n ok W W' E F P' :=
  ⟨l.old, l.new, fun e' w' hp k => by
    rcases h e' w' hp with z | ⟨rfl, rfl⟩
    · exact l.all e' w' z k
    · exact hs k, l.fresh⟩
theorem LongP.put {P P' : α → Nat → Prop} {e k : α} {w : Nat} {m : List Nat} {W2 : α → Option (List Nat)} (l : LongP nx n ok W W' E F P) (h : ∀ e' w', P' e' w' → P e' w' ∨ (e' = e ∧ w' = w)) (he : e ∈ E) (hw : w < n) (hm : W e = some m) (hk : nx e w = some k) (hok : ok k = true) (hn : W' k = none)
    (h1 : W2 k = some (m ++ [w])) (h2 : ∀ k', k' ≠ k → W2 k' = W' k') : LongP nx n ok W W2 E (F ++ [k]) P' := by
  have hWk : W k = none := by
    cases z : W k with
    | none => rfl
    | some ns =>
      rw [l.old k ns z] at hn
      cases hn
  have mono : ∀ k', (W' k').isSome = true → (W2 k').isSome = true := fun k' z => by
    by_cases y : k' = k
    · rw [y, h1]
      rfl
    · rw [h2 k' y]
      exact z
  refine ⟨fun k' ns z => ?_, fun k' ns z => ?_, fun e' w' hp k' a b => ?_, fun k' => ?_⟩
  · have y : k' ≠ k := fun y => by
      rw [y, hWk] at z
      cases z
    rw [h2 k' y]
    exact l.old k' ns z
  · by_cases y : k' = k
    · subst y
      rw [h1] at z
      cases z
      exact .inr ⟨hWk, e, w, m, he, hm, hw, hk, hok, rfl⟩
    · rw [h2 k' y] at z
      exact l.new k' ns z
  · rcases h e' w' hp with z | ⟨rfl, rfl⟩
    · exact mono k' (l.all e' w' z k' a b)
    · rw [hk] at a
      cases a
      rw [h1]
      rfl
  · rw [List.mem_append, List.mem_singleton, l.fresh k']
    constructor
    · rintro (⟨a, b⟩ | rfl)
      · exact ⟨a, mono k' b⟩
      · exact ⟨hWk, by rw [h1]; rfl⟩
    · rintro ⟨a, b⟩
      by_cases y : k' = k
      · exact .inr y
      · rw [h2 k' y] at b
        exact .inl ⟨a, b⟩
theorem LongP.done {P : α → Nat → Prop} (l : LongP nx n ok W W' E F P) (h : ∀ e ∈ E, ∀ w, w < n → P e w) : Longer nx n ok W W' E F :=
  ⟨l.old, l.new, fun e he w hw => l.all e w (h e he w hw), l.fresh⟩
end

noncomputable def nI (ns : List Nat) : List V := ns.map fun (w : Nat) => V.int (w : Int)
noncomputable def nxS (ws : List Int) (k : List Int × Int) (who : Nat) : Option (List Int × Int) := aft ws k.1 none k.2 who false
noncomputable def okS (tu : List ((List Int × Int) × V)) (k : List Int × Int) : Bool := (valV tu k).isNone
/-- the ways kept in the dict; N holds of their lists -/
noncomputable def WayR (H : Hp) (N : Addr → Prop) (wv : List ((List Int × Int) × V)) (W : (List Int × Int) → Option (List Nat)) (r : Nat) : Prop := (∀ k, (valV wv k).isSome = (W k).isSome) ∧ ∀ k ns, W k = some ns → ns.length ≤ r ∧ ∃ l, valV wv k = some (.ref l) ∧ N l ∧ H l = some (.lst (nI ns))
noncomputable def WKeys (ws : List Int) (wv : List ((List Int × Int) × V)) : Prop := (wv.map (·.1)).Nodup ∧ (∀ k ∈ wv.map (·.1), k ∈ standL ws 1) ∧ (standL ws 1).length ≤ 3000
/-- all but one object stays -/
noncomputable def But (D : Addr) (H H' : Hp) : Prop := ∀ b o, b ≠ D → H b = some o → H' b = some o
theorem But.of {D : Addr} {H H' : Hp} (s : Same H H') : But D H H' := fun b o _ e => s b o e
theorem But.trans {D : Addr} {H H' H'' : Hp} (s : But D H H') (t : But D H' H'') : But D H H'' := fun b o n e => t b o n (s b o n e)
theorem But.tups {D : Addr} {H H' : Hp} {kvs : List ((List Int × Int) × V)} (s : But D H H') (h : H D = some (.dT kvs)) : Tups H H' := fun b xs e => s b _ (fun z => by rw [z, h] at e; cases e) e
theorem WKeys.len {ws : List Int} {wv : List ((List Int × Int) × V)} (h : WKeys ws wv) : wv.length ≤ 3000 := by
  have := List.Nodup.length_le_of_subset h.1 h.2.1
  rw [List.length_map] at this
  exact Nat.le_trans this h.2.2

/-- one more level, so far, in the heap -/
noncomputable def LwI (H : Hp) (N : Addr → Prop) (F Wd : Addr) (ws : List Int) (tu wv : List ((List Int × Int) × V)) (E : List (List Int × Int)) (W : (List Int × Int) → Option (List Nat)) (r : Nat) (P : (List Int × Int) → Nat → Prop) (H' : Hp) : Prop := ∃ (fs : List V) (Fr : List (List Int × Int)) (wv1 : List ((List Int × Int) × V)) (W1 : (List Int × Int) → Option (List Nat)),
  H' F = some (.lst fs) ∧ AllAt (StV H') Fr fs ∧ fs.length + wv.length = wv1.length ∧ H' Wd = some (.dT wv1) ∧ WayR H' (fun l => N l ∧ l ≠ F) wv1 W1 (r + 1) ∧ WKeys ws wv1 ∧ LongP (nxS ws) ws.length (okS tu) W W1 E Fr P ∧ But Wd H H'
theorem LwI.weak {H : Hp} {N : Addr → Prop} {F Wd : Addr} {ws : List Int} {tu wv : List ((List Int × Int) × V)} {E : List (List Int × Int)} {W : (List Int × Int) → Option (List Nat)} {r : Nat} {P P' : (List Int × Int) → Nat → Prop} {H' : Hp} (h : LwI H N F Wd ws tu wv E W r P H') (f : ∀ e w, P' e w → P e w) : LwI H N F Wd ws tu wv E W r P' H' := by
  obtain ⟨fs, Fr, wv1, W1, h1, h2, h3, h4, h5, h6, h7, h8⟩ := h
  exact ⟨fs, Fr, wv1, W1, h1, h2, h3, h4, h5, h6, ⟨h7.old, h7.new, fun e w hp => h7.all e w (f e w hp), h7.fresh⟩, h8⟩
theorem WayR.up {H H' : Hp} {N : Addr → Prop} {wv : List ((List Int × Int) × V)} {W : (List Int × Int) → Option (List Nat)} {r : Nat} (h : WayR H N wv W r) (s : ∀ l xs, N l → H l = some (.lst xs) → H' l = some (.lst xs)) : WayR H' N wv W r := ⟨h.1, fun k ns hk => by
  obtain ⟨h1, l, h2, h3, h4⟩ := h.2 k ns hk
  exact ⟨h1, l, h2, h3, s l _ h3 h4⟩⟩
theorem nI_snoc (ns : List Nat) (w : Nat) : nI ns ++ [V.int (w : Int)] = nI (ns ++ [w]) := by
  unfold nI
  rw [List.map_append]
  rfl
theorem way_put {H : Hp} {N : Addr → Prop} {l : Addr} {wv : List ((List Int × Int) × V)} {W : (List Int × Int) → Option (List Nat)} {r : Nat} {k : List Int × Int} {m : List Nat} (h : WayR H N wv W r) (hl : H l = some (.lst (nI m))) (hF : N l) (hm : m.length ≤ r) : WayR H N (putK wv k (.ref l)) (fun k' => if k' = k then some m else W k') r := by
  refine ⟨fun k' => ?_, fun k' ns hk => ?_⟩
  · rw [valV_put]
    by_cases e : k' = k
    · simp only [if_pos e]
      rfl
    · simp only [if_neg e]
      exact h.1 k'
  · by_cases e : k' = k
    · simp only [if_pos e] at hk
      cases hk
      exact ⟨hm, l, by rw [valV_put, if_pos e], hF, hl⟩
    · simp only [if_neg e] at hk
      obtain ⟨h1, l', h2, h3, h4⟩ := h.2 k' ns hk
      exact ⟨h1, l', by rw [valV_put, if_neg e]; exact h2, h3, h4⟩

/-- the hall and the wait of one who may come -/
noncomputable def WOk (ws : List Int) (wait : Int) : Prop := (∀ x ∈ ws, 1 ≤ x ∧ x ≤ 3000) ∧ 0 < ws.length ∧ ws.length ≤ 7 ∧ 1 ≤ wait ∧ wait ≤ 3000 ∧ prodI 1 ws ≤ 3000 ∧ prodI 1 (ws ++ [wait]) ≤ 3000
noncomputable def RkC (ws : List Int) : Prop := (∀ w ∈ ws, 1 ≤ w) ∧ 1 ≤ qv none ∧ (∀ w ∈ ws, intBits w ≤ 256) ∧ intBits (qv none) ≤ 256 ∧ ws.length ≤ 8 ∧ prodI (qv none) ws ≤ 3000
theorem WOk.rk {ws : List Int} {wait : Int} (h : WOk ws wait) : RkC ws := ⟨fun w hw => (h.1 w hw).1, Int.le_refl _, fun w hw => bits3000 (by have := h.1 w hw; omega) (h.1 w hw).2, bits3000 (by decide) (by decide), by have := h.2.2.1; omega, h.2.2.2.2.2.1⟩
theorem WOk.rk2 {ws : List Int} {wait : Int} (h : WOk ws wait) : RkC (ws ++ [wait]) := by
  have hb : ∀ w ∈ ws ++ [wait], 1 ≤ w ∧ w ≤ 3000 := mem_snoc h.1 ⟨h.2.2.2.1, h.2.2.2.2.1⟩
  refine ⟨fun w hw => (hb w hw).1, Int.le_refl _, fun w hw => bits3000 (by have := hb w hw; omega) (hb w hw).2, bits3000 (by decide) (by decide), ?_, h.2.2.2.2.2.2⟩
  rw [List.length_append, List.length_singleton]
  have := h.2.2.1
  omega
theorem WOk.cnt {ws : List Int} {wait : Int} (h : WOk ws wait) : (standL ws 1).length ≤ 3000 := by
  have h1 := stand_len (q := 1) (fun w hw => (h.1 w hw).1) (by decide)
  have h2 := h.2.2.2.2.2.1
  omega
noncomputable def goalS (tw : List ((List Int × Int) × V)) (wait : Int) (k : List Int × Int) : Bool := okS tw (k.1 ++ [wait], k.2)
theorem okS_not (tv : List ((List Int × Int) × V)) (k : List Int × Int) : okS tv k = !(valV tv k).isSome := by
  unfold okS
  cases valV tv k <;> rfl
/-- what way_in tells -/
noncomputable def Told (ws : List Int) (wait : Int) (tu tw : List ((List Int × Int) × V)) (z : List Int × Int) (H0 H : Hp) (v : V) : Prop :=
  (∃ (l : Addr) (ns : List Nat) (k : List Int × Int), v = .ref l ∧ H0 l = none ∧ H l = some (.lst (nI ns)) ∧ ns.length ≤ 5000 ∧ Wk (nxS ws) ws.length (okS tu) z ns k ∧ goalS tw wait k = true ∧ ∀ ns' k', Wk (nxS ws) ws.length (okS tu) z ns' k' → goalS tw wait k' = true → ns.length ≤ ns'.length) ∨
  (v = .non ∧ ∀ ns k, Wk (nxS ws) ws.length (okS tu) z ns k → goalS tw wait k = false)
theorem Told.same {ws : List Int} {wait : Int} {tu tw : List ((List Int × Int) × V)} {z : List Int × Int} {H0 H H' : Hp} {v : V} (s : Same H H') (h : Told ws wait tu tw z H0 H v) : Told ws wait tu tw z H0 H' v := by
  rcases h with ⟨l, ns, k, h1, h0, h2, h3⟩ | h
  · exact .inl ⟨l, ns, k, h1, h0, s _ _ h2, h3⟩
  · exact .inr h
theorem gset {i : Nat} {v : V} {σ : L2.St} {H : Hp} {Q : L2.St → Hp → Prop} (h : Q (List.set σ i (some v)) H) : gName i v σ H Q := h
theorem wseq {c : TT} {tb u : TS} {D : Ends} {σ : L2.St} {H : Hp} (h : tWhile c tb { D with nx := u D } σ H) : tSeq (tWhile c tb) u D σ H := h
noncomputable def lenTo (o : Option HO) : Nat := match o with
  | some (.dT wv) => wv.length
  | _ => 0
noncomputable def oneL (o : Option HO) : Nat := match o with
  | some (.lst (_ :: _)) => 1
  | _ => 0
noncomputable def endC (H : Hp) (σ : L2.St) : Nat := match σ with
  | [_, _, _, _, _, _, _, some (.ref e), _] => oneL (H e)
  | _ => 0
theorem mul_le4 {a b A B : Int} (h0 : 0 ≤ a) (h1 : a ≤ A) (h2 : 0 ≤ b) (h3 : b ≤ B) : 0 ≤ a * b ∧ a * b ≤ A * B := ⟨Int.mul_nonneg h0 h2, Int.mul_le_mul h1 h3 h2 (by omega)⟩
theorem oneLine : 1 ≤ sizeLine := by decide
noncomputable def BadH (ws : List Int) (cm : Option Int) : Prop := ws.length < 1 ∨ 8 < ws.length ∨ (∃ x ∈ ws, x < 1) ∨ ∃ c, cm = some c ∧ c < 1
theorem pos40 : (0 : Int) < 10 ^ (40 : Int).toNat := by decide
theorem big40 : (3001 : Int) * 10 ^ (40 : Int).toNat < 2 ^ 200 := by decide
theorem mem_prod : ∀ (ws : List Int) (a : Int), 1 ≤ a → (∀ w ∈ ws, 1 ≤ w) → ∀ w ∈ ws, w ≤ prodI a ws
  | [], _, _, _, w, hw => by cases hw
  | x :: r, a, ha, h, w, hw => by
    have hx := h x List.mem_cons_self
    have hr := fun y hy => h y (List.mem_cons_of_mem x hy)
    have h1 : a * 1 ≤ a * x := Int.mul_le_mul_of_nonneg_left hx (by omega)
    have h1b : 1 * x ≤ a * x := Int.mul_le_mul_of_nonneg_right ha (by omega)
    show w ≤ prodI (a * x) r
    rcases List.mem_cons.mp hw with z | z
    · have h2 := prod_le r (a * x) (by omega) hr
      rw [z]
      omega
    · exact mem_prod r (a * x) (by omega) hr w z
theorem prod_snoc2 (q : Int) (ws : List Int) (w : Int) : prodI q (ws ++ [w]) = prodI q ws * w := by
  unfold prodI
  rw [List.foldl_append]
  rfl
/-- the halls of this law -/
noncomputable def HK (ws : List Int) (cm : Option Int) : Prop := (∀ w ∈ ws, 1 ≤ w ∧ w < 2 ^ 200) ∧ 0 < ws.length ∧ ws.length ≤ 8 ∧ (cm = none ∨ cm = some 1)
theorem HK.cm {ws : List Int} {cm : Option Int} (h : HK ws cm) : ∀ c, cm = some c → 1 ≤ c := fun c e => by
  rcases h.2.2.2 with z | z <;> rw [z] at e <;> cases e
  decide
theorem HK.qv {ws : List Int} {cm : Option Int} (h : HK ws cm) : 1 ≤ qv cm ∧ intBits (qv cm) ≤ 256 := by
  rcases h.2.2.2 with z | z <;> subst z <;> exact ⟨by decide, by decide⟩
theorem bits200 {w : Int} (h : w.natAbs < 2 ^ 200) : intBits w ≤ 256 := Nat.le_trans (bits_lt h) (by decide)
/-- what ranks takes, but for how many there are -/
noncomputable def RkO (ws : List Int) (cm : Option Int) : Prop := (∀ w ∈ ws, 1 ≤ w) ∧ 1 ≤ qv cm ∧ (∀ w ∈ ws, intBits w ≤ 256) ∧ intBits (qv cm) ≤ 256 ∧ ws.length ≤ 8
theorem HK.rk {ws : List Int} {cm : Option Int} (h : HK ws cm) : RkO ws cm := ⟨fun w hw => (h.1 w hw).1, h.qv.1, fun w hw => bits200 (by have := h.1 w hw; omega), h.qv.2, h.2.2.1⟩
theorem HK.rk2 {ws : List Int} {cm : Option Int} {wait : Int} (h : HK ws cm) (h1 : 1 ≤ wait) (h2 : wait.natAbs < 2 ^ 200) (h3 : ws.length < 8) : RkO (ws ++ [wait]) cm := by
  obtain ⟨r1, r2, r3, r4, r5⟩ := h.rk
  refine ⟨mem_snoc r1 h1, r2, mem_snoc r3 (bits200 h2), r4, ?_⟩
  rw [List.length_append, List.length_singleton]
  omega
theorem HK.wok {ws : List Int} {wait : Int} (h : HK ws none) (h1 : 1 ≤ wait) (h3 : ws.length < 8) (h4 : prodI 1 (ws ++ [wait]) ≤ 3000) : WOk ws wait := by
  have hw1 : ∀ w ∈ ws, 1 ≤ w := fun w hw => (h.1 w hw).1
  have hm := mem_prod (ws ++ [wait]) 1 (by decide) (mem_snoc hw1 h1)
  have hp := prod_snoc2 1 ws wait
  have hp1 := prod_le ws 1 (by decide) hw1
  have hp2 : prodI 1 ws * 1 ≤ prodI 1 ws * wait := Int.mul_le_mul_of_nonneg_left h1 (by omega)
  refine ⟨fun x hx => ⟨hw1 x hx, Int.le_trans (hm x (List.mem_append_left _ hx)) h4⟩, h.2.1, by omega, h1, Int.le_trans (hm wait (by simp)) h4, by omega, h4⟩
noncomputable def Bd (ws : List Int) (cm : Option Int) (wait : Int) (way : Bool) : Prop := (way = true ∧ cm ≠ none) ∨ wait < 1 ∨ ws.length = 8
/-- the number that is due -/
noncomputable def Due (ws ls : List Int) (cm : Option Int) (q wait : Int) (way : Bool) (v : Int) : Prop := (Bd ws cm wait way → v = 1) ∧ (¬ Bd ws cm wait way → 3000 < prodI (qv cm) (ws ++ [wait]) → v = 2) ∧
  (¬ Bd ws cm wait way → prodI (qv cm) (ws ++ [wait]) ≤ 3000 → (way = false ∧ v = 0) ∨ (way = true ∧ ∃ tv, RankOk ws cm tv ∧ v = if (valV tv (ls, q)).isSome = true then 3 else 0))
theorem Due.one {ws ls : List Int} {cm : Option Int} {q wait : Int} {way : Bool} {v v' : Int} (h : Due ws ls cm q wait way v) (h' : Due ws ls cm q wait way v') : v = v' := by
  by_cases b : Bd ws cm wait way
  · rw [h.1 b, h'.1 b]
  · by_cases p : 3000 < prodI (qv cm) (ws ++ [wait])
    · rw [h.2.1 b p, h'.2.1 b p]
    · rcases h.2.2 b (by omega) with ⟨a1, a2⟩ | ⟨a1, tv, a2, a3⟩ <;> rcases h'.2.2 b (by omega) with ⟨b1, b2⟩ | ⟨b1, tv', b2, b3⟩
      · rw [a2, b2]
      · rw [a1] at b1
        cases b1
      · rw [a1] at b1
        cases b1
      · rw [a3, b3, rank_iff a2 b2]
theorem Due.bad {ws ls : List Int} {cm : Option Int} {q wait : Int} {way : Bool} (h : Bd ws cm wait way) : Due ws ls cm q wait way 1 := ⟨fun _ => rfl, fun n => absurd h n, fun n => absurd h n⟩
theorem Due.many {ws ls : List Int} {cm : Option Int} {q wait : Int} {way : Bool} (h : ¬ Bd ws cm wait way) (p : 3000 < prodI (qv cm) (ws ++ [wait])) : Due ws ls cm q wait way 2 := ⟨fun b => absurd b h, fun _ _ => rfl, fun _ n => by omega⟩
theorem Due.zero {ws ls : List Int} {cm : Option Int} {q wait : Int} (h : ¬ Bd ws cm wait false) (p : prodI (qv cm) (ws ++ [wait]) ≤ 3000) : Due ws ls cm q wait false 0 := ⟨fun b => absurd b h, fun _ n => by omega, fun _ _ => .inl ⟨rfl, rfl⟩⟩
theorem Due.safe {ws ls : List Int} {cm : Option Int} {q wait : Int} {tv : List ((List Int × Int) × V)} (h : ¬ Bd ws cm wait true) (p : prodI (qv cm) (ws ++ [wait]) ≤ 3000) (r : RankOk ws cm tv) (e : ¬ (valV tv (ls, q)).isSome = true) : Due ws ls cm q wait true 0 := ⟨fun b => absurd b h, fun _ n => by omega, fun _ _ => .inr ⟨rfl, tv, r, by rw [if_neg e]⟩⟩
theorem Due.three {ws ls : List Int} {cm : Option Int} {q wait : Int} {tv : List ((List Int × Int) × V)} (h : ¬ Bd ws cm wait true) (p : prodI (qv cm) (ws ++ [wait]) ≤ 3000) (r : RankOk ws cm tv) (e : (valV tv (ls, q)).isSome = true) : Due ws ls cm q wait true 3 := ⟨fun b => absurd b h, fun _ n => by omega, fun _ _ => .inr ⟨rfl, tv, r, by rw [if_pos e]⟩⟩
noncomputable def LsOk (ws ls : List Int) : Prop := ∀ (j : Nat) (x : Int), ls[j]? = some x → ∃ w, ws[j]? = some w ∧ 1 ≤ x ∧ x ≤ w
theorem LsOk.snoc {ws ls : List Int} {x w : Int} (h : LsOk ws ls) (e : ws[ls.length]? = some w) (h1 : 1 ≤ x) (h2 : x ≤ w) : LsOk ws (ls ++ [x]) := fun j y hy => by
  by_cases z : j < ls.length
  · rw [List.getElem?_append_left z] at hy
    exact h j y hy
  · rw [List.getElem?_append_right (by omega)] at hy
    have hj : j = ls.length := by
      have := (List.getElem?_eq_some_iff.mp hy).1
      rw [List.length_singleton] at this
      omega
    subst hj
    rw [Nat.sub_self] at hy
    cases hy
    exact ⟨w, e, h1, h2⟩
theorem LsOk.stand {ws ls : List Int} {q Q : Int} (h : LsOk ws ls) (hl : ls.length = ws.length) (h0 : 0 ≤ q) (h1 : q < Q) : (ls, q) ∈ standL ws Q := by
  refine stand_in hl (fun i hi => ?_) h0 h1
  have e : ls[i]? = some (ls.getD i 0) := by
    rw [List.getD_eq_getElem?_getD, List.getElem?_eq_getElem (by omega)]
    rfl
  obtain ⟨w, h2, h3, h4⟩ := h i _ e
  have e2 : ws.getD i 0 = w := by rw [List.getD_eq_getElem?_getD, h2]; rfl
  show 1 ≤ ls.getD i 0 ∧ ls.getD i 0 ≤ ws.getD i 0
  rw [e2]
  exact ⟨h3, h4⟩
theorem rpa3 {H : Hp} (a b c : Bool) : RpAll H [.bool a, .bool b, .bool c] [.bl a, .bl b, .bl c] := by
  unfold RpAll
  refine ⟨_, _, rfl, rp_bl a, ?_⟩
  unfold RpAll
  refine ⟨_, _, rfl, rp_bl b, ?_⟩
  unfold RpAll
  refine ⟨_, _, rfl, rp_bl c, ?_⟩
  unfold RpAll
  rfl
theorem no0 {ds : List PyData} {d : PyData} : ∀ m e, m < 0 → ds[m]? = some e → PyData.eqv e d = false := fun m e h => absurd h (Nat.not_lt_zero _)
theorem no1 {a b : PyData} : ∀ m e, m < 1 → ([.bool false, a, b] : List PyData)[m]? = some e → PyData.eqv e (.bool true) = false := fun m e h h2 => by
  obtain rfl : m = 0 := by omega
  cases h2
  rfl
theorem no2 {b : PyData} : ∀ m e, m < 2 → ([.bool false, .bool false, b] : List PyData)[m]? = some e → PyData.eqv e (.bool true) = false := fun m e h h2 => by
  rcases (show m = 0 ∨ m = 1 by omega) with z | z <;> subst z <;> cases h2 <;> rfl

theorem nBt {ws : List Int} {cm : Option Int} {wait : Int} (h : Bd ws cm wait true) (e : cm = none) (h1 : 1 ≤ wait) (h2 : ws.length < 8) : False := by
  rcases h with ⟨_, z⟩ | z | z
  · exact z e
  · omega
  · omega
theorem nBf {ws : List Int} {cm : Option Int} {wait : Int} (h : Bd ws cm wait false) (h1 : 1 ≤ wait) (h2 : ws.length < 8) : False := by
  rcases h with ⟨z, _⟩ | z | z
  · cases z
  · omega
  · omega
theorem stq0 {ws ls : List Int} {n : Int} (h : (ls, n) ∈ standL ws (qv none)) : n = 0 := by
  obtain ⟨_, _, g3, g4⟩ := stand_get h
  have h3 : 0 ≤ n := g3
  have h4 : n < 1 := g4
  omega

noncomputable def KpD (D : Addr) (H H' : Hp) : Prop := ∀ b ob, b ≠ D → H b = some ob → H' b = some ob
noncomputable def KpDc (D c : Addr) (H H' : Hp) : Prop := ∀ b ob, b ≠ D → b ≠ c → H b = some ob → H' b = some ob
noncomputable def WayP (ws : List Int) (cm : Option Int) (H : Hp) (kvs : List ((List Int × Int) × V)) (i : Nat) (H' : Hp) (wv : List ((List Int × Int) × V)) : Prop := ∀ k who later, (∃ v, (k, v) ∈ kvs.take i) → LeftP H kvs k who → some later ∈ behL ws k.1 cm k.2 who → HasWay H' wv later k who
noncomputable def WayQ (ws : List Int) (cm : Option Int) (cs : List (Key × V)) (j : Nat) (kk : List Int × Int) (H' : Hp) (wv : List ((List Int × Int) × V)) : Prop := ∀ who later, (∃ e ∈ cs.take j, e.1 = .inl ((who : Nat) : Int)) → some later ∈ behL ws kk.1 cm kk.2 who → HasWay H' wv later kk who
noncomputable def LeLe (kvs : List ((List Int × Int) × V)) (H' H : Hp) : Prop := ∀ k who, LeftP H' kvs k who → LeftP H kvs k who
noncomputable def LeGe (ws : List Int) (cm : Option Int) (kvs : List ((List Int × Int) × V)) (rho : List (List Int × Int)) (i : Nat) (H H' : Hp) : Prop := ∀ k who, LeftP H kvs k who → (∀ later ∈ rho.take i, some later ∉ behL ws k.1 cm k.2 who) → LeftP H' kvs k who
noncomputable def LeNo (ws : List Int) (cm : Option Int) (kvs : List ((List Int × Int) × V)) (rho : List (List Int × Int)) (i : Nat) (H' : Hp) : Prop := ∀ later ∈ rho.take i, ∀ k who, some later ∈ behL ws k.1 cm k.2 who → ¬ LeftP H' kvs k who
noncomputable def LeBe (kvs : List ((List Int × Int) × V)) (H H' : Hp) (beta : List (List Int × Int)) : Prop := ∀ k, k ∈ beta ↔ ((∃ who, LeftP H kvs k who) ∧ ∀ who, ¬ LeftP H' kvs k who)
noncomputable def NoT (H7 : Hp) (us2 : List V) (j : Nat) (H8 : Hp) (kvs : List ((List Int × Int) × V)) : Prop := ∀ t b who k, V.ref t ∈ us2.take j → H7 t = some (.tup [.ref b, .int ((who : Nat) : Int)]) → StH H7 b k → ¬ LeftP H8 kvs k who
noncomputable def KpT (T : Addr) (kvs : List ((List Int × Int) × V)) (H4 H' : Hp) : Prop := ∀ b ob, b ≠ T → H4 b = some ob → (∀ kv ∈ kvs, kv.2 ≠ .ref b) → H' b = some ob


theorem vals_d_hall_of : Vals [V.non] [Value.none] := .cons rfl .nil
theorem vals_d_after : Vals [V.bl false] [Value.bool false] := .cons rfl .nil
theorem us_0 {us : List Value} (h : us.length = 0) : us = [] := List.length_eq_zero_iff.mp h
theorem us_1 {us : List Value} (h : us.length = 1) : ∃ a0, us = [a0] := by
  cases us with
  | nil => cases h
  | cons a us =>
    obtain rfl := us_0 (Nat.succ.inj h)
    exact ⟨a, rfl⟩
theorem us_2 {us : List Value} (h : us.length = 2) : ∃ a0 a1, us = [a0, a1] := by
  cases us with
  | nil => cases h
  | cons a us =>
    obtain ⟨a1, rfl⟩ := us_1 (Nat.succ.inj h)
    exact ⟨a, a1, rfl⟩
theorem us_3 {us : List Value} (h : us.length = 3) : ∃ a0 a1 a2, us = [a0, a1, a2] := by
  cases us with
  | nil => cases h
  | cons a us =>
    obtain ⟨a1, a2, rfl⟩ := us_2 (Nat.succ.inj h)
    exact ⟨a, a1, a2, rfl⟩
theorem us_4 {us : List Value} (h : us.length = 4) : ∃ a0 a1 a2 a3, us = [a0, a1, a2, a3] := by
  cases us with
  | nil => cases h
  | cons a us =>
    obtain ⟨a1, a2, a3, rfl⟩ := us_3 (Nat.succ.inj h)
    exact ⟨a, a1, a2, a3, rfl⟩
section
variable {P : Program} {w : World} {K : PySem.W.Frag} {mg : Str → Option Value} {base : Heap} {ad : Ads} {C_NoHall C_TooMany C_Unsafe C_RoundError C_NoChain C_NoListener C_NoLoss C_NoPart C_NoRow C_NoStand C_NoWheel C_TooMuch : Addr}
/-! ### hall_of -/
noncomputable def sp_hall_of (K : PySem.W.Frag) (C_NoHall C_TooMany C_Unsafe : Addr) : Sp := fun vs H Q E => (Ex3 fun (a : Addr) (ws : List Int) (cm : Option Int) => All7 (vs = [.ref a, vO cm]) (H a = some (.tup (ws.map V.int))) (0 < ws.length) (ws.length ≤ 8) ((∀ x ∈ ws, 1 ≤ x)) ((∀ c, cm = some c → 1 ≤ c)) (∀ (p : Addr) (H' : Hp), Same H H' → HallAt H' p ws cm → Q (.ref p) H')) ∨ (Ex3 fun (a : Addr) (ws : List Int) (cm : Option Int) => All4 (vs = [.ref a, vO cm]) (H a = some (.tup (ws.map V.int))) (BadH ws cm) (∀ H2, Same H H2 → E (.ref C_NoHall) none H2))
theorem ok_hall_of {fd  : FuncData} (T : Txt K mg ad C_NoHall C_TooMany C_Unsafe C_RoundError C_NoChain C_NoListener C_NoLoss C_NoPart C_NoRow C_NoStand C_NoWheel C_TooMuch) (F : FunD K "hall_of" "hall_of" s_hall_of ad.f_hall_of fd) : FnOk P w K mg base (CX1 P w) 1 ad.f_hall_of fd ["waits", "calm"] (sp_hall_of K C_NoHall C_TooMany C_Unsafe) := by
  refine F.okE sc_hall_of (fun vs H Q E h => ?_) (fun cdv A outer s H vs Q E hr h => ?_)
  · rcases h with ⟨a, ws, cm, rfl, ha, hw0, hw8, hw1, hcm, q⟩ | ⟨a, ws, cm, rfl, ha, bad, he⟩ <;> rfl
  · obtain h := h
    refine ⟨_, (pss_cons (ps_if (PW.pt (pw_orX (pt_cmpR op_lt (pe_callB (call_lenK K) (by rfl) T.n_len PySem.boot_len (pa_cons (pv 0) pa_nil)) pe_int (nomark _)) (pw_or1 (pt_cmpR op_gt (pe_callB (call_lenK K) (by rfl) T.n_len PySem.boot_len (pa_cons (pv 0) pa_nil)) (pe_glob (v := .int 8) (by rfl) T.g_MOST_LISTENERS.choose_spec ⟨_, rfl⟩) (nomark _))))) (pss_one (ps_raise raiseD rfl (by rfl) T.c_NoHall T.e_NoHall (pa_cons pe_str pa_nil))) pss_nil) (pss_cons (ps_if (pt_cmpR op_lt (pe_callB (call_minS K rfl) (by rfl) T.n_min boot_min (pa_cons (pv 0) pa_nil)) pe_int (nomark _)) (pss_one (ps_raise raiseD rfl (by rfl) T.c_NoHall T.e_NoHall (pa_cons pe_str pa_nil))) pss_nil) (pss_cons (ps_if (PW.pt (pw_andX (pt_cmpR op_notN (pv 1) pe_non (nomark _)) (pw_and1 (pt_cmpR op_lt (pv 1) pe_int (nomark _))))) (pss_one (ps_raise raiseD rfl (by rfl) T.c_NoHall T.e_NoHall (pa_cons pe_str pa_nil))) pss_nil) (pss_one (ps_ret (pe_tup (pa_cons (pe_callTy (call_tupK K) (by rfl) T.n_tuple boot_tuple (pa_cons (pv 0) pa_nil)) (pa_cons (pv 1) pa_nil)))))))), ?_⟩
    rcases h with ⟨a, ws, cm, rfl, ha, hw0, hw8, hw1, hcm, q⟩ | ⟨a, ws, cm, rfl, ha, bad, he⟩
    · refine ⟨_, rfl, a, _, rfl, .inr (SqT.of ha), _, _, rfl, rfl, _, rfl, false, fun _ Q' z => ⟨_, rfl, a, _, rfl, .inr (SqT.of ha), _, _, rfl, rfl, _, rfl, ?_⟩, ite_f ?_ ?_⟩
      · have e : decide (((ws.map V.int).length : Int) > 8) = false := decide_eq_false (by rw [List.length_map]; omega)
        first | (rw [e]; exact z) | (rw [show decide ((8 : Int) < ((ws.map V.int).length : Int)) = false from decide_eq_false (by rw [List.length_map]; omega)]; exact z)
      · rw [decide_eq_false (show ¬ ((ws.map V.int).length : Int) < 1 by rw [List.length_map]; omega)]
        rfl
      refine ⟨_, rfl, a, ws, rfl, .inr (SqT.of ha), hw0, fun m hm _ => ⟨_, _, rfl, rfl, _, rfl, ite_f ?_ ?_⟩⟩
      · have := hw1 m hm
        exact decide_eq_false (by omega)
      refine ⟨_, rfl, rfl, _, rfl, false, fun e Q' z => ?_, ite_f ?_ ?_⟩
      · cases cm with
        | none => simp [vO] at e
        | some c =>
          have := hcm c rfl
          refine ⟨_, rfl, _, _, rfl, rfl, _, rfl, ?_⟩
          rw [decide_eq_false (show ¬ c < 1 by omega)]
          exact z
      · rw [Bool.and_false]
      refine ⟨_, rfl, a, _, rfl, .inr ⟨SqT.of ha, ⟨_, rfl, lenOk, fun p hp => ?_⟩⟩⟩
      exact q p _ (Same.upd hp) ⟨a, upd_same, Same.upd hp _ _ ha⟩
    · refine ⟨_, rfl, a, _, rfl, .inr (SqT.of ha), _, _, rfl, rfl, _, rfl, decide (((ws.map V.int).length : Int) > 8), fun _ Q' z => ⟨_, rfl, a, _, rfl, .inr (SqT.of ha), _, _, rfl, rfl, _, rfl, z⟩, ?_⟩
      refine ite2 (fun _ => ⟨oneLine, he⟩) (fun h0 => ?_)
      have hlen : 1 ≤ ws.length ∧ ws.length ≤ 8 := by
        rw [List.length_map] at h0
        simp only [Bool.or_eq_true, decide_eq_true_eq, not_or] at h0
        omega
      refine ⟨_, rfl, a, ws, rfl, .inr (SqT.of ha), by omega, fun m hm hmin => ⟨_, _, rfl, rfl, _, rfl, ?_⟩⟩
      refine ite2 (fun _ => ⟨oneLine, he⟩) (fun h1 => ?_)
      have hm1 : ¬ m < 1 := by simpa using h1
      have hc : ∃ c, cm = some c ∧ c < 1 := by
        rcases bad with b | b | ⟨x, hx, hx1⟩ | b
        · omega
        · omega
        · have := hmin x hx
          omega
        · exact b
      obtain ⟨c, rfl, hc1⟩ := hc
      refine ⟨_, rfl, rfl, _, rfl, true, fun e Q' z => ⟨_, rfl, _, _, rfl, rfl, _, rfl, ?_⟩, ite_t rfl ⟨oneLine, he⟩⟩
      rw [decide_eq_true hc1]
      exact z
/-! ### may_lose -/
noncomputable def sp_may_lose (K : PySem.W.Frag) : Sp := fun vs H Q _ => Ex6 fun (a b : Addr) (ws ls : List Int) (calm : Option Int) (q : Int) => All4 (vs = [.ref a, .ref b]) (HallAt H a ws calm) (StAt H b ls q) (Q (.bl (!decide (calm = none) && decide (q = 0))) H)
theorem ok_may_lose {fd  : FuncData} (T : Txt K mg ad C_NoHall C_TooMany C_Unsafe C_RoundError C_NoChain C_NoListener C_NoLoss C_NoPart C_NoRow C_NoStand C_NoWheel C_TooMuch) (F : Fun K "may_lose" "may_lose" s_may_lose ad.f_may_lose fd) : FnOk P w K mg base (CX1 P w) 1 ad.f_may_lose fd ["hall", "standing"] (sp_may_lose K) := by
  refine F.okN sc_may_lose (fun vs H Q E h => ?_) (fun cdv A outer s H vs Q E hr h => ?_)
  · rcases h with ⟨a, b, ws, ls, calm, n, rfl, ⟨t, ha, _⟩, ⟨u, hb, _⟩, q⟩ <;> rfl
  · obtain ⟨a, b, ws, ls, calm, n, rfl, ⟨t, ha, _⟩, ⟨u, hb, _⟩, q⟩ := h
    refine ⟨_, (pss_one (ps_ret (pe_andX (pe_cmpR op_notN (pe_ix (ix_sq K) (pv 0) pe_int (fun _ _ => rfl)) pe_non (nomark _)) (pe_one (pe_cmpR op_eq (pe_ix (ix_sq K) (pv 1) pe_int (fun _ _ => rfl)) pe_int (nomark _)))))), ?_⟩
    repeat first | refine hN _ _ ?_ | with_reducible refine cutR fun N hN => ?_
    refine ⟨_, rfl, a, _, _, _, rfl, rfl, .inr (SqT.of ha), rfl, rfl, _, decide (V.int n = V.int 0), rfl, fun _ Q' z => ⟨_, rfl, b, _, _, _, rfl, rfl, .inr (SqT.of hb), rfl, rfl, z⟩, ?_⟩
    have e2 : decide (V.int n = V.int 0) = decide (n = 0) := by simp
    rw [vO_non, e2]
    exact q
/-! ### is_listener -/
noncomputable def sp_is_listener (K : PySem.W.Frag) : Sp := fun vs H Q _ => Ex4 fun (a : Addr) (ws : List Int) (calm : Option Int) (who : Int) => All3 (vs = [.ref a, .int who]) (HallAt H a ws calm) (Q (.bl (decide (0 ≤ who ∧ who < ws.length))) H)
theorem ok_is_listener {fd  : FuncData} (T : Txt K mg ad C_NoHall C_TooMany C_Unsafe C_RoundError C_NoChain C_NoListener C_NoLoss C_NoPart C_NoRow C_NoStand C_NoWheel C_TooMuch) (F : Fun K "is_listener" "is_listener" s_is_listener ad.f_is_listener fd) : FnOk P w K mg base (CX1 P w) 1 ad.f_is_listener fd ["hall", "who"] (sp_is_listener K) := by
  refine F.okN sc_is_listener (fun vs H Q E h => ?_) (fun cdv A outer s H vs Q E hr h => ?_)
  · rcases h with ⟨a, ws, calm, who, rfl, ⟨t, ha1, ha2⟩, q⟩ <;> rfl
  · obtain ⟨a, ws, calm, who, rfl, ⟨t, ha1, ha2⟩, q⟩ := h
    refine ⟨_, (pss_one (ps_ret (pe_andX (pe_cmpR op_ge (pv 1) pe_int (nomark _)) (pe_one (pe_cmpR op_lt (pv 1) (pe_callB (call_lenK K) (by rfl) T.n_len PySem.boot_len (pa_cons (pe_ix (ix_sq K) (pv 0) pe_int (fun _ _ => rfl)) pa_nil)) (nomark _)))))), ?_⟩
    repeat first | refine hN _ _ ?_ | with_reducible refine cutR fun N hN => ?_
    refine ⟨_, rfl, _, _, rfl, rfl, _, decide (who < (ws.length : Int)), rfl, fun _ Q' z => ⟨_, rfl, _, rfl, a, _, _, _, rfl, rfl, .inr (SqT.of ha1), rfl, t, _, rfl, .inr (SqT.of ha2), _, _, rfl, rfl, ?_⟩, ?_⟩
    · rw [List.length_map]
      exact z
    · rw [show (decide (who ≥ 0) && decide (who < (ws.length : Int))) = decide (0 ≤ who ∧ who < (ws.length : Int)) by rw [Bool.decide_and]]
      exact q
/-! ### refuse_wrong_turn -/
noncomputable def sp_refuse_wrong_turn (K : PySem.W.Frag) : Sp := fun vs H Q _ => Ex8 fun (a b : Addr) (ws ls : List Int) (calm : Option Int) (q : Int) (who : Nat) (lost : Bool) => All6 (vs = [.ref a, .ref b, .int who, .bl lost]) (HallAt H a ws calm) (StAt H b ls q) (who < ws.length) (MayB calm q lost) (Q .non H)
theorem ok_refuse_wrong_turn {fd fd_is_listener fd_may_lose : FuncData} (T : Txt K mg ad C_NoHall C_TooMany C_Unsafe C_RoundError C_NoChain C_NoListener C_NoLoss C_NoPart C_NoRow C_NoStand C_NoWheel C_TooMuch) (F : Fun K "refuse_wrong_turn" "refuse_wrong_turn" s_refuse_wrong_turn ad.f_refuse_wrong_turn fd) (G_is_listener : FnOk P w K mg base (CX1 P w) 1 ad.f_is_listener fd_is_listener ["hall", "who"] (sp_is_listener K)) (B_is_listener : Binds K fd_is_listener ["hall", "who"] []) (G_may_lose : FnOk P w K mg base (CX1 P w) 1 ad.f_may_lose fd_may_lose ["hall", "standing"] (sp_may_lose K)) (B_may_lose : Binds K fd_may_lose ["hall", "standing"] []) : FnOk P w K mg base (CX1 P w) 2 ad.f_refuse_wrong_turn fd ["hall", "standing", "who", "lost"] (sp_refuse_wrong_turn K) := by
  refine F.okN sc_refuse_wrong_turn (fun vs H Q E h => ?_) (fun cdv A outer s H vs Q E hr h => ?_)
  · rcases h with ⟨a, b, ws, ls, calm, n, who, lost, rfl, ha, hb, hw, hm, q⟩ <;> rfl
  · obtain ⟨a, b, ws, ls, calm, n, who, lost, rfl, ha, hb, hw, hm, q⟩ := h
    refine ⟨_, (pss_cons (ps_if (pt_not (pt_val (pe_call G_is_listener (hr.mono (by decide)) rfl T.m_is_listener T.k_is_listener B_is_listener .nil passN (pa_cons (pv 0) (pa_cons (pv 2) pa_nil))))) (pss_one ps_never) pss_nil) (pss_one (ps_if (PW.pt (pw_andX (pt_val (pv 3)) (pw_and1 (pt_not (pt_val (pe_call G_may_lose (hr.mono (by decide)) rfl T.m_may_lose T.k_may_lose B_may_lose .nil passN (pa_cons (pv 0) (pa_cons (pv 1) pa_nil)))))))) (pss_one ps_never) pss_nil))), ?_⟩
    obtain ⟨t, ha1, ha2⟩ := id ha
    repeat first | refine hN _ _ ?_ | with_reducible refine cutR fun N hN => ?_
    refine ⟨_, rfl, _, rfl, a, ws, calm, (who : Int), rfl, ha, _, rfl, ite_f ?_ ?_⟩
    · rw [decide_eq_true (show (0 : Int) ≤ (who : Int) ∧ (who : Int) < (ws.length : Int) by omega)]
      rfl
    repeat first | refine hN _ _ ?_ | with_reducible refine cutR fun N hN => ?_
    refine ⟨_, rfl, _, rfl, !(!decide (calm = none) && decide (n = 0)), fun _ Q' z => ⟨_, rfl, _, rfl, a, b, ws, ls, calm, n, rfl, ha, hb, _, rfl, z⟩, ite_f ?_ q⟩
    cases lost with
    | false => rfl
    | true =>
      obtain ⟨h1, h2⟩ := hm rfl
      simp [h1, h2]
/-! ### left_behind -/
noncomputable def sp_left_behind (K : PySem.W.Frag) : Sp := fun vs H Q _ => Ex8 fun (a b : Addr) (ws ls : List Int) (calm : Option Int) (q : Int) (who : Nat) (lost : Bool) => All8 (vs = [.ref a, .ref b, .int who, .bl lost]) (HallAt H a ws calm) (StAt H b ls q) (who < ws.length) (ls.length = ws.length) (ws.length ≤ 8) (MayB calm q lost) (∀ (l : Addr) (H' : Hp), H l = none → Same H H' → H' l = some (.lst ((leftB ws ls who lost).map V.int)) → Q (.ref l) H')
theorem ok_left_behind {fd fd_refuse_wrong_turn : FuncData} (T : Txt K mg ad C_NoHall C_TooMany C_Unsafe C_RoundError C_NoChain C_NoListener C_NoLoss C_NoPart C_NoRow C_NoStand C_NoWheel C_TooMuch) (F : Fun K "left_behind" "left_behind" s_left_behind ad.f_left_behind fd) (G_refuse_wrong_turn : FnOk P w K mg base (CX1 P w) 2 ad.f_refuse_wrong_turn fd_refuse_wrong_turn ["hall", "standing", "who", "lost"] (sp_refuse_wrong_turn K)) (B_refuse_wrong_turn : Binds K fd_refuse_wrong_turn ["hall", "standing", "who", "lost"] []) : FnOk P w K mg base (CX1 P w) 3 ad.f_left_behind fd ["hall", "standing", "who", "lost"] (sp_left_behind K) := by
  refine F.okN sc_left_behind (fun vs H Q E h => ?_) (fun cdv A outer s H vs Q E hr h => ?_)
  · rcases h with ⟨a, b, ws, ls, calm, n, who, lost, rfl, ha, hb, hw, hl, h8, hm, q⟩ <;> rfl
  · obtain ⟨a, b, ws, ls, calm, n, who, lost, rfl, ha, hb, hw, hl, h8, hm, q⟩ := h
    refine ⟨_, (pss_cons (ps_expr (pe_call G_refuse_wrong_turn (hr.mono (by decide)) rfl T.m_refuse_wrong_turn T.k_refuse_wrong_turn B_refuse_wrong_turn .nil passN (pa_cons (pv 0) (pa_cons (pv 1) (pa_cons (pv 2) (pa_cons (pv 3) pa_nil)))))) (pss_cons (ps_setComp (i := 4) sc_left_behind.nd rfl (pi_eq (w' := iSq K _) (pi_sq (pe_ix (ix_sq K) (pv 1) pe_int (fun _ _ => rfl)))) _ rfl cs_left_behind_0 rfl rfl (fun _ _ _ _ => (pg_name (i := 0) nd_left_behind_0 rfl (Or.inl rfl))) (fun _ _ _ _ => pts_nil) (fun _ _ _ _ => (pe_op op_sub (pv 0) pe_int)) rfl rfl) (pss_cons (ps_ifJ (pt_not (pt_val (pv 3))) (pss_one (ps_asg (pe_ix (ix_sq K) (pe_ix (ix_sq K) (pv 0) pe_int (fun _ _ => rfl)) (pv 2) (fun _ _ => rfl)) (pg_sub (pv 4) (pv 2) set_list))) pss_nil) (pss_one (ps_ret (pv 4)))))), ?_⟩
    obtain ⟨t, ha1, ha2⟩ := id ha
    obtain ⟨u, hb1, hb2⟩ := id hb
    repeat first | refine hN _ _ ?_ | with_reducible refine cutR fun N hN => ?_
    refine ⟨_, rfl, _, rfl, _, rfl, _, rfl, a, b, ws, ls, calm, n, who, lost, rfl, ha, hb, hw, hm, ?_⟩
    repeat first | refine hN _ _ ?_ | with_reducible refine cutR fun N hN => ?_
    refine ⟨_, rfl, b, _, _, _, rfl, rfl, .inr (SqT.of hb1), rfl, u, rfl, .inr ⟨⟨_, SqT.of hb2⟩, fun D hD => ?_⟩⟩
    repeat first | refine hN _ _ ?_ | with_reducible refine cutR fun N hN => ?_
    refine comp_tup (K := K) (a := u) (xs := ls.map V.int) (fun i ys H' => ys = ((ls.take i).map (fun x => x - 1)).map V.int ∧ H' D = some (.lst ys) ∧ Same H H') ⟨rfl, upd_same, Same.upd hD⟩ (by rintro i ys H' _ ⟨_, _, s⟩; exact SqT.of (s _ _ hb2)) ?_ ?_
    · rintro i x ys H' hx ⟨rfl, hD', s'⟩ Qe hQ
      rw [List.getElem?_map] at hx
      obtain ⟨y, hy, rfl⟩ := Option.map_eq_some_iff.mp hx
      have hi := (List.getElem?_eq_some_iff.mp hy).1
      repeat first | refine hN _ _ ?_ | with_reducible refine cutR fun N hN => ?_
      refine ⟨_, rfl, _, _, rfl, rfl, hQ _ _ hD' (small1000 (by simp; omega)) ⟨?_, upd_same, s'.new hD⟩⟩
      rw [List.take_add_one, hy]
      simp
    rintro ys H2 ⟨rfl, hD2, s2⟩
    rw [List.length_map, List.take_length] at hD2
    repeat first | refine hN _ _ ?_ | with_reducible refine cutR fun N hN => ?_
    refine ⟨_, rfl, _, rfl, (fun σ' H' => σ' = [some (.ref a), some (.ref b), some (.int (who : Nat)), some (.bl lost), some (.ref D)] ∧ Same H H' ∧ H' D = some (.lst ((leftB ws ls who lost).map V.int))), fun e => ?_, fun e => ?_, ?_⟩
    · have e' : lost = false := by simpa using e
      subst e'
      repeat first | refine hN _ _ ?_ | with_reducible refine cutR fun N hN => ?_
      refine ⟨_, rfl, a, _, _, _, rfl, rfl, .inr (SqT.of (s2 _ _ ha1)), rfl, _, rfl, t, _, _, _, rfl, rfl, .inr (SqT.of (s2 _ _ ha2)), getD_at hw, ?_⟩
      repeat first | refine hN _ _ ?_ | with_reducible refine cutR fun N hN => ?_
      refine ⟨_, rfl, _, rfl, D, _, _, _, rfl, rfl, hD2, ixN_nat (by simp; omega), rfl, s2.new hD, ?_⟩
      rw [upd_same]
      unfold leftB
      simp
    · have e' : lost = true := by simpa using e
      subst e'
      repeat first | refine hN _ _ ?_ | with_reducible refine cutR fun N hN => ?_
      exact ⟨rfl, s2, hD2⟩
    · rintro σ' H' ⟨rfl, s3, e3⟩
      repeat first | refine hN _ _ ?_ | with_reducible refine cutR fun N hN => ?_
      exact ⟨_, rfl, q D H' hD s3 e3⟩
/-! ### quiet_behind -/
noncomputable def sp_quiet_behind (K : PySem.W.Frag) : Sp := fun vs H Q _ => Ex7 fun (a b : Addr) (ws ls : List Int) (calm : Option Int) (q : Int) (lost : Bool) => All5 (vs = [.ref a, .ref b, .bl lost]) (HallAt H a ws calm) (StAt H b ls q) (MayB calm q lost) (Q (.int (quietB calm q lost)) H)
theorem ok_quiet_behind {fd  : FuncData} (T : Txt K mg ad C_NoHall C_TooMany C_Unsafe C_RoundError C_NoChain C_NoListener C_NoLoss C_NoPart C_NoRow C_NoStand C_NoWheel C_TooMuch) (F : Fun K "quiet_behind" "quiet_behind" s_quiet_behind ad.f_quiet_behind fd) : FnOk P w K mg base (CX1 P w) 1 ad.f_quiet_behind fd ["hall", "standing", "lost"] (sp_quiet_behind K) := by
  refine F.okN sc_quiet_behind (fun vs H Q E h => ?_) (fun cdv A outer s H vs Q E hr h => ?_)
  · rcases h with ⟨a, b, ws, ls, calm, n, lost, rfl, ⟨t, ha, _⟩, ⟨u, hb, _⟩, hm, q⟩ <;> rfl
  · obtain ⟨a, b, ws, ls, calm, n, lost, rfl, ⟨t, ha, _⟩, ⟨u, hb, _⟩, hm, q⟩ := h
    refine ⟨_, (pss_cons (ps_if (pt_val (pv 2)) (pss_one (ps_ret (pe_ix (ix_sq K) (pv 0) pe_int (fun _ _ => rfl)))) pss_nil) (pss_one (ps_ret (pe_callB (call_max2 rfl) (by rfl) T.n_max boot_max (pa_cons (pe_op op_sub (pe_ix (ix_sq K) (pv 1) pe_int (fun _ _ => rfl)) pe_int) (pa_cons pe_int pa_nil)))))), ?_⟩
    refine ⟨_, rfl, _, rfl, ?_⟩
    cases lost with
    | true =>
      refine ite_t rfl ?_
      refine ⟨_, rfl, a, _, _, _, rfl, rfl, .inr (SqT.of ha), rfl, ?_⟩
      cases calm with
      | none => exact absurd rfl (hm rfl).1
      | some c => exact q
    | false =>
      refine ite_f rfl ?_
      refine ⟨_, rfl, b, _, _, _, rfl, rfl, .inr (SqT.of hb), rfl, _, _, rfl, rfl, _, _, rfl, ?_⟩
      have e : (if (0 : Int) > n - 1 then (0 : Int) else n - 1) = quietB calm n false := by
        unfold quietB
        rw [if_neg Bool.false_ne_true]
        omega
      show Q (.int (if (0 : Int) > n - 1 then (0 : Int) else n - 1)) H
      rw [e]
      exact q
/-! ### after -/
noncomputable def sp_after (K : PySem.W.Frag) : Sp := fun vs H Q _ => Ex8 fun (a b : Addr) (ws ls : List Int) (calm : Option Int) (q : Int) (who : Nat) (lost : Bool) => All9 (vs = [.ref a, .ref b, .int who, .bl lost]) (HallAt H a ws calm) (StAt H b ls q) (who < ws.length) (ls.length = ws.length) (ws.length ≤ 8) (MayB calm q lost) (((0 : Int) ∈ leftB ws ls who lost → ∀ H', Same H H' → Q .non H')) (((0 : Int) ∉ leftB ws ls who lost → ∀ (p : Addr) (H' : Hp), Same H H' → StAt H' p (leftB ws ls who lost) (quietB calm q lost) → Q (.ref p) H'))
theorem ok_after {fd fd_left_behind fd_quiet_behind : FuncData} (T : Txt K mg ad C_NoHall C_TooMany C_Unsafe C_RoundError C_NoChain C_NoListener C_NoLoss C_NoPart C_NoRow C_NoStand C_NoWheel C_TooMuch) (F : FunD K "after" "after" s_after ad.f_after fd) (G_left_behind : FnOk P w K mg base (CX1 P w) 3 ad.f_left_behind fd_left_behind ["hall", "standing", "who", "lost"] (sp_left_behind K)) (B_left_behind : Binds K fd_left_behind ["hall", "standing", "who", "lost"] []) (G_quiet_behind : FnOk P w K mg base (CX1 P w) 1 ad.f_quiet_behind fd_quiet_behind ["hall", "standing", "lost"] (sp_quiet_behind K)) (B_quiet_behind : Binds K fd_quiet_behind ["hall", "standing", "lost"] []) : FnOk P w K mg base (CX1 P w) 4 ad.f_after fd ["hall", "standing", "who", "lost"] (sp_after K) := by
  refine F.okN sc_after (fun vs H Q E h => ?_) (fun cdv A outer s H vs Q E hr h => ?_)
  · rcases h with ⟨a, b, ws, ls, calm, n, who, lost, rfl, ha, hb, hw, hl, h8, hm, q1, q2⟩ <;> rfl
  · obtain ⟨a, b, ws, ls, calm, n, who, lost, rfl, ha, hb, hw, hl, h8, hm, q1, q2⟩ := h
    refine ⟨_, (pss_cons (ps_set (i := 4) sc_after.nd rfl (Or.inl rfl) (pe_call G_left_behind (hr.mono (by decide)) rfl T.m_left_behind T.k_left_behind B_left_behind .nil passN (pa_cons (pv 0) (pa_cons (pv 1) (pa_cons (pv 2) (pa_cons (pv 3) pa_nil)))))) (pss_cons (ps_if (pt_cmpR (op_inK K) pe_int (pv 4) rfl) (pss_one (ps_ret pe_non)) pss_nil) (pss_one (ps_ret (pe_tup (pa_cons (pe_callTy (call_tupK K) (by rfl) T.n_tuple boot_tuple (pa_cons (pv 4) pa_nil)) (pa_cons (pe_call G_quiet_behind (hr.mono (by decide)) rfl T.m_quiet_behind T.k_quiet_behind B_quiet_behind .nil passN (pa_cons (pv 0) (pa_cons (pv 1) (pa_cons (pv 3) pa_nil)))) pa_nil))))))), ?_⟩
    repeat first | refine hN _ _ ?_ | with_reducible refine cutR fun N hN => ?_
    refine ⟨_, rfl, _, rfl, _, rfl, _, rfl, a, b, ws, ls, calm, n, who, lost, rfl, ha, hb, hw, hl, h8, hm, fun l H1 hl0 s1 hl1 => ?_⟩
    repeat first | refine hN _ _ ?_ | with_reducible refine cutR fun N hN => ?_
    refine ⟨_, rfl, l, _, rfl, .inl (SqL.of hl1), rfl, flat_ints _, _, rfl, ?_⟩
    rw [inV_ints]
    repeat first | refine hN _ _ ?_ | with_reducible refine cutR fun N hN => ?_
    refine ite2 (fun h0 => ?_) (fun h0 => ?_)
    · exact q1 (by simpa using h0) H1 s1
    · repeat first | refine hN _ _ ?_ | with_reducible refine cutR fun N hN => ?_
      refine ⟨_, rfl, l, _, rfl, .inl ⟨SqL.of hl1, fun t ht => ?_⟩⟩
      have s2 : Same H (upd H1 t (.tup ((leftB ws ls who lost).map V.int))) := s1.new (s1.free ht)
      repeat first | refine hN _ _ ?_ | with_reducible refine cutR fun N hN => ?_
      refine ⟨_, rfl, _, rfl, _, rfl, a, b, ws, ls, calm, n, lost, rfl, ha.same s2, hb.same s2, hm, lenOk, fun p hp => ?_⟩
      refine q2 (by simpa using h0) p _ (s2.new (s2.free hp)) ⟨t, upd_same, ?_⟩
      rw [upd_ne (fun e => by rw [← e, upd_same] at hp; cases hp), upd_same]
/-! ### all_behind -/
noncomputable def sp_all_behind (K : PySem.W.Frag) : Sp := fun vs H Q _ => Ex8 fun (a b : Addr) (ws ls : List Int) (cm : Option Int) (q w : Int) (who : Nat) => All8 (vs = [.ref a, .ref b, .int w]) (w = (who : Int)) (HallAt H a ws cm) (StAt H b ls q) (who < ws.length) (ls.length = ws.length) (ws.length ≤ 8) (∀ (l : Addr) (us : List V) (H' : Hp), H l = none → Same H H' → H' l = some (.lst us) → AllAt (BehV H') (behL ws ls cm q who) us → Q (.ref l) H')
theorem ok_all_behind {fd fd_may_lose fd_after : FuncData} (T : Txt K mg ad C_NoHall C_TooMany C_Unsafe C_RoundError C_NoChain C_NoListener C_NoLoss C_NoPart C_NoRow C_NoStand C_NoWheel C_TooMuch) (F : Fun K "all_behind" "all_behind" s_all_behind ad.f_all_behind fd) (G_may_lose : FnOk P w K mg base (CX1 P w) 1 ad.f_may_lose fd_may_lose ["hall", "standing"] (sp_may_lose K)) (B_may_lose : Binds K fd_may_lose ["hall", "standing"] []) (G_after : FnOk P w K mg base (CX1 P w) 4 ad.f_after fd_after ["hall", "standing", "who", "lost"] (sp_after K)) (B_after : Binds K fd_after ["hall", "standing", "who", "lost"] []) (B_after_d : Binds K fd_after ["hall", "standing", "who", "lost"] [Value.bool false]) : FnOk P w K mg base (CX1 P w) 5 ad.f_all_behind fd ["hall", "standing", "who"] (sp_all_behind K) := by
  refine F.okN sc_all_behind (fun vs H Q E h => ?_) (fun cdv A outer s H vs Q E hr h => ?_)
  · rcases h with ⟨a, b, ws, ls, cm, n, w0, who, rfl, rfl, ha, hb, hw, hl, h8, q⟩ <;> rfl
  · obtain ⟨a, b, ws, ls, cm, n, w0, who, rfl, rfl, ha, hb, hw, hl, h8, q⟩ := h
    refine ⟨_, (pss_cons (ps_set (i := 3) sc_all_behind.nd rfl (Or.inl rfl) (pe_lst (pa_cons (pe_N (pe_call G_after (hr.mono (by decide)) rfl T.m_after T.k_after B_after_d (vals_d_after) passN (pa_cons (pv 0) (pa_cons (pv 1) (pa_cons (pv 2) pa_nil))))) pa_nil))) (pss_cons (ps_ifJ (pt_val (pe_call G_may_lose (hr.mono (by decide)) rfl T.m_may_lose T.k_may_lose B_may_lose .nil passN (pa_cons (pv 0) (pa_cons (pv 1) pa_nil)))) (pss_one (ps_expr (pe_eq (u' := tBM K _ _ _ _) (pe_bm PySem.F.plainAttrs_list PySem.F.slot_list_append PySem.F.type_list_append mt_append (pv 3) (pa_cons (pe_N (pe_call G_after (hr.mono (by decide)) rfl T.m_after T.k_after B_after .nil passN (pa_cons (pv 0) (pa_cons (pv 1) (pa_cons (pv 2) (pa_cons pe_bl pa_nil)))))) pa_nil))))) pss_nil) (pss_one (ps_ret (pv 3))))), ?_⟩
    repeat first | refine hN _ _ ?_ | with_reducible refine cutR fun N hN => ?_
    refine ⟨(fun v H9 => BehV H9 (aft ws ls cm n who false) v ∧ Same H H9), ⟨_, rfl, _, rfl, _, rfl, a, b, ws, ls, cm, n, who, false, rfl, ha, hb, hw, hl, h8, (fun z => nomatch z), (fun hz H2 s2 => ⟨by unfold aft; rw [if_pos hz]; rfl, s2⟩), fun hz p H2 s2 hst => ⟨by unfold aft; rw [if_neg hz]; exact ⟨p, rfl, hst⟩, s2⟩⟩, ?_⟩
    rintro v H1 ⟨hv, s1⟩
    repeat first | refine hN _ _ ?_ | with_reducible refine cutR fun N hN => ?_
    refine ⟨lenOk, fun L hL => ?_⟩
    have s2 : Same H1 (upd H1 L (.lst [v])) := Same.upd hL
    have e2 : (upd H1 L (.lst [v])) L = some (.lst [v]) := upd_same
    generalize upd H1 L (.lst [v]) = H2 at s2 e2 ⊢

    have s12 := s1.trans s2
    repeat first | refine hN _ _ ?_ | with_reducible refine cutR fun N hN => ?_
    refine ⟨_, rfl, _, rfl, a, b, ws, ls, cm, n, rfl, ha.same s12, hb.same s12, _, rfl, (fun σ' H' => ∃ (us : List V), All4 (σ' = [some (.ref a), some (.ref b), some (.int who), some (.ref L)]) (H' L = some (.lst us)) (AllAt (BehV H') (behL ws ls cm n who) us) (Same H H')), fun hm => ?_, fun hm => ?_, ?_⟩
    · have hm' : mayL cm n = true := hm
      have hmay : MayB cm n true := fun _ => by
        unfold mayL at hm'
        simp only [Bool.and_eq_true, Bool.not_eq_true', decide_eq_false_iff_not, decide_eq_true_eq] at hm'
        exact hm'
      repeat first | refine hN _ _ ?_ | with_reducible refine cutR fun N hN => ?_
      refine ⟨_, rfl, .inl ⟨rfl, _, SqL.of e2⟩, (fun v H9 => BehV H9 (aft ws ls cm n who true) v ∧ Same H2 H9), ⟨_, rfl, _, rfl, _, rfl, a, b, ws, ls, cm, n, who, true, rfl, ha.same s12, hb.same s12, hw, hl, h8, hmay, (fun hz H2 s2 => ⟨by unfold aft; rw [if_pos hz]; rfl, s2⟩), fun hz p H2 s2 hst => ⟨by unfold aft; rw [if_neg hz]; exact ⟨p, rfl, hst⟩, s2⟩⟩, ?_⟩
      rintro v2 H3 ⟨hv2, s3⟩
      have e3 := s3 _ _ e2
      have tt : Tups H3 (upd H3 L (.lst ([v] ++ [v2]))) := Tups.lst e3
      repeat first | refine hN _ _ ?_ | with_reducible refine cutR fun N hN => ?_
      refine ⟨L, _, _, rfl, rfl, e3, small1000 (by simp), [v] ++ [v2], rfl, upd_same, ?_, (s12.trans s3).new (s1.free hL)⟩
      unfold behL
      rw [if_pos hm']
      exact AllAt.cons (hv.up (((Tups.of s2).trans (Tups.of s3)).trans tt)) (AllAt.one (hv2.up tt))
    · have hm' : ¬ mayL cm n = true := by
        rw [show mayL cm n = false from hm]
        exact Bool.false_ne_true
      repeat first | refine hN _ _ ?_ | with_reducible refine cutR fun N hN => ?_
      refine ⟨[v], rfl, e2, ?_, s12⟩
      unfold behL
      rw [if_neg hm']
      exact AllAt.one (hv.up (Tups.of s2))
    rintro σ' H' ⟨us, rfl, eL, hall, s'⟩
    repeat first | refine hN _ _ ?_ | with_reducible refine cutR fun N hN => ?_
    exact ⟨_, rfl, q L us H' (s1.free hL) s' eL hall⟩
/-! ### quiet_values -/
noncomputable def sp_quiet_values (K : PySem.W.Frag) : Sp := fun vs H Q _ => Ex3 fun (a : Addr) (ws : List Int) (cm : Option Int) => All3 (vs = [.ref a]) (HallAt H a ws cm) (Q (.int (qv cm)) H)
theorem ok_quiet_values {fd  : FuncData} (T : Txt K mg ad C_NoHall C_TooMany C_Unsafe C_RoundError C_NoChain C_NoListener C_NoLoss C_NoPart C_NoRow C_NoStand C_NoWheel C_TooMuch) (F : Fun K "quiet_values" "quiet_values" s_quiet_values ad.f_quiet_values fd) : FnOk P w K mg base (CX1 P w) 1 ad.f_quiet_values fd ["hall"] (sp_quiet_values K) := by
  refine F.okN sc_quiet_values (fun vs H Q E h => ?_) (fun cdv A outer s H vs Q E hr h => ?_)
  · rcases h with ⟨a, ws, cm, rfl, ⟨t, ha1, ha2⟩, q⟩ <;> rfl
  · obtain ⟨a, ws, cm, rfl, ⟨t, ha1, ha2⟩, q⟩ := h
    refine ⟨_, (pss_one (ps_ret (pe_ifExp (pt_cmpR op_isN (pe_ix (ix_sq K) (pv 0) pe_int (fun _ _ => rfl)) pe_non (nomark _)) pe_int (pe_op op_add (pe_ix (ix_sq K) (pv 0) pe_int (fun _ _ => rfl)) pe_int)))), ?_⟩
    cases cm with
    | none => exact ⟨_, rfl, a, _, _, _, rfl, rfl, .inr (SqT.of ha1), rfl, rfl, _, rfl, ite_t rfl q⟩
    | some c => exact ⟨_, rfl, a, _, _, _, rfl, rfl, .inr (SqT.of ha1), rfl, rfl, _, rfl, ite_f rfl ⟨_, rfl, a, _, _, _, rfl, rfl, .inr (SqT.of ha1), rfl, _, _, rfl, rfl, q⟩⟩
/-! ### how_many -/
noncomputable def sp_how_many (K : PySem.W.Frag) : Sp := fun vs H Q _ => Ex3 fun (a : Addr) (ws : List Int) (cm : Option Int) => All6 (vs = [.ref a]) (HallAt H a ws cm) ((∀ w ∈ ws, intBits w ≤ 256)) (intBits (qv cm) ≤ 256) (ws.length ≤ 8) (Q (.int (prodI (qv cm) ws)) H)
theorem ok_how_many {fd fd_quiet_values : FuncData} (T : Txt K mg ad C_NoHall C_TooMany C_Unsafe C_RoundError C_NoChain C_NoListener C_NoLoss C_NoPart C_NoRow C_NoStand C_NoWheel C_TooMuch) (F : Fun K "how_many" "how_many" s_how_many ad.f_how_many fd) (G_quiet_values : FnOk P w K mg base (CX1 P w) 1 ad.f_quiet_values fd_quiet_values ["hall"] (sp_quiet_values K)) (B_quiet_values : Binds K fd_quiet_values ["hall"] []) : FnOk P w K mg base (CX1 P w) 2 ad.f_how_many fd ["hall"] (sp_how_many K) := by
  refine F.okN sc_how_many (fun vs H Q E h => ?_) (fun cdv A outer s H vs Q E hr h => ?_)
  · rcases h with ⟨a, ws, cm, rfl, ⟨t, ha1, ha2⟩, hb, hqb, hl, q⟩ <;> rfl
  · obtain ⟨a, ws, cm, rfl, ⟨t, ha1, ha2⟩, hb, hqb, hl, q⟩ := h
    refine ⟨_, (pss_cons (ps_set (i := 1) sc_how_many.nd rfl (Or.inl rfl) (pe_call G_quiet_values (hr.mono (by decide)) rfl T.m_quiet_values T.k_quiet_values B_quiet_values .nil passN (pa_cons (pv 0) pa_nil))) (pss_cons (ps_for PassesOwn.never rfl (pi_eq (w' := iSq K _) (pi_sq (pe_ix (ix_sq K) (pv 0) pe_int (fun _ _ => rfl)))) (pg_name (i := 2) sc_how_many.nd rfl (Or.inl rfl)) (pss_one (ps_set (i := 1) sc_how_many.nd rfl (Or.inl rfl) (pe_op op_mulO (pv 1) (pv 2))))) (pss_one (ps_ret (pv 1))))), ?_⟩
    repeat first | refine hN _ _ ?_ | with_reducible refine cutR fun N hN => ?_
    refine ⟨_, rfl, a, ws, cm, rfl, ⟨t, ha1, ha2⟩, ?_⟩
    repeat first | refine hN _ _ ?_ | with_reducible refine cutR fun N hN => ?_
    refine ⟨_, rfl, a, _, _, _, rfl, rfl, .inr (SqT.of ha1), rfl, t, rfl, .inr ⟨⟨_, SqT.of ha2⟩, ?_⟩⟩
    repeat first | refine hN _ _ ?_ | with_reducible refine cutR fun N hN => ?_
    refine for_tup (K := K) (a := t) (xs := ws.map V.int) (fun i σ H' => ∃ (v2 : Option V), σ = [some (.ref a), some (.int (prodI (qv cm) (ws.take i))), v2] ∧ H' = H) ⟨none, rfl, rfl⟩ (by rintro i σ H' _ ⟨_, _, e⟩; exact (by rw [e]; exact SqT.of ha2)) ?_ ?_
    · rintro i y σ H' hy ⟨v2, rfl, eH⟩
      subst eH
      rw [List.getElem?_map] at hy
      obtain ⟨x, hx, rfl⟩ := Option.map_eq_some_iff.mp hy
      have hi := (List.getElem?_eq_some_iff.mp hx).1
      have b1 := prod_bits hqb hb i (by omega)
      repeat first | refine hN _ _ ?_ | with_reducible refine cutR fun N hN => ?_
      refine ⟨_, rfl, _, rfl, _, _, rfl, rfl, mulOk b1 (hb x (List.mem_of_getElem? hx)) (by omega), ?_⟩
      repeat first | refine hN _ _ ?_ | with_reducible refine cutR fun N hN => ?_
      refine ⟨some (.int x), ?_, rfl⟩
      have e : prodI (qv cm) (ws.take (i + 1)) = prodI (qv cm) (ws.take i) * x := fold_snoc _ _ _ hx
      rw [e]
      rfl
    · rintro σ H' ⟨v2, rfl, eH⟩
      subst eH
      rw [List.length_map, List.take_length]
      repeat first | refine hN _ _ ?_ | with_reducible refine cutR fun N hN => ?_
      exact ⟨_, rfl, q⟩
/-! ### all_left -/
noncomputable def sp_all_left (K : PySem.W.Frag) : Sp := fun vs H Q _ => Ex2 fun (t : Addr) (ws : List Int) => All6 (vs = [.ref t]) (H t = some (.tup (ws.map V.int))) ((∀ w ∈ ws, 1 ≤ w)) (prodI 1 ws ≤ 3000) (ws.length ≤ 8) (∀ (l : Addr) (us : List V) (H' : Hp), H l = none → Same H H' → H' l = some (.lst us) → AllAt (RowAt H') (rowsOf ws) us → Q (.ref l) H')
theorem ok_all_left {fd  : FuncData} (T : Txt K mg ad C_NoHall C_TooMany C_Unsafe C_RoundError C_NoChain C_NoListener C_NoLoss C_NoPart C_NoRow C_NoStand C_NoWheel C_TooMuch) (F : Fun K "all_left" "all_left" s_all_left ad.f_all_left fd) : FnOk P w K mg base (CX1 P w) 1 ad.f_all_left fd ["waits"] (sp_all_left K) := by
  refine F.okN sc_all_left (fun vs H Q E h => ?_) (fun cdv A outer s H vs Q E hr h => ?_)
  · rcases h with ⟨t, ws, rfl, ht, hw1, hp, hl8, q⟩ <;> rfl
  · obtain ⟨t, ws, rfl, ht, hw1, hp, hl8, q⟩ := h
    refine ⟨_, (pss_cons (ps_set (i := 1) sc_all_left.nd rfl (Or.inl rfl) (pe_lst (pa_cons (pe_tup pa_nil) pa_nil))) (pss_cons (ps_for PassesOwn.never rfl (pi_eq (w' := iSq K _) (pi_sq (pv 0))) (pg_name (i := 2) sc_all_left.nd rfl (Or.inl rfl)) (pss_cons (ps_set (i := 3) sc_all_left.nd rfl (Or.inl rfl) (pe_lst pa_nil)) (pss_cons (ps_for PassesOwn.never rfl (pi_eq (w' := iSq K _) (pi_sq (pv 1))) (pg_name (i := 4) sc_all_left.nd rfl (Or.inr rfl)) (pss_one (ps_expr (pe_eq (u' := tBM K _ _ _ _) (pe_bm PySem.F.plainAttrs_list PySem.F.slot_list_extend PySem.F.type_list_extend mt_extend (pv 3) (pa_cons (pe_comp (pi_range2 (by rfl) T.n_range (pa_cons pe_int (pa_cons (pe_op op_add (pv 2) pe_int) pa_nil))) _ rfl cs_all_left_0 rfl rfl (fun _ _ _ _ => (pg_name (i := 0) nd_all_left_0 rfl (Or.inl rfl))) (fun _ _ _ _ => pts_nil) (fun _ _ _ _ => (pe_op (op_catE K) (pv 1) (pe_tup (pa_cons (pv 0) pa_nil))))) pa_nil)))))) (pss_one (ps_set (i := 1) sc_all_left.nd rfl (Or.inl rfl) (pv 3)))))) (pss_one (ps_ret (pv 1))))), ?_⟩
    repeat first | refine hN _ _ ?_ | with_reducible refine cutR fun N hN => ?_
    refine ⟨lenOk, fun E0 hE0 => ⟨lenOk, fun L0 hL0 => ?_⟩⟩
    have s0 : Same H (upd H E0 (.tup [])) := Same.upd hE0
    have e0 : (upd H E0 (.tup [])) E0 = some (.tup (([] : List Int).map V.int)) := upd_same
    generalize upd H E0 (.tup []) = H0 at s0 e0 hL0 ⊢
    have s1 : Same H0 (upd H0 L0 (.lst [.ref E0])) := Same.upd hL0
    have e1 : (upd H0 L0 (.lst [.ref E0])) L0 = some (.lst [.ref E0]) := upd_same
    have r1 : AllAt (RowAt (upd H0 L0 (.lst [.ref E0]))) (rowsOf (ws.take 0)) [.ref E0] := AllAt.one ⟨E0, rfl, s1 _ _ e0⟩
    generalize upd H0 L0 (.lst [.ref E0]) = H1 at s1 e1 r1 ⊢
    have s01 := s0.trans s1
    repeat first | refine hN _ _ ?_ | with_reducible refine cutR fun N hN => ?_
    refine ⟨_, rfl, t, rfl, .inr ⟨⟨_, SqT.of (s01 _ _ ht)⟩, ?_⟩⟩
    repeat first | refine hN _ _ ?_ | with_reducible refine cutR fun N hN => ?_
    refine for_tup (K := K) (a := t) (xs := ws.map V.int) (fun i σ H' => Ex5 fun (L : Addr) (us : List V) (v2 v3 v4 : Option V) => All5 (σ = [some (.ref t), some (.ref L), v2, v3, v4]) (H' L = some (.lst us)) (Same H H') (AllAt (RowAt H') (rowsOf (ws.take i)) us) (H L = none))
      ⟨L0, _, none, none, none, rfl, e1, s01, r1, s0.free hL0⟩ (by rintro i σ H' _ ⟨_, _, _, _, _, _, _, s, _, _⟩; exact SqT.of (s _ _ ht)) ?_ ?_
    · rintro i y σ H2 hy ⟨L, us, v2, v3, v4, rfl, f1, s2, f2, hL⟩
      rw [List.getElem?_map] at hy
      obtain ⟨w, hw, rfl⟩ := Option.map_eq_some_iff.mp hy
      have hwi := hw1 w (List.mem_of_getElem? hw)
      have hlen1 := rows_part hw1 hp i
      have hlen2 := rows_part hw1 hp (i + 1)
      have erow : rowsOf (ws.take (i + 1)) = stepRows (rowsOf (ws.take i)) w := fold_snoc _ _ _ hw
      rw [erow, step_len] at hlen2
      have hiw := (List.getElem?_eq_some_iff.mp hw).1
      have hrl : ∀ r ∈ rowsOf (ws.take i), r.length ≤ 8 := fun r hr => by
        have := (rows_ok ws i (by omega) r hr).1
        omega
      generalize rowsOf (ws.take i) = rows at f2 hlen1 hlen2 erow hrl
      repeat first | refine hN _ _ ?_ | with_reducible refine cutR fun N hN => ?_
      refine ⟨lenOk, fun D hD => ?_⟩
      have s3 : Same H2 (upd H2 D (.lst [])) := Same.upd hD
      have e3 : (upd H2 D (.lst [])) D = some (.lst []) := upd_same
      have f3 := s3 _ _ f1
      have g3 := f2.imp fun r v z => RowAt.up (Tups.of s3) z
      have nDL : L ≠ D := ne_of_none f1 hD
      generalize upd H2 D (.lst []) = H3 at s3 e3 f3 g3 ⊢
      repeat first | refine hN _ _ ?_ | with_reducible refine cutR fun N hN => ?_
      refine ⟨_, rfl, L, rfl, .inl ⟨⟨_, SqL.of f3⟩, ?_⟩⟩
      repeat first | refine hN _ _ ?_ | with_reducible refine cutR fun N hN => ?_
      refine for_list (K := K) (a := L) (xs := us) (fun j σ H' => Ex2 fun (zs : List V) (v4 : Option V) => All5 (σ = [some (.ref t), some (.ref L), some (.int w), some (.ref D), v4]) (H' D = some (.lst zs)) (H' L = some (.lst us)) (Same H2 H') (AllAt (RowAt H') (stepRows (rows.take j) w) zs))
        ⟨[], v4, rfl, e3, f3, s3, AllAt.nil⟩ (by rintro j σ H' _ ⟨_, _, _, _, e, _⟩; exact SqL.of e) ?_ ?_
      · rintro j y σ H4 hy ⟨zs, v4', rfl, h1, h2, s4, h3⟩
        have g4 := f2.imp fun r v z => RowAt.up (Tups.of s4) z
        obtain ⟨r, hr1, p, rfl, hp4⟩ := g4.get hy
        have hj := (List.getElem?_eq_some_iff.mp hr1).1
        have hr8 := hrl r (List.mem_of_getElem? hr1)
        have ezl : zs.length = (rows.take j).length * w.toNat := by rw [h3.1, step_len]
        have hzl : zs.length ≤ 3000 := by
          rw [ezl]
          refine Nat.le_trans (Nat.mul_le_mul_right _ ?_) hlen2
          rw [List.length_take]
          omega
        have hw3 : w.toNat ≤ 3000 := Nat.le_trans (Nat.le_mul_of_pos_left _ (by omega)) hlen2
        repeat first | refine hN _ _ ?_ | with_reducible refine cutR fun N hN => ?_
        refine ⟨_, rfl, .inl ⟨rfl, _, SqL.of h1⟩, _, rfl, _, _, rfl, rfl, 1, w + 1, rfl, by omega, fun B hB => ?_⟩
        repeat first | refine hN _ _ ?_ | with_reducible refine cutR fun N hN => ?_
        refine comp_range (fun m ys H' => H' B = some (.lst ys) ∧ Same H4 H' ∧ AllAt (RowAt H') ((List.range m).map fun t => r ++ [1 + ((t : Nat) : Int)]) ys) ⟨upd_same, Same.upd hB, AllAt.nil⟩ ?_ ?_
        · rintro m ys H5 hm ⟨k1, s5, k2⟩ Qe hQ
          repeat first | refine hN _ _ ?_ | with_reducible refine cutR fun N hN => ?_
          refine ⟨_, rfl, _, rfl, lenOk, fun P hP => ?_⟩
          have s6 : Same H5 (upd H5 P (.tup [.int (1 + (m : Int))])) := Same.upd hP
          repeat first | refine hN _ _ ?_ | with_reducible refine cutR fun N hN => ?_
          refine ⟨p, P, _, _, rfl, rfl, SqT.of (s6 _ _ (s5 _ _ hp4)), upd_same, by simp, Nat.le_of_lt (small3000 (by simp; omega)), fun p' H6 s7 e7 => ?_⟩
          generalize upd H5 P (.tup [.int (1 + (m : Int))]) = H5' at s6 s7
          have s57 := s6.trans s7
          have k1' := s57 _ _ k1
          have kl : ys.length = m := by rw [k2.1]; simp
          refine hQ _ _ k1' (small3000 (by omega)) ⟨upd_same, (s5.trans s57).new hB, ?_⟩
          have tu : Tups H5 (upd H6 B (.lst (ys ++ [.ref p']))) := (Tups.of s57).trans (Tups.lst k1')
          rw [List.range_succ, List.map_append]
          refine (k2.imp fun r v z => RowAt.up tu z).append (AllAt.one ⟨p', rfl, ?_⟩)
          refine Tups.lst k1' _ _ ?_
          rw [e7, List.map_append]
          rfl
        · rintro ys H5 ⟨k1, s5, k2⟩
          have eB : ((List.range (w + 1 - 1).toNat).map fun t => r ++ [1 + ((t : Nat) : Int)]) = lngR r w := by
            rw [show w + 1 - 1 = w by omega]
            rfl
          rw [eB] at k2
          have h1' := s5 _ _ h1
          have kl : ys.length = w.toNat := by rw [k2.1, lngR_len]
          repeat first | refine hN _ _ ?_ | with_reducible refine cutR fun N hN => ?_
          refine ⟨D, B, _, _, rfl, rfl, h1', k1, Nat.le_of_lt (small3000 (by omega)), ?_⟩
          have tu : Tups H5 (upd H5 D (.lst (zs ++ ys))) := Tups.lst h1'
          repeat first | refine hN _ _ ?_ | with_reducible refine cutR fun N hN => ?_
          refine ⟨zs ++ ys, _, rfl, upd_same, by rw [upd_ne nDL]; exact s5 _ _ h2, (s4.trans s5).new hD, ?_⟩
          have e : stepRows (rows.take (j + 1)) w = stepRows (rows.take j) w ++ lngR r w := flat_snoc _ _ hr1
          rw [e]
          exact (h3.imp fun r v z => RowAt.up ((Tups.of s5).trans tu) z).append (k2.imp fun r v z => RowAt.up tu z)
      · rintro σ H4 ⟨zs, v4', rfl, h1, h2, s4, h3⟩
        rw [f2.1, List.take_length] at h3
        repeat first | refine hN _ _ ?_ | with_reducible refine cutR fun N hN => ?_
        refine ⟨_, rfl, D, zs, _, _, _, rfl, h1, s2.trans s4, ?_, s2.free hD⟩
        rw [erow]
        exact h3
    · rintro σ H2 ⟨L, us, v2, v3, v4, rfl, f1, s2, f2, hL⟩
      rw [List.length_map, List.take_length] at f2
      repeat first | refine hN _ _ ?_ | with_reducible refine cutR fun N hN => ?_
      exact ⟨_, rfl, q L us H2 hL s2 f1 f2⟩
/-! ### standings -/
noncomputable def sp_standings (K : PySem.W.Frag) (C_NoHall C_TooMany C_Unsafe : Addr) : Sp := fun vs H Q E => (Ex3 fun (a : Addr) (ws : List Int) (cm : Option Int) => All9 (vs = [.ref a]) (HallAt H a ws cm) ((∀ w ∈ ws, 1 ≤ w)) (1 ≤ qv cm) ((∀ w ∈ ws, intBits w ≤ 256)) (intBits (qv cm) ≤ 256) (ws.length ≤ 8) (prodI (qv cm) ws ≤ 3000) (∀ (l : Addr) (us : List V) (H' : Hp), H l = none → Same H H' → H' l = some (.lst us) → AllAt (StV H') (standL ws (qv cm)) us → Q (.ref l) H')) ∨ (Ex3 fun (a : Addr) (ws : List Int) (cm : Option Int) => All7 (vs = [.ref a]) (HallAt H a ws cm) ((∀ w ∈ ws, intBits w ≤ 256)) (intBits (qv cm) ≤ 256) (ws.length ≤ 8) (3000 < prodI (qv cm) ws) (∀ H2, Same H H2 → E (.ref C_TooMany) none H2))
theorem ok_standings {fd fd_all_left fd_how_many fd_quiet_values : FuncData} (T : Txt K mg ad C_NoHall C_TooMany C_Unsafe C_RoundError C_NoChain C_NoListener C_NoLoss C_NoPart C_NoRow C_NoStand C_NoWheel C_TooMuch) (F : Fun K "standings" "standings" s_standings ad.f_standings fd) (G_all_left : FnOk P w K mg base (CX1 P w) 1 ad.f_all_left fd_all_left ["waits"] (sp_all_left K)) (B_all_left : Binds K fd_all_left ["waits"] []) (G_how_many : FnOk P w K mg base (CX1 P w) 2 ad.f_how_many fd_how_many ["hall"] (sp_how_many K)) (B_how_many : Binds K fd_how_many ["hall"] []) (G_quiet_values : FnOk P w K mg base (CX1 P w) 1 ad.f_quiet_values fd_quiet_values ["hall"] (sp_quiet_values K)) (B_quiet_values : Binds K fd_quiet_values ["hall"] []) : FnOk P w K mg base (CX1 P w) 3 ad.f_standings fd ["hall"] (sp_standings K C_NoHall C_TooMany C_Unsafe) := by
  refine F.okE sc_standings (fun vs H Q E h => ?_) (fun cdv A outer s H vs Q E hr h => ?_)
  · rcases h with ⟨a, ws, cm, rfl, ⟨t, ha1, ha2⟩, hw1, hq1, hb, hqb, hl8, hp, q⟩ | ⟨a, ws, cm, rfl, _, _, _, _, _, _⟩ <;> rfl
  · obtain h := h
    refine ⟨_, (pss_cons (ps_if (pt_cmpR op_gt (pe_call G_how_many (hr.mono (by decide)) rfl T.m_how_many T.k_how_many B_how_many .nil passN (pa_cons (pv 0) pa_nil)) (pe_glob (v := .int 3000) (by rfl) T.g_MOST_STANDINGS.choose_spec ⟨_, rfl⟩) (nomark _)) (pss_one (ps_raise raiseD rfl (by rfl) T.c_TooMany T.e_TooMany (pa_cons pe_str pa_nil))) pss_nil) (pss_cons (ps_set (i := 1) sc_standings.nd rfl (Or.inl rfl) (pe_lst pa_nil)) (pss_cons (ps_for ownD rfl (pi_eq (w' := iSq K _) (pi_sq (pe_call G_all_left (hr.mono (by decide)) rfl T.m_all_left T.k_all_left B_all_left .nil passN (pa_cons (pe_ix (ix_sq K) (pv 0) pe_int (fun _ _ => rfl)) pa_nil)))) (pg_name (i := 2) sc_standings.nd rfl (Or.inr rfl)) (pss_one (ps_expr (pe_eq (u' := tBM K _ _ _ _) (pe_bm PySem.F.plainAttrs_list PySem.F.slot_list_extend PySem.F.type_list_extend mt_extend (pv 1) (pa_cons (pe_comp (pi_range1 (by rfl) T.n_range (pa_cons (pe_call G_quiet_values (hr.mono (by decide)) rfl T.m_quiet_values T.k_quiet_values B_quiet_values .nil passN (pa_cons (pv 0) pa_nil)) pa_nil)) _ rfl cs_standings_0 rfl rfl (fun _ _ _ _ => (pg_name (i := 0) nd_standings_0 rfl (Or.inl rfl))) (fun _ _ _ _ => pts_nil) (fun _ _ _ _ => (pe_tup (pa_cons (pv 1) (pa_cons (pv 0) pa_nil))))) pa_nil)))))) (pss_one (ps_ret (pv 1)))))), ?_⟩
    rcases h with ⟨a, ws, cm, rfl, ⟨t, ha1, ha2⟩, hw1, hq1, hb, hqb, hl8, hp, q⟩ | ⟨a, ws, cm, rfl, ⟨t, ha1, ha2⟩, hb, hqb, hl8, hp, he⟩
    · have hp1 : prodI 1 ws ≤ 3000 := by
        have e := prod_q (qv cm) ws 1
        rw [Int.mul_one] at e
        have h1 : 1 ≤ prodI 1 ws := prod_le ws 1 (by decide) hw1
        have h2 := Int.mul_le_mul_of_nonneg_right hq1 (show 0 ≤ prodI 1 ws by omega)
        rw [Int.one_mul] at h2
        omega
      have hq3 : qv cm ≤ 3000 := Int.le_trans (prod_le ws _ (by omega) hw1) hp
      repeat first | refine hN _ _ ?_ | with_reducible refine cutR fun N hN => ?_
      refine ⟨_, rfl, a, ws, cm, rfl, ⟨t, ha1, ha2⟩, hb, hqb, hl8, _, _, rfl, rfl, _, rfl, ite_f (decide_eq_false (by omega)) ?_⟩
      repeat first | refine hN _ _ ?_ | with_reducible refine cutR fun N hN => ?_
      refine ⟨lenOk, fun D hD => ?_⟩
      have s1 : Same H (upd H D (.lst [])) := Same.upd hD
      have e1 : (upd H D (.lst [])) D = some (.lst []) := upd_same
      generalize upd H D (.lst []) = H1 at s1 e1 ⊢
      repeat first | refine hN _ _ ?_ | with_reducible refine cutR fun N hN => ?_
      refine ⟨_, rfl, a, _, _, _, rfl, rfl, .inr (SqT.of (s1 _ _ ha1)), rfl, t, ws, rfl, s1 _ _ ha2, hw1, hp1, hl8, fun L us H2 hL s2 f1 f2 => ⟨L, rfl, .inl ⟨⟨_, SqL.of f1⟩, ?_⟩⟩⟩
      have s02 := s1.trans s2
      have e2 := s2 _ _ e1
      have nDL : L ≠ D := (ne_of_none e1 hL).symm
      repeat first | refine hN _ _ ?_ | with_reducible refine cutR fun N hN => ?_
      refine for_list (K := K) (a := L) (xs := us) (fun j σ H' => Ex2 fun (zs : List V) (v2 : Option V) => All6 (σ = [some (.ref a), some (.ref D), v2]) (H' D = some (.lst zs)) (H' L = some (.lst us)) (Same H H') (Tups H2 H') (AllAt (StV H') (((rowsOf ws).take j).flatMap fun r => stsOf r (qv cm)) zs))
        ⟨[], none, rfl, e2, f1, s02, Tups.of (Same.refl _), AllAt.nil⟩ (by rintro j σ H' _ ⟨_, _, _, _, e, _⟩; exact SqL.of e) ?_ ?_
      · rintro j y σ H4 hy ⟨zs, v2, rfl, h1, h2, s4, t4, h3⟩
        have g4 := f2.imp fun r v z => RowAt.up t4 z
        obtain ⟨r, hr1, p, rfl, hp4⟩ := g4.get hy
        have hj := (List.getElem?_eq_some_iff.mp hr1).1
        have hzl : zs.length ≤ 3000 := by
          have e := stand_len (ws := ws) (q := qv cm) hw1 (by omega)
          rw [h3.1]
          have e2 : standL ws (qv cm) = (((rowsOf ws).take j).flatMap fun r => stsOf r (qv cm)) ++ (((rowsOf ws).drop j).flatMap fun r => stsOf r (qv cm)) := by
            rw [← List.flatMap_append, List.take_append_drop]
            rfl
          rw [e2, List.length_append] at e
          omega
        repeat first | refine hN _ _ ?_ | with_reducible refine cutR fun N hN => ?_
        refine ⟨_, rfl, .inl ⟨rfl, _, SqL.of h1⟩, _, rfl, a, ws, cm, rfl, ⟨t, s4 _ _ ha1, s4 _ _ ha2⟩, qv cm, rfl, by omega, by omega, fun B hB => ?_⟩
        repeat first | refine hN _ _ ?_ | with_reducible refine cutR fun N hN => ?_
        refine comp_range (fun m ys H' => H' B = some (.lst ys) ∧ Same H4 H' ∧ AllAt (StV H') ((List.range m).map fun k => (r, 0 + ((k : Nat) : Int))) ys) ⟨upd_same, Same.upd hB, AllAt.nil⟩ ?_ ?_
        · rintro m ys H5 hm ⟨k1, s5, k2⟩ Qe hQ
          repeat first | refine hN _ _ ?_ | with_reducible refine cutR fun N hN => ?_
          refine ⟨_, rfl, _, rfl, lenOk, fun P hP => ?_⟩
          have s6 : Same H5 (upd H5 P (.tup [.ref p, .int (0 + (m : Int))])) := Same.upd hP
          have e6 : (upd H5 P (.tup [.ref p, .int (0 + (m : Int))])) P = some (.tup [.ref p, .int (0 + (m : Int))]) := upd_same
          generalize upd H5 P (.tup [.ref p, .int (0 + (m : Int))]) = H6 at s6 e6
          have k1' := s6 _ _ k1
          have kl : ys.length = m := by rw [k2.1]; simp
          refine hQ _ _ k1' (small3000 (by omega)) ⟨upd_same, (s5.trans s6).new hB, ?_⟩
          have tu : Tups H5 (upd H6 B (.lst (ys ++ [.ref P]))) := (Tups.of s6).trans (Tups.lst k1')
          rw [List.range_succ, List.map_append]
          refine (k2.imp fun r v z => StV.up tu z).append (AllAt.one ⟨P, p, rfl, ?_, ?_⟩)
          · exact Tups.lst k1' _ _ e6
          · exact Tups.lst k1' _ _ (s6 _ _ (s5 _ _ hp4))
        · rintro ys H5 ⟨k1, s5, k2⟩
          have h1' := s5 _ _ h1
          have k3 : AllAt (StV H5) (stsOf r (qv cm)) ys := k2
          have kl : ys.length = (qv cm).toNat := by rw [k3.1, stsOf_len]
          repeat first | refine hN _ _ ?_ | with_reducible refine cutR fun N hN => ?_
          refine ⟨D, B, _, _, rfl, rfl, h1', k1, Nat.le_of_lt (small3000 (by omega)), ?_⟩
          have tu : Tups H5 (upd H5 D (.lst (zs ++ ys))) := Tups.lst h1'
          repeat first | refine hN _ _ ?_ | with_reducible refine cutR fun N hN => ?_
          refine ⟨zs ++ ys, _, rfl, upd_same, by rw [upd_ne nDL]; exact s5 _ _ h2, (s4.trans s5).new hD, (t4.trans (Tups.of s5)).trans tu, ?_⟩
          have e : (((rowsOf ws).take (j + 1)).flatMap fun r => stsOf r (qv cm)) = (((rowsOf ws).take j).flatMap fun r => stsOf r (qv cm)) ++ stsOf r (qv cm) := flat_snoc _ _ hr1
          rw [e]
          exact (h3.imp fun r v z => StV.up ((Tups.of s5).trans tu) z).append (k3.imp fun r v z => StV.up tu z)
      · rintro σ H4 ⟨zs, v2, rfl, h1, h2, s4, t4, h3⟩
        rw [f2.1, List.take_length] at h3
        repeat first | refine hN _ _ ?_ | with_reducible refine cutR fun N hN => ?_
        exact ⟨_, rfl, q D zs H4 hD s4 h1 h3⟩
    · repeat first | refine hN _ _ ?_ | with_reducible refine cutR fun N hN => ?_
      refine ⟨_, rfl, a, ws, cm, rfl, ⟨t, ha1, ha2⟩, hb, hqb, hl8, _, _, rfl, rfl, _, rfl, ite_t (decide_eq_true (by omega)) ⟨oneLine, he⟩⟩
/-! ### calls_by_standing -/
noncomputable def sp_calls_by_standing (K : PySem.W.Frag) (C_NoHall C_TooMany C_Unsafe : Addr) : Sp := fun vs H Q E => (Ex3 fun (a : Addr) (ws : List Int) (cm : Option Int) => All9 (vs = [.ref a]) (HallAt H a ws cm) ((∀ w ∈ ws, 1 ≤ w)) (1 ≤ qv cm) ((∀ w ∈ ws, intBits w ≤ 256)) (intBits (qv cm) ≤ 256) (ws.length ≤ 8) (prodI (qv cm) ws ≤ 3000) (∀ (D : Addr) (kvs : List ((List Int × Int) × V)) (H' : Hp), H D = none → Same H H' → H' D = some (.dT kvs) → PendS ws cm H' kvs → kvs.map (·.1) = standL ws (qv cm) → FullC ws cm H' kvs → (∀ kv ∈ kvs, ∀ c, kv.2 = .ref c → H c = none) → kvs.length ≤ 3000 → Q (.ref D) H')) ∨ (Ex3 fun (a : Addr) (ws : List Int) (cm : Option Int) => All7 (vs = [.ref a]) (HallAt H a ws cm) ((∀ w ∈ ws, intBits w ≤ 256)) (intBits (qv cm) ≤ 256) (ws.length ≤ 8) (3000 < prodI (qv cm) ws) (∀ H2, Same H H2 → E (.ref C_TooMany) none H2))
theorem ok_calls_by_standing {fd fd_standings fd_all_behind : FuncData} (T : Txt K mg ad C_NoHall C_TooMany C_Unsafe C_RoundError C_NoChain C_NoListener C_NoLoss C_NoPart C_NoRow C_NoStand C_NoWheel C_TooMuch) (F : Fun K "calls_by_standing" "calls_by_standing" s_calls_by_standing ad.f_calls_by_standing fd) (G_standings : FnOk P w K mg base (CX1 P w) 3 ad.f_standings fd_standings ["hall"] (sp_standings K C_NoHall C_TooMany C_Unsafe)) (B_standings : Binds K fd_standings ["hall"] []) (G_all_behind : FnOk P w K mg base (CX1 P w) 5 ad.f_all_behind fd_all_behind ["hall", "standing", "who"] (sp_all_behind K)) (B_all_behind : Binds K fd_all_behind ["hall", "standing", "who"] []) : FnOk P w K mg base (CX1 P w) 6 ad.f_calls_by_standing fd ["hall"] (sp_calls_by_standing K C_NoHall C_TooMany C_Unsafe) := by
  refine F.okE sc_calls_by_standing (fun vs H Q E h => ?_) (fun cdv A outer s H vs Q E hr h => ?_)
  · rcases h with ⟨a, ws, cm, rfl, ha, hw1, hq1, hb1, hb2, hw8, hp, q⟩ | ⟨a, ws, cm, rfl, _, _, _, _, _, _⟩ <;> rfl
  · obtain h := h
    refine ⟨_, (pss_cons (ps_set (i := 1) sc_calls_by_standing.nd rfl (Or.inl rfl) pe_dnewT) (pss_cons (ps_for ownD rfl (pi_eq (w' := iSq K _) (pi_sq (pe_callE G_standings (hr.mono (by decide)) rfl T.m_standings T.k_standings B_standings .nil passD (pa_cons (pv 0) pa_nil)))) (pg_name (i := 2) sc_calls_by_standing.nd rfl (Or.inl rfl)) (pss_cons (ps_set (i := 3) sc_calls_by_standing.nd rfl (Or.inl rfl) pe_dnewK) (pss_cons (ps_for ownD rfl (pi_range1 (by rfl) T.n_range (pa_cons (pe_callB (call_lenK K) (by rfl) T.n_len PySem.boot_len (pa_cons (pe_ix (ix_sq K) (pv 0) pe_int (fun _ _ => rfl)) pa_nil)) pa_nil)) (pg_name (i := 4) sc_calls_by_standing.nd rfl (Or.inl rfl)) (pss_cons (ps_set (i := 5) sc_calls_by_standing.nd rfl (Or.inl rfl) (pe_call G_all_behind (hr.mono (by decide)) rfl T.m_all_behind T.k_all_behind B_all_behind .nil passN (pa_cons (pv 0) (pa_cons (pv 2) (pa_cons (pv 4) pa_nil))))) (pss_one (ps_ifJ (pt_cmpR (op_notInD K hr) pe_non (pv 5) rfl) (pss_one (ps_dput (hu20 hr) (pv 3) (pv 4) (pv 5) rfl)) pss_nil)))) (pss_one (ps_dput (hu20 hr) (pv 1) (pv 2) (pv 3) rfl))))) (pss_one (ps_ret (pv 1))))), ?_⟩
    rcases h with ⟨a, ws, cm, rfl, ha, hw1, hq1, hb1, hb2, hw8, hp, q⟩ | ⟨a, ws, cm, rfl, ha, hb, hqb, hl8, hp, he⟩
    · repeat first | refine hN _ _ ?_ | with_reducible refine cutR fun N hN => ?_
      refine fun D hD => ?_
      have s1 : Same H (upd H D (.dT [])) := Same.upd hD
      have e1 : (upd H D (.dT [])) D = some (.dT []) := upd_same
      generalize upd H D (.dT []) = H1 at s1 e1 ⊢

      repeat first | refine hN _ _ ?_ | with_reducible refine cutR fun N hN => ?_
      refine ⟨_, rfl, E, fun _ _ _ z => z, .inl ⟨a, ws, cm, rfl, ha.same s1, hw1, hq1, hb1, hb2, hw8, hp, fun l us H2 hl s2 el hus => ⟨l, rfl, .inl ⟨⟨_, SqL.of el⟩, ?_⟩⟩⟩⟩
      have hlen : us.length ≤ 3000 := by
        have h1 := hus.1
        have h2 := stand_len hw1 (show 0 ≤ qv cm by omega)
        omega
      have s12 := s1.trans s2
      have eD2 := s2 _ _ e1
      repeat first | refine hN _ _ ?_ | with_reducible refine cutR fun N hN => ?_
      refine for_list (K := K) (a := l) (xs := us) (fun i σ H' => Ex5 fun (kvs : List ((List Int × Int) × V)) (v2 v3 v4 v5 : Option V) => All9 (σ = [some (.ref a), some (.ref D), v2, v3, v4, v5]) (Same H H') (LT H2 H') (H' D = some (.dT kvs)) (PendS ws cm H' kvs) ((∀ kv ∈ kvs, ∀ c, kv.2 = .ref c → H c = none)) (kvs.length ≤ i) (kvs.map (·.1) = (standL ws (qv cm)).take i) (FullC ws cm H' kvs))
        ⟨[], _, _, _, _, rfl, s12, ⟨fun _ _ z => z, fun _ _ z => z⟩, eD2, ⟨(fun kv z => by cases z), List.Pairwise.nil, List.Pairwise.nil⟩, (fun kv z => by cases z), Nat.le_refl _, rfl, (fun kv z => by cases z)⟩ (by rintro i σ H' _ ⟨_, _, _, _, _, _, _, t, _⟩; exact SqL.of (t.1 _ _ el)) ?_ ?_
      · rintro i u σ H' hu ⟨kvs, v2, v3, v4, v5, rfl, s', t', hD', hpo, hfr, hkl, hkeys, hful⟩
        have hi := (List.getElem?_eq_some_iff.mp hu).1
        obtain ⟨z, hz, p, w, rfl, hz1, hz2⟩ := hus.get hu
        obtain ⟨m1, m2, m3, m4⟩ := stand_mem (List.mem_of_getElem? hz)
        have hst' : StAt H' p z.1 z.2 := ⟨w, t'.2 _ _ hz1, t'.2 _ _ hz2⟩
        repeat first | refine hN _ _ ?_ | with_reducible refine cutR fun N hN => ?_
        refine fun c hc => ?_
        have s3 : Same H' (upd H' c (.dK [])) := Same.upd hc
        have e3 : (upd H' c (.dK [])) c = some (.dK []) := upd_same
        generalize upd H' c (.dK []) = H3 at s3 e3 ⊢

        have s03 := s'.trans s3
        obtain ⟨wt, ha1, ha2⟩ := id (ha.same s03)
        repeat first | refine hN _ _ ?_ | with_reducible refine cutR fun N hN => ?_
        refine ⟨_, rfl, a, _, _, _, rfl, rfl, .inr (SqT.of ha1), rfl, wt, _, rfl, .inr (SqT.of ha2), _, rfl, by omega, by rw [List.length_map]; omega, ?_⟩
        repeat first | refine hN _ _ ?_ | with_reducible refine cutR fun N hN => ?_
        refine for_range (n := (ws.map V.int).length) (fun j σ H4 => Ex3 fun (cs : List (Key × V)) (v4 v5 : Option V) => All6 (σ = [some (.ref a), some (.ref D), some (.ref p), some (.ref c), v4, v5]) (Same H' H4) (H4 c = some (.dK cs)) (CallsE ws cm z H4 cs) (cs.length ≤ j) (∀ who : Nat, who < j → none ∉ behL ws z.1 cm z.2 who → (valV cs (.inl (who : Int))).isSome = true))
          ⟨[], _, _, rfl, s3, e3, (fun e z => by cases z), Nat.le_refl _, (fun who z => absurd z (Nat.not_lt_zero _))⟩ ?_ ?_
        · rintro j σ H4 hj ⟨cs, v4, v5, rfl, s4, hc4, hco, hcl, hcf⟩
          rw [List.length_map] at hj
          have s04 := s'.trans s4
          repeat first | refine hN _ _ ?_ | with_reducible refine cutR fun N hN => ?_
          refine ⟨_, rfl, _, rfl, _, rfl, a, p, ws, z.1, cm, z.2, _, j, rfl, by omega, ha.same s04, hst'.same s4, hj, m1, hw8, fun L us2 H5 hL s5 eL hbe => ?_⟩
          repeat first | refine hN _ _ ?_ | with_reducible refine cutR fun N hN => ?_
          refine ⟨_, rfl, L, us2, .none, (behL ws z.1 cm z.2 j).map dSt, rfl, SqL.of eL, rp_non, rpAll_beh hbe, by decide, _, rfl, _, fun hb => ?_, fun hb => ?_, fun _ _ z => z⟩
          · rw [if_pos rfl, any_non] at hb
            have hno : none ∉ behL ws z.1 cm z.2 j := by simpa using hb
            have hc5 := s5 _ _ hc4
            repeat first | refine hN _ _ ?_ | with_reducible refine cutR fun N hN => ?_
            refine ⟨_, rfl, _, rfl, _, rfl, c, _, rfl, .inl ⟨cs, .inl (j : Int), hc5, congrArg V.int (Int.zero_add _), small1000 (by omega), rfl⟩, ?_⟩
            have t6 : LT H5 (upd H5 c (.dK (putK cs (.inl (j : Int)) (.ref L)))) := LT.dK hc5
            repeat first | refine hN _ _ ?_ | with_reducible refine cutR fun N hN => ?_
            refine ⟨putK cs (.inl (j : Int)) (.ref L), _, _, rfl, (s4.trans s5).new hc, upd_same, ?_, Nat.le_trans (length_putK _ _ _) (by omega), fun who hwho hn => isSome_put ?_⟩
            · have hold : CallsE ws cm z (upd H5 c (.dK (putK cs (.inl (j : Int)) (.ref L)))) cs := hco.up ((LT.of s5).trans t6)
              intro e he
              rcases put_or he with y | y
              · exact hold e y
              · subst y
                repeat first | refine hN _ _ ?_ | with_reducible refine cutR fun N hN => ?_
                exact ⟨j, L, us2, rfl, hj, hno, rfl, t6.1 _ _ eL, hbe.imp fun _ _ y => BehV.up t6.2 y⟩
            · rcases Nat.lt_or_ge who j with y | y
              · exact .inl (hcf who y hn)
              · have e : who = j := by omega
                rw [e]
                exact .inr rfl
          · rw [if_pos rfl, any_non] at hb
            have hyes : none ∈ behL ws z.1 cm z.2 j := by simpa using hb
            repeat first | refine hN _ _ ?_ | with_reducible refine cutR fun N hN => ?_
            refine ⟨cs, _, _, rfl, s4.trans s5, s5 _ _ hc4, hco.up (LT.of s5), by omega, fun who hwho hn => ?_⟩
            rcases Nat.lt_or_ge who j with y | y
            · exact hcf who y hn
            · have e : who = j := by omega
              rw [e] at hn
              exact absurd hyes hn
        rintro σ H4 ⟨cs, v4, v5, rfl, s4, hc4, hco, hcl, hcf⟩
        rw [List.length_map] at hcl
        have hD4 := s4 _ _ hD'
        repeat first | refine hN _ _ ?_ | with_reducible refine cutR fun N hN => ?_
        refine ⟨_, rfl, _, rfl, _, rfl, D, _, rfl, DPut.t hD4 (show StH H4 p z from hst'.same s4) (small20000 (by omega)), ?_⟩
        have t5 : LT H4 (upd H4 D (.dT (putK kvs z (.ref c)))) := LT.dT hD4
        have k5 : ∀ c' cs', H4 c' = some (.dK cs') → (upd H4 D (.dT (putK kvs z (.ref c)))) c' = some (.dK cs') := fun c' cs' e => by
          rw [upd_ne (ne_of e hD4 (by intro z; cases z))]
          exact e
        have s05 := s'.trans s4
        have hnz : valV kvs z = none := by
          cases hv : valV kvs z with
          | none => rfl
          | some v =>
            have := List.mem_map_of_mem (f := (·.1)) (valV_mem hv)
            rw [hkeys] at this
            exact absurd this (nodup_new (stand_nodup _ _) hz)
        have ep : putK kvs z (.ref c) = kvs ++ [(z, .ref c)] := putK_new _ hnz
        have hpo5 : PendS ws cm (upd H4 D (.dT (putK kvs z (.ref c)))) kvs := (hpo.keep (LT.of s4) (fun c cs e => s4 _ _ e)).keep t5 k5
        have hfu5 : FullC ws cm (upd H4 D (.dT (putK kvs z (.ref c)))) kvs := (hful.keep hpo (fun c cs e => s4 _ _ e)).keep (hpo.keep (LT.of s4) (fun c cs e => s4 _ _ e)) k5
        have hc5 := k5 _ _ hc4
        have hco5 := hco.up t5
        have sN : Same H (upd H4 D (.dT (putK kvs z (.ref c)))) := s05.new hD
        have tN : LT H2 (upd H4 D (.dT (putK kvs z (.ref c)))) := (t'.trans (LT.of s4)).trans t5
        have eN : (upd H4 D (.dT (putK kvs z (.ref c)))) D = some (.dT (putK kvs z (.ref c))) := upd_same
        rw [ep] at hpo5 hfu5 hc5 hco5 sN tN eN ⊢
        generalize upd H4 D (.dT (kvs ++ [(z, .ref c)])) = H6 at hpo5 hfu5 hc5 hco5 sN tN eN ⊢
        have hnew : ∀ kv ∈ kvs, kv.2 ≠ .ref c := fun kv hkv e => by
          obtain ⟨d, ds, e1, e2, _⟩ := hpo.1 kv hkv
          rw [e] at e1
          cases e1
          rw [hc] at e2
          cases e2
        repeat first | refine hN _ _ ?_ | with_reducible refine cutR fun N hN => ?_
        refine ⟨kvs ++ [(z, .ref c)], _, _, _, _, rfl, sN, tN, eN, ⟨mem_snoc hpo5.1 ⟨c, cs, rfl, hc5, by omega, hco5⟩, ?_, ?_⟩, mem_snoc hfr (fun c' e => by cases e; exact s'.free hc), by rw [List.length_append, List.length_singleton]; omega, ?_, ?_⟩
        · rw [List.map_append]
          refine nodup_snoc2 hpo5.2.1 (fun y => ?_)
          rw [hkeys] at y
          exact nodup_new (stand_nodup _ _) hz y
        · rw [List.map_append]
          refine nodup_snoc2 hpo5.2.2 (fun y => ?_)
          obtain ⟨kv, hkv, e⟩ := List.mem_map.mp y
          exact hnew kv hkv e
        · rw [List.map_append, hkeys, List.take_add_one, hz]
          rfl
        · intro kv hkv c' cs' e1 e2
          rcases List.mem_append.mp hkv with y | y
          · exact hfu5 kv y c' cs' e1 e2
          · cases List.mem_singleton.mp y
            cases e1
            rw [hc5] at e2
            cases e2
            repeat first | refine hN _ _ ?_ | with_reducible refine cutR fun N hN => ?_
            exact fun who hw hn => hcf who (by rw [List.length_map]; exact hw) hn
      rintro σ H' ⟨kvs, v2, v3, v4, v5, rfl, s', t', hD', hpo, hfr, hkl, hkeys, hful⟩
      rw [hus.1, List.take_length] at hkeys
      repeat first | refine hN _ _ ?_ | with_reducible refine cutR fun N hN => ?_
      exact ⟨_, rfl, q D kvs H' hD s' hD' hpo hkeys hful hfr (by omega)⟩
    · repeat first | refine hN _ _ ?_ | with_reducible refine cutR fun N hN => ?_
      refine fun D hD => ?_
      have s1 : Same H (upd H D (.dT [])) := Same.upd hD
      generalize upd H D (.dT []) = H1 at s1 ⊢
      repeat first | refine hN _ _ ?_ | with_reducible refine cutR fun N hN => ?_
      exact ⟨_, rfl, E, fun _ _ _ z => z, .inr ⟨a, ws, cm, rfl, ha.same s1, hb, hqb, hl8, hp, fun H2 s2 => he H2 (s1.trans s2)⟩⟩
/-! ### ways_to -/
noncomputable def sp_ways_to (K : PySem.W.Frag) : Sp := fun vs H Q _ => Ex4 fun (D : Addr) (kvs : List ((List Int × Int) × V)) (ws : List Int) (cm : Option Int) => All5 (vs = [.ref D]) (H D = some (.dT kvs)) (PendS ws cm H kvs) (kvs.length ≤ 3000) (∀ (W : Addr) (wv : List ((List Int × Int) × V)) (H' : Hp), H W = none → Same H H' → H' W = some (.dT wv) → WaysE ws cm H kvs 48000 H' wv → (∀ k who later, LeftP H kvs k who → some later ∈ behL ws k.1 cm k.2 who → HasWay H' wv later k who) → wv.length ≤ 48000 → Q (.ref W) H')
theorem ok_ways_to {fd  : FuncData} (T : Txt K mg ad C_NoHall C_TooMany C_Unsafe C_RoundError C_NoChain C_NoListener C_NoLoss C_NoPart C_NoRow C_NoStand C_NoWheel C_TooMuch) (F : Fun K "ways_to" "ways_to" s_ways_to ad.f_ways_to fd) : FnOk P w K mg base (CX1 P w) 1 ad.f_ways_to fd ["pending"] (sp_ways_to K) := by
  refine F.okN sc_ways_to (fun vs H Q E h => ?_) (fun cdv A outer s H vs Q E hr h => ?_)
  · rcases h with ⟨D, kvs, ws, cm, rfl, hD, hps, hkl, q⟩ <;> rfl
  · obtain ⟨D, kvs, ws, cm, rfl, hD, hps, hkl, q⟩ := h
    refine ⟨_, (pss_cons (ps_set (i := 1) sc_ways_to.nd rfl (Or.inl rfl) pe_dnewT) (pss_cons (ps_thaw (ps_for PassesOwn.never rfl (pi_items (pv 0)) (pg_tupK K (n := 2) rfl (pgs_cons (pg_name (i := 2) sc_ways_to.nd rfl (Or.inl rfl)) (pgs_cons (pg_name (i := 3) sc_ways_to.nd rfl (Or.inl rfl)) pgs_nil))) (pss_one (ps_thaw (ps_for PassesOwn.never rfl (pi_items (pv 3)) (pg_tupK K (n := 2) rfl (pgs_cons (pg_name (i := 4) sc_ways_to.nd rfl (Or.inl rfl)) (pgs_cons (pg_name (i := 5) sc_ways_to.nd rfl (Or.inl rfl)) pgs_nil))) (pss_one (ps_for PassesOwn.never rfl (pi_eq (w' := iSq K _) (pi_sq (pv 5))) (pg_name (i := 6) sc_ways_to.nd rfl (Or.inl rfl)) (pss_one (ps_expr (pe_eq (u' := tBM K _ _ _ _) (pe_bm PySem.F.plainAttrs_list PySem.F.slot_list_append PySem.F.type_list_append mt_append (pe_N (pe_dsdf (hu20 hr) (pv 1) (pv 6) (pe_lst pa_nil) ⟨rfl, rfl, rfl, rfl⟩)) (pa_cons (pe_tup (pa_cons (pv 2) (pa_cons (pv 4) pa_nil))) pa_nil)))))))))))) (pss_one (ps_ret (pv 1))))), ?_⟩
    have hpo := hps.ok
    refine fun W hW => ?_
    have s1 : Same H (upd H W (.dT [])) := Same.upd hW
    have e1 : (upd H W (.dT [])) W = some (.dT []) := upd_same
    generalize upd H W (.dT []) = H1 at s1 e1 ⊢

    have hD1 := s1 _ _ hD
    have hWD : W ≠ D := (ne_of_none hD hW).symm
    refine ⟨D, .dT kvs, trivial, hD1, _, rfl, D, .dT kvs, rfl, trivial, hD1, fun o => ?_⟩
    refine for_items (d := D) (o := o) (u := .dT kvs) (fun i σ H' => Ex6 fun (wv : List ((List Int × Int) × V)) (v2 v3 v4 v5 v6 : Option V) => All7 (σ = [some (.ref D), some (.ref W), v2, v3, v4, v5, v6]) (H' D = some (.frz o (.dT kvs))) ((KpD D H H')) (H' W = some (.dT wv)) (WaysE ws cm H kvs (16 * i) H' wv) (wv.length ≤ 16 * i) (WayP ws cm H kvs i H' wv))
      ⟨[], _, _, _, _, _, rfl, upd_same, (fun b ob n e => (upd_ne n).trans (s1 _ _ e)), (upd_ne hWD).trans e1, ⟨(fun kv z => by cases z), List.Pairwise.nil⟩, Nat.zero_le _, (fun k who later z => by obtain ⟨v, z⟩ := z; rw [List.take_zero] at z; cases z)⟩ (by rintro i σ H' _ ⟨_, _, _, _, _, _, _, e, _⟩; exact e) ?_ ?_
    · rintro i x y T σ H' hi hit ⟨wv, v2, v3, v4, v5, v6, rfl, hD', k', hW', hwo, hwl, hs1⟩ hT
      have hi3 : i < 3000 := Nat.lt_of_lt_of_le hi hkl
      obtain ⟨kk, bb, hkv, rfl, hkk⟩ := hit
      have hmem : (kk, y) ∈ kvs := List.mem_of_getElem? hkv
      obtain ⟨kw, hkw⟩ := valV_of_mem hmem
      obtain ⟨c, cs, ey, hc, hcl, hco⟩ := hps.1 _ hmem
      have ey' : y = .ref c := ey
      subst ey'
      have s2 : Same H' (upd H' T (.tup [.ref bb, .ref c])) := Same.upd hT
      have e2 : (upd H' T (.tup [.ref bb, .ref c])) T = some (.tup [.ref bb, .ref c]) := upd_same
      generalize upd H' T (.tup [.ref bb, .ref c]) = H2 at s2 e2 ⊢

      refine ⟨T, _, rfl, SqT.of e2, rfl, _, _, rfl, _, _, rfl, rfl, ?_⟩
      have hcD : c ≠ D := ne_of hc hD (by intro z; cases z)
      have hcW : c ≠ W := ne_of_none hc hW
      have hc2 := s2 _ _ (k' c _ hcD hc)
      refine ⟨c, .dK cs, trivial, hc2, _, rfl, c, .dK cs, rfl, trivial, hc2, fun o2 => ?_⟩
      have t2c : LT H2 (upd H2 c (.frz o2 (.dK cs))) := LT.dK hc2
      refine for_items (d := c) (o := o2) (u := .dK cs) (fun j σ H3 => Ex4 fun (wv : List ((List Int × Int) × V)) (v4 v5 v6 : Option V) => All10 (σ = [some (.ref D), some (.ref W), some (.ref bb), some (.ref c), v4, v5, v6]) (H3 c = some (.frz o2 (.dK cs))) (H3 D = some (.frz o (.dT kvs))) ((KpDc D c H H3)) (Tups H2 H3) (H3 W = some (.dT wv)) (WaysE ws cm H kvs (16 * i + 2 * j) H3 wv) (wv.length ≤ 16 * i + 2 * j) ((WayP ws cm H kvs i H3 wv)) (WayQ ws cm cs j kk H3 wv))
        ⟨wv, _, _, _, rfl, upd_same, (upd_ne hcD.symm).trans (s2 _ _ hD'), (fun b ob n1 n2 e => (upd_ne n2).trans (s2 _ _ (k' b ob n1 e))), t2c.2, (upd_ne hcW.symm).trans (s2 _ _ hW'), hwo.up ((LT.of s2).trans t2c) (by omega), by omega, (fun k who later z1 z2 z3 => (hs1 k who later z1 z2 z3).up ((LT.of s2).trans t2c)), (fun who later z => by obtain ⟨e, z, _⟩ := z; rw [List.take_zero] at z; cases z)⟩ (by rintro j σ H3 _ ⟨_, _, _, _, _, e, _⟩; exact e) ?_ ?_
      · rintro j x2 y2 T2 σ H3 hj hit2 ⟨wv3, v4, v5, v6, rfl, hc3, hD3, k3, t3, hW3, hwo3, hwl3, hs3, hs32⟩ hT2
        have hj8 : j < 8 := Nat.lt_of_lt_of_le hj hcl
        obtain ⟨kk2, hkv2, rfl⟩ := hit2
        obtain ⟨w2, l, us2, ei, hw2, hno2, el, hl, hbe2⟩ := hco _ (List.mem_of_getElem? hkv2)
        have hl2 : us2.length ≤ 2 := by
          rw [hbe2.1]
          unfold behL
          split <;> simp
        have ei' : kk2 = .inl (w2 : Int) := ei
        subst ei'
        have el' : y2 = .ref l := el
        subst el'
        have s4 : Same H3 (upd H3 T2 (.tup [kV (.inl (w2 : Int)), .ref l])) := Same.upd hT2
        have e4 : (upd H3 T2 (.tup [kV (.inl (w2 : Int)), .ref l])) T2 = some (.tup [kV (.inl (w2 : Int)), .ref l]) := upd_same
        generalize upd H3 T2 (.tup [kV (.inl (w2 : Int)), .ref l]) = H4 at s4 e4 ⊢

        refine ⟨T2, _, rfl, SqT.of e4, rfl, _, _, rfl, _, _, rfl, rfl, ?_⟩
        have hlD : l ≠ D := ne_of hl hD (by intro z; cases z)
        have hlc : l ≠ c := ne_of hl hc (by intro z; cases z)
        refine ⟨_, rfl, l, rfl, .inl ⟨⟨_, SqL.of (s4 _ _ (k3 l _ hlD hlc hl))⟩, ?_⟩⟩
        refine for_list (K := K) (a := l) (xs := us2) (fun m σ H5 => Ex2 fun (wv : List ((List Int × Int) × V)) (v6 : Option V) => All11 (σ = [some (.ref D), some (.ref W), some (.ref bb), some (.ref c), some (kV (.inl (w2 : Int))), some (.ref l), v6]) (H5 c = some (.frz o2 (.dK cs))) (H5 D = some (.frz o (.dT kvs))) ((KpDc D c H H5)) (Tups H2 H5) (H5 W = some (.dT wv)) (WaysE ws cm H kvs (16 * i + 2 * j + m) H5 wv) (wv.length ≤ 16 * i + 2 * j + m) ((WayP ws cm H kvs i H5 wv)) ((WayQ ws cm cs j kk H5 wv)) (∀ later, some later ∈ (behL ws kk.1 cm kk.2 w2).take m → HasWay H5 wv later kk w2))
          ⟨wv3, _, rfl, s4 _ _ hc3, s4 _ _ hD3, (fun b ob n1 n2 e => s4 _ _ (k3 b ob n1 n2 e)), t3.trans (Tups.of s4), s4 _ _ hW3, hwo3.up (LT.of s4) (Nat.le_refl _), hwl3, (fun k who later z1 z2 z3 => (hs3 k who later z1 z2 z3).up (LT.of s4)), (fun who later z1 z2 => (hs32 who later z1 z2).up (LT.of s4)), (fun later z => by rw [List.take_zero] at z; cases z)⟩ (by rintro m σ H5 _ ⟨_, _, _, _, _, k5, _⟩; exact SqL.of (k5 l _ hlD hlc hl)) ?_ ?_
        · rintro m u σ H5 hu ⟨wv5, v6, rfl, hc5, hD5, k5, t5, hW5, hwo5, hwl5, hs5, hs52, hs53⟩
          have hm2 : m < 2 := Nat.lt_of_lt_of_le (List.getElem?_eq_some_iff.mp hu).1 hl2
          obtain ⟨r0, hr0, hr1⟩ := hbe2.get hu
          obtain ⟨lk, er⟩ : ∃ lk, r0 = some lk := by
            cases r0 with
            | none => exact absurd (List.mem_of_getElem? hr0) hno2
            | some r => exact ⟨r, rfl⟩
          subst er
          obtain ⟨lb, rfl, hlk0⟩ := hr1
          have hlk : StH H lb lk := hlk0
          have tH5 : Tups H H5 := fun b xs e => k5 b _ (ne_of e hD (by intro z; cases z)) (ne_of e hc (by intro z; cases z)) e
          have hlk5 := hlk.up tH5
          have free5 : ∀ E, H5 E = none → H E = none := fun E hE => by
            cases hHE : H E with
            | none => rfl
            | some ob =>
              by_cases z1 : E = D
              · rw [z1, hD5] at hE
                cases hE
              by_cases z2 : E = c
              · rw [z2, hc5] at hE
                cases hE
              rw [k5 E ob z1 z2 hHE] at hE
              cases hE
          refine ⟨(fun v H7 => Ex3 fun (wv7 : List ((List Int × Int) × V)) (l7 : Addr) (us7 : List V) => All16 (v = .ref l7) (valV wv7 lk = some (.ref l7)) (H l7 = none) (H7 l7 = some (.lst us7)) (us7.length ≤ 16 * i + 2 * j + m) ((∀ u ∈ us7, WayE ws cm kvs H7 lk u)) (H7 c = some (.frz o2 (.dK cs))) (H7 D = some (.frz o (.dT kvs))) ((∀ b ob, b ≠ D → b ≠ c → H b = some ob → H7 b = some ob)) (Tups H5 H7) (H7 W = some (.dT wv7)) (WaysE ws cm H kvs (16 * i + 2 * j + m) H7 wv7) (wv7.length ≤ 16 * i + 2 * j + m + 1) ((∀ k who later, (∃ v, (k, v) ∈ kvs.take i) → LeftP H kvs k who → some later ∈ behL ws k.1 cm k.2 who → HasWay H7 wv7 later k who)) ((∀ who later, (∃ e ∈ cs.take j, e.1 = .inl ((who : Nat) : Int)) → some later ∈ behL ws kk.1 cm kk.2 who → HasWay H7 wv7 later kk who)) ((∀ later, some later ∈ (behL ws kk.1 cm kk.2 w2).take m → HasWay H7 wv7 later kk w2))), ⟨_, rfl, W, rfl, .inr ⟨wv5, .inl hW5⟩, _, rfl, lenOk, fun E hE => ?_⟩, ?_⟩
          · have s6 : Same H5 (upd H5 E (.lst [])) := Same.upd hE
            have e6 : (upd H5 E (.lst [])) E = some (.lst []) := upd_same
            generalize upd H5 E (.lst []) = H6 at s6 e6 ⊢
            have hW6 := s6 _ _ hW5
            refine ⟨wv5, lk, lb, rfl, hlk5.up (Tups.of s6), hW6, small20000 (by omega), fun v hv => ?_, fun hv => ?_⟩
            · obtain ⟨l7, us7, e7, h0, h1, h2, h3⟩ := hwo5.1 _ (valV_mem hv)
              have e7' : v = .ref l7 := e7
              exact ⟨wv5, l7, us7, e7, by rw [hv, e7'], h0, s6 _ _ h1, h2, (fun u hu => (h3 u hu).up (Tups.of s6)), s6 _ _ hc5, s6 _ _ hD5, (fun b ob n1 n2 e => s6 _ _ (k5 b ob n1 n2 e)), Tups.of s6, hW6, hwo5.up (LT.of s6) (Nat.le_refl _), by omega, (fun k who later z1 z2 z3 => (hs5 k who later z1 z2 z3).up (LT.of s6)), (fun who later z1 z2 => (hs52 who later z1 z2).up (LT.of s6)), (fun later z => (hs53 later z).up (LT.of s6))⟩
            · have t7 : LT H6 (upd H6 W (.dT (putK wv5 lk (.ref E)))) := LT.dT hW6
              have nE := free5 E hE
              have t57 := (LT.of s6).trans t7
              refine ⟨putK wv5 lk (.ref E), E, [], rfl, by rw [valV_put, if_pos rfl], nE, t7.1 _ _ e6, Nat.zero_le _, (fun u hu => by cases hu), (upd_ne hcW).trans (s6 _ _ hc5), (upd_ne hWD.symm).trans (s6 _ _ hD5), (fun b ob n1 n2 e => (upd_ne (ne_of_none e hW)).trans (s6 _ _ (k5 b ob n1 n2 e))), (Tups.of s6).trans t7.2, upd_same, ?_, Nat.le_trans (length_putK _ _ _) (by omega), (fun k who later z1 z2 z3 => ((hs5 k who later z1 z2 z3).up t57).put hv), (fun who later z1 z2 => ((hs52 who later z1 z2).up t57).put hv), (fun later z => ((hs53 later z).up t57).put hv)⟩
              refine ⟨fun kv hkv => ?_, ?_⟩
              · rcases put_or hkv with y | y
                · exact (hwo5.up t57 (Nat.le_refl _)).1 kv y
                · subst y
                  exact ⟨E, [], rfl, nE, t7.1 _ _ e6, Nat.zero_le _, fun u hu => by cases hu⟩
              · rw [putK_new _ hv, List.map_append]
                refine nodup_snoc2 hwo5.2 (fun y => ?_)
                obtain ⟨kv, hkv, e⟩ := List.mem_map.mp y
                obtain ⟨l9, us9, e9, _, h9, _⟩ := hwo5.1 kv hkv
                have e' : kv.2 = .ref E := e
                rw [e'] at e9
                cases e9
                rw [hE] at h9
                cases h9
          rintro v H7 ⟨wv7, l7, us7, rfl, hv7, n7, hl7, hul7, hall7, hc7, hD7, k7, t7, hW7, hwo7, hwl7, hs7, hs72, hs73⟩
          refine ⟨.inl ⟨rfl, _, SqL.of hl7⟩, _, rfl, _, rfl, lenOk, fun T3 hT3 => ?_⟩
          have s8 : Same H7 (upd H7 T3 (.tup [.ref bb, kV (.inl (w2 : Int))])) := Same.upd hT3
          have e8 : (upd H7 T3 (.tup [.ref bb, kV (.inl (w2 : Int))])) T3 = some (.tup [.ref bb, kV (.inl (w2 : Int))]) := upd_same
          generalize upd H7 T3 (.tup [.ref bb, kV (.inl (w2 : Int))]) = H8 at s8 e8 ⊢
          have hl8 := s8 _ _ hl7
          refine ⟨l7, _, _, rfl, rfl, hl8, small20000 (by omega), ?_⟩
          have hl7D : l7 ≠ D := (ne_of_none hD n7).symm
          have hl7c : l7 ≠ c := (ne_of_none hc n7).symm
          have hl7W : l7 ≠ W := ne_of hl7 hW7 (by intro z; cases z)
          have hkk8 : StH H8 bb kk := (((hkk.up (Tups.of s2)).up t5).up t7).up (Tups.of s8)
          have hway : WayE ws cm kvs H8 lk (.ref T3) := ⟨T3, bb, w2, kk, rfl, e8, hkk8, ⟨kw, hkw⟩, List.mem_of_getElem? hr0⟩
          refine ⟨wv7, _, rfl, (upd_ne hl7c.symm).trans (s8 _ _ hc7), (upd_ne hl7D.symm).trans (s8 _ _ hD7), (fun b ob n1 n2 e => (upd_ne (ne_of_none e n7)).trans (s8 _ _ (k7 b ob n1 n2 e))), ((t5.trans t7).trans (Tups.of s8)).trans (Tups.lst hl8), (upd_ne hl7W.symm).trans (s8 _ _ hW7), ?_, by omega, (fun k who later z1 z2 z3 => ((hs7 k who later z1 z2 z3).up (LT.of s8)).app hl8), (fun who later z1 z2 => ((hs72 who later z1 z2).up (LT.of s8)).app hl8), (fun later z => ?_)⟩
          · exact WaysE.app (hwo7.up (LT.of s8) (Nat.le_refl _)) (valV_mem hv7) hl8 hul7 (fun u hu => (hall7 u hu).up (Tups.of s8)) hway
          · rw [List.take_add_one, hr0] at z
            rcases List.mem_append.mp z with y | y
            · exact ((hs73 later y).up (LT.of s8)).app hl8
            · have ey : later = lk := by simpa using y
              subst ey
              have tt : Tups H8 (upd H8 l7 (.lst (us7 ++ [.ref T3]))) := Tups.lst hl8
              exact ⟨l7, _, T3, bb, hv7, upd_same, by simp, tt _ _ e8, hkk8.up tt⟩

        rintro σ H5 ⟨wv5, v6, rfl, hc5, hD5, k5, t5, hW5, hwo5, hwl5, hs5, hs52, hs53⟩
        refine ⟨wv5, _, _, _, rfl, hc5, hD5, k5, t5, hW5, hwo5.up ⟨fun _ _ z => z, fun _ _ z => z⟩ (by omega), by omega, hs5, fun who later z1 z2 => ?_⟩
        obtain ⟨e, he, ew⟩ := z1
        rw [List.take_add_one, hkv2] at he
        rcases List.mem_append.mp he with y | y
        · exact hs52 who later ⟨e, y, ew⟩ z2
        · have ey : e = (.inl (w2 : Int), .ref l) := by simpa using y
          subst ey
          have ew2 : (w2 : Int) = (who : Int) := Sum.inl.inj ew
          have ew3 : w2 = who := by omega
          subst ew3
          refine hs53 later ?_
          rw [hbe2.1, List.take_length]
          exact z2
      rintro σ H3 ⟨wv3, v4, v5, v6, rfl, hc3, hD3, k3, t3, hW3, hwo3, hwl3, hs3, hs32⟩
      have hll : lenD (.dK cs) ≤ 8 := hcl
      have tz : LT H3 (upd H3 c (.dK cs)) := ⟨fun b xs e => by rw [upd_ne (ne_of e hc3 (by intro z; cases z))]; exact e, fun b xs e => by rw [upd_ne (ne_of e hc3 (by intro z; cases z))]; exact e⟩
      refine ⟨o2, hc3, wv3, _, _, _, _, _, rfl, (upd_ne hcD.symm).trans hD3, (fun b ob n1 e => ?_), (upd_ne hcW.symm).trans hW3, hwo3.up tz (show 16 * i + 2 * lenD (.dK cs) ≤ 16 * (i + 1) by omega), by omega, fun k who later z1 z2 z3 => ?_⟩
      · by_cases z : b = c
        · subst z
          rw [hc] at e
          cases e
          exact upd_same
        · exact (upd_ne z).trans (k3 b ob n1 z e)
      · obtain ⟨v, hv⟩ := z1
        rw [List.take_add_one, hkv] at hv
        rcases List.mem_append.mp hv with y | y
        · exact (hs3 k who later ⟨v, y⟩ z2 z3).up tz
        · have ey : (k, v) = (kk, .ref c) := by simpa using y
          cases ey
          obtain ⟨c', cs', g1, g2, g3⟩ := z2
          rw [valV_nodup hps.2.1 hmem] at g1
          cases g1
          rw [hc] at g2
          cases g2
          obtain ⟨w', hw'⟩ := Option.isSome_iff_exists.mp g3
          refine (hs32 who later ⟨(.inl (who : Int), w'), ?_, rfl⟩ z3).up tz
          show _ ∈ cs.take cs.length
          rw [List.take_length]
          exact valV_mem hw'
    rintro σ H' ⟨wv, v2, v3, v4, v5, v6, rfl, hD', k', hW', hwo, hwl, hs1⟩
    have hkl' : lenD (.dT kvs) ≤ 3000 := hkl
    have tD : LT H' (upd H' D (.dT kvs)) := ⟨fun b xs e => by rw [upd_ne (ne_of e hD' (by intro z; cases z))]; exact e, fun b xs e => by rw [upd_ne (ne_of e hD' (by intro z; cases z))]; exact e⟩
    refine ⟨o, hD', _, rfl, q W wv _ hW (fun b ob e => ?_) ((upd_ne hWD).trans hW') (hwo.up tD (show 16 * lenD (.dT kvs) ≤ 48000 by omega)) (fun k who later z2 z3 => ?_) (by omega)⟩
    · by_cases z : b = D
      · subst z
        rw [hD] at e
        cases e
        exact upd_same
      · exact (upd_ne z).trans (k' b ob z e)
    · obtain ⟨c', cs', g1, g2, g3⟩ := id z2
      refine (hs1 k who later ⟨.ref c', ?_⟩ z2 z3).up tD
      show _ ∈ kvs.take kvs.length
      rw [List.take_length]
      exact valV_mem g1
/-! ### without_calls_left -/
noncomputable def sp_without_calls_left (K : PySem.W.Frag) : Sp := fun vs H Q _ => Ex10 fun (D W R : Addr) (kvs wv : List ((List Int × Int) × V)) (rs : List V) (rho : List (List Int × Int)) (H0 : Hp) (ws : List Int) (cm : Option Int) => All10 (vs = [.ref D, .ref W, .ref R]) (H D = some (.dT kvs)) (PendS ws cm H kvs) (H W = some (.dT wv)) (WaysE ws cm H0 kvs 48000 H wv) ((∀ k who later, LeftP H kvs k who → some later ∈ behL ws k.1 cm k.2 who → HasWay H wv later k who)) (H R = some (.lst rs)) (AllAt (StV H) rho rs) (leftC H kvs ≤ 24000) (∀ (B : Addr) (bs : List V) (beta : List (List Int × Int)) (H' : Hp), H B = none → ChgP kvs H H' → PendS ws cm H' kvs → H' B = some (.lst bs) → AllAt (StV H') beta bs → leftC H' kvs + bs.length ≤ leftC H kvs →
    (∀ k who, LeftP H' kvs k who ↔ (LeftP H kvs k who ∧ ∀ later ∈ rho, some later ∉ behL ws k.1 cm k.2 who)) → (∀ k, k ∈ beta ↔ ((∃ who, LeftP H kvs k who) ∧ ∀ who, ¬ LeftP H' kvs k who)) → Q (.ref B) H')
theorem ok_without_calls_left {fd  : FuncData} (T : Txt K mg ad C_NoHall C_TooMany C_Unsafe C_RoundError C_NoChain C_NoListener C_NoLoss C_NoPart C_NoRow C_NoStand C_NoWheel C_TooMuch) (F : Fun K "without_calls_left" "without_calls_left" s_without_calls_left ad.f_without_calls_left fd) : FnOk P w K mg base (CX1 P w) 1 ad.f_without_calls_left fd ["pending", "ways", "ranked"] (sp_without_calls_left K) := by
  refine F.okN sc_without_calls_left (fun vs H Q E h => ?_) (fun cdv A outer s H vs Q E hr h => ?_)
  · rcases h with ⟨D, W, R, kvs, wv, rs, rho, H0, ws, cm, rfl, hD, hps, hW, hwo, hcm, hR, hrs, hle, q⟩ <;> rfl
  · obtain ⟨D, W, R, kvs, wv, rs, rho, H0, ws, cm, rfl, hD, hps, hW, hwo, hcm, hR, hrs, hle, q⟩ := h
    refine ⟨_, (pss_cons (ps_set (i := 3) sc_without_calls_left.nd rfl (Or.inl rfl) (pe_lst pa_nil)) (pss_cons (ps_for PassesOwn.never rfl (pi_eq (w' := iSq K _) (pi_sq (pv 2))) (pg_name (i := 4) sc_without_calls_left.nd rfl (Or.inl rfl)) (pss_one (ps_for PassesOwn.never rfl (pi_eq (w' := iSq K _) (pi_sq (pe_N (pe_dget2 (hu20 hr) (pv 1) (pv 4) (pe_lst pa_nil) ⟨rfl, rfl, rfl, rfl⟩)))) (pg_tupK K (n := 2) rfl (pgs_cons (pg_name (i := 5) sc_without_calls_left.nd rfl (Or.inl rfl)) (pgs_cons (pg_name (i := 6) sc_without_calls_left.nd rfl (Or.inl rfl)) pgs_nil))) (pss_cons (ps_set (i := 7) sc_without_calls_left.nd rfl (Or.inl rfl) (pe_dget (hu20 hr) (pv 0) (pv 5) (fun _ _ => rfl))) (pss_one (ps_ifJ (pt_cmp (pc_din (hu20 hr) (pv 6) (pv 7)) rfl) (pss_cons (ps_expr (pe_dpop1 (pv 7) (pv 6) ⟨rfl, rfl, rfl, rfl⟩)) (pss_one (ps_ifJ (pt_not (pt_truK (pv 7))) (pss_one (ps_expr (pe_eq (u' := tBM K _ _ _ _) (pe_bm PySem.F.plainAttrs_list PySem.F.slot_list_append PySem.F.type_list_append mt_append (pv 3) (pa_cons (pv 5) pa_nil))))) pss_nil))) pss_nil)))))) (pss_one (ps_ret (pv 3))))), ?_⟩
    have hpo := hps.ok
    repeat first | refine hN _ _ ?_ | with_reducible refine cutR fun N hN => ?_
    refine ⟨lenOk, fun B hB => ?_⟩
    have s1 : Same H (upd H B (.lst [])) := Same.upd hB
    have e1 : (upd H B (.lst [])) B = some (.lst []) := upd_same
    generalize upd H B (.lst []) = H1 at s1 e1 ⊢

    have c1 : ∀ c cs, H c = some (.dK cs) → H1 c = some (.dK cs) := fun c cs e => s1 _ _ e
    repeat first | refine hN _ _ ?_ | with_reducible refine cutR fun N hN => ?_
    refine ⟨_, rfl, R, rfl, .inl ⟨⟨_, SqL.of (s1 _ _ hR)⟩, ?_⟩⟩
    repeat first | refine hN _ _ ?_ | with_reducible refine cutR fun N hN => ?_
    refine for_list (K := K) (a := R) (xs := rs) (fun i σ H' => Ex6 fun (bs : List V) (beta : List (List Int × Int)) (v4 v5 v6 v7 : Option V) => All11 (σ = [some (.ref D), some (.ref W), some (.ref R), some (.ref B), v4, v5, v6, v7]) (ChgP kvs H H') (PendS ws cm H' kvs) (H' B = some (.lst bs)) (AllAt (StV H') beta bs) (leftC H' kvs + bs.length ≤ leftC H kvs) (NoB B H' kvs) ((LeLe kvs H' H)) ((LeGe ws cm kvs rho i H H')) ((LeNo ws cm kvs rho i H')) ((LeBe kvs H H' beta)))
      ⟨[], [], _, _, _, _, rfl, ChgP.of s1, hps.keep (LT.of s1) c1, e1, AllAt.nil, by rw [leftC_keep hpo c1]; exact Nat.le_refl _, (NoB.start hpo hB).keep hpo c1, (fun k who z => (LeftP.keep hps c1).mp z), (fun k who z _ => (LeftP.keep hps c1).mpr z), (fun later z => by rw [List.take_zero] at z; cases z), fun k => ⟨(fun z => by cases z), fun z => ?_⟩⟩ (by rintro i σ H' _ ⟨_, _, _, _, _, _, _, ch, _⟩; exact SqL.of (ch.keep hpo hR (fun cs z => nomatch z))) ?_ ?_
    · obtain ⟨⟨who, z1⟩, z2⟩ := z
      exact absurd ((LeftP.keep hps c1).mpr z1) (z2 who)
    · rintro i u σ H' hu ⟨bs, beta, v4, v5, v6, v7, rfl, ch, hps', hB', hbs, hlf, nb, l1, l2, l3, l4⟩
      obtain ⟨lk, hlk0, lb, lu, rfl, hlk1, hlk2⟩ := hrs.get hu
      have hlk : StH H lb lk := ⟨lu, hlk1, hlk2⟩
      have hpo' := hps'.ok
      have lt' := ch.lt hpo
      have hW' := ch.keep hpo hW (fun cs z => nomatch z)
      have hwo' := hwo.up lt' (Nat.le_refl _)
      repeat first | refine hN _ _ ?_ | with_reducible refine cutR fun N hN => ?_
      refine ⟨(fun v H7 => Ex2 fun (la : Addr) (us2 : List V) => All6 (v = .ref la) (H7 la = some (.lst us2)) (la ≠ B) ((∀ u ∈ us2, WayE ws cm kvs H7 lk u)) ((∀ lx, valV wv lk = some (.ref lx) → lx = la)) (Same H' H7)), ⟨_, rfl, W, rfl, .inr ⟨wv, .inl hW'⟩, _, rfl, lenOk, fun E hE => ?_⟩, ?_⟩
      · have s6 : Same H' (upd H' E (.lst [])) := Same.upd hE
        repeat first | refine hN _ _ ?_ | with_reducible refine cutR fun N hN => ?_
        refine ⟨_, DGet.t (s6 _ _ hW') ((hlk.up lt'.2).up (Tups.of s6)), ?_⟩
        cases hv : valV wv lk with
        | none => exact ⟨E, [], rfl, upd_same, (ne_of_none hB' hE).symm, (fun u hu => by cases hu), (fun lx z => by cases z), s6⟩
        | some v =>
          obtain ⟨la, us2, e2, h0, h1, h2, h3⟩ := hwo.1 _ (valV_mem hv)
          obtain ⟨lc, us3, e3, _, g1, _, g3⟩ := hwo'.1 _ (valV_mem hv)
          have e23 : V.ref la = V.ref lc := e2.symm.trans e3
          cases e23
          have e3' : v = .ref la := e3
          repeat first | refine hN _ _ ?_ | with_reducible refine cutR fun N hN => ?_
          exact ⟨la, us3, e3, s6 _ _ g1, ne_of_none h1 hB, (fun u hu => (g3 u hu).up (Tups.of s6)), (fun lx z => by rw [e3'] at z; cases z; rfl), s6⟩
      rintro v H7 ⟨la, us2, rfl, hla, hlaB, hus2, hlx, s7⟩
      repeat first | refine hN _ _ ?_ | with_reducible refine cutR fun N hN => ?_
      refine ⟨la, rfl, .inl ⟨⟨_, SqL.of hla⟩, ?_⟩⟩
      have c7 : ∀ c cs, H' c = some (.dK cs) → H7 c = some (.dK cs) := fun c cs e => s7 _ _ e
      have hps7 := hps'.keep (LT.of s7) c7
      have lt7 : LT H H7 := lt'.trans (LT.of s7)
      repeat first | refine hN _ _ ?_ | with_reducible refine cutR fun N hN => ?_
      refine for_list (K := K) (a := la) (xs := us2) (fun j σ H8 => Ex5 fun (bs : List V) (beta : List (List Int × Int)) (v5 v6 v7 : Option V) => All15 (σ = [some (.ref D), some (.ref W), some (.ref R), some (.ref B), some (.ref lb), v5, v6, v7]) (ChgP kvs H H8) (PendS ws cm H8 kvs) (H8 B = some (.lst bs)) (AllAt (StV H8) beta bs) (leftC H8 kvs + bs.length ≤ leftC H kvs) (NoB B H8 kvs) ((LeLe kvs H8 H)) ((LeGe ws cm kvs rho (i + 1) H H8)) ((LeNo ws cm kvs rho i H8)) ((LeBe kvs H H8 beta)) (Tups H7 H8) (H8 la = some (.lst us2)) ((LeLe kvs H8 H7)) (NoT H7 us2 j H8 kvs))
        ⟨bs, beta, _, _, _, rfl, ch.trans (ChgP.of s7), hps7, s7 _ _ hB', hbs.imp (fun _ _ z => StV.up (Tups.of s7) z), by rw [leftC_keep hpo' c7]; exact hlf, nb.keep hpo' c7, (fun k who z => l1 k who ((LeftP.keep hps' c7).mp z)), (fun k who z1 z2 => (LeftP.keep hps' c7).mpr (l2 k who z1 fun later hl => z2 later (List.take_subset_take_left _ (Nat.le_succ i) hl))), (fun later hl k who z1 z2 => l3 later hl k who z1 ((LeftP.keep hps' c7).mp z2)), (fun k => (l4 k).trans ⟨fun z => ⟨z.1, fun who y => z.2 who ((LeftP.keep hps' c7).mp y)⟩, fun z => ⟨z.1, fun who y => z.2 who ((LeftP.keep hps' c7).mpr y)⟩⟩), (fun _ _ z => z), hla, (fun k who z => z), (fun t b who k z => by rw [List.take_zero] at z; cases z)⟩ (by rintro j σ H8 _ ⟨_, _, _, _, _, _, _, _, _, _, _, _, _, _, _, _, _, e, _⟩; exact SqL.of e) ?_ ?_
      · rintro j u σ H8 hu2 ⟨bs8, beta8, v5, v6, v7, rfl, ch8, hps8, hB8, hbs8, hlf8, nb8, m1, m2, m3, m4, lt8, hla8, m5, m6⟩
        have hpo8 := hps8.ok
        obtain ⟨t, b, who, k, rfl, ht7, hb7, ⟨v, hkv⟩, hbeh⟩ := hus2 u (List.mem_of_getElem? hu2)
        have ht := lt8 _ _ ht7
        have hb := hb7.up lt8
        repeat first | refine hN _ _ ?_ | with_reducible refine cutR fun N hN => ?_
        refine ⟨t, _, rfl, SqT.of ht, rfl, _, _, rfl, _, _, rfl, rfl, ?_⟩
        have hD8 := ch8.keep hpo hD (fun cs z => nomatch z)
        have hmem := valV_mem hkv
        obtain ⟨c, cs, ev, hc, hcl, hco⟩ := hps8.1 _ hmem
        have ev' : v = .ref c := ev
        subst ev'
        have taken : ∀ (HX : Hp), (∀ k' who', LeftP HX kvs k' who' → LeftP H8 kvs k' who') → ¬ LeftP HX kvs k who → ∀ t' b' who' k', V.ref t' ∈ us2.take (j + 1) → H7 t' = some (.tup [.ref b', .int ((who' : Nat) : Int)]) → StH H7 b' k' → ¬ LeftP HX kvs k' who' := fun HX hx1 hx2 t' b' who' k' z1 z2 z3 z4 => by
          rw [List.take_add_one, hu2] at z1
          rcases List.mem_append.mp z1 with y | y
          · exact m6 t' b' who' k' y z2 z3 (hx1 _ _ z4)
          · have e1 : t' = t := by simpa using y
            subst e1
            rw [ht7] at z2
            cases z2
            obtain ⟨u1, f1, f2⟩ := hb7
            obtain ⟨u2, g1, g2⟩ := z3
            rw [f1] at g1
            injection g1 with g1
            injection g1 with g1
            injection g1 with g1a g1b
            injection g1b with g1b
            injection g1a with g1a
            injection g1b with g1b
            subst g1a
            rw [f2] at g2
            have ek : k = k' := by
              have h1 : k.1 = k'.1 := by
                have := Option.some.inj g2
                injection this with this
                exact map_int_inj this
              exact Prod.ext h1 g1b
            subst ek
            exact hx2 z4
        repeat first | refine hN _ _ ?_ | with_reducible refine cutR fun N hN => ?_
        refine ⟨_, rfl, _, rfl, D, .ref c, rfl, (by rw [← hkv]; exact DGet.t hD8 hb), ?_⟩
        repeat first | refine hN _ _ ?_ | with_reducible refine cutR fun N hN => ?_
        refine ⟨_, rfl, _, rfl, c, _, rfl, DGet.k (k := .inl (who : Int)) hc, _, rfl, _, fun hin => ?_, fun hin => ?_, fun _ _ z => z⟩
        · obtain ⟨w', hw⟩ := Option.isSome_iff_exists.mp hin
          have hleft : LeftP H8 kvs k who := ⟨c, cs, hkv, hc, by rw [hw]; rfl⟩
          repeat first | refine hN _ _ ?_ | with_reducible refine cutR fun N hN => ?_
          refine ⟨_, rfl, c, rfl, .inl ⟨cs, .inl hc⟩, _, rfl, cs, .inl (who : Int), w', hc, rfl, hw, ?_⟩
          have ch9 : ChgP kvs H8 (upd H8 c (.dK (dropK cs (.inl (who : Int))))) := ChgP.pop hmem rfl
          have hps9 : PendS ws cm (upd H8 c (.dK (dropK cs (.inl (who : Int))))) kvs := hps8.pop hc
          have lt9 : LT H8 (upd H8 c (.dK (dropK cs (.inl (who : Int))))) := LT.dK hc
          have hc9 : (upd H8 c (.dK (dropK cs (.inl (who : Int))))) c = some (.dK (dropK cs (.inl (who : Int)))) := upd_same
          have nb9 : NoB B (upd H8 c (.dK (dropK cs (.inl (who : Int))))) kvs := nb8.pop hc
          have hl9 := (leftC_pop hc (drop_lt hw) (kvs := kvs)).2 ⟨_, hmem, rfl⟩
          have lp9 : ∀ k' who', LeftP (upd H8 c (.dK (dropK cs (.inl (who : Int))))) kvs k' who' ↔ LeftP H8 kvs k' who' ∧ ¬ (k' = k ∧ who' = who) := fun k' who' => LeftP.pop hps8 hkv hc
          generalize upd H8 c (.dK (dropK cs (.inl (who : Int)))) = H9 at ch9 hps9 lt9 hc9 nb9 hl9 lp9 ⊢
          have hpo9 := hps9.ok
          have hB9 := lt9.1 _ _ hB8
          have hb9 := hb.up lt9.2
          have n1 : ∀ k' who', LeftP H9 kvs k' who' → LeftP H kvs k' who' := fun k' who' z => m1 _ _ ((lp9 k' who').mp z).1
          have n2 : ∀ k' who', LeftP H kvs k' who' → (∀ later ∈ rho.take (i + 1), some later ∉ behL ws k'.1 cm k'.2 who') → LeftP H9 kvs k' who' := fun k' who' z1 z2 => (lp9 k' who').mpr ⟨m2 _ _ z1 z2, fun e => by
            refine z2 lk ?_ (by rw [e.1, e.2]; exact hbeh)
            rw [List.take_add_one, hlk0]
            simp⟩
          have n3 : ∀ later ∈ rho.take i, ∀ k' who', some later ∈ behL ws k'.1 cm k'.2 who' → ¬ LeftP H9 kvs k' who' := fun later hl k' who' z1 z2 => m3 later hl k' who' z1 ((lp9 k' who').mp z2).1
          have n5 : ∀ k' who', LeftP H9 kvs k' who' → LeftP H8 kvs k' who' := fun k' who' z => ((lp9 k' who').mp z).1
          have n6 := taken H9 n5 (fun z => ((lp9 k who).mp z).2 ⟨rfl, rfl⟩)
          have other : ∀ k', k' ≠ k → ((∀ who', ¬ LeftP H9 kvs k' who') ↔ ∀ who', ¬ LeftP H8 kvs k' who') := fun k' hk' => ⟨fun z who' y => z who' ((lp9 k' who').mpr ⟨y, fun e => hk' e.1⟩), fun z who' y => z who' (n5 _ _ y)⟩
          have hkb : k ∉ beta8 := fun z => ((m4 k).mp z).2 who hleft
          repeat first | refine hN _ _ ?_ | with_reducible refine cutR fun N hN => ?_
          refine ⟨_, rfl, c, _, rfl, .inl hc9, _, fun he => ?_, fun he => ?_, fun _ _ z => z⟩
          · have hemp : dropK cs (.inl (who : Int)) = [] := by
              have : (dropK cs (.inl (who : Int))).isEmpty = true := by simpa using he
              exact List.isEmpty_iff.mp this
            have hnone : ∀ who', ¬ LeftP H9 kvs k who' := fun who' z => by
              obtain ⟨c', cs', g1, g2, g3⟩ := z
              rw [hkv] at g1
              cases g1
              rw [hc9] at g2
              cases g2
              rw [hemp] at g3
              cases g3
            repeat first | refine hN _ _ ?_ | with_reducible refine cutR fun N hN => ?_
            refine ⟨_, rfl, .inl ⟨rfl, _, SqL.of hB9⟩, _, rfl, B, _, _, rfl, rfl, hB9, small20000 (by omega), ?_⟩
            have t10 : Tups H9 (upd H9 B (.lst (bs8 ++ [.ref b]))) := Tups.lst hB9
            have k10 : ∀ c' cs', H9 c' = some (.dK cs') → (upd H9 B (.lst (bs8 ++ [.ref b]))) c' = some (.dK cs') := fun c' cs' e => by
              rw [upd_ne (ne_of e hB9 (by intro z; cases z))]
              exact e
            have kl : ∀ x xs, x ≠ B → H9 x = some (.lst xs) → (upd H9 B (.lst (bs8 ++ [.ref b]))) x = some (.lst xs) := fun x xs n e => (upd_ne n).trans e
            have lp10 : ∀ k' who', LeftP (upd H9 B (.lst (bs8 ++ [.ref b]))) kvs k' who' ↔ LeftP H9 kvs k' who' := fun k' who' => LeftP.keep hps9 k10
            obtain ⟨ub, hb91, hb92⟩ := hb9
            repeat first | refine hN _ _ ?_ | with_reducible refine cutR fun N hN => ?_
            refine ⟨bs8 ++ [.ref b], beta8 ++ [k], _, _, _, rfl, (ch8.trans ch9).new hB, hps9.keepB nb9 t10 kl k10, upd_same, (hbs8.imp fun _ _ z => StV.up t10 (StV.up lt9.2 z)).append (AllAt.one ⟨b, ub, rfl, t10 _ _ hb91, t10 _ _ hb92⟩), ?_, nb9.keep hpo9 k10, (fun k' who' z => n1 _ _ ((lp10 k' who').mp z)), (fun k' who' z1 z2 => (lp10 k' who').mpr (n2 _ _ z1 z2)), (fun later hl k' who' z1 z2 => n3 later hl k' who' z1 ((lp10 k' who').mp z2)), (fun k' => ?_), (lt8.trans lt9.2).trans t10, kl _ _ hlaB (lt9.1 _ _ hla8), (fun k' who' z => m5 _ _ (n5 _ _ ((lp10 k' who').mp z))), (fun t' b' who' k' z1 z2 z3 z4 => n6 t' b' who' k' z1 z2 z3 ((lp10 k' who').mp z4))⟩
            · rw [leftC_keep hpo9 k10, List.length_append, List.length_singleton]
              omega
            · have e10 : (∀ who', ¬ LeftP (upd H9 B (.lst (bs8 ++ [.ref b]))) kvs k' who') ↔ ∀ who', ¬ LeftP H9 kvs k' who' := ⟨fun z who' y => z who' ((lp10 k' who').mpr y), fun z who' y => z who' ((lp10 k' who').mp y)⟩
              rw [e10]
              by_cases hk' : k' = k
              · subst hk'
                repeat first | refine hN _ _ ?_ | with_reducible refine cutR fun N hN => ?_
                exact ⟨fun _ => ⟨⟨who, m1 _ _ hleft⟩, hnone⟩, fun _ => by simp⟩
              · rw [other k' hk', ← m4 k']
                simp [hk']
          · have hne : dropK cs (.inl (who : Int)) ≠ [] := fun z => by
              rw [z] at he
              exact absurd he (by decide)
            repeat first | refine hN _ _ ?_ | with_reducible refine cutR fun N hN => ?_
            refine ⟨bs8, beta8, _, _, _, rfl, ch8.trans ch9, hps9, hB9, hbs8.imp (fun _ _ z => StV.up lt9.2 z), by omega, nb9, n1, n2, n3, (fun k' => ?_), lt8.trans lt9.2, lt9.1 _ _ hla8, (fun k' who' z => m5 _ _ (n5 _ _ z)), n6⟩
            by_cases hk' : k' = k
            · subst hk'
              repeat first | refine hN _ _ ?_ | with_reducible refine cutR fun N hN => ?_
              refine ⟨fun z => absurd z hkb, fun z => ?_⟩
              obtain ⟨x, hx⟩ := List.exists_mem_of_ne_nil _ hne
              obtain ⟨who2, l9, us9, g1, _⟩ := hco x (drop_mem hx)
              have hs : (valV (dropK cs (.inl (who : Int))) (.inl (who2 : Int))).isSome = true := by
                obtain ⟨y, hy⟩ := valV_of_mem (k := x.1) (v := x.2) hx
                rw [← g1, hy]
                rfl
              exact absurd ⟨c, _, hkv, hc9, hs⟩ (z.2 who2)
            · rw [other k' hk']
              exact m4 k'
        · have hno : ¬ LeftP H8 kvs k who := fun z => by
            obtain ⟨c', cs', g1, g2, g3⟩ := z
            rw [hkv] at g1
            cases g1
            rw [hc] at g2
            cases g2
            rw [hin] at g3
            cases g3
          repeat first | refine hN _ _ ?_ | with_reducible refine cutR fun N hN => ?_
          exact ⟨bs8, beta8, _, _, _, rfl, ch8, hps8, hB8, hbs8, hlf8, nb8, m1, m2, m3, m4, lt8, hla8, m5, taken H8 (fun _ _ z => z) hno⟩
      rintro σ H8 ⟨bs8, beta8, v5, v6, v7, rfl, ch8, hps8, hB8, hbs8, hlf8, nb8, m1, m2, m3, m4, lt8, hla8, m5, m6⟩
      repeat first | refine hN _ _ ?_ | with_reducible refine cutR fun N hN => ?_
      refine ⟨bs8, beta8, _, _, _, _, rfl, ch8, hps8, hB8, hbs8, hlf8, nb8, m1, m2, (fun later hl k who z1 z2 => ?_), m4⟩
      rw [List.take_add_one, hlk0] at hl
      rcases List.mem_append.mp hl with y | y
      · exact m3 later y k who z1 z2
      · have e1 : later = lk := by simpa using y
        subst e1
        obtain ⟨lx, ux, tx, bx, f1, f2, f3, f4, f5⟩ := (hcm k who later (m1 _ _ z2) z1).up lt7
        have ex := hlx lx f1
        subst ex
        rw [hla] at f2
        cases f2
        refine m6 tx bx who k ?_ f4 f5 z2
        rw [List.take_length]
        exact f3
    rintro σ H' ⟨bs, beta, v4, v5, v6, v7, rfl, ch, hps', hB', hbs, hlf, nb, l1, l2, l3, l4⟩
    unfold LeGe at l2
    unfold LeNo at l3
    rw [hrs.1, List.take_length] at l2 l3
    repeat first | refine hN _ _ ?_ | with_reducible refine cutR fun N hN => ?_
    exact ⟨_, rfl, q B bs beta H' hB ch hps' hB' hbs hlf (fun k who => ⟨fun z => ⟨l1 k who z, fun later hl y => l3 later hl k who y z⟩, fun z => l2 k who z.1 z.2⟩) l4⟩
/-! ### ranks -/
noncomputable def sp_ranks (K : PySem.W.Frag) (C_NoHall C_TooMany C_Unsafe : Addr) : Sp := fun vs H Q E => (Ex3 fun (a : Addr) (ws : List Int) (cm : Option Int) => All9 (vs = [.ref a]) (HallAt H a ws cm) ((∀ w ∈ ws, 1 ≤ w)) (1 ≤ qv cm) ((∀ w ∈ ws, intBits w ≤ 256)) (intBits (qv cm) ≤ 256) (ws.length ≤ 8) (prodI (qv cm) ws ≤ 3000) (∀ (T : Addr) (tv : List ((List Int × Int) × V)) (H' : Hp), H T = none → Same H H' → H' T = some (.dT tv) → RankOk ws cm tv → (tv.map (·.1)).Nodup → tv.length ≤ 60000 → Q (.ref T) H')) ∨ (Ex3 fun (a : Addr) (ws : List Int) (cm : Option Int) => All7 (vs = [.ref a]) (HallAt H a ws cm) ((∀ w ∈ ws, intBits w ≤ 256)) (intBits (qv cm) ≤ 256) (ws.length ≤ 8) (3000 < prodI (qv cm) ws) (∀ H2, Same H H2 → E (.ref C_TooMany) none H2))
theorem ok_ranks {fd fd_calls_by_standing fd_ways_to fd_without_calls_left : FuncData} (T : Txt K mg ad C_NoHall C_TooMany C_Unsafe C_RoundError C_NoChain C_NoListener C_NoLoss C_NoPart C_NoRow C_NoStand C_NoWheel C_TooMuch) (F : Fun K "ranks" "ranks" s_ranks ad.f_ranks fd) (G_calls_by_standing : FnOk P w K mg base (CX1 P w) 6 ad.f_calls_by_standing fd_calls_by_standing ["hall"] (sp_calls_by_standing K C_NoHall C_TooMany C_Unsafe)) (B_calls_by_standing : Binds K fd_calls_by_standing ["hall"] []) (G_ways_to : FnOk P w K mg base (CX1 P w) 1 ad.f_ways_to fd_ways_to ["pending"] (sp_ways_to K)) (B_ways_to : Binds K fd_ways_to ["pending"] []) (G_without_calls_left : FnOk P w K mg base (CX1 P w) 1 ad.f_without_calls_left fd_without_calls_left ["pending", "ways", "ranked"] (sp_without_calls_left K)) (B_without_calls_left : Binds K fd_without_calls_left ["pending", "ways", "ranked"] []) : FnOk P w K mg base (CX1 P w) 7 ad.f_ranks fd ["hall"] (sp_ranks K C_NoHall C_TooMany C_Unsafe) := by
  refine F.okE sc_ranks (fun vs H Q E h => ?_) (fun cdv A outer s H vs Q E hr h => ?_)
  · rcases h with ⟨a, ws, cm, rfl, ha, hw1, hq1, hb1, hb2, hw8, hp, q⟩ | ⟨a, ws, cm, rfl, _, _, _, _, _, _⟩ <;> rfl
  · obtain h := h
    refine ⟨_, (pss_cons (ps_set (i := 1) sc_ranks.nd rfl (Or.inl rfl) (pe_callE G_calls_by_standing (hr.mono (by decide)) rfl T.m_calls_by_standing T.k_calls_by_standing B_calls_by_standing .nil passD (pa_cons (pv 0) pa_nil))) (pss_cons (ps_set (i := 2) sc_ranks.nd rfl (Or.inl rfl) (pe_call G_ways_to (hr.mono (by decide)) rfl T.m_ways_to T.k_ways_to B_ways_to .nil passN (pa_cons (pv 1) pa_nil))) (pss_cons (ps_set (i := 3) sc_ranks.nd rfl (Or.inl rfl) pe_dnewT) (pss_cons (ps_set (i := 4) sc_ranks.nd rfl (Or.inl rfl) pe_int) (pss_cons (ps_thaw (ps_setComp (i := 5) sc_ranks.nd rfl (pi_items (pv 1)) _ rfl cs_ranks_0 rfl rfl (fun _ _ _ _ => (pg_tupK K (n := 2) rfl (pgs_cons (pg_name (i := 0) nd_ranks_0 rfl (Or.inl rfl)) (pgs_cons (pg_name (i := 1) nd_ranks_0 rfl (Or.inl rfl)) pgs_nil)))) (fun _ _ _ _ => (pts_one (pt_not (pt_truK (pv 1))))) (fun _ _ _ _ => (pv 0)) rfl rfl)) (pss_cons (ps_while ownD (pt_truth (pv 5) (by intro _; rfl)) (pss_cons (ps_for ownD rfl (pi_eq (w' := iSq K _) (pi_sq (pv 5))) (pg_name (i := 6) sc_ranks.nd rfl (Or.inl rfl)) (pss_one (ps_dput (hu20 hr) (pv 3) (pv 6) (pv 4) rfl))) (pss_cons (ps_set (i := 5) sc_ranks.nd rfl (Or.inl rfl) (pe_call G_without_calls_left (hr.mono (by decide)) rfl T.m_without_calls_left T.k_without_calls_left B_without_calls_left .nil passN (pa_cons (pv 1) (pa_cons (pv 2) (pa_cons (pv 5) pa_nil))))) (pss_one (ps_set (i := 4) sc_ranks.nd rfl (Or.inl rfl) (pe_op op_add (pv 4) pe_int)))))) (pss_one (ps_ret (pv 3))))))))), ?_⟩
    rcases h with ⟨a, ws, cm, rfl, ha, hw1, hq1, hb1, hb2, hw8, hp, q⟩ | ⟨a, ws, cm, rfl, ha, hb, hqb, hl8, hp, he⟩
    · repeat first | refine hN _ _ ?_ | with_reducible refine cutR fun N hN => ?_
      refine ⟨_, rfl, E, fun _ _ _ z => z, .inl ⟨a, ws, cm, rfl, ha, hw1, hq1, hb1, hb2, hw8, hp, fun D kvs H1 hD s1 eD hps hkeys hful hfr hkl => ?_⟩⟩
      have hpo := hps.ok
      repeat first | refine hN _ _ ?_ | with_reducible refine cutR fun N hN => ?_
      refine ⟨_, rfl, D, kvs, ws, cm, rfl, eD, hps, hkl, fun W wv H2 hW s2 eW hwo hcmp hwl => ?_⟩
      repeat first | refine hN _ _ ?_ | with_reducible refine cutR fun N hN => ?_
      refine fun T hT => ?_
      have s3 : Same H2 (upd H2 T (.dT [])) := Same.upd hT
      have e3 : (upd H2 T (.dT [])) T = some (.dT []) := upd_same
      generalize upd H2 T (.dT []) = H3 at s3 e3 ⊢

      have s13 := s2.trans s3
      have eD3 := s13 _ _ eD
      have hTD : T ≠ D := (ne_of_none (s2 _ _ eD) hT).symm
      repeat first | refine hN _ _ ?_ | with_reducible refine cutR fun N hN => ?_
      refine ⟨D, .dT kvs, trivial, eD3, _, rfl, D, .dT kvs, rfl, trivial, eD3, fun o => ?_⟩
      have hps3 := hps.keep (LT.of s13) (fun c cs e => s13 _ _ e)
      have hpo3 := hps3.ok
      have hful3 := hful.keep hps (fun c cs e => s13 _ _ e)
      have tF : LT H3 (upd H3 D (.frz o (.dT kvs))) := LT.dT eD3
      have kF : ∀ c cs, H3 c = some (.dK cs) → (upd H3 D (.frz o (.dT kvs))) c = some (.dK cs) := fun c cs e => by
        rw [upd_ne (ne_of e eD3 (by intro z; cases z))]
        exact e
      have bF : ∀ b ob, b ≠ D → H3 b = some ob → (upd H3 D (.frz o (.dT kvs))) b = some ob := fun b ob n e => (upd_ne n).trans e
      have dF : (upd H3 D (.frz o (.dT kvs))) D = some (.frz o (.dT kvs)) := upd_same
      have hpsF := hps3.keep tF kF
      have hfulF := hful3.keep hps3 kF
      generalize upd H3 D (.frz o (.dT kvs)) = HF at tF kF bF dF hpsF hfulF ⊢
      repeat first | refine hN _ _ ?_ | with_reducible refine cutR fun N hN => ?_
      refine fun R hR => ?_
      repeat first | refine hN _ _ ?_ | with_reducible refine cutR fun N hN => ?_
      refine comp_items (K := K) (d := D) (o := o) (u := .dT kvs) (fun i zs H' => ∃ (rho : List (List Int × Int)), All5 (H' R = some (.lst zs)) (zs.length ≤ i) (AllAt (StV H') rho zs) (Same HF H') (∀ k, k ∈ rho ↔ ∃ v, (k, v) ∈ kvs.take i ∧ EmptyC HF v)) ⟨[], upd_same, Nat.le_refl _, AllAt.nil, Same.upd hR, fun k => ⟨(fun z => by cases z), fun ⟨v, z, _⟩ => by rw [List.take_zero] at z; cases z⟩⟩ (by rintro i zs H' _ ⟨_, _, _, _, s, _⟩; exact s _ _ dF) ?_ ?_ ?_ ?_
      · rintro i x y T2 zs H' hi hit ⟨rho, hR', hzl, hzs, s', hrho⟩ hT2
        have hi3 : i < 3000 := Nat.lt_of_lt_of_le hi hkl
        obtain ⟨kk, bb, hkv, rfl, hkk⟩ := hit
        obtain ⟨c, cs, ey, hc, hcl, hco⟩ := hpsF.1 _ (List.mem_of_getElem? hkv)
        have ey' : y = .ref c := ey
        subst ey'
        have s4 : Same H' (upd H' T2 (.tup [.ref bb, .ref c])) := Same.upd hT2
        have e4 : (upd H' T2 (.tup [.ref bb, .ref c])) T2 = some (.tup [.ref bb, .ref c]) := upd_same
        generalize upd H' T2 (.tup [.ref bb, .ref c]) = H4 at s4 e4 ⊢

        have hR4 := s4 _ _ hR'
        repeat first | refine hN _ _ ?_ | with_reducible refine cutR fun N hN => ?_
        refine ⟨_, rfl, c, cs, rfl, .inl (s4 _ _ (s' _ _ hc)), ?_⟩
        obtain ⟨ku, hk1, hk2⟩ := hkk.up (Tups.of s4)
        repeat first | refine hN _ _ ?_ | with_reducible refine cutR fun N hN => ?_
        refine ite2 (fun hc0 => ?_) (fun hc0 => ?_)
        · have hemp : cs = [] := by
            have : cs.isEmpty = true := by simpa using hc0
            exact List.isEmpty_iff.mp this
          subst hemp
          have tt : Tups H4 (upd H4 R (.lst (zs ++ [.ref bb]))) := Tups.lst hR4
          repeat first | refine hN _ _ ?_ | with_reducible refine cutR fun N hN => ?_
          refine ⟨_, rfl, hR4, small20000 (by omega), rho ++ [kk], upd_same, by rw [List.length_append, List.length_singleton]; omega, (hzs.imp fun _ _ z => StV.up tt (StV.up (Tups.of s4) z)).append (AllAt.one ⟨bb, ku, rfl, tt _ _ hk1, tt _ _ hk2⟩), (s'.trans s4).new hR, fun k => ?_⟩
          rw [List.mem_append, hrho, List.mem_singleton, List.take_add_one, hkv]
          constructor
          · rintro (⟨v, z1, z2⟩ | z)
            · repeat first | refine hN _ _ ?_ | with_reducible refine cutR fun N hN => ?_
              exact ⟨v, List.mem_append_left _ z1, z2⟩
            · subst z
              repeat first | refine hN _ _ ?_ | with_reducible refine cutR fun N hN => ?_
              exact ⟨.ref c, by simp, c, rfl, hc⟩
          · rintro ⟨v, z1, z2⟩
            rcases List.mem_append.mp z1 with y | y
            · exact .inl ⟨v, y, z2⟩
            · have e1 : (k, v) = (kk, .ref c) := by simpa using y
              cases e1
              exact .inr rfl
        · have hne : cs ≠ [] := fun z => by
            rw [z] at hc0
            exact absurd hc0 (by decide)
          repeat first | refine hN _ _ ?_ | with_reducible refine cutR fun N hN => ?_
          refine ⟨rho, hR4, by omega, hzs.imp fun _ _ z => StV.up (Tups.of s4) z, s'.trans s4, fun k => ?_⟩
          rw [hrho, List.take_add_one, hkv]
          constructor
          · rintro ⟨v, z1, z2⟩
            repeat first | refine hN _ _ ?_ | with_reducible refine cutR fun N hN => ?_
            exact ⟨v, List.mem_append_left _ z1, z2⟩
          · rintro ⟨v, z1, z2⟩
            rcases List.mem_append.mp z1 with y | y
            · repeat first | refine hN _ _ ?_ | with_reducible refine cutR fun N hN => ?_
              exact ⟨v, y, z2⟩
            · have e1 : (k, v) = (kk, .ref c) := by simpa using y
              cases e1
              obtain ⟨c', e2, e3⟩ := z2
              cases e2
              rw [hc] at e3
              cases e3
              exact absurd rfl hne
      · rintro σ H1 Q1 Q2 hQ ⟨v, e1, c, cs, e2, r, z⟩
        repeat first | refine hN _ _ ?_ | with_reducible refine cutR fun N hN => ?_
        exact ⟨v, e1, c, cs, e2, r, hQ _ _ z⟩
      · rintro σ H1 Q1 Q2 hQ ⟨v, e1, z⟩
        repeat first | refine hN _ _ ?_ | with_reducible refine cutR fun N hN => ?_
        exact ⟨v, e1, hQ _ _ z⟩
      rintro zs HG ⟨rho0, hRG, hzl, hzs, sG, hrho0⟩
      rw [show kvs.take (lenD (.dT kvs)) = kvs from List.take_length] at hrho0
      have hst0 := RankI.start hpsF hkeys hfulF hrho0
      have hDG := sG _ _ dF
      have hkl' : lenD (.dT kvs) ≤ 3000 := hkl
      have tG : LT HG (upd HG D (.dT kvs)) := ⟨fun b xs e => by rw [upd_ne (ne_of e hDG (by intro z; cases z))]; exact e, fun b xs e => by rw [upd_ne (ne_of e hDG (by intro z; cases z))]; exact e⟩
      have s34 : Same H3 (upd HG D (.dT kvs)) := fun b ob e => by
        by_cases z : b = D
        · subst z
          rw [eD3] at e
          cases e
          exact upd_same
        · exact (upd_ne z).trans (sG _ _ (bF b ob z e))
      repeat first | refine hN _ _ ?_ | with_reducible refine cutR fun N hN => ?_
      refine ⟨o, hDG, ?_⟩
      have hR4 := tG.1 _ _ hRG
      have hzs4 : AllAt (StV (upd HG D (.dT kvs))) rho0 zs := hzs.imp fun _ _ z => StV.up tG.2 z
      have cG : ∀ c cs, HF c = some (.dK cs) → (upd HG D (.dT kvs)) c = some (.dK cs) := fun c cs e => by
        rw [upd_ne (ne_of (sG _ _ e) hDG (by intro z; cases z))]
        exact sG _ _ e
      have hR3 : H3 R = none := by
        cases hx : H3 R with
        | none => rfl
        | some ob =>
          by_cases z : R = D
          · rw [z, dF] at hR
            cases hR
          · rw [bF R ob z hx] at hR
            cases hR
      generalize upd HG D (.dT kvs) = H4 at tG s34 hR4 hzs4 cG ⊢
      clear tG hRG hzs sG hDG
      have hps4 := hps3.keep (LT.of s34) (fun c cs e => s34 _ _ e)
      have hpo4 := hps4.ok
      have hst4 : RankI ws cm [] rho0 1 (LeftP H4 kvs) := by
        have e : LeftP H4 kvs = LeftP HF kvs := by
          funext k who
          exact propext (LeftP.keep hpsF cG)
        rw [e]
        exact hst0
      have hcm4 : ∀ k who later, LeftP H4 kvs k who → some later ∈ behL ws k.1 cm k.2 who → HasWay H4 wv later k who := fun k who later z1 z2 => ((hcmp k who later ((LeftP.keep hps (fun c cs e => s34 _ _ (s13 _ _ e))).mp z1) z2).up (LT.of s3)).up (LT.of s34)
      have eD4 := s34 _ _ eD3
      have eW4 := s34 _ _ (s3 _ _ eW)
      have eT4 := s34 _ _ e3
      have hwo4 := hwo.up ((LT.of s3).trans (LT.of s34)) (Nat.le_refl _)
      have hl4 : leftC H4 kvs ≤ 24000 := by
        have := leftC_le hpo4
        omega
      have hTv : ∀ kv ∈ kvs, kv.2 ≠ .ref T := fun kv hkv z => by
        obtain ⟨c, cs, e1, e2, _⟩ := hpo3 kv hkv
        rw [z] at e1
        cases e1
        rw [e3] at e2
        cases e2
      dsimp only
      repeat first | refine hN _ _ ?_ | with_reducible refine cutR fun N hN => ?_
      refine while_by (fun σ' H' => Ex6 fun (R : Addr) (rs : List V) (rho : List (List Int × Int)) (tv : List ((List Int × Int) × V)) (rank : Int) (v6 : Option V) => All10 (σ' = [some (.ref a), some (.ref D), some (.ref W), some (.ref T), some (.int rank), some (.ref R), v6]) ((KpT T kvs H4 H')) (PendS ws cm H' kvs) (H' T = some (.dT tv)) ((tv.map (·.1)).Nodup) (H' R = some (.lst rs)) (AllAt (StV H') rho rs) (RankI ws cm tv rho rank (LeftP H' kvs)) ((LeLe kvs H' H4)) (tv.length + rs.length + leftC H' kvs ≤ 27000))
        (fun σ' H' => 2 * leftC H' kvs + match σ' with
          | [_, _, _, _, _, some (.ref R), _] => (match H' R with
            | some (.lst []) => 0
            | _ => 1)
          | _ => 0) ⟨R, zs, rho0, [], 1, _, rfl, (fun b ob _ e _ => e), hps4, eT4, List.Pairwise.nil, hR4, hzs4, hst4, (fun _ _ z => z), by show 0 + zs.length + _ ≤ _; omega⟩ ?_ ?_
      · rintro σ' H' ⟨R, rs, rho, tv, rank, v6, rfl, kp, hps', hT', htv, hR', hrs, hri, hsub, hsum⟩
        have hpo' := hps'.ok
        repeat first | refine hN _ _ ?_ | with_reducible refine cutR fun N hN => ?_
        refine ⟨_, rfl, _, .inl ⟨_, SqL.of hR', rfl⟩, ?_⟩
        have hD' := kp D _ hTD.symm eD4 (fun kv hkv z => by
          obtain ⟨c, cs, e1, e2, _⟩ := hpo4 kv hkv
          rw [z] at e1
          cases e1
          rw [eD4] at e2
          cases e2)
        repeat first | refine hN _ _ ?_ | with_reducible refine cutR fun N hN => ?_
        refine ite2 (fun hne => ?_) (fun hemp => ?_)
        · have hrs0 : 0 < rs.length := by
            cases rs with
            | nil => exact absurd hne (by decide)
            | cons x xs => simp
          have hRT : R ≠ T := ne_of hR' hT' (by intro z; cases z)
          have mu0 : (match H' R with
            | some (.lst []) => 0
            | _ => 1) = 1 := by
            rw [hR']
            cases rs with
            | nil => exact absurd hrs0 (by decide)
            | cons x xs => rfl
          repeat first | refine hN _ _ ?_ | with_reducible refine cutR fun N hN => ?_
          refine ⟨_, rfl, R, rfl, .inl ⟨⟨_, SqL.of hR'⟩, ?_⟩⟩
          repeat first | refine hN _ _ ?_ | with_reducible refine cutR fun N hN => ?_
          refine for_list (K := K) (a := R) (xs := rs) (fun i σ H5 => Ex2 fun (tv5 : List ((List Int × Int) × V)) (v6 : Option V) => All7 (σ = [some (.ref a), some (.ref D), some (.ref W), some (.ref T), some (.int rank), some (.ref R), v6]) ((∀ b, b ≠ T → H5 b = H' b)) (H5 T = some (.dT tv5)) ((tv5.map (·.1)).Nodup) ((∀ kv ∈ tv5, ∃ n : Int, kv.2 = .int n ∧ 1 ≤ n ∧ n < rank + 1)) ((∀ k, valV tv5 k = if k ∈ rho.take i then some (.int rank) else valV tv k)) (tv5.length ≤ tv.length + i))
            ⟨tv, _, rfl, (fun _ _ => rfl), hT', htv, (fun kv hkv => by obtain ⟨n, e1, e2, e3⟩ := hri.2.1 kv hkv; exact ⟨n, e1, e2, by omega⟩), (fun k => by rw [List.take_zero, if_neg (by simp)]), Nat.le_refl _⟩ (by rintro i σ H5 _ ⟨_, _, _, e, _⟩; exact SqL.of ((e R hRT).trans hR')) ?_ ?_
          · rintro i u σ H5 hu ⟨tv5, v6, rfl, k5, hT5, hnd5, htv5, hva5, hl5⟩
            have hi := (List.getElem?_eq_some_iff.mp hu).1
            obtain ⟨k, hk0, b, u1, rfl, hb1, hb2⟩ := hrs.get hu
            have hbk : StH H5 b k := ⟨u1, (k5 b (ne_of hb1 hT' (by intro z; cases z))).trans hb1, (k5 u1 (ne_of hb2 hT' (by intro z; cases z))).trans hb2⟩
            repeat first | refine hN _ _ ?_ | with_reducible refine cutR fun N hN => ?_
            refine ⟨_, rfl, _, rfl, _, rfl, T, _, rfl, DPut.t hT5 hbk (small20000 (by omega)), ?_⟩
            repeat first | refine hN _ _ ?_ | with_reducible refine cutR fun N hN => ?_
            refine ⟨putK tv5 k (.int rank), _, rfl, (fun x n => (upd_ne n).trans (k5 x n)), upd_same, nd_put hnd5, put_all_mem (P := fun v => ∃ n : Int, v = .int n ∧ 1 ≤ n ∧ n < rank + 1) htv5 ⟨rank, rfl, hri.1, by omega⟩, (fun k' => ?_), Nat.le_trans (length_putK _ _ _) (by omega)⟩
            rw [valV_put, hva5, List.take_add_one, hk0]
            by_cases z : k' = k
            · rw [if_pos z, if_pos (by rw [z]; simp)]
            · rw [if_neg z]
              have e : (k' ∈ rho.take i ++ (some k).toList) ↔ k' ∈ rho.take i := by simp [z]
              by_cases y : k' ∈ rho.take i
              · rw [if_pos y, if_pos (e.mpr y)]
              · rw [if_neg y, if_neg (fun x => y (e.mp x))]
          rintro σ H5 ⟨tv5, v65, rfl, k5, hT5, hnd5, htv5, hva5, hl5⟩
          rw [hrs.1, List.take_length] at hva5
          have c5 : ∀ c cs, H' c = some (.dK cs) → H5 c = some (.dK cs) := fun c cs e => (k5 c (ne_of e hT' (by intro z; cases z))).trans e
          have t5 : LT H' H5 := ⟨fun b xs e => (k5 b (ne_of e hT' (by intro z; cases z))).trans e, fun b xs e => (k5 b (ne_of e hT' (by intro z; cases z))).trans e⟩
          have hps5 := hps'.keep t5 c5
          have hpo5 := hps5.ok
          have lp5 : ∀ k who, LeftP H5 kvs k who ↔ LeftP H' kvs k who := fun k who => LeftP.keep hps' c5
          have elp5 : LeftP H5 kvs = LeftP H' kvs := by
            funext k who
            exact propext (lp5 k who)
          have hl5e := leftC_keep hpo' c5
          have kp5 : ∀ b ob, b ≠ T → H4 b = some ob → (∀ kv ∈ kvs, kv.2 ≠ .ref b) → H5 b = some ob := fun b ob n e m => (k5 b n).trans (kp b ob n e m)
          have keep4 : ∀ b ob, b ≠ T → H4 b = some ob → (∀ cs, ob ≠ .dK cs) → H5 b = some ob := fun b ob n e m => kp5 b ob n e fun kv hkv z => by
            obtain ⟨c, cs, e1, e2, _⟩ := hpo4 kv hkv
            rw [z] at e1
            cases e1
            rw [e] at e2
            exact m cs (Option.some.inj e2)
          have hWT : W ≠ T := ne_of_none eW hT
          have t45 : LT H4 H5 := ⟨fun b xs e => keep4 b _ (ne_of e eT4 (by intro z; cases z)) e (fun cs z => nomatch z), fun b xs e => keep4 b _ (ne_of e eT4 (by intro z; cases z)) e (fun cs z => nomatch z)⟩
          repeat first | refine hN _ _ ?_ | with_reducible refine cutR fun N hN => ?_
          refine ⟨_, rfl, _, rfl, _, rfl, D, W, R, kvs, wv, rs, rho, H1, ws, cm, rfl, (k5 D hTD.symm).trans hD', hps5, keep4 W _ hWT eW4 (fun cs z => nomatch z), hwo4.up t45 (Nat.le_refl _), (fun k who later z1 z2 => (hcm4 k who later (hsub k who ((lp5 k who).mp z1)) z2).up t45), (k5 R hRT).trans hR', hrs.imp (fun _ _ z => StV.up t5.2 z), Nat.le_trans (leftC_le hpo5) (by omega), fun B bs beta H6 hB ch6 hps6 hB6 hbs6 hlf6 hlp6 hbt6 => ?_⟩
          have hri6 : RankI ws cm tv5 beta (rank + 1) (LeftP H6 kvs) := RankI.step hri hva5 htv5 (fun k who => by rw [hlp6, lp5]) (fun k => by rw [hbt6, elp5])
          have hT6 : H6 T = some (.dT tv5) := ch6 T _ hT5 hTv
          repeat first | refine hN _ _ ?_ | with_reducible refine cutR fun N hN => ?_
          refine ⟨_, rfl, _, _, rfl, rfl, ⟨B, bs, beta, tv5, rank + 1, _, rfl, (fun b ob n e m => ch6 b ob (kp5 b ob n e m) m), hps6, hT6, hnd5, hB6, hbs6, hri6, (fun k who z => hsub k who ((lp5 k who).mp ((hlp6 k who).mp z).1)), by omega⟩, ?_⟩
          show 2 * leftC H6 kvs + (match H6 B with
            | some (.lst []) => 0
            | _ => 1) < 2 * leftC H' kvs + (match H' R with
            | some (.lst []) => 0
            | _ => 1)
          rw [mu0, hB6]
          cases bs with
          | nil =>
            show 2 * leftC H6 kvs + 0 < _
            have : leftC H6 kvs + 0 ≤ leftC H5 kvs := hlf6
            omega
          | cons x xs =>
            show 2 * leftC H6 kvs + 1 < _
            rw [List.length_cons] at hlf6
            omega
        · have hrs1 : rs = [] := by
            cases rs with
            | nil => rfl
            | cons x xs => exact absurd rfl hemp
          have hrho1 : rho = [] := by
            have := hrs.1
            rw [hrs1] at this
            exact List.length_eq_zero_iff.mp this.symm
          rw [hrho1] at hri
          repeat first | refine hN _ _ ?_ | with_reducible refine cutR fun N hN => ?_
          refine ⟨_, rfl, q T tv H' (s1.free (s2.free hT)) (fun b ob e => ?_) hT' hri.done htv (by omega)⟩
          have e4 := s34 _ _ (s13 _ _ (s1 _ _ e))
          refine kp b ob (fun z => ?_) e4 (fun kv hkv z => ?_)
          · have := s1.free (s2.free hT)
            rw [z, this] at e
            cases e
          · rw [hfr kv hkv b z] at e
            cases e
      · intro σ H0 Q1 Q2 z h1
        obtain ⟨_, e, k, t, h2⟩ := h1
        repeat first | refine hN _ _ ?_ | with_reducible refine cutR fun N hN => ?_
        exact ⟨_, e, k, t, z _ _ h2⟩
    · repeat first | refine hN _ _ ?_ | with_reducible refine cutR fun N hN => ?_
      exact ⟨_, rfl, E, fun _ _ _ z => z, .inr ⟨a, ws, cm, rfl, ha, hb, hqb, hl8, hp, he⟩⟩
/-! ### with_newcomer -/
noncomputable def sp_with_newcomer (K : PySem.W.Frag) : Sp := fun vs H Q _ => Ex4 fun (b : Addr) (ls : List Int) (q : Int) (wait : Int) => All4 (vs = [.ref b, .int wait]) (StAt H b ls q) (ls.length ≤ 8) (∀ (p : Addr) (H' : Hp), Same H H' → StAt H' p (ls ++ [wait]) q → Q (.ref p) H')
theorem ok_with_newcomer {fd  : FuncData} (T : Txt K mg ad C_NoHall C_TooMany C_Unsafe C_RoundError C_NoChain C_NoListener C_NoLoss C_NoPart C_NoRow C_NoStand C_NoWheel C_TooMuch) (F : Fun K "with_newcomer" "with_newcomer" s_with_newcomer ad.f_with_newcomer fd) : FnOk P w K mg base (CX1 P w) 1 ad.f_with_newcomer fd ["standing", "wait"] (sp_with_newcomer K) := by
  refine F.okN sc_with_newcomer (fun vs H Q E h => ?_) (fun cdv A outer s H vs Q E hr h => ?_)
  · rcases h with ⟨b, ls, n, wait, rfl, ⟨u, hb1, hb2⟩, hl8, q⟩ <;> rfl
  · obtain ⟨b, ls, n, wait, rfl, ⟨u, hb1, hb2⟩, hl8, q⟩ := h
    refine ⟨_, (pss_one (ps_ret (pe_tup (pa_cons (pe_op (op_catE K) (pe_ix (ix_sq K) (pv 0) pe_int (fun _ _ => rfl)) (pe_tup (pa_cons (pv 1) pa_nil))) (pa_cons (pe_ix (ix_sq K) (pv 0) pe_int (fun _ _ => rfl)) pa_nil))))), ?_⟩
    refine ⟨_, rfl, b, _, _, _, rfl, rfl, .inr (SqT.of hb1), rfl, _, rfl, lenOk, fun w hw => ?_⟩
    have s1 : Same H (upd H w (.tup [.int wait])) := Same.upd hw
    have e1 : (upd H w (.tup [.int wait])) w = some (.tup [.int wait]) := upd_same
    generalize upd H w (.tup [.int wait]) = H1 at s1 e1 ⊢

    refine ⟨u, w, _, _, rfl, rfl, SqT.of (s1 _ _ hb2), e1, by simp, small63 (by simp; omega), fun t H2 s2 e2 => ?_⟩
    refine ⟨_, rfl, b, _, _, _, rfl, rfl, .inr (SqT.of (s2 _ _ (s1 _ _ hb1))), rfl, lenOk, fun p hp => ?_⟩
    exact q p _ ((s1.trans s2).trans (Same.upd hp)) ⟨t, upd_same, by rw [← map_snoc]; exact Same.upd hp _ _ e2⟩
/-! ### joined -/
noncomputable def sp_joined (K : PySem.W.Frag) (C_NoHall C_TooMany C_Unsafe : Addr) : Sp := fun vs H Q E => (Ex7 fun (a b : Addr) (ws ls : List Int) (calm : Option Int) (q : Int) (wait : Int) => All9 (vs = [.ref a, .ref b, .int wait]) (HallAt H a ws calm) (StAt H b ls q) (ws.length < 8) (ls.length ≤ 8) ((∀ x ∈ ws, 1 ≤ x)) ((∀ c, calm = some c → 1 ≤ c)) (1 ≤ wait) (∀ (p : Addr) (H' : Hp), Same H H' → JoinAt H' p (ws ++ [wait]) calm (ls ++ [wait]) q → Q (.ref p) H')) ∨ (Ex7 fun (a b : Addr) (ws ls : List Int) (calm : Option Int) (q : Int) (wait : Int) => All6 (vs = [.ref a, .ref b, .int wait]) (HallAt H a ws calm) (StAt H b ls q) (ws.length ≤ 8) ((wait < 1 ∨ 8 ≤ ws.length)) (∀ H2, Same H H2 → E (.ref C_NoHall) none H2))
theorem ok_joined {fd fd_hall_of fd_with_newcomer : FuncData} (T : Txt K mg ad C_NoHall C_TooMany C_Unsafe C_RoundError C_NoChain C_NoListener C_NoLoss C_NoPart C_NoRow C_NoStand C_NoWheel C_TooMuch) (F : Fun K "joined" "joined" s_joined ad.f_joined fd) (G_hall_of : FnOk P w K mg base (CX1 P w) 1 ad.f_hall_of fd_hall_of ["waits", "calm"] (sp_hall_of K C_NoHall C_TooMany C_Unsafe)) (B_hall_of : Binds K fd_hall_of ["waits", "calm"] []) (B_hall_of_d : Binds K fd_hall_of ["waits", "calm"] [Value.none]) (G_with_newcomer : FnOk P w K mg base (CX1 P w) 1 ad.f_with_newcomer fd_with_newcomer ["standing", "wait"] (sp_with_newcomer K)) (B_with_newcomer : Binds K fd_with_newcomer ["standing", "wait"] []) : FnOk P w K mg base (CX1 P w) 2 ad.f_joined fd ["hall", "standing", "wait"] (sp_joined K C_NoHall C_TooMany C_Unsafe) := by
  refine F.okE sc_joined (fun vs H Q E h => ?_) (fun cdv A outer s H vs Q E hr h => ?_)
  · rcases h with ⟨a, b, ws, ls, calm, n, wait, rfl, ha, hb, hw8, hl8, hw1, hcm, hwt, q⟩ | ⟨a, b, ws, ls, calm, n, wait, rfl, ha, hb, hw8, bad, he⟩ <;> rfl
  · obtain h := h
    refine ⟨_, (pss_one (ps_ret (pe_tup (pa_cons (pe_callE G_hall_of (hr.mono (by decide)) rfl T.m_hall_of T.k_hall_of B_hall_of .nil passD (pa_cons (pe_op (op_catE K) (pe_ix (ix_sq K) (pv 0) pe_int (fun _ _ => rfl)) (pe_tup (pa_cons (pv 2) pa_nil))) (pa_cons (pe_ix (ix_sq K) (pv 0) pe_int (fun _ _ => rfl)) pa_nil))) (pa_cons (pe_call G_with_newcomer (hr.mono (by decide)) rfl T.m_with_newcomer T.k_with_newcomer B_with_newcomer .nil passN (pa_cons (pv 1) (pa_cons (pv 2) pa_nil))) pa_nil))))), ?_⟩
    rcases h with ⟨a, b, ws, ls, calm, n, wait, rfl, ha, hb, hw8, hl8, hw1, hcm, hwt, q⟩ | ⟨a, b, ws, ls, calm, n, wait, rfl, ha, hb, hw8, bad, he⟩
    · obtain ⟨t0, ha1, ha2⟩ := id ha
      refine ⟨_, rfl, a, _, _, _, rfl, rfl, .inr (SqT.of ha1), rfl, _, rfl, lenOk, fun w hw => ?_⟩
      have s1 : Same H (upd H w (.tup [.int wait])) := Same.upd hw
      have e1 : (upd H w (.tup [.int wait])) w = some (.tup [.int wait]) := upd_same
      generalize upd H w (.tup [.int wait]) = H1 at s1 e1 ⊢

      refine ⟨t0, w, _, _, rfl, rfl, SqT.of (s1 _ _ ha2), e1, by simp, small63 (by simp; omega), fun t H2 s2 e2 => ?_⟩
      have s12 := s1.trans s2
      rw [map_snoc] at e2

      refine ⟨_, rfl, a, _, _, _, rfl, rfl, .inr (SqT.of (s12 _ _ ha1)), rfl, E, fun _ _ _ z => z, .inl ⟨t, ws ++ [wait], calm, rfl, e2, by simp, by simp; omega, ?_, hcm, fun hh H3 s3 hH => ?_⟩⟩
      · intro x hx
        rcases List.mem_append.mp hx with z | z
        · exact hw1 x z
        · cases List.mem_singleton.mp z
          exact hwt
      refine ⟨_, rfl, _, rfl, b, ls, n, wait, rfl, (hb.same s12).same s3, hl8, fun ss H4 s4 hS => ?_⟩
      refine ⟨lenOk, fun p hp => ?_⟩
      exact q p _ (((s12.trans s3).trans s4).trans (Same.upd hp)) ⟨hh, ss, upd_same, (hH.same s4).same (Same.upd hp), hS.same (Same.upd hp)⟩
    · obtain ⟨t0, ha1, ha2⟩ := id ha
      refine ⟨_, rfl, a, _, _, _, rfl, rfl, .inr (SqT.of ha1), rfl, _, rfl, lenOk, fun w hw => ?_⟩
      have s1 : Same H (upd H w (.tup [.int wait])) := Same.upd hw
      have e1 : (upd H w (.tup [.int wait])) w = some (.tup [.int wait]) := upd_same
      generalize upd H w (.tup [.int wait]) = H1 at s1 e1 ⊢

      refine ⟨t0, w, _, _, rfl, rfl, SqT.of (s1 _ _ ha2), e1, by simp, small63 (by simp; omega), fun t H2 s2 e2 => ?_⟩
      have s12 := s1.trans s2
      rw [map_snoc] at e2

      refine ⟨_, rfl, a, _, _, _, rfl, rfl, .inr (SqT.of (s12 _ _ ha1)), rfl, E, fun _ _ _ z => z, .inr ⟨t, ws ++ [wait], calm, rfl, e2, ?_, fun H3 s3 => he H3 (s12.trans s3)⟩⟩
      rcases bad with z | z
      · exact .inr (.inr (.inl ⟨wait, by simp, z⟩))
      · exact .inr (.inl (by simp; omega))
/-! ### may_join -/
noncomputable def sp_may_join (K : PySem.W.Frag) (C_NoHall C_TooMany C_Unsafe : Addr) : Sp := fun vs H Q E => Ex7 fun (a b : Addr) (ws ls : List Int) (cm : Option Int) (q : Int) (wait : Int) => All9 (vs = [.ref a, .ref b, .int wait]) (HallAt H a ws cm) (StAt H b ls q) (ws.length ≤ 8) (ls.length ≤ 8) ((∀ x ∈ ws, 1 ≤ x)) ((∀ c, cm = some c → 1 ≤ c)) (((wait < 1 ∨ 8 ≤ ws.length) → ∀ H2, Same H H2 → E (.ref C_NoHall) none H2)) ((1 ≤ wait → ws.length < 8 → RkO (ws ++ [wait]) cm ∧ (3000 < prodI (qv cm) (ws ++ [wait]) → ∀ H2, Same H H2 → E (.ref C_TooMany) none H2) ∧ (prodI (qv cm) (ws ++ [wait]) ≤ 3000 → ∀ v H', Same H H' → Q v H')))
theorem ok_may_join {fd fd_joined fd_ranks : FuncData} (T : Txt K mg ad C_NoHall C_TooMany C_Unsafe C_RoundError C_NoChain C_NoListener C_NoLoss C_NoPart C_NoRow C_NoStand C_NoWheel C_TooMuch) (F : Fun K "may_join" "may_join" s_may_join ad.f_may_join fd) (G_joined : FnOk P w K mg base (CX1 P w) 2 ad.f_joined fd_joined ["hall", "standing", "wait"] (sp_joined K C_NoHall C_TooMany C_Unsafe)) (B_joined : Binds K fd_joined ["hall", "standing", "wait"] []) (G_ranks : FnOk P w K mg base (CX1 P w) 7 ad.f_ranks fd_ranks ["hall"] (sp_ranks K C_NoHall C_TooMany C_Unsafe)) (B_ranks : Binds K fd_ranks ["hall"] []) : FnOk P w K mg base (CX1 P w) 8 ad.f_may_join fd ["hall", "standing", "wait"] (sp_may_join K C_NoHall C_TooMany C_Unsafe) := by
  refine F.okE sc_may_join (fun vs H Q E h => ?_) (fun cdv A outer s H vs Q E hr h => ?_)
  · rcases h with ⟨a, b, ws, ls, cm, n, wait, rfl, ha, hb, hw8, hl8, hw1, hcm, hbad, hgood⟩ <;> rfl
  · obtain ⟨a, b, ws, ls, cm, n, wait, rfl, ha, hb, hw8, hl8, hw1, hcm, hbad, hgood⟩ := h
    refine ⟨_, (pss_cons (ps_set (i := 3) sc_may_join.nd rfl (Or.inl rfl) (pe_callE G_joined (hr.mono (by decide)) rfl T.m_joined T.k_joined B_joined .nil passD (pa_cons (pv 0) (pa_cons (pv 1) (pa_cons (pv 2) pa_nil))))) (pss_one (ps_ret (pe_cmp (pc_dnotin (hu20 hr) (pe_ix (ix_sq K) (pv 3) pe_int (fun _ _ => rfl)) (pe_callE G_ranks (hr.mono (by decide)) rfl T.m_ranks T.k_ranks B_ranks .nil passD (pa_cons (pe_ix (ix_sq K) (pv 3) pe_int (fun _ _ => rfl)) pa_nil))) rfl)))), ?_⟩
    by_cases h0 : wait < 1 ∨ 8 ≤ ws.length
    · exact ⟨_, rfl, _, rfl, _, rfl, E, fun _ _ _ z => z, .inr ⟨a, b, ws, ls, cm, n, wait, rfl, ha, hb, hw8, h0, hbad h0⟩⟩
    have h1 : 1 ≤ wait := by omega
    have h2 : ws.length < 8 := by omega
    obtain ⟨⟨k1, k2, k3, k4, k5⟩, htm, hok⟩ := hgood h1 h2
    refine ⟨_, rfl, _, rfl, _, rfl, E, fun _ _ _ z => z, .inl ⟨a, b, ws, ls, cm, n, wait, rfl, ha, hb, h2, hl8, hw1, hcm, h1, fun p H1 s1 hJ => ?_⟩⟩
    obtain ⟨hh, ss, hp, hH, hS⟩ := hJ
    by_cases h3 : 3000 < prodI (qv cm) (ws ++ [wait])
    · exact ⟨_, rfl, p, _, _, _, rfl, rfl, .inr (SqT.of hp), rfl, _, rfl, p, _, _, _, rfl, rfl, .inr (SqT.of hp), rfl, E, fun _ _ _ z => z, .inr ⟨hh, ws ++ [wait], cm, rfl, hH, k3, k4, k5, h3, fun H2 s2 => htm h3 H2 (s1.trans s2)⟩⟩
    refine ⟨_, rfl, p, _, _, _, rfl, rfl, .inr (SqT.of hp), rfl, _, rfl, p, _, _, _, rfl, rfl, .inr (SqT.of hp), rfl, E, fun _ _ _ z => z, .inl ⟨hh, ws ++ [wait], cm, rfl, hH, k1, k2, k3, k4, k5, by omega, fun T tv H2 hT s2 eT hrk hnd htl => ?_⟩⟩
    refine ⟨T, _, rfl, DGet.t eT (show StH H2 ss (ls ++ [wait], n) from hS.same s2), ?_⟩
    exact hok (by omega) _ H2 (s1.trans s2)
/-! ### lengthen_ways -/
noncomputable def sp_lengthen_ways (K : PySem.W.Frag) : Sp := fun vs H Q _ => Ex12 fun (a U Wd En : Addr) (ws : List Int) (tu wv : List ((List Int × Int) × V)) (es : List V) (E : List (List Int × Int)) (W : (List Int × Int) → Option (List Nat)) (r : Nat) (N : Addr → Prop) => All15 (vs = [.ref a, .ref U, .ref Wd, .ref En]) (HallAt H a ws none) ((∀ x ∈ ws, 1 ≤ x)) (ws.length ≤ 8) (H U = some (.dT tu)) (U ≠ Wd) (H Wd = some (.dT wv)) (WayR H N wv W r) ((∀ l, H l = none → N l)) (H En = some (.lst es)) (AllAt (StV H) E es) ((∀ k ∈ E, (W k).isSome = true ∧ k ∈ standL ws 1)) (WKeys ws wv) (r ≤ 5000) (∀ (F : Addr) (fs : List V) (Fr : List (List Int × Int)) (wv' : List ((List Int × Int) × V)) (W' : (List Int × Int) → Option (List Nat)) (H' : Hp), H F = none → But Wd H H' → H' F = some (.lst fs) → AllAt (StV H') Fr fs → fs.length + wv.length = wv'.length → H' Wd = some (.dT wv') → WayR H' N wv' W' (r + 1) → WKeys ws wv' → Longer (nxS ws) ws.length (okS tu) W W' E Fr → Q (.ref F) H')
theorem ok_lengthen_ways {fd fd_after : FuncData} (T : Txt K mg ad C_NoHall C_TooMany C_Unsafe C_RoundError C_NoChain C_NoListener C_NoLoss C_NoPart C_NoRow C_NoStand C_NoWheel C_TooMuch) (F : Fun K "lengthen_ways" "lengthen_ways" s_lengthen_ways ad.f_lengthen_ways fd) (G_after : FnOk P w K mg base (CX1 P w) 4 ad.f_after fd_after ["hall", "standing", "who", "lost"] (sp_after K)) (B_after : Binds K fd_after ["hall", "standing", "who", "lost"] []) (B_after_d : Binds K fd_after ["hall", "standing", "who", "lost"] [Value.bool false]) : FnOk P w K mg base (CX1 P w) 5 ad.f_lengthen_ways fd ["hall", "unsafe", "ways", "ends"] (sp_lengthen_ways K) := by
  refine F.okN sc_lengthen_ways (fun vs H Q E h => ?_) (fun cdv A outer s H vs Q E hr h => ?_)
  · rcases h with ⟨a, U, Wd, En, ws, tu, wv, es, E, W, r, N, rfl, ha, hw1, h8, hU, hUW, hWd, hwr, hN, hEn, hes, hE, hwk, hr5, q⟩ <;> rfl
  · obtain ⟨a, U, Wd, En, ws, tu, wv, es, E, W, r, N, rfl, ha, hw1, h8, hU, hUW, hWd, hwr, hN, hEn, hes, hE, hwk, hr5, q⟩ := h
    refine ⟨_, (pss_cons (ps_set (i := 4) sc_lengthen_ways.nd rfl (Or.inl rfl) (pe_lst pa_nil)) (pss_cons (ps_for PassesOwn.never rfl (pi_eq (w' := iSq K _) (pi_sq (pv 3))) (pg_name (i := 5) sc_lengthen_ways.nd rfl (Or.inl rfl)) (pss_one (ps_for PassesOwn.never rfl (pi_range1 (by rfl) T.n_range (pa_cons (pe_callB (call_lenK K) (by rfl) T.n_len PySem.boot_len (pa_cons (pe_ix (ix_sq K) (pv 0) pe_int (fun _ _ => rfl)) pa_nil)) pa_nil)) (pg_name (i := 6) sc_lengthen_ways.nd rfl (Or.inl rfl)) (pss_cons (ps_set (i := 7) sc_lengthen_ways.nd rfl (Or.inl rfl) (pe_N (pe_call G_after (hr.mono (by decide)) rfl T.m_after T.k_after B_after_d (vals_d_after) passN (pa_cons (pv 0) (pa_cons (pv 5) (pa_cons (pv 6) pa_nil)))))) (pss_one (ps_ifJ (PW.pt (pw_andX (pt_cmpR op_notN (pv 7) pe_non (nomark _)) (pw_andX (pt_cmp (pc_dnotin (hu20 hr) (pv 7) (pv 1)) rfl) (pw_and1 (pt_cmp (pc_dnotin (hu20 hr) (pv 7) (pv 2)) rfl))))) (pss_cons (ps_dput (hu20 hr) (pv 2) (pv 7) (pe_op op_cat (pe_dget (hu20 hr) (pv 2) (pv 5) (fun _ _ => rfl)) (pe_lst (pa_cons (pv 6) pa_nil))) rfl) (pss_one (ps_expr (pe_eq (u' := tBM K _ _ _ _) (pe_bm PySem.F.plainAttrs_list PySem.F.slot_list_append PySem.F.type_list_append mt_append (pv 4) (pa_cons (pv 7) pa_nil)))))) pss_nil)))))) (pss_one (ps_ret (pv 4))))), ?_⟩
    obtain ⟨wt, ha1, ha2⟩ := id ha
    refine ⟨lenOk, fun F hF => ?_⟩
    have s1 : Same H (upd H F (.lst [])) := Same.upd hF
    have e1 : (upd H F (.lst [])) F = some (.lst []) := upd_same
    generalize upd H F (.lst []) = H1 at s1 e1 ⊢

    have hFW : F ≠ Wd := fun z => by rw [z, hWd] at hF; cases hF
    have nEn : En ≠ Wd := fun z => by rw [z, hWd] at hEn; cases hEn
    have nt : ∀ {b : Addr} {xs : List V}, H b = some (.tup xs) → b ≠ Wd := fun e z => by rw [z, hWd] at e; cases e
    refine ⟨_, rfl, En, rfl, .inl ⟨⟨_, SqL.of (s1 _ _ hEn)⟩, ?_⟩⟩
    refine for_list (K := K) (a := En) (xs := es) (fun i σ H' => Ex3 fun (v5 v6 v7 : Option V) => σ = [some (.ref a), some (.ref U), some (.ref Wd), some (.ref En), some (.ref F), v5, v6, v7] ∧ LwI H N F Wd ws tu wv E W r (fun e w => w < ws.length ∧ ∃ i', i' < i ∧ E[i']? = some e) H')
      ⟨_, _, _, rfl, [], [], wv, W, e1, AllAt.nil, by simp, s1 _ _ hWd, ⟨hwr.1, fun k ns h => ?_⟩, hwk, LongP.start (fun e w h => by obtain ⟨_, i', h1, _⟩ := h; omega), But.of s1⟩ (by rintro i σ H' _ ⟨_, _, _, _, _, _, _, _, _, _, _, _, _, _, _, b⟩; exact SqL.of (b _ _ nEn hEn)) ?_ ?_
    · obtain ⟨h1, l, h2, h3, h4⟩ := hwr.2 k ns h
      exact ⟨by omega, l, h2, ⟨h3, ne_of_none h4 hF⟩, s1 _ _ h4⟩
    · rintro i u σ H2 hu ⟨v5, v6, v7, rfl, hI⟩
      obtain ⟨z, hz, p, pu, rfl, hz1, hz2⟩ := hes.get hu
      have hzE := List.mem_of_getElem? hz
      obtain ⟨m1, _⟩ := stand_get (hE z hzE).2
      have b2 : But Wd H H2 := by
        obtain ⟨_, _, _, _, _, _, _, _, _, _, _, b⟩ := hI
        exact b
      refine ⟨_, rfl, a, _, _, _, rfl, rfl, .inr (SqT.of (b2 _ _ (nt ha1) ha1)), rfl, wt, _, rfl, .inr (SqT.of (b2 _ _ (nt ha2) ha2)), _, rfl, by omega, by rw [List.length_map]; omega, ?_⟩
      refine for_range (n := (ws.map V.int).length) (fun j σ H' => Ex2 fun (v6 v7 : Option V) => σ = [some (.ref a), some (.ref U), some (.ref Wd), some (.ref En), some (.ref F), some (.ref p), v6, v7] ∧ LwI H N F Wd ws tu wv E W r (fun e w => w < ws.length ∧ ((∃ i', i' < i ∧ E[i']? = some e) ∨ (e = z ∧ w < j))) H') ⟨_, _, rfl, hI.weak (fun e w h => ⟨h.1, h.2.elim id (fun y => absurd y.2 (Nat.not_lt_zero _))⟩)⟩ ?_ ?_
      · rintro j σ H3 hj ⟨v6, v7, rfl, fs, Fr, wv1, W1, hF3, hfs, hlen, hW3, hwr3, hwk3, hlp, b3⟩
        rw [List.length_map] at hj
        have hk1 := hwk3.len
        have hst3 : StAt H3 p z.1 z.2 := ⟨pu, b3 _ _ (nt hz1) hz1, b3 _ _ (nt hz2) hz2⟩
        have ha3 : HallAt H3 a ws none := ⟨wt, b3 _ _ (nt ha1) ha1, b3 _ _ (nt ha2) ha2⟩
        have hP : ∀ (e' : List Int × Int) (w' : Nat), (w' < ws.length ∧ ((∃ i', i' < i ∧ E[i']? = some e') ∨ (e' = z ∧ w' < j + 1))) → (w' < ws.length ∧ ((∃ i', i' < i ∧ E[i']? = some e') ∨ (e' = z ∧ w' < j))) ∨ (e' = z ∧ w' = j) := fun e' w' h => by
          rcases h with ⟨h1, h2 | ⟨h2, h3⟩⟩
          · exact .inl ⟨h1, .inl h2⟩
          · by_cases y : w' = j
            · exact .inr ⟨h2, y⟩
            · exact .inl ⟨h1, .inr ⟨h2, by omega⟩⟩
        have e0 : (0 : Int) + (j : Int) = (j : Int) := Int.zero_add _
        rw [e0]
        refine ⟨(fun v H9 => BehV H9 (nxS ws z j) v ∧ Same H3 H9), ⟨_, rfl, _, rfl, _, rfl, a, p, ws, z.1, none, z.2, j, false, rfl, ha3, hst3, hj, m1, h8, (fun z => nomatch z), (fun hz H2 s2 => ⟨by unfold nxS aft; rw [if_pos hz]; rfl, s2⟩), fun hz p H2 s2 hst => ⟨by unfold nxS aft; rw [if_neg hz]; exact ⟨p, rfl, hst⟩, s2⟩⟩, ?_⟩
        rintro v H4 ⟨hv, s4⟩
        obtain ⟨rr, hn⟩ : ∃ rr, nxS ws z j = rr := ⟨_, rfl⟩
        rw [hn] at hv
        cases rr with
        | none =>
          have hv0 : v = .non := hv
          subst hv0
          refine ⟨_, rfl, rfl, _, rfl, false, (fun h => by simp at h), _, fun h => ?_, fun h => ?_, fun _ _ z => z⟩
          · simp at h
          · exact ⟨_, _, rfl, fs, Fr, wv1, W1, s4 _ _ hF3, hfs.imp (fun _ _ y => StV.up (Tups.of s4) y), hlen, s4 _ _ hW3, hwr3.up (fun l xs _ e => s4 _ _ e), hwk3, hlp.skip (e := z) (w := j) hP (fun k e => by rw [hn] at e; cases e), b3.trans (But.of s4)⟩
        | some k =>
          obtain ⟨b, rfl, hb⟩ := hv
          have hbk : StH H4 b k := hb
          have hst4 : StH H4 p z := hst3.same s4
          have hU4 : H4 U = some (.dT tu) := s4 _ _ (b3 _ _ hUW hU)
          have hW4 := s4 _ _ hW3
          refine ⟨_, rfl, rfl, _, rfl, (!(valV tu k).isSome && !(valV wv1 k).isSome), (fun _ Q1 h1 => ⟨_, rfl, _, rfl, U, _, rfl, DGet.t hU4 hbk, _, rfl, (!(valV wv1 k).isSome), (fun _ Q2 h2 => ⟨_, rfl, _, rfl, Wd, _, rfl, DGet.t hW4 hbk, _, rfl, h2⟩), h1⟩), _, fun h => ?_, fun h => ?_, fun _ _ z => z⟩
          · have h' : valV tu k = none ∧ valV wv1 k = none := by simpa using h
            obtain ⟨m, hm⟩ := Option.isSome_iff_exists.mp (hE z hzE).1
            obtain ⟨hmr, _⟩ := hwr.2 z m hm
            obtain ⟨_, l, hl1, hl2, hl3⟩ := hwr3.2 z m (hlp.old z m hm)
            refine ⟨_, rfl, _, rfl, Wd, .ref l, rfl, (by rw [← hl1]; exact DGet.t hW4 hst4), _, rfl, lenOk, fun x hx => ?_⟩
            have s5 : Same H4 (upd H4 x (.lst [.int (j : Int)])) := Same.upd hx
            have e5 : (upd H4 x (.lst [.int (j : Int)])) x = some (.lst [.int (j : Int)]) := upd_same
            generalize upd H4 x (.lst [.int (j : Int)]) = H5 at s5 e5 ⊢

            refine ⟨l, x, _, _, rfl, rfl, s5 _ _ (s4 _ _ hl3), e5, Nat.le_of_lt (small20000 (by unfold nI; rw [List.length_map, List.length_singleton]; omega)), fun y hy => ?_⟩
            rw [nI_snoc]
            have s6 : Same H5 (upd H5 y (.lst (nI (m ++ [j])))) := Same.upd hy
            have e6 : (upd H5 y (.lst (nI (m ++ [j])))) y = some (.lst (nI (m ++ [j]))) := upd_same
            generalize upd H5 y (.lst (nI (m ++ [j]))) = H6 at s6 e6 ⊢

            have s46 := s5.trans s6
            have hW6 := s46 _ _ hW4
            have hF6 := s46 _ _ (s4 _ _ hF3)
            refine ⟨_, rfl, _, rfl, Wd, _, rfl, DPut.t hW6 (show StH H6 b k from hb.same s46) (small20000 (by omega)), ?_⟩
            have hyF : y ≠ F := fun z => by rw [z, s5 _ _ (s4 _ _ hF3)] at hy; cases hy
            have hyW : y ≠ Wd := fun z => by rw [z, s5 _ _ hW4] at hy; cases hy
            have hHy : H y = none := by
              cases e : H y with
              | none => rfl
              | some o =>
                have h9 := s5 _ _ (s4 _ _ (b3 _ _ hyW e))
                rw [hy] at h9
                cases h9
            have hwy : WayR H6 (fun l => N l ∧ l ≠ F) (putK wv1 k (.ref y)) (fun k' => if k' = k then some (m ++ [j]) else W1 k') (r + 1) := way_put (hwr3.up (fun l xs _ e => s46 _ _ (s4 _ _ e))) e6 ⟨hN _ hHy, hyF⟩ (by rw [List.length_append, List.length_singleton]; omega)
            have ep : putK wv1 k (.ref y) = wv1 ++ [(k, .ref y)] := putK_new _ h'.2
            have b7 : But Wd H6 (upd H6 Wd (.dT (putK wv1 k (.ref y)))) := fun b o n e => (upd_ne n).trans e
            have t7 : Tups H6 (upd H6 Wd (.dT (putK wv1 k (.ref y)))) := b7.tups hW6
            have e7 : (upd H6 Wd (.dT (putK wv1 k (.ref y)))) Wd = some (.dT (putK wv1 k (.ref y))) := upd_same
            rw [ep] at hwy b7 t7 e7 ⊢
            generalize upd H6 Wd (.dT (wv1 ++ [(k, .ref y)])) = H7 at b7 t7 e7 ⊢
            have hF7 := b7 _ _ hFW hF6
            have hfl : fs.length ≤ 3000 := by omega
            refine ⟨_, rfl, .inl ⟨rfl, _, SqL.of hF7⟩, _, rfl, F, fs, _, rfl, rfl, hF7, small20000 (by omega), ?_⟩
            have t8 : Tups H7 (upd H7 F (.lst (fs ++ [.ref b]))) := Tups.lst hF7
            have e8 : (upd H7 F (.lst (fs ++ [.ref b]))) F = some (.lst (fs ++ [.ref b])) := upd_same
            have o8 : ∀ b' o, b' ≠ F → H7 b' = some o → (upd H7 F (.lst (fs ++ [.ref b]))) b' = some o := fun b' o n e => (upd_ne n).trans e
            generalize upd H7 F (.lst (fs ++ [.ref b])) = H8 at t8 e8 o8 ⊢
            have t48 : Tups H4 H8 := ((Tups.of s46).trans t7).trans t8
            have hks : k ∈ standL ws 1 := aft_in (cm := none) (lost := false) hw1 (hE z hzE).2 hj (by unfold lossL; split <;> simp) hn
            obtain ⟨bu, hb1, hb2⟩ := hb
            have hW1k : W1 k = none := by
              have := hwr3.1 k
              rw [h'.2] at this
              cases e : W1 k with
              | none => rfl
              | some _ => rw [e] at this; cases this
            refine ⟨_, _, rfl, fs ++ [.ref b], Fr ++ [k], wv1 ++ [(k, .ref y)], (fun k' => if k' = k then some (m ++ [j]) else W1 k'), e8, (hfs.imp (fun _ _ y => StV.up ((Tups.of s4).trans t48) y)).append (AllAt.one ⟨b, bu, rfl, t48 _ _ hb1, t48 _ _ hb2⟩), (by rw [List.length_append, List.length_append, List.length_singleton, List.length_singleton]; omega), o8 _ _ hFW.symm e7, hwy.up (fun l xs n e => o8 _ _ n.2 (b7 _ _ (fun z => by rw [z, hW6] at e; cases e) e)), ⟨?_, ?_, hwk3.2.2⟩, hlp.put (e := z) (k := k) (w := j) (m := m) hP hzE hj hm hn (by unfold okS; rw [h'.1]; rfl) hW1k (if_pos rfl) (fun k' e => if_neg e), fun b' o n e => o8 _ _ (ne_of_none e hF) (b7 _ _ n (s46 _ _ (s4 _ _ (b3 _ _ n e))))⟩
            · rw [List.map_append]
              exact nodup_snoc2 hwk3.1 (valV_not h'.2)
            · rw [List.map_append]
              exact mem_snoc hwk3.2.1 hks
          · refine ⟨_, _, rfl, fs, Fr, wv1, W1, s4 _ _ hF3, hfs.imp (fun _ _ y => StV.up (Tups.of s4) y), hlen, hW4, hwr3.up (fun l xs _ e => s4 _ _ e), hwk3, hlp.skip (e := z) (w := j) hP (fun k' e1 e2 => ?_), b3.trans (But.of s4)⟩
            rw [hn] at e1
            cases e1
            rw [← hwr3.1 k]
            have e3 : valV tu k = none := by simpa [okS] using e2
            cases e4 : valV wv1 k with
            | some _ => rfl
            | none => rw [e3, e4] at h; simp at h
      · rintro σ H3 ⟨v6, v7, rfl, hI3⟩
        refine ⟨_, _, _, rfl, hI3.weak (fun e w h => ⟨h.1, ?_⟩)⟩
        obtain ⟨h1, i', h2, h3⟩ := h
        by_cases y : i' = i
        · subst y
          rw [hz] at h3
          cases h3
          exact .inr ⟨rfl, by rw [List.length_map]; exact h1⟩
        · exact .inl ⟨i', by omega, h3⟩
    · rintro σ H2 ⟨v5, v6, v7, rfl, fs, Fr, wv1, W1, hF2, hfs, hlen2, hW2, hwr2, hwk2, hlp, hb⟩
      refine ⟨_, rfl, q F fs Fr wv1 W1 H2 hF hb hF2 hfs hlen2 hW2 ⟨hwr2.1, fun k ns h => ?_⟩ hwk2 (hlp.done fun e he w hw => ?_)⟩
      · obtain ⟨h1, l, h2, h3, h4⟩ := hwr2.2 k ns h
        exact ⟨h1, l, h2, h3.1, h4⟩
      · obtain ⟨i', hi'⟩ := List.mem_iff_getElem?.mp he
        refine ⟨hw, i', ?_, hi'⟩
        have := (List.getElem?_eq_some_iff.mp hi').1
        have hl : es.length = E.length := hes.1
        omega
/-! ### way_in -/
noncomputable def sp_way_in (K : PySem.W.Frag) (C_NoHall C_TooMany C_Unsafe : Addr) : Sp := fun vs H Q E => Ex7 fun (a b : Addr) (ws ls : List Int) (cm : Option Int) (q : Int) (wait : Int) => All8 (vs = [.ref a, .ref b, .int wait]) (HallAt H a ws cm) (StAt H b ls q) (ws.length ≤ 8) (ls.length ≤ 8) ((∀ x ∈ ws, 1 ≤ x)) (((cm ≠ none ∨ wait < 1 ∨ 8 ≤ ws.length) → ∀ H2, Same H H2 → E (.ref C_NoHall) none H2)) ((cm = none → 1 ≤ wait → ws.length < 8 → RkO (ws ++ [wait]) none ∧ (3000 < prodI 1 (ws ++ [wait]) → ∀ H2, Same H H2 → E (.ref C_TooMany) none H2) ∧
  (prodI 1 (ws ++ [wait]) ≤ 3000 → q = 0 ∧ (ls, 0) ∈ standL ws 1 ∧ WOk ws wait ∧ (∀ tv v H', Same H H' → RankOk ws none tv → ¬ (valV tv (ls, 0)).isSome = true → Q v H') ∧ (∀ tv H2, Same H H2 → RankOk ws none tv → (valV tv (ls, 0)).isSome = true → E (.ref C_Unsafe) none H2))))
theorem ok_way_in {fd fd_ranks fd_joined fd_lengthen_ways fd_with_newcomer : FuncData} (T : Txt K mg ad C_NoHall C_TooMany C_Unsafe C_RoundError C_NoChain C_NoListener C_NoLoss C_NoPart C_NoRow C_NoStand C_NoWheel C_TooMuch) (F : Fun K "way_in" "way_in" s_way_in ad.f_way_in fd) (G_ranks : FnOk P w K mg base (CX1 P w) 7 ad.f_ranks fd_ranks ["hall"] (sp_ranks K C_NoHall C_TooMany C_Unsafe)) (B_ranks : Binds K fd_ranks ["hall"] []) (G_joined : FnOk P w K mg base (CX1 P w) 2 ad.f_joined fd_joined ["hall", "standing", "wait"] (sp_joined K C_NoHall C_TooMany C_Unsafe)) (B_joined : Binds K fd_joined ["hall", "standing", "wait"] []) (G_lengthen_ways : FnOk P w K mg base (CX1 P w) 5 ad.f_lengthen_ways fd_lengthen_ways ["hall", "unsafe", "ways", "ends"] (sp_lengthen_ways K)) (B_lengthen_ways : Binds K fd_lengthen_ways ["hall", "unsafe", "ways", "ends"] []) (G_with_newcomer : FnOk P w K mg base (CX1 P w) 1 ad.f_with_newcomer fd_with_newcomer ["standing", "wait"] (sp_with_newcomer K)) (B_with_newcomer : Binds K fd_with_newcomer ["standing", "wait"] []) : FnOk P w K mg base (CX1 P w) 8 ad.f_way_in fd ["hall", "standing", "wait"] (sp_way_in K C_NoHall C_TooMany C_Unsafe) := by
  refine F.okE sc_way_in (fun vs H Q E h => ?_) (fun cdv A outer s H vs Q E hr h => ?_)
  · rcases h with ⟨a, b, ws, ls, cm, n, wait, rfl, ha, hb, hw8, hl8, hw1, hbad, hgood⟩ <;> rfl
  · obtain ⟨a, b, ws, ls, cm, n, wait, rfl, ha, hb, hw8, hl8, hw1, hbad, hgood⟩ := h
    refine ⟨_, (pss_cons (ps_if (pt_cmpR op_notN (pe_ix (ix_sq K) (pv 0) pe_int (fun _ _ => rfl)) pe_non (nomark _)) (pss_one (ps_raise raiseD rfl (by rfl) T.c_NoHall T.e_NoHall (pa_cons pe_str pa_nil))) pss_nil) (pss_cons (ps_set (i := 3) sc_way_in.nd rfl (Or.inl rfl) (pe_ix (ix_sq K) (pe_callE G_joined (hr.mono (by decide)) rfl T.m_joined T.k_joined B_joined .nil passD (pa_cons (pv 0) (pa_cons (pv 1) (pa_cons (pv 2) pa_nil)))) pe_int (fun _ _ => rfl))) (pss_cons (ps_set (i := 4) sc_way_in.nd rfl (Or.inl rfl) (pe_callE G_ranks (hr.mono (by decide)) rfl T.m_ranks T.k_ranks B_ranks .nil passD (pa_cons (pv 3) pa_nil))) (pss_cons (ps_set (i := 5) sc_way_in.nd rfl (Or.inl rfl) (pe_callE G_ranks (hr.mono (by decide)) rfl T.m_ranks T.k_ranks B_ranks .nil passD (pa_cons (pv 0) pa_nil))) (pss_cons (ps_if (pt_cmp (pc_din (hu20 hr) (pv 1) (pv 5)) rfl) (pss_one (ps_raise raiseD rfl (by rfl) T.c_Unsafe T.e_Unsafe (pa_cons pe_str pa_nil))) pss_nil) (pss_cons (ps_set (i := 6) sc_way_in.nd rfl (Or.inl rfl) (pe_dispT (hu20 hr) (pv 1) (by exact (pe_lst pa_nil)))) (pss_cons (ps_set (i := 7) sc_way_in.nd rfl (Or.inl rfl) (pe_lst (pa_cons (pv 1) pa_nil))) (pss_cons (ps_while ownD (pt_truth (pv 7) (by intro _; rfl)) (pss_cons (ps_for ownD rfl (pi_eq (w' := iSq K _) (pi_sq (pv 7))) (pg_name (i := 8) sc_way_in.nd rfl (Or.inl rfl)) (pss_one (ps_if (pt_cmp (pc_dnotin (hu20 hr) (pe_call G_with_newcomer (hr.mono (by decide)) rfl T.m_with_newcomer T.k_with_newcomer B_with_newcomer .nil passN (pa_cons (pv 8) (pa_cons (pv 2) pa_nil))) (pv 4)) rfl) (pss_one (ps_ret (pe_dget (hu20 hr) (pv 6) (pv 8) (fun _ _ => rfl)))) pss_nil))) (pss_one (ps_set (i := 7) sc_way_in.nd rfl (Or.inl rfl) (pe_call G_lengthen_ways (hr.mono (by decide)) rfl T.m_lengthen_ways T.k_lengthen_ways B_lengthen_ways .nil passN (pa_cons (pv 0) (pa_cons (pv 5) (pa_cons (pv 6) (pa_cons (pv 7) pa_nil))))))))) (pss_one (ps_ret pe_non)))))))))), ?_⟩
    obtain ⟨wt, ha1, ha2⟩ := id ha
    by_cases hc : cm ≠ none
    · refine ⟨_, rfl, a, _, _, _, rfl, rfl, .inr (SqT.of ha1), rfl, rfl, _, rfl, ite_t ?_ ⟨oneLine, hbad (.inl hc)⟩⟩
      cases cm with
      | none => exact absurd rfl hc
      | some c => simp [vO]
    have hc2 : cm = none := Classical.byContradiction hc
    clear hc
    subst hc2
    refine ⟨_, rfl, a, _, _, _, rfl, rfl, .inr (SqT.of ha1), rfl, rfl, _, rfl, ?_⟩
    refine ite2 (fun h => absurd h (by simp [vO])) (fun _ => ?_)
    by_cases h0 : wait < 1 ∨ 8 ≤ ws.length
    · exact ⟨_, rfl, _, rfl, _, rfl, E, fun _ _ _ z => z, .inr ⟨a, b, ws, ls, none, n, wait, rfl, ha, hb, hw8, h0, hbad (.inr h0)⟩⟩
    obtain ⟨⟨p1, p2, p3, p4, p5⟩, htm, hok⟩ := hgood rfl (by omega) (by omega)
    refine ⟨_, rfl, _, rfl, _, rfl, E, fun _ _ _ z => z, .inl ⟨a, b, ws, ls, none, n, wait, rfl, ha, hb, by omega, by omega, hw1, (fun c e => nomatch e), by omega, fun p H1 s1 hJ => ?_⟩⟩
    obtain ⟨hh, ss, hp, hH, hS⟩ := hJ
    refine ⟨p, _, _, _, rfl, rfl, .inr (SqT.of hp), rfl, ?_⟩
    by_cases h3 : 3000 < prodI 1 (ws ++ [wait])
    · exact ⟨_, rfl, E, fun _ _ _ z => z, .inr ⟨hh, ws ++ [wait], none, rfl, hH, p3, p4, p5, h3, fun H2 s2 => htm h3 H2 (s1.trans s2)⟩⟩
    obtain ⟨rfl, hks, hwo, q, he⟩ := hok (by omega)
    have hw7 := hwo.2.2.1
    have hll : ls.length = ws.length := (stand_get hks).1
    obtain ⟨r1, r2, r3, r4, r5, r6⟩ := hwo.rk
    refine ⟨_, rfl, E, fun _ _ _ z => z, .inl ⟨hh, ws ++ [wait], none, rfl, hH, p1, p2, p3, p4, p5, (by show prodI 1 (ws ++ [wait]) ≤ 3000; omega), fun TW tw1 H2 hTW s2 eTW hrw _ _ => ?_⟩⟩
    refine ⟨_, rfl, E, fun _ _ _ z => z, .inl ⟨a, ws, none, rfl, (ha.same s1).same s2, r1, r2, r3, r4, r5, r6, fun TU tu1 H3 hTU s3 eTU hru _ _ => ?_⟩⟩
    have s03 := (s1.trans s2).trans s3
    have goal_eq : ∀ k : List Int × Int, goalS tw1 wait k = !(valV tw1 (k.1 ++ [wait], k.2)).isSome := fun k => by
      unfold goalS
      rw [okS_not]
    have hb3 := hb.same s03
    refine ⟨_, rfl, _, rfl, TU, _, rfl, DGet.t eTU (show StH H3 b (ls, 0) from hb3), _, rfl, ?_⟩
    refine ite2 (fun h => ⟨oneLine, fun H4 s4 => he tu1 H4 (s03.trans s4) hru h⟩) (fun hnv => ?_)
    have hv1 : valV tu1 (ls, 0) = none := by
      cases e : valV tu1 (ls, 0) with
      | none => rfl
      | some v => rw [e] at hnv; exact absurd rfl hnv
    refine fun Wd hWd => ?_
    have s4 : Same H3 (upd H3 Wd (.dT [])) := Same.upd hWd
    have e4 : (upd H3 Wd (.dT [])) Wd = some (.dT []) := upd_same
    generalize upd H3 Wd (.dT []) = H4 at s4 e4 ⊢

    refine ⟨_, rfl, lenOk, fun l0 hl0 => ?_⟩
    have s5 : Same H4 (upd H4 l0 (.lst [])) := Same.upd hl0
    have e5 : (upd H4 l0 (.lst [])) l0 = some (.lst []) := upd_same
    generalize upd H4 l0 (.lst []) = H5 at s5 e5 ⊢

    have hb5 := (hb3.same s4).same s5
    refine ⟨s5 _ _ e4, b, (ls, 0), .ref l0, rfl, hb5, ?_⟩
    have hlW : l0 ≠ Wd := fun z => by rw [z, e4] at hl0; cases hl0
    have b6 : But Wd H5 (upd H5 Wd (.dT [((ls, 0), .ref l0)])) := fun b o n e => (upd_ne n).trans e
    have e6 : (upd H5 Wd (.dT [((ls, 0), .ref l0)])) Wd = some (.dT [((ls, 0), .ref l0)]) := upd_same
    generalize upd H5 Wd (.dT [((ls, 0), .ref l0)]) = H6 at b6 e6 ⊢
    refine ⟨_, rfl, lenOk, fun En hEn => ?_⟩
    have s7 : Same H6 (upd H6 En (.lst [.ref b])) := Same.upd hEn
    have e7 : (upd H6 En (.lst [.ref b])) En = some (.lst [.ref b]) := upd_same
    generalize upd H6 En (.lst [.ref b]) = H7 at s7 e7 ⊢

    have k37 : Same H3 H7 := fun b' o e => s7 _ _ (b6 _ _ (ne_of_none e hWd) (s5 _ _ (s4 _ _ e)))
    have hUW : TU ≠ Wd := ne_of_none eTU hWd
    obtain ⟨bu, hb71, hb72⟩ := hb3.same k37
    have hE0 : ∀ k ∈ [(ls, (0 : Int))], ((fun k' : List Int × Int => if k' = (ls, 0) then some ([] : List Nat) else none) k).isSome = true ∧ k ∈ standL ws 1 := fun k hk => by
      cases List.mem_singleton.mp hk
      exact ⟨by simp, hks⟩
    have hst0 : WayR H7 (fun l => H l = none) [((ls, 0), .ref l0)] (fun k' => if k' = (ls, 0) then some [] else none) 0 := way_put (wv := []) (W := fun _ => none) (r := 0) (k := (ls, 0)) (m := []) ⟨fun _ => rfl, fun k ns h => nomatch h⟩ (s7 _ _ (b6 _ _ hlW e5)) ((s03.trans s4).free hl0) (Nat.le_refl _)
    have hkeys0 : ∀ k ∈ [((ls, (0 : Int)), V.ref l0)].map (·.1), k ∈ standL ws 1 := fun k hk => by
      have e : k = (ls, 0) := by simpa using hk
      rw [e]
      exact hks
    dsimp only
    refine gset ?_
    refine wseq ?_
    refine while_by (fun σ' H' => Ex7 fun (En : Addr) (es : List V) (E : List (List Int × Int)) (wv : List ((List Int × Int) × V)) (W : (List Int × Int) → Option (List Nat)) (r : Nat) (v8 : Option V) => All11 (σ' = [some (.ref a), some (.ref b), some (.int wait), some (.ref hh), some (.ref TW), some (.ref TU), some (.ref Wd), some (.ref En), v8]) (Same H3 H') (H' En = some (.lst es)) (AllAt (StV H') E es) ((∀ k ∈ E, (W k).isSome = true ∧ k ∈ standL ws 1)) (H' Wd = some (.dT wv)) (WayR H' (fun l => H l = none) wv W r) (WKeys ws wv) (Bfs (nxS ws) ws.length (okS tu1) (goalS tw1 wait) (ls, 0) r W E) ((0 < es.length → r < wv.length)) (r ≤ wv.length))
      (fun σ' H' => 2 * (3000 - lenTo (H' Wd)) + endC H' σ') ⟨En, [.ref b], [(ls, 0)], [((ls, 0), .ref l0)], (fun k' => if k' = (ls, 0) then some [] else none), 0, none, rfl, k37, e7, AllAt.one ⟨b, bu, rfl, hb71, hb72⟩, hE0, s7 _ _ e6, hst0, ⟨by simp, hkeys0, hwo.cnt⟩, Bfs.start (fun k => rfl), by simp, by simp⟩ ?_ ?_
    · rintro σ' H' ⟨En, es, E, wv, W, r, v8, rfl, s', hEn, hes, hE, hWd', hwr, hwk, hbf, hr1, hr2⟩
      have hk1 := hwk.len
      refine ⟨_, rfl, _, .inl ⟨_, SqL.of hEn, rfl⟩, ?_⟩
      refine ite2 (fun hne => ?_) (fun hemp => ?_)
      · have hes0 : 0 < es.length := by
          cases es with
          | nil => exact absurd hne (by decide)
          | cons x xs => simp
        refine ⟨_, rfl, En, rfl, .inl ⟨⟨_, SqL.of hEn⟩, ?_⟩⟩
        refine for_list (K := K) (a := En) (xs := es) (fun i σ H5 => ∃ (v8 : Option V), All3 (σ = [some (.ref a), some (.ref b), some (.int wait), some (.ref hh), some (.ref TW), some (.ref TU), some (.ref Wd), some (.ref En), v8]) (Same H' H5) (∀ i', i' < i → ∀ k, E[i']? = some k → goalS tw1 wait k = false)) ⟨_, rfl, Same.refl _, fun i' h => absurd h (Nat.not_lt_zero _)⟩ (by rintro i σ H5 _ ⟨_, _, s, _⟩; exact SqL.of (s _ _ hEn)) ?_ ?_
        · rintro i u σ H5 hu ⟨v8, rfl, s5, hg⟩
          obtain ⟨k, hk, e, eu, rfl, he1, he2⟩ := hes.get hu
          have hkE := List.mem_of_getElem? hk
          obtain ⟨m1, _⟩ := stand_get (hE k hkE).2
          have hst5 : StAt H5 e k.1 k.2 := ⟨eu, s5 _ _ he1, s5 _ _ he2⟩
          refine ⟨_, rfl, _, rfl, e, k.1, k.2, wait, rfl, hst5, by omega, fun t H6 s6 hst6 => ?_⟩
          have s56 := s5.trans s6
          refine ⟨_, rfl, TW, _, rfl, DGet.t ((s'.trans s56) _ _ (s3 _ _ eTW)) (show StH H6 t (k.1 ++ [wait], k.2) from hst6), _, rfl, ?_⟩
          refine ite2 (fun h => ?_) (fun h => ?_)
          · obtain ⟨m, hm⟩ := Option.isSome_iff_exists.mp (hE k hkE).1
            obtain ⟨hml, l, hl1, hl2, hl3⟩ := hwr.2 k m hm
            refine ⟨_, rfl, _, rfl, Wd, .ref l, rfl, (by rw [← hl1]; exact DGet.t (s56 _ _ hWd') (show StH H6 e k from hst5.same s6)), ?_⟩
            exact q tu1 (.ref l) H6 (s03.trans (s'.trans s56)) hru hnv
          · refine ⟨_, rfl, s56, fun i' h1 k' h2 => ?_⟩
            by_cases y : i' = i
            · subst y
              rw [hk] at h2
              cases h2
              rw [goal_eq]
              exact (Bool.not_eq_true _).mp h
            · exact hg i' (by omega) k' h2
        rintro σ H5 ⟨v8', rfl, s5, hg⟩
        have s35 := s'.trans s5
        refine ⟨_, rfl, _, rfl, _, rfl, _, rfl, a, TU, Wd, En, ws, tu1, wv, es, E, W, r, (fun l => H l = none), rfl, (ha.same s03).same s35, hw1, by omega, s35 _ _ eTU, hUW, s5 _ _ hWd', hwr.up (fun l xs _ e => s5 _ _ e), (fun l hl => (s03.trans s35).free hl), s5 _ _ hEn, hes.imp (fun _ _ y => StV.up (Tups.of s5) y), hE, hwk, by omega, fun F fs Fr wv' W' H6 hF hbut hF6 hfs hlen hW6 hwr6 hwk6 hlong => ?_⟩
        have hgE : ∀ k ∈ E, goalS tw1 wait k = false := fun k hk => by
          obtain ⟨i', hi'⟩ := List.mem_iff_getElem?.mp hk
          have h1 := (List.getElem?_eq_some_iff.mp hi').1
          have h2 := hes.1
          exact hg i' (by omega) k hi'
        have hbf6 := hbf.next hgE hlong
        have hk6 := hwk6.len
        have hrr := hr1 hes0
        refine ⟨⟨F, fs, Fr, wv', W', r + 1, _, rfl, (fun b' o e => hbut _ _ (ne_of_none e hWd) (s35 _ _ e)), hF6, hfs, fun k hk => ?_, hW6, hwr6, hwk6, hbf6, by omega, by omega⟩, ?_⟩
        · have h1 := ((hlong.fresh k).mp hk).2
          obtain ⟨v, hv⟩ := Option.isSome_iff_exists.mp ((hwr6.1 k).trans h1)
          exact ⟨h1, hwk6.2.1 k (List.mem_map_of_mem (f := (·.1)) (valV_mem hv))⟩
        · show 2 * (3000 - lenTo (H6 Wd)) + oneL (H6 F) < 2 * (3000 - lenTo (H' Wd)) + oneL (H' En)
          rw [hW6, hF6, hWd', hEn]
          show 2 * (3000 - wv'.length) + oneL (some (.lst fs)) < 2 * (3000 - wv.length) + oneL (some (.lst es))
          cases es with
          | nil => exact absurd hes0 (by decide)
          | cons x xs =>
            cases fs with
            | nil =>
              show 2 * (3000 - wv'.length) + 0 < 2 * (3000 - wv.length) + 1
              rw [List.length_nil] at hlen
              omega
            | cons y ys =>
              show 2 * (3000 - wv'.length) + 1 < 2 * (3000 - wv.length) + 1
              rw [List.length_cons] at hlen
              omega
      · have hes1 : es = [] := by
          cases es with
          | nil => rfl
          | cons x xs => exact absurd rfl hemp
        have hE1 : E = [] := by
          have h1 := hes.1
          rw [hes1] at h1
          exact List.length_eq_zero_iff.mp h1.symm
        rw [hE1] at hbf
        exact q tu1 .non H' (s03.trans s') hru hnv
    · intro σ H0 Q1 Q2 z h1
      obtain ⟨_, e, k, t, h2⟩ := h1
      exact ⟨_, e, k, t, z _ _ h2⟩
/-! ### law_cell -/
noncomputable def sp_law_cell (K : PySem.W.Frag) : Sp := fun vs H Q _ => Ex3 fun (a : Addr) (ns : List Int) (k : Int) => All4 (vs = [.ref a, .int k]) (SqL K H a (ns.map V.int)) (0 ≤ k) (Q (.int (cellI ns k)) H)
theorem ok_law_cell {fd  : FuncData} (T : Txt K mg ad C_NoHall C_TooMany C_Unsafe C_RoundError C_NoChain C_NoListener C_NoLoss C_NoPart C_NoRow C_NoStand C_NoWheel C_TooMuch) (F : Fun K "_law_cell" "_law_cell" s_law_cell ad.f_law_cell fd) : FnOk P w K mg base (CX1 P w) 1 ad.f_law_cell fd ["script", "k"] (sp_law_cell K) := by
  refine F.okN sc_law_cell (fun vs H Q E h => ?_) (fun cdv A outer s H vs Q E hr h => ?_)
  · rcases h with ⟨a, ns, k, rfl, hS, hk, q⟩ <;> rfl
  · obtain ⟨a, ns, k, rfl, hS, hk, q⟩ := h
    refine ⟨_, (pss_cons (ps_if (pt_cmpR op_lt (pv 1) (pe_callB (call_lenK K) (by rfl) T.n_len PySem.boot_len (pa_cons (pv 0) pa_nil)) (nomark _)) (pss_one (ps_ret (pe_ix (ix_sq K) (pv 0) (pv 1) (fun _ _ => rfl)))) pss_nil) (pss_one (ps_ret pe_int))), ?_⟩
    refine ⟨_, rfl, _, rfl, a, _, rfl, .inl hS, _, _, rfl, rfl, _, rfl, ?_⟩
    refine ite2 (fun hlt => ?_) (fun hlt => ?_)
    · have hlt' : k < ns.length := by simpa using hlt
      exact ⟨_, rfl, _, rfl, a, _, _, _, rfl, rfl, .inl hS, atI_int hk hlt', q⟩
    · have hlt' : ¬ k < ns.length := by simpa using hlt
      rw [cellI_out hk hlt'] at q
      exact q
/-! ### law_other -/
noncomputable def sp_law_other (K : PySem.W.Frag) (C_NoHall C_TooMany C_Unsafe : Addr) : Sp := fun vs H Q _ => Ex2 fun (x C : Addr) => All4 (vs = [.ref x]) (H x = some (.ext (isExc x (.ref C)))) ((C = C_NoHall ∨ C = C_TooMany ∨ C = C_Unsafe)) (∀ H', Same H H' → Q (.bl false) H')
theorem ok_law_other {fd  : FuncData} (T : Txt K mg ad C_NoHall C_TooMany C_Unsafe C_RoundError C_NoChain C_NoListener C_NoLoss C_NoPart C_NoRow C_NoStand C_NoWheel C_TooMuch) (F : Fun K "_law_other" "_law_other" s_law_other ad.f_law_other fd) : FnOk P w K mg base (CX1 P w) 1 ad.f_law_other fd ["e"] (sp_law_other K C_NoHall C_TooMany C_Unsafe) := by
  refine F.okN sc_law_other (fun vs H Q E h => ?_) (fun cdv A outer s H vs Q E hr h => ?_)
  · rcases h with ⟨x, C, rfl, hx, hC, q⟩ <;> rfl
  · obtain ⟨x, C, rfl, hx, hC, q⟩ := h
    refine ⟨_, (pss_one (ps_ret (pe_callB (call_isiT K) (by rfl) T.n_isinstance boot_isinstance (pa_cons (pv 0) (pa_cons (pe_tup (pa_cons (pe_glob (v := .ref C_NoChain) (by rfl) T.c_NoChain rfl) (pa_cons (pe_glob (v := .ref C_NoListener) (by rfl) T.c_NoListener rfl) (pa_cons (pe_glob (v := .ref C_NoLoss) (by rfl) T.c_NoLoss rfl) (pa_cons (pe_glob (v := .ref C_NoPart) (by rfl) T.c_NoPart rfl) (pa_cons (pe_glob (v := .ref C_NoRow) (by rfl) T.c_NoRow rfl) (pa_cons (pe_glob (v := .ref C_NoStand) (by rfl) T.c_NoStand rfl) (pa_cons (pe_glob (v := .ref C_NoWheel) (by rfl) T.c_NoWheel rfl) (pa_cons (pe_glob (v := .ref C_TooMuch) (by rfl) T.c_TooMuch rfl) pa_nil))))))))) pa_nil))))), ?_⟩
    refine ⟨_, rfl, lenOk, fun tp htp => ?_⟩
    have s3 : Same H (upd H tp (.tup [.ref C_NoChain, .ref C_NoListener, .ref C_NoLoss, .ref C_NoPart, .ref C_NoRow, .ref C_NoStand, .ref C_NoWheel, .ref C_TooMuch])) := Same.upd htp
    have e3 : (upd H tp (.tup [.ref C_NoChain, .ref C_NoListener, .ref C_NoLoss, .ref C_NoPart, .ref C_NoRow, .ref C_NoStand, .ref C_NoWheel, .ref C_TooMuch])) tp = some (.tup [.ref C_NoChain, .ref C_NoListener, .ref C_NoLoss, .ref C_NoPart, .ref C_NoRow, .ref C_NoStand, .ref C_NoWheel, .ref C_TooMuch]) := upd_same
    generalize upd H tp (.tup [.ref C_NoChain, .ref C_NoListener, .ref C_NoLoss, .ref C_NoPart, .ref C_NoRow, .ref C_NoStand, .ref C_NoWheel, .ref C_TooMuch]) = H3 at s3 e3 ⊢

    have hx := s3 _ _ hx
    rcases hC with hC | hC | hC
    · rw [hC] at hx
      exact ⟨x, C_NoHall, tp, [C_NoChain, C_NoListener, C_NoLoss, C_NoPart, C_NoRow, C_NoStand, C_NoWheel, C_TooMuch], false, rfl, hx, e3, ⟨T.xga_NoHall, T.xgt_NoHall, T.xcl_NoHall, T.xgs, T.xtk, T.xob_NoHall, T.xbe_NoHall⟩, T.e_NoHall, (kaf T.j_NoHall_NoChain (kaf T.j_NoHall_NoListener (kaf T.j_NoHall_NoLoss (kaf T.j_NoHall_NoPart (kaf T.j_NoHall_NoRow (kaf T.j_NoHall_NoStand (kaf T.j_NoHall_NoWheel (kaf T.j_NoHall_TooMuch kan)))))))), q _ s3⟩
    · rw [hC] at hx
      exact ⟨x, C_TooMany, tp, [C_NoChain, C_NoListener, C_NoLoss, C_NoPart, C_NoRow, C_NoStand, C_NoWheel, C_TooMuch], false, rfl, hx, e3, ⟨T.xga_TooMany, T.xgt_TooMany, T.xcl_TooMany, T.xgs, T.xtk, T.xob_TooMany, T.xbe_TooMany⟩, T.e_TooMany, (kaf T.j_TooMany_NoChain (kaf T.j_TooMany_NoListener (kaf T.j_TooMany_NoLoss (kaf T.j_TooMany_NoPart (kaf T.j_TooMany_NoRow (kaf T.j_TooMany_NoStand (kaf T.j_TooMany_NoWheel (kaf T.j_TooMany_TooMuch kan)))))))), q _ s3⟩
    · rw [hC] at hx
      exact ⟨x, C_Unsafe, tp, [C_NoChain, C_NoListener, C_NoLoss, C_NoPart, C_NoRow, C_NoStand, C_NoWheel, C_TooMuch], false, rfl, hx, e3, ⟨T.xga_Unsafe, T.xgt_Unsafe, T.xcl_Unsafe, T.xgs, T.xtk, T.xob_Unsafe, T.xbe_Unsafe⟩, T.e_Unsafe, (kaf T.j_Unsafe_NoChain (kaf T.j_Unsafe_NoListener (kaf T.j_Unsafe_NoLoss (kaf T.j_Unsafe_NoPart (kaf T.j_Unsafe_NoRow (kaf T.j_Unsafe_NoStand (kaf T.j_Unsafe_NoWheel (kaf T.j_Unsafe_TooMuch kan)))))))), q _ s3⟩
/-! ### law_refusal -/
noncomputable def sp_law_refusal (K : PySem.W.Frag) (C_NoHall C_TooMany C_Unsafe : Addr) : Sp := fun vs H Q _ => Ex8 fun (a b : Addr) (ws ls : List Int) (cm : Option Int) (q : Int) (wait : Int) (way : Bool) => All7 (vs = [.ref a, .ref b, .int wait, .bl way]) (HallAt H a ws cm) (StAt H b ls q) (HK ws cm) ((ls, q) ∈ standL ws (qv cm)) (wait.natAbs < 2 ^ 200) (∀ (v : Int) (H' : Hp), Same H H' → Due ws ls cm q wait way v → Q (.int v) H')
theorem ok_law_refusal {fd fd_law_other fd_way_in fd_may_join : FuncData} (T : Txt K mg ad C_NoHall C_TooMany C_Unsafe C_RoundError C_NoChain C_NoListener C_NoLoss C_NoPart C_NoRow C_NoStand C_NoWheel C_TooMuch) (F : Fun K "_law_refusal" "_law_refusal" s_law_refusal ad.f_law_refusal fd) (G_law_other : FnOk P w K mg base (CX1 P w) 1 ad.f_law_other fd_law_other ["e"] (sp_law_other K C_NoHall C_TooMany C_Unsafe)) (B_law_other : Binds K fd_law_other ["e"] []) (G_way_in : FnOk P w K mg base (CX1 P w) 8 ad.f_way_in fd_way_in ["hall", "standing", "wait"] (sp_way_in K C_NoHall C_TooMany C_Unsafe)) (B_way_in : Binds K fd_way_in ["hall", "standing", "wait"] []) (G_may_join : FnOk P w K mg base (CX1 P w) 8 ad.f_may_join fd_may_join ["hall", "standing", "wait"] (sp_may_join K C_NoHall C_TooMany C_Unsafe)) (B_may_join : Binds K fd_may_join ["hall", "standing", "wait"] []) : FnOk P w K mg base (CX1 P w) 9 ad.f_law_refusal fd ["hall", "standing", "wait", "way"] (sp_law_refusal K C_NoHall C_TooMany C_Unsafe) := by
  refine F.okN sc_law_refusal (fun vs H Q E h => ?_) (fun cdv A outer s H vs Q E hr h => ?_)
  · rcases h with ⟨a, b, ws, ls, cm, n, wait, way, rfl, ha, hb, hk, hks, hwb, q⟩ <;> rfl
  · obtain ⟨a, b, ws, ls, cm, n, wait, way, rfl, ha, hb, hk, hks, hwb, q⟩ := h
    refine ⟨_, (pss_cons (ps_set (i := 4) sc_law_refusal.nd rfl (Or.inl rfl) pe_non) (pss_cons (ps_try1 K (i := 5) rfl rfl (fun W pn R hp => (pss_one (ps_ifJ (pt_val (pv 3)) (pss_one (ps_expr (pe_callE G_way_in (hr.mono (by decide)) rfl T.m_way_in T.k_way_in B_way_in .nil hp (pa_cons (pv 0) (pa_cons (pv 1) (pa_cons (pv 2) pa_nil)))))) (pss_one (ps_expr (pe_callE G_may_join (hr.mono (by decide)) rfl T.m_may_join T.k_may_join B_may_join .nil hp (pa_cons (pv 0) (pa_cons (pv 1) (pa_cons (pv 2) pa_nil))))))))) (by rfl) T.c_RoundError T.e_RoundError T.b_RoundError sc_law_refusal.nd rfl rfl (fun A => (pss_one (ps_set (i := 4) sc_law_refusal.nd rfl (Or.inl rfl) (pv 5))))) (pss_cons (ps_if (pt_cmpR op_isN (pv 4) pe_non (nomark _)) (pss_one (ps_ret pe_int)) pss_nil) (pss_cons (ps_set (i := 6) sc_law_refusal.nd rfl (Or.inl rfl) (pe_lst (pa_cons (pe_callB (call_isiE K) (by rfl) T.n_isinstance boot_isinstance (pa_cons (pv 4) (pa_cons (pe_glob (v := .ref C_NoHall) (by rfl) T.c_NoHall rfl) pa_nil))) (pa_cons (pe_callB (call_isiE K) (by rfl) T.n_isinstance boot_isinstance (pa_cons (pv 4) (pa_cons (pe_glob (v := .ref C_TooMany) (by rfl) T.c_TooMany rfl) pa_nil))) (pa_cons (pe_callB (call_isiE K) (by rfl) T.n_isinstance boot_isinstance (pa_cons (pv 4) (pa_cons (pe_glob (v := .ref C_Unsafe) (by rfl) T.c_Unsafe rfl) pa_nil))) pa_nil))))) (pss_cons (ps_if (PW.pt (pw_orX (pt_val (pe_call G_law_other (hr.mono (by decide)) rfl T.m_law_other T.k_law_other B_law_other .nil passN (pa_cons (pv 4) pa_nil))) (pw_orX (pt_not (pt_val (pe_callB (call_isiE K) (by rfl) T.n_isinstance boot_isinstance (pa_cons (pv 4) (pa_cons (pe_ty (by rfl) T.n_ValueError PyProof.Rows.Boot.«ValueError») pa_nil))))) (pw_or1 (pt_cmpR op_ne (pe_eq (u' := tBM K _ _ _ _) (pe_bm PySem.F.plainAttrs_list PySem.F.slot_list_count PySem.F.type_list_count (mt_countD hr) (pv 6) (pa_cons pe_bl pa_nil))) pe_int (nomark _)))))) (pss_one (ps_ret pe_int)) pss_nil) (pss_one (ps_ret (pe_op op_add pe_int (pe_eq (u' := tBM K _ _ _ _) (pe_bm PySem.F.plainAttrs_list PySem.F.slot_list_index PySem.F.type_list_index (mt_indexD hr) (pv 6) (pa_cons pe_bl pa_nil))))))))))), ?_⟩
    have hl8 : ls.length ≤ 8 := by
      have h1 : ls.length = ws.length := (stand_get hks).1
      have h2 := hk.2.2.1
      omega
    have hw1 : ∀ x ∈ ws, 1 ≤ x := fun x hx => (hk.1 x hx).1
    have bdT : (cm ≠ none ∨ wait < 1 ∨ 8 ≤ ws.length) → Bd ws cm wait true := fun h => by
      have h2 := hk.2.2.1
      rcases h with h | h | h
      · exact .inl ⟨rfl, h⟩
      · exact .inr (.inl h)
      · exact .inr (.inr (by omega))
    have bdF : (wait < 1 ∨ 8 ≤ ws.length) → Bd ws cm wait false := fun h => by
      have h2 := hk.2.2.1
      rcases h with h | h
      · exact .inr (.inl h)
      · exact .inr (.inr (by omega))
    cases way with
    | true =>
      by_cases hB : Bd ws cm wait true
      · refine ⟨_, rfl, _, rfl, (fun σ' H' => σ' = [some (.ref a), some (.ref b), some (.int wait), some (.bl true), some .non, none, none] ∧ Same H H' ∧ Due ws ls cm n wait true 0), (fun _ => ?_), (fun h => nomatch h), ?_⟩
        · refine ⟨_, rfl, _, rfl, _, rfl, (fun cls _ H2 => cls = .ref C_NoHall ∧ Same H H2 ∧ Due ws ls cm n wait true 1), ?_, a, b, ws, ls, cm, n, wait, rfl, ha, hb, hk.2.2.1, hl8, hw1, (fun _ H2 s2 => ⟨rfl, s2, Due.bad hB⟩), fun e h1 h2 => ?_⟩
          · rintro cls H2 ⟨rfl, s2, hdue⟩
            refine ⟨C_NoHall, rfl, T.u_NoHall_RoundError, fun x hx => ?_⟩
            refine ⟨_, rfl, ?_⟩
            refine ⟨_, rfl, rfl, _, rfl, ite_f rfl ?_⟩
            refine ⟨_, rfl, x, C_NoHall, _, _, _, rfl, hx, (fun _ z => z), ⟨T.xga_NoHall, T.xgt_NoHall, T.xcl_NoHall, T.xgs, T.xtk, T.xob_NoHall, T.xbe_NoHall⟩, T.j_NoHall_NoHall, _, rfl, x, C_NoHall, _, _, _, rfl, hx, (fun _ z => z), ⟨T.xga_NoHall, T.xgt_NoHall, T.xcl_NoHall, T.xgs, T.xtk, T.xob_NoHall, T.xbe_NoHall⟩, T.j_NoHall_TooMany, _, rfl, x, C_NoHall, _, _, _, rfl, hx, (fun _ z => z), ⟨T.xga_NoHall, T.xgt_NoHall, T.xcl_NoHall, T.xgs, T.xtk, T.xob_NoHall, T.xbe_NoHall⟩, T.j_NoHall_Unsafe, lenOk, fun kp hkp => ?_⟩
            have s3 : Same H2 (upd H2 kp (.lst [.bl true, .bl false, .bl false])) := Same.upd hkp
            have e3 : (upd H2 kp (.lst [.bl true, .bl false, .bl false])) kp = some (.lst [.bl true, .bl false, .bl false]) := upd_same
            generalize upd H2 kp (.lst [.bl true, .bl false, .bl false]) = H3 at s3 e3 ⊢

            have hx3 := s3 _ _ hx
            refine ⟨_, rfl, x, C_NoHall, rfl, hx3, .inl rfl, fun H4 s4 => ?_⟩
            have hx4 := s4 _ _ hx3
            have e4 := s4 _ _ e3
            refine ⟨_, rfl, false, fun _ Q1 z1 => ⟨_, rfl, x, C_NoHall, _, _, _, rfl, hx4, (fun _ z => z), ⟨T.xga_NoHall, T.xgt_NoHall, T.xcl_NoHall, T.xgs, T.xtk, T.xob_NoHall, T.xbe_NoHall⟩, T.j_NoHall_ValueError, _, rfl, false, fun _ Q2 z2 => ⟨_, rfl, .inl ⟨rfl, _, SqL.of e4⟩, kp, _, _, PyData.bool true, [PyData.bool true, PyData.bool false, PyData.bool false], rfl, rfl, SqL.of e4, rp_bl true, rpa3 _ _ _, by decide, rfl, _, rfl, z2⟩, z1⟩, ite_f rfl ?_⟩
            exact ⟨_, rfl, .inl ⟨rfl, _, SqL.of e4⟩, kp, _, _, PyData.bool true, [PyData.bool true, PyData.bool false, PyData.bool false], 0, rfl, rfl, SqL.of e4, rp_bl true, rpa3 _ _ _, by decide, ⟨_, rfl, rfl⟩, no0, _, _, rfl, rfl, q _ H4 ((s2.trans s3).trans s4) hdue⟩
          · exact (nBt hB e h1 h2).elim
        · rintro σ' H2 ⟨rfl, s2, hdue⟩
          refine ⟨_, rfl, rfl, _, rfl, ite_t rfl ?_⟩
          exact q _ H2 s2 hdue
      by_cases hP : 3000 < prodI (qv cm) (ws ++ [wait])
      · refine ⟨_, rfl, _, rfl, (fun σ' H' => σ' = [some (.ref a), some (.ref b), some (.int wait), some (.bl true), some .non, none, none] ∧ Same H H' ∧ Due ws ls cm n wait true 0), (fun _ => ?_), (fun h => nomatch h), ?_⟩
        · refine ⟨_, rfl, _, rfl, _, rfl, (fun cls _ H2 => cls = .ref C_TooMany ∧ Same H H2 ∧ Due ws ls cm n wait true 2), ?_, a, b, ws, ls, cm, n, wait, rfl, ha, hb, hk.2.2.1, hl8, hw1, (fun h => absurd (bdT h) hB), fun e h1 h2 => ⟨by subst e; exact hk.rk2 h1 hwb h2, (fun _ H2 s2 => ⟨rfl, s2, Due.many hB hP⟩), fun h => ?_⟩⟩
          · rintro cls H2 ⟨rfl, s2, hdue⟩
            refine ⟨C_TooMany, rfl, T.u_TooMany_RoundError, fun x hx => ?_⟩
            refine ⟨_, rfl, ?_⟩
            refine ⟨_, rfl, rfl, _, rfl, ite_f rfl ?_⟩
            refine ⟨_, rfl, x, C_TooMany, _, _, _, rfl, hx, (fun _ z => z), ⟨T.xga_TooMany, T.xgt_TooMany, T.xcl_TooMany, T.xgs, T.xtk, T.xob_TooMany, T.xbe_TooMany⟩, T.j_TooMany_NoHall, _, rfl, x, C_TooMany, _, _, _, rfl, hx, (fun _ z => z), ⟨T.xga_TooMany, T.xgt_TooMany, T.xcl_TooMany, T.xgs, T.xtk, T.xob_TooMany, T.xbe_TooMany⟩, T.j_TooMany_TooMany, _, rfl, x, C_TooMany, _, _, _, rfl, hx, (fun _ z => z), ⟨T.xga_TooMany, T.xgt_TooMany, T.xcl_TooMany, T.xgs, T.xtk, T.xob_TooMany, T.xbe_TooMany⟩, T.j_TooMany_Unsafe, lenOk, fun kp hkp => ?_⟩
            have s3 : Same H2 (upd H2 kp (.lst [.bl false, .bl true, .bl false])) := Same.upd hkp
            have e3 : (upd H2 kp (.lst [.bl false, .bl true, .bl false])) kp = some (.lst [.bl false, .bl true, .bl false]) := upd_same
            generalize upd H2 kp (.lst [.bl false, .bl true, .bl false]) = H3 at s3 e3 ⊢

            have hx3 := s3 _ _ hx
            refine ⟨_, rfl, x, C_TooMany, rfl, hx3, .inr (.inl rfl), fun H4 s4 => ?_⟩
            have hx4 := s4 _ _ hx3
            have e4 := s4 _ _ e3
            refine ⟨_, rfl, false, fun _ Q1 z1 => ⟨_, rfl, x, C_TooMany, _, _, _, rfl, hx4, (fun _ z => z), ⟨T.xga_TooMany, T.xgt_TooMany, T.xcl_TooMany, T.xgs, T.xtk, T.xob_TooMany, T.xbe_TooMany⟩, T.j_TooMany_ValueError, _, rfl, false, fun _ Q2 z2 => ⟨_, rfl, .inl ⟨rfl, _, SqL.of e4⟩, kp, _, _, PyData.bool true, [PyData.bool false, PyData.bool true, PyData.bool false], rfl, rfl, SqL.of e4, rp_bl true, rpa3 _ _ _, by decide, rfl, _, rfl, z2⟩, z1⟩, ite_f rfl ?_⟩
            exact ⟨_, rfl, .inl ⟨rfl, _, SqL.of e4⟩, kp, _, _, PyData.bool true, [PyData.bool false, PyData.bool true, PyData.bool false], 1, rfl, rfl, SqL.of e4, rp_bl true, rpa3 _ _ _, by decide, ⟨_, rfl, rfl⟩, no1, _, _, rfl, rfl, q _ H4 ((s2.trans s3).trans s4) hdue⟩
          · subst e
            exact absurd hP (Int.not_lt.mpr h)
        · rintro σ' H2 ⟨rfl, s2, hdue⟩
          refine ⟨_, rfl, rfl, _, rfl, ite_t rfl ?_⟩
          exact q _ H2 s2 hdue
      refine ⟨_, rfl, _, rfl, (fun σ' H' => σ' = [some (.ref a), some (.ref b), some (.int wait), some (.bl true), some .non, none, none] ∧ Same H H' ∧ Due ws ls cm n wait true 0), (fun _ => ?_), (fun h => nomatch h), ?_⟩
      · refine ⟨_, rfl, _, rfl, _, rfl, (fun cls _ H2 => cls = .ref C_Unsafe ∧ Same H H2 ∧ Due ws ls cm n wait true 3), ?_, a, b, ws, ls, cm, n, wait, rfl, ha, hb, hk.2.2.1, hl8, hw1, (fun h => absurd (bdT h) hB), fun e h1 h2 => ?_⟩
        · rintro cls H2 ⟨rfl, s2, hdue⟩
          refine ⟨C_Unsafe, rfl, T.u_Unsafe_RoundError, fun x hx => ?_⟩
          refine ⟨_, rfl, ?_⟩
          refine ⟨_, rfl, rfl, _, rfl, ite_f rfl ?_⟩
          refine ⟨_, rfl, x, C_Unsafe, _, _, _, rfl, hx, (fun _ z => z), ⟨T.xga_Unsafe, T.xgt_Unsafe, T.xcl_Unsafe, T.xgs, T.xtk, T.xob_Unsafe, T.xbe_Unsafe⟩, T.j_Unsafe_NoHall, _, rfl, x, C_Unsafe, _, _, _, rfl, hx, (fun _ z => z), ⟨T.xga_Unsafe, T.xgt_Unsafe, T.xcl_Unsafe, T.xgs, T.xtk, T.xob_Unsafe, T.xbe_Unsafe⟩, T.j_Unsafe_TooMany, _, rfl, x, C_Unsafe, _, _, _, rfl, hx, (fun _ z => z), ⟨T.xga_Unsafe, T.xgt_Unsafe, T.xcl_Unsafe, T.xgs, T.xtk, T.xob_Unsafe, T.xbe_Unsafe⟩, T.j_Unsafe_Unsafe, lenOk, fun kp hkp => ?_⟩
          have s3 : Same H2 (upd H2 kp (.lst [.bl false, .bl false, .bl true])) := Same.upd hkp
          have e3 : (upd H2 kp (.lst [.bl false, .bl false, .bl true])) kp = some (.lst [.bl false, .bl false, .bl true]) := upd_same
          generalize upd H2 kp (.lst [.bl false, .bl false, .bl true]) = H3 at s3 e3 ⊢

          have hx3 := s3 _ _ hx
          refine ⟨_, rfl, x, C_Unsafe, rfl, hx3, .inr (.inr rfl), fun H4 s4 => ?_⟩
          have hx4 := s4 _ _ hx3
          have e4 := s4 _ _ e3
          refine ⟨_, rfl, false, fun _ Q1 z1 => ⟨_, rfl, x, C_Unsafe, _, _, _, rfl, hx4, (fun _ z => z), ⟨T.xga_Unsafe, T.xgt_Unsafe, T.xcl_Unsafe, T.xgs, T.xtk, T.xob_Unsafe, T.xbe_Unsafe⟩, T.j_Unsafe_ValueError, _, rfl, false, fun _ Q2 z2 => ⟨_, rfl, .inl ⟨rfl, _, SqL.of e4⟩, kp, _, _, PyData.bool true, [PyData.bool false, PyData.bool false, PyData.bool true], rfl, rfl, SqL.of e4, rp_bl true, rpa3 _ _ _, by decide, rfl, _, rfl, z2⟩, z1⟩, ite_f rfl ?_⟩
          exact ⟨_, rfl, .inl ⟨rfl, _, SqL.of e4⟩, kp, _, _, PyData.bool true, [PyData.bool false, PyData.bool false, PyData.bool true], 2, rfl, rfl, SqL.of e4, rp_bl true, rpa3 _ _ _, by decide, ⟨_, rfl, rfl⟩, no2, _, _, rfl, rfl, q _ H4 ((s2.trans s3).trans s4) hdue⟩
        · subst e
          have hn : n = 0 := stq0 hks
          subst hn
          exact ⟨hk.rk2 h1 hwb h2, (fun h => absurd h hP), fun h => ⟨rfl, hks, hk.wok h1 h2 h, (fun tv v H' s' r z => ⟨rfl, s', Due.safe hB (Int.not_lt.mp hP) r z⟩), fun tv H2 s2 r z => ⟨rfl, s2, Due.three hB (Int.not_lt.mp hP) r z⟩⟩⟩
      · rintro σ' H2 ⟨rfl, s2, hdue⟩
        refine ⟨_, rfl, rfl, _, rfl, ite_t rfl ?_⟩
        exact q _ H2 s2 hdue
    | false =>
      by_cases hB : Bd ws cm wait false
      · refine ⟨_, rfl, _, rfl, (fun σ' H' => σ' = [some (.ref a), some (.ref b), some (.int wait), some (.bl false), some .non, none, none] ∧ Same H H' ∧ Due ws ls cm n wait false 0), (fun h => nomatch h), (fun _ => ?_), ?_⟩
        · refine ⟨_, rfl, _, rfl, _, rfl, (fun cls _ H2 => cls = .ref C_NoHall ∧ Same H H2 ∧ Due ws ls cm n wait false 1), ?_, a, b, ws, ls, cm, n, wait, rfl, ha, hb, hk.2.2.1, hl8, hw1, hk.cm, (fun _ H2 s2 => ⟨rfl, s2, Due.bad hB⟩), fun h1 h2 => ?_⟩
          · rintro cls H2 ⟨rfl, s2, hdue⟩
            refine ⟨C_NoHall, rfl, T.u_NoHall_RoundError, fun x hx => ?_⟩
            refine ⟨_, rfl, ?_⟩
            refine ⟨_, rfl, rfl, _, rfl, ite_f rfl ?_⟩
            refine ⟨_, rfl, x, C_NoHall, _, _, _, rfl, hx, (fun _ z => z), ⟨T.xga_NoHall, T.xgt_NoHall, T.xcl_NoHall, T.xgs, T.xtk, T.xob_NoHall, T.xbe_NoHall⟩, T.j_NoHall_NoHall, _, rfl, x, C_NoHall, _, _, _, rfl, hx, (fun _ z => z), ⟨T.xga_NoHall, T.xgt_NoHall, T.xcl_NoHall, T.xgs, T.xtk, T.xob_NoHall, T.xbe_NoHall⟩, T.j_NoHall_TooMany, _, rfl, x, C_NoHall, _, _, _, rfl, hx, (fun _ z => z), ⟨T.xga_NoHall, T.xgt_NoHall, T.xcl_NoHall, T.xgs, T.xtk, T.xob_NoHall, T.xbe_NoHall⟩, T.j_NoHall_Unsafe, lenOk, fun kp hkp => ?_⟩
            have s3 : Same H2 (upd H2 kp (.lst [.bl true, .bl false, .bl false])) := Same.upd hkp
            have e3 : (upd H2 kp (.lst [.bl true, .bl false, .bl false])) kp = some (.lst [.bl true, .bl false, .bl false]) := upd_same
            generalize upd H2 kp (.lst [.bl true, .bl false, .bl false]) = H3 at s3 e3 ⊢

            have hx3 := s3 _ _ hx
            refine ⟨_, rfl, x, C_NoHall, rfl, hx3, .inl rfl, fun H4 s4 => ?_⟩
            have hx4 := s4 _ _ hx3
            have e4 := s4 _ _ e3
            refine ⟨_, rfl, false, fun _ Q1 z1 => ⟨_, rfl, x, C_NoHall, _, _, _, rfl, hx4, (fun _ z => z), ⟨T.xga_NoHall, T.xgt_NoHall, T.xcl_NoHall, T.xgs, T.xtk, T.xob_NoHall, T.xbe_NoHall⟩, T.j_NoHall_ValueError, _, rfl, false, fun _ Q2 z2 => ⟨_, rfl, .inl ⟨rfl, _, SqL.of e4⟩, kp, _, _, PyData.bool true, [PyData.bool true, PyData.bool false, PyData.bool false], rfl, rfl, SqL.of e4, rp_bl true, rpa3 _ _ _, by decide, rfl, _, rfl, z2⟩, z1⟩, ite_f rfl ?_⟩
            exact ⟨_, rfl, .inl ⟨rfl, _, SqL.of e4⟩, kp, _, _, PyData.bool true, [PyData.bool true, PyData.bool false, PyData.bool false], 0, rfl, rfl, SqL.of e4, rp_bl true, rpa3 _ _ _, by decide, ⟨_, rfl, rfl⟩, no0, _, _, rfl, rfl, q _ H4 ((s2.trans s3).trans s4) hdue⟩
          · exact (nBf hB h1 h2).elim
        · rintro σ' H2 ⟨rfl, s2, hdue⟩
          refine ⟨_, rfl, rfl, _, rfl, ite_t rfl ?_⟩
          exact q _ H2 s2 hdue
      by_cases hP : 3000 < prodI (qv cm) (ws ++ [wait])
      · refine ⟨_, rfl, _, rfl, (fun σ' H' => σ' = [some (.ref a), some (.ref b), some (.int wait), some (.bl false), some .non, none, none] ∧ Same H H' ∧ Due ws ls cm n wait false 0), (fun h => nomatch h), (fun _ => ?_), ?_⟩
        · refine ⟨_, rfl, _, rfl, _, rfl, (fun cls _ H2 => cls = .ref C_TooMany ∧ Same H H2 ∧ Due ws ls cm n wait false 2), ?_, a, b, ws, ls, cm, n, wait, rfl, ha, hb, hk.2.2.1, hl8, hw1, hk.cm, (fun h => absurd (bdF h) hB), fun h1 h2 => ⟨hk.rk2 h1 hwb h2, (fun _ H2 s2 => ⟨rfl, s2, Due.many hB hP⟩), fun h => absurd hP (Int.not_lt.mpr h)⟩⟩
          · rintro cls H2 ⟨rfl, s2, hdue⟩
            refine ⟨C_TooMany, rfl, T.u_TooMany_RoundError, fun x hx => ?_⟩
            refine ⟨_, rfl, ?_⟩
            refine ⟨_, rfl, rfl, _, rfl, ite_f rfl ?_⟩
            refine ⟨_, rfl, x, C_TooMany, _, _, _, rfl, hx, (fun _ z => z), ⟨T.xga_TooMany, T.xgt_TooMany, T.xcl_TooMany, T.xgs, T.xtk, T.xob_TooMany, T.xbe_TooMany⟩, T.j_TooMany_NoHall, _, rfl, x, C_TooMany, _, _, _, rfl, hx, (fun _ z => z), ⟨T.xga_TooMany, T.xgt_TooMany, T.xcl_TooMany, T.xgs, T.xtk, T.xob_TooMany, T.xbe_TooMany⟩, T.j_TooMany_TooMany, _, rfl, x, C_TooMany, _, _, _, rfl, hx, (fun _ z => z), ⟨T.xga_TooMany, T.xgt_TooMany, T.xcl_TooMany, T.xgs, T.xtk, T.xob_TooMany, T.xbe_TooMany⟩, T.j_TooMany_Unsafe, lenOk, fun kp hkp => ?_⟩
            have s3 : Same H2 (upd H2 kp (.lst [.bl false, .bl true, .bl false])) := Same.upd hkp
            have e3 : (upd H2 kp (.lst [.bl false, .bl true, .bl false])) kp = some (.lst [.bl false, .bl true, .bl false]) := upd_same
            generalize upd H2 kp (.lst [.bl false, .bl true, .bl false]) = H3 at s3 e3 ⊢

            have hx3 := s3 _ _ hx
            refine ⟨_, rfl, x, C_TooMany, rfl, hx3, .inr (.inl rfl), fun H4 s4 => ?_⟩
            have hx4 := s4 _ _ hx3
            have e4 := s4 _ _ e3
            refine ⟨_, rfl, false, fun _ Q1 z1 => ⟨_, rfl, x, C_TooMany, _, _, _, rfl, hx4, (fun _ z => z), ⟨T.xga_TooMany, T.xgt_TooMany, T.xcl_TooMany, T.xgs, T.xtk, T.xob_TooMany, T.xbe_TooMany⟩, T.j_TooMany_ValueError, _, rfl, false, fun _ Q2 z2 => ⟨_, rfl, .inl ⟨rfl, _, SqL.of e4⟩, kp, _, _, PyData.bool true, [PyData.bool false, PyData.bool true, PyData.bool false], rfl, rfl, SqL.of e4, rp_bl true, rpa3 _ _ _, by decide, rfl, _, rfl, z2⟩, z1⟩, ite_f rfl ?_⟩
            exact ⟨_, rfl, .inl ⟨rfl, _, SqL.of e4⟩, kp, _, _, PyData.bool true, [PyData.bool false, PyData.bool true, PyData.bool false], 1, rfl, rfl, SqL.of e4, rp_bl true, rpa3 _ _ _, by decide, ⟨_, rfl, rfl⟩, no1, _, _, rfl, rfl, q _ H4 ((s2.trans s3).trans s4) hdue⟩
        · rintro σ' H2 ⟨rfl, s2, hdue⟩
          refine ⟨_, rfl, rfl, _, rfl, ite_t rfl ?_⟩
          exact q _ H2 s2 hdue
      refine ⟨_, rfl, _, rfl, (fun σ' H' => σ' = [some (.ref a), some (.ref b), some (.int wait), some (.bl false), some .non, none, none] ∧ Same H H' ∧ Due ws ls cm n wait false 0), (fun h => nomatch h), (fun _ => ?_), ?_⟩
      · refine ⟨_, rfl, _, rfl, _, rfl, (fun _ _ _ => False), ?_, a, b, ws, ls, cm, n, wait, rfl, ha, hb, hk.2.2.1, hl8, hw1, hk.cm, (fun h => absurd (bdF h) hB), fun h1 h2 => ⟨hk.rk2 h1 hwb h2, (fun h => absurd h hP), fun h v H' s' => ⟨rfl, s', Due.zero hB h⟩⟩⟩
        exact fun cls H2 z => z.elim
      · rintro σ' H2 ⟨rfl, s2, hdue⟩
        refine ⟨_, rfl, rfl, _, rfl, ite_t rfl ?_⟩
        exact q _ H2 s2 hdue
/-! ### law_many -/
noncomputable def sp_law_many (K : PySem.W.Frag) : Sp := fun vs H Q _ => Ex3 fun (a : Addr) (ws : List Int) (cm : Option Int) => All4 (vs = [.ref a]) (HallAt H a ws cm) (HK ws cm) (Q (.int (prodI (qv cm) ws)) H)
theorem ok_law_many {fd  : FuncData} (T : Txt K mg ad C_NoHall C_TooMany C_Unsafe C_RoundError C_NoChain C_NoListener C_NoLoss C_NoPart C_NoRow C_NoStand C_NoWheel C_TooMuch) (F : Fun K "_law_many" "_law_many" s_law_many ad.f_law_many fd) : FnOk P w K mg base (CX1 P w) 1 ad.f_law_many fd ["hall"] (sp_law_many K) := by
  refine F.okN sc_law_many (fun vs H Q E h => ?_) (fun cdv A outer s H vs Q E hr h => ?_)
  · rcases h with ⟨a, ws, cm, rfl, ⟨t, ha1, ha2⟩, hk, q⟩ <;> rfl
  · obtain ⟨a, ws, cm, rfl, ⟨t, ha1, ha2⟩, hk, q⟩ := h
    refine ⟨_, (pss_cons (ps_set (i := 1) sc_law_many.nd rfl (Or.inl rfl) pe_int) (pss_cons (ps_for PassesOwn.never rfl (pi_eq (w' := iSq K _) (pi_sq (pe_ix (ix_sq K) (pv 0) pe_int (fun _ _ => rfl)))) (pg_name (i := 2) sc_law_many.nd rfl (Or.inl rfl)) (pss_one (ps_set (i := 1) sc_law_many.nd rfl (Or.inl rfl) (pe_op op_mulO (pv 1) (pv 2))))) (pss_cons (ps_ifJ (pt_cmpR op_notN (pe_ix (ix_sq K) (pv 0) pe_int (fun _ _ => rfl)) pe_non (nomark _)) (pss_one (ps_set (i := 1) sc_law_many.nd rfl (Or.inl rfl) (pe_op op_mulO (pv 1) (pe_op op_add (pe_ix (ix_sq K) (pv 0) pe_int (fun _ _ => rfl)) pe_int)))) pss_nil) (pss_one (ps_ret (pv 1)))))), ?_⟩
    obtain ⟨r1, r2, hb, r4, hl⟩ := hk.rk
    have hqb : intBits (1 : Int) ≤ 256 := by decide
    refine ⟨_, rfl, a, _, _, _, rfl, rfl, .inr (SqT.of ha1), rfl, t, rfl, .inr ⟨⟨_, SqT.of ha2⟩, ?_⟩⟩
    refine for_tup (K := K) (a := t) (xs := ws.map V.int) (fun i σ H' => ∃ (v2 : Option V), σ = [some (.ref a), some (.int (prodI 1 (ws.take i))), v2] ∧ H' = H) ⟨none, rfl, rfl⟩ (by rintro i σ H' _ ⟨_, _, e⟩; exact (by rw [e]; exact SqT.of ha2)) ?_ ?_
    · rintro i y σ H' hy ⟨v2, rfl, eH⟩
      subst eH
      rw [List.getElem?_map] at hy
      obtain ⟨x, hx, rfl⟩ := Option.map_eq_some_iff.mp hy
      have hi := (List.getElem?_eq_some_iff.mp hx).1
      have b1 := prod_bits hqb hb i (by omega)
      refine ⟨_, rfl, _, rfl, _, _, rfl, rfl, mulOk b1 (hb x (List.mem_of_getElem? hx)) (by omega), ?_⟩
      refine ⟨some (.int x), ?_, rfl⟩
      have e : prodI 1 (ws.take (i + 1)) = prodI 1 (ws.take i) * x := fold_snoc _ _ _ hx
      rw [e]
      rfl
    rintro σ H' ⟨v2, rfl, eH⟩
    subst eH
    rw [List.length_map, List.take_length]
    refine ⟨_, rfl, a, _, _, _, rfl, rfl, .inr (SqT.of ha1), rfl, rfl, _, rfl, (fun σ' H2 => H2 = H' ∧ ∃ v2 : Option V, σ' = [some (.ref a), some (.int (prodI (qv cm) ws)), v2]), fun h => ?_, fun h => ?_, ?_⟩
    · rcases hk.2.2.2 with z | z
      · subst z
        exact absurd h (by simp [vO])
      · subst z
        refine ⟨_, rfl, _, rfl, a, _, _, _, rfl, rfl, .inr (SqT.of ha1), rfl, _, _, rfl, rfl, _, _, rfl, rfl, mulOk_r (by decide) (by decide), rfl, v2, ?_⟩
        have e := prod_q 2 ws 1
        have e2 : prodI (qv (some 1)) ws = prodI 1 ws * (1 + 1) := by
          show prodI 2 ws = _
          rw [Int.mul_comm]
          exact e
        rw [e2]
        rfl
    · rcases hk.2.2.2 with z | z
      · subst z
        exact ⟨rfl, v2, rfl⟩
      · subst z
        simp [vO] at h
    rintro σ' H2 ⟨rfl, v2, rfl⟩
    exact ⟨_, rfl, q⟩
/-! ### law_hall -/
noncomputable def sp_law_hall (K : PySem.W.Frag) : Sp := fun vs H Q _ => Ex2 fun (a : Addr) (ns : List Int) => All3 (vs = [.ref a]) (SqL K H a (ns.map V.int)) (∀ (p : Addr) (ws : List Int) (cm : Option Int) (H' : Hp), Same H H' → HallAt H' p ws cm → HK ws cm → Q (.ref p) H')
theorem ok_law_hall {fd fd_law_cell : FuncData} (T : Txt K mg ad C_NoHall C_TooMany C_Unsafe C_RoundError C_NoChain C_NoListener C_NoLoss C_NoPart C_NoRow C_NoStand C_NoWheel C_TooMuch) (F : Fun K "_law_hall" "_law_hall" s_law_hall ad.f_law_hall fd) (G_law_cell : FnOk P w K mg base (CX1 P w) 1 ad.f_law_cell fd_law_cell ["script", "k"] (sp_law_cell K)) (B_law_cell : Binds K fd_law_cell ["script", "k"] []) : FnOk P w K mg base (CX1 P w) 2 ad.f_law_hall fd ["script"] (sp_law_hall K) := by
  refine F.okN sc_law_hall (fun vs H Q E h => ?_) (fun cdv A outer s H vs Q E hr h => ?_)
  · rcases h with ⟨a, ns, rfl, hS, q⟩ <;> rfl
  · obtain ⟨a, ns, rfl, hS, q⟩ := h
    refine ⟨_, (pss_cons (ps_set (i := 1) sc_law_hall.nd rfl (Or.inl rfl) (pe_call G_law_cell (hr.mono (by decide)) rfl T.m_law_cell T.k_law_cell B_law_cell .nil passN (pa_cons (pv 0) (pa_cons pe_int pa_nil)))) (pss_cons (ps_set (i := 2) sc_law_hall.nd rfl (Or.inl rfl) (pe_lst (pa_cons (pe_op op_add pe_int (pe_op op_mod (pe_op op_fdiv (pv 1) pe_int) pe_int)) (pa_cons (pe_op op_add pe_int (pe_op op_mod (pe_op op_fdiv (pv 1) pe_int) pe_int)) pa_nil)))) (pss_cons (ps_ifJ (pt_cmpR op_eq (pe_op op_mod (pv 1) pe_int) pe_int (nomark _)) (pss_one (ps_set (i := 2) sc_law_hall.nd rfl (Or.inl rfl) (pe_op op_rep (pe_lst (pa_cons pe_int pa_nil)) pe_int))) pss_nil) (pss_cons (ps_set (i := 3) sc_law_hall.nd rfl (Or.inl rfl) pe_non) (pss_cons (ps_ifJ (pt_cmpR op_eq (pe_op op_mod (pe_op op_fdiv (pv 1) pe_int) pe_int) pe_int (nomark _)) (pss_one (ps_set (i := 3) sc_law_hall.nd rfl (Or.inl rfl) pe_int)) pss_nil) (pss_cons (ps_ifJ (pt_cmpR op_eq (pe_op op_mod (pv 1) pe_int) pe_int (nomark _)) (pss_one (ps_asg (pe_op op_mulO (pe_op op_add (pe_op op_fdiv pe_int (pe_ix (ix_sq K) (pv 2) pe_int (fun _ _ => rfl))) pe_int) (pe_op op_add pe_int (pe_op op_mod (pe_call G_law_cell (hr.mono (by decide)) rfl T.m_law_cell T.k_law_cell B_law_cell .nil passN (pa_cons (pv 0) (pa_cons pe_int pa_nil))) (pe_op op_pow pe_int pe_int)))) (pg_sub (pv 2) pe_int set_list))) pss_nil) (pss_one (ps_ret (pe_tup (pa_cons (pe_callTy (call_tupK K) (by rfl) T.n_tuple boot_tuple (pa_cons (pv 2) pa_nil)) (pa_cons (pv 3) pa_nil))))))))))), ?_⟩
    have m1 := emod_range (cellI ns 0 / 16) (show (0 : Int) < 3 by decide)
    have m2 := emod_range (cellI ns 0 / 48) (show (0 : Int) < 3 by decide)
    refine ⟨_, rfl, a, ns, _, rfl, hS, by decide, ?_⟩
    refine ⟨_, rfl, _, _, rfl, rfl, ⟨by decide, by decide⟩, _, _, rfl, rfl, (by first | (show (0 : Int) < _; decide) | simp), _, _, rfl, rfl, _, rfl, _, _, rfl, rfl, ⟨by decide, by decide⟩, _, _, rfl, rfl, (by first | (show (0 : Int) < _; decide) | simp), _, _, rfl, rfl, lenOk, fun W hW => ?_⟩
    have s1 : Same H (upd H W (.lst [.int (1 + cellI ns 0 / 16 % 3), .int (1 + cellI ns 0 / 48 % 3)])) := Same.upd hW
    have e1 : (upd H W (.lst [.int (1 + cellI ns 0 / 16 % 3), .int (1 + cellI ns 0 / 48 % 3)])) W = some (.lst [.int (1 + cellI ns 0 / 16 % 3), .int (1 + cellI ns 0 / 48 % 3)]) := upd_same
    generalize upd H W (.lst [.int (1 + cellI ns 0 / 16 % 3), .int (1 + cellI ns 0 / 48 % 3)]) = H1 at s1 e1 ⊢

    refine ⟨_, rfl, _, _, rfl, rfl, (by first | (show (0 : Int) < _; decide) | simp), rfl, _, rfl, (fun σ' H' => Ex3 fun (L : Addr) (ws : List Int) (cm : Option Int) => All8 (σ' = [some (.ref a), some (.int (cellI ns 0)), some (.ref L), none]) (H' L = some (.lst (ws.map V.int))) (H L = none) (2 ≤ ws.length) (ws.length ≤ 8) ((∀ w ∈ ws, 1 ≤ w ∧ w ≤ 3)) ((cm = none ∨ cm = some 1)) (Same H H')), fun _ => ?_, fun _ => ⟨W, [1 + cellI ns 0 / 16 % 3, 1 + cellI ns 0 / 48 % 3], none, rfl, e1, hW, by simp, by simp, fun w hw => ?_, .inl rfl, s1⟩, ?_⟩
    · refine ⟨lenOk, fun A1 hA1 => ?_⟩
      have s2 : Same H1 (upd H1 A1 (.lst [.int 1])) := Same.upd hA1
      have e2 : (upd H1 A1 (.lst [.int 1])) A1 = some (.lst [.int 1]) := upd_same
      generalize upd H1 A1 (.lst [.int 1]) = H2 at s2 e2 ⊢

      refine ⟨A1, _, _, rfl, rfl, e2, by decide, by decide, small63 (by simp), fun R hR => ?_⟩
      exact ⟨R, [1, 1, 1, 1, 1, 1, 1, 1], none, rfl, upd_same, (s1.trans s2).free hR, by simp, by simp, (fun w hw => by simp at hw; omega), .inl rfl, (s1.trans s2).trans (Same.upd hR)⟩
    · have hw2 : w = 1 + cellI ns 0 / 16 % 3 ∨ w = 1 + cellI ns 0 / 48 % 3 := by simpa using hw
      rcases hw2 with z | z <;> omega
    rintro σ' H2 ⟨L, ws, cm, rfl, eL, hL, hl2, hl8, hwb, _, s2⟩
    refine ⟨_, rfl, _, _, rfl, rfl, ⟨by decide, by decide⟩, _, _, rfl, rfl, (by first | (show (0 : Int) < _; decide) | simp), rfl, _, rfl, (fun σ' H' => Ex3 fun (L : Addr) (ws : List Int) (cm : Option Int) => All8 (σ' = [some (.ref a), some (.int (cellI ns 0)), some (.ref L), some (vO cm)]) (H' L = some (.lst (ws.map V.int))) (H L = none) (2 ≤ ws.length) (ws.length ≤ 8) ((∀ w ∈ ws, 1 ≤ w ∧ w ≤ 3)) ((cm = none ∨ cm = some 1)) (Same H H')), (fun _ => ⟨L, ws, some 1, rfl, eL, hL, hl2, hl8, hwb, .inr rfl, s2⟩), (fun _ => ⟨L, ws, none, rfl, eL, hL, hl2, hl8, hwb, .inl rfl, s2⟩), ?_⟩
    clear s2 hwb hl8 hl2 hL eL
    rintro σ' H2 ⟨L, ws, cm, rfl, eL, hL, hl2, hl8, hwb, hcm, s2⟩
    have hwb2 : ∀ w ∈ ws, 1 ≤ w ∧ w ≤ 3001 * 10 ^ (40 : Int).toNat := fun w hw => by
      have h1 := hwb w hw
      have h2 := pos40
      omega
    refine ⟨_, rfl, _, _, rfl, rfl, (by first | (show (0 : Int) < _; decide) | simp), rfl, _, rfl, (fun σ' H' => Ex3 fun (L : Addr) (ws : List Int) (cm : Option Int) => All8 (σ' = [some (.ref a), some (.int (cellI ns 0)), some (.ref L), some (vO cm)]) (H' L = some (.lst (ws.map V.int))) (H L = none) (2 ≤ ws.length) (ws.length ≤ 8) ((∀ w ∈ ws, 1 ≤ w ∧ w ≤ 3001 * 10 ^ (40 : Int).toNat)) ((cm = none ∨ cm = some 1)) (Same H H')), fun _ => ?_, (fun _ => ⟨L, ws, cm, rfl, eL, hL, hl2, hl8, hwb2, hcm, s2⟩), ?_⟩
    · have aw : atI (ws.map V.int) 1 = some (.int (ws.getD 1 0)) := getD_at (k := 1) (by omega)
      have hw1 : 1 ≤ ws.getD 1 0 ∧ ws.getD 1 0 ≤ 3 := hwb _ (by rw [List.getD_eq_getElem?_getD, List.getElem?_eq_getElem (by omega)]; exact List.getElem_mem _)
      generalize ws.getD 1 0 = w1 at aw hw1
      have m40 := emod_range (cellI ns 1) pos40
      have d1 : 0 ≤ 3000 / w1 := Int.ediv_nonneg (by decide) (by omega)
      have d2 : 3000 / w1 ≤ 3000 := Int.ediv_le_self _ (by decide)
      have g1 := mul_le4 (show 0 ≤ 3000 / w1 + 1 by omega) (show 3000 / w1 + 1 ≤ 3001 by omega) (show 0 ≤ 1 + cellI ns 1 % 10 ^ (40 : Int).toNat by omega) (show 1 + cellI ns 1 % 10 ^ (40 : Int).toNat ≤ 10 ^ (40 : Int).toNat by omega)
      have g2 : 1 * 1 ≤ (3000 / w1 + 1) * (1 + cellI ns 1 % 10 ^ (40 : Int).toNat) := Int.mul_le_mul (by omega) (by omega) (by decide) (by omega)
      refine ⟨_, rfl, L, _, _, _, rfl, rfl, .inl (SqL.of eL), aw, _, _, rfl, rfl, ⟨by omega, by omega⟩, _, _, rfl, rfl, _, rfl, a, ns, _, rfl, s2.seq hS, by decide, _, _, rfl, rfl, ⟨by decide, by decide, by decide⟩, _, _, rfl, rfl, pos40, _, _, rfl, rfl, _, _, rfl, rfl, mulOk_l (by omega) (by omega), ?_⟩
      refine ⟨_, rfl, L, _, _, _, rfl, rfl, eL, ixN_in (by decide) (by rw [List.length_map]; omega), ?_⟩
      refine ⟨L, ws.set 0 ((3000 / w1 + 1) * (1 + cellI ns 1 % 10 ^ (40 : Int).toNat)), cm, rfl, by rw [upd_same, List.map_set]; rfl, hL, by rw [List.length_set]; exact hl2, by rw [List.length_set]; exact hl8, fun w hw => ?_, hcm, s2.new hL⟩
      rcases List.mem_or_eq_of_mem_set hw with z | z
      · exact hwb2 w z
      · rw [z]
        exact ⟨by omega, g1.2⟩
    clear s2 hwb hwb2 hl8 hl2 hL eL hcm
    rintro σ' H2 ⟨L, ws, cm, rfl, eL, hL, hl2, hl8, hwb, hcm, s2⟩
    refine ⟨_, rfl, L, _, rfl, .inl ⟨SqL.of eL, fun t ht => ?_⟩⟩
    have s3 : Same H2 (upd H2 t (.tup (ws.map V.int))) := Same.upd ht
    have e3 : (upd H2 t (.tup (ws.map V.int))) t = some (.tup (ws.map V.int)) := upd_same
    generalize upd H2 t (.tup (ws.map V.int)) = H3 at s3 e3 ⊢

    refine ⟨_, rfl, lenOk, fun p hp => ?_⟩
    refine q p ws cm _ ((s2.trans s3).trans (Same.upd hp)) ⟨t, upd_same, (Same.upd hp) _ _ e3⟩ ⟨fun w hw => ?_, by omega, hl8, hcm⟩
    have h1 := hwb w hw
    have h2 := big40
    omega
/-! ### law_standing -/
noncomputable def sp_law_standing (K : PySem.W.Frag) : Sp := fun vs H Q _ => Ex4 fun (a : Addr) (ws : List Int) (cm : Option Int) (c : Int) => All4 (vs = [.ref a, .int c]) (HallAt H a ws cm) (HK ws cm) (∀ (p : Addr) (ls : List Int) (q : Int) (H' : Hp), Same H H' → StAt H' p ls q → (ls, q) ∈ standL ws (qv cm) → Q (.ref p) H')
theorem ok_law_standing {fd  : FuncData} (T : Txt K mg ad C_NoHall C_TooMany C_Unsafe C_RoundError C_NoChain C_NoListener C_NoLoss C_NoPart C_NoRow C_NoStand C_NoWheel C_TooMuch) (F : Fun K "_law_standing" "_law_standing" s_law_standing ad.f_law_standing fd) : FnOk P w K mg base (CX1 P w) 1 ad.f_law_standing fd ["hall", "cell"] (sp_law_standing K) := by
  refine F.okN sc_law_standing (fun vs H Q E h => ?_) (fun cdv A outer s H vs Q E hr h => ?_)
  · rcases h with ⟨a, ws, cm, c, rfl, ⟨wt, ha1, ha2⟩, hk, q⟩ <;> rfl
  · obtain ⟨a, ws, cm, c, rfl, ⟨wt, ha1, ha2⟩, hk, q⟩ := h
    refine ⟨_, (pss_cons (ps_set (i := 2) sc_law_standing.nd rfl (Or.inl rfl) (pe_lst pa_nil)) (pss_cons (ps_for PassesOwn.never rfl (pi_eq (w' := iSq K _) (pi_sq (pe_ix (ix_sq K) (pv 0) pe_int (fun _ _ => rfl)))) (pg_name (i := 3) sc_law_standing.nd rfl (Or.inl rfl)) (pss_cons (ps_expr (pe_eq (u' := tBM K _ _ _ _) (pe_bm PySem.F.plainAttrs_list PySem.F.slot_list_append PySem.F.type_list_append mt_append (pv 2) (pa_cons (pe_op op_add pe_int (pe_op op_mod (pv 1) (pv 3))) pa_nil)))) (pss_one (ps_set (i := 1) sc_law_standing.nd rfl (Or.inl rfl) (pe_op op_fdivB (pv 1) (pv 3)))))) (pss_cons (ps_if (pt_cmpR op_isN (pe_ix (ix_sq K) (pv 0) pe_int (fun _ _ => rfl)) pe_non (nomark _)) (pss_one (ps_ret (pe_tup (pa_cons (pe_callTy (call_tupK K) (by rfl) T.n_tuple boot_tuple (pa_cons (pv 2) pa_nil)) (pa_cons pe_int pa_nil))))) pss_nil) (pss_one (ps_ret (pe_tup (pa_cons (pe_callTy (call_tupK K) (by rfl) T.n_tuple boot_tuple (pa_cons (pv 2) pa_nil)) (pa_cons (pe_op op_mod (pv 1) (pe_op op_add (pe_ix (ix_sq K) (pv 0) pe_int (fun _ _ => rfl)) pe_int)) pa_nil)))))))), ?_⟩
    have hw8 := hk.2.2.1
    refine ⟨lenOk, fun L hL => ?_⟩
    have s1 : Same H (upd H L (.lst [])) := Same.upd hL
    have e1 : (upd H L (.lst [])) L = some (.lst []) := upd_same
    generalize upd H L (.lst []) = H1 at s1 e1 ⊢

    have g1 := s1 _ _ ha1
    have g2 := s1 _ _ ha2
    refine ⟨_, rfl, a, _, _, _, rfl, rfl, .inr (SqT.of g1), rfl, wt, rfl, .inr ⟨⟨_, SqT.of g2⟩, ?_⟩⟩
    refine for_tup (K := K) (a := wt) (xs := ws.map V.int) (fun i σ H' => Ex3 fun (ls : List Int) (num : Int) (v3 : Option V) => All5 (σ = [some (.ref a), some (.int num), some (.ref L), v3]) (ls.length = i) (H' L = some (.lst (ls.map V.int))) (LsOk ws ls) (Same H H')) ⟨[], _, none, rfl, rfl, e1, (fun j x h => by simp at h), s1⟩ (by rintro i σ H' _ ⟨_, _, _, _, _, _, _, s⟩; exact SqT.of (s _ _ ha2)) ?_ ?_
    · rintro i y σ H' hy ⟨ls, num, v3, rfl, hll, hL', hok, s'⟩
      have hi := (List.getElem?_eq_some_iff.mp hy).1
      rw [List.length_map] at hi
      rw [List.getElem?_map] at hy
      obtain ⟨x, hx, rfl⟩ := Option.map_eq_some_iff.mp hy
      have hx1 := hk.1 x (List.mem_of_getElem? hx)
      have hm := emod_range num (show 0 < x by omega)
      have hxb : intBits x ≤ 256 := bits200 (by omega)
      refine ⟨_, rfl, .inl ⟨rfl, _, SqL.of hL'⟩, _, rfl, _, rfl, _, _, rfl, rfl, (by show 0 < x; omega), _, _, rfl, rfl, L, _, _, rfl, rfl, hL', small1000 (by rw [List.length_map]; omega), ?_⟩
      refine ⟨_, rfl, _, rfl, _, _, rfl, rfl, ⟨by omega, by omega⟩, ?_⟩
      exact ⟨ls ++ [_], num / x, _, rfl, len_snoc hll, lst_snoc, hok.snoc (by rw [hll]; exact hx) (by omega) (by omega), s'.new hL⟩
    rintro σ H2 ⟨ls, num, v3, rfl, hll, hL2, hok, s2⟩
    rw [List.length_map] at hll
    have k1 := s2 _ _ ha1
    refine ⟨_, rfl, a, _, _, _, rfl, rfl, .inr (SqT.of k1), rfl, rfl, _, rfl, ?_⟩
    refine ite2 (fun h0 => ?_) (fun h0 => ?_)
    · have hc : cm = none := by
        cases cm with
        | none => rfl
        | some d => simp [vO] at h0
      subst hc
      refine ⟨_, rfl, L, _, rfl, .inl ⟨SqL.of hL2, fun t ht => ?_⟩⟩
      have s3 : Same H2 (upd H2 t (.tup (ls.map V.int))) := Same.upd ht
      have e3 : (upd H2 t (.tup (ls.map V.int))) t = some (.tup (ls.map V.int)) := upd_same
      generalize upd H2 t (.tup (ls.map V.int)) = H3 at s3 e3 ⊢

      refine ⟨lenOk, fun p hp => ?_⟩
      exact q p ls 0 _ ((s2.trans s3).trans (Same.upd hp)) ⟨t, upd_same, (Same.upd hp) _ _ e3⟩ (hok.stand hll (by decide) (by decide))
    cases cm with
    | none => exact absurd rfl h0
    | some d =>
      have hd1 := hk.cm d rfl
      have hm := emod_range num (show 0 < d + 1 by omega)
      refine ⟨_, rfl, L, _, rfl, .inl ⟨SqL.of hL2, fun t ht => ?_⟩⟩
      have s3 : Same H2 (upd H2 t (.tup (ls.map V.int))) := Same.upd ht
      have e3 : (upd H2 t (.tup (ls.map V.int))) t = some (.tup (ls.map V.int)) := upd_same
      generalize upd H2 t (.tup (ls.map V.int)) = H3 at s3 e3 ⊢

      refine ⟨_, rfl, _, rfl, a, _, _, _, rfl, rfl, .inr (SqT.of (s3 _ _ k1)), rfl, _, _, rfl, rfl, _, _, rfl, rfl, (by show 0 < d + 1; omega), lenOk, fun p hp => ?_⟩
      exact q p ls _ _ ((s2.trans s3).trans (Same.upd hp)) ⟨t, upd_same, (Same.upd hp) _ _ e3⟩ (hok.stand hll hm.1 hm.2)
/-! ### law_wait -/
noncomputable def sp_law_wait (K : PySem.W.Frag) : Sp := fun vs H Q _ => Ex4 fun (a : Addr) (ws : List Int) (cm : Option Int) (c : Int) => All4 (vs = [.ref a, .int c]) (HallAt H a ws cm) (HK ws cm) (∀ (w : Int), w.natAbs < 2 ^ 200 → Q (.int w) H)
theorem ok_law_wait {fd fd_law_many : FuncData} (T : Txt K mg ad C_NoHall C_TooMany C_Unsafe C_RoundError C_NoChain C_NoListener C_NoLoss C_NoPart C_NoRow C_NoStand C_NoWheel C_TooMuch) (F : Fun K "_law_wait" "_law_wait" s_law_wait ad.f_law_wait fd) (G_law_many : FnOk P w K mg base (CX1 P w) 1 ad.f_law_many fd_law_many ["hall"] (sp_law_many K)) (B_law_many : Binds K fd_law_many ["hall"] []) : FnOk P w K mg base (CX1 P w) 2 ad.f_law_wait fd ["hall", "cell"] (sp_law_wait K) := by
  refine F.okN sc_law_wait (fun vs H Q E h => ?_) (fun cdv A outer s H vs Q E hr h => ?_)
  · rcases h with ⟨a, ws, cm, c, rfl, ha, hk, q⟩ <;> rfl
  · obtain ⟨a, ws, cm, c, rfl, ha, hk, q⟩ := h
    refine ⟨_, (pss_cons (ps_if (pt_cmpR op_eq (pe_op op_mod (pv 1) pe_int) pe_int (nomark _)) (pss_one (ps_ret (pe_op op_sub pe_int (pe_op op_mod (pe_op op_fdivB (pv 1) pe_int) (pe_op op_pow pe_int pe_int))))) pss_nil) (pss_cons (ps_if (pt_cmpR op_eq (pe_op op_mod (pv 1) pe_int) pe_int (nomark _)) (pss_cons (ps_set (i := 2) sc_law_wait.nd rfl (Or.inl rfl) pe_int) (pss_cons (ps_ifJ (pt_cmpR op_eq (pe_op op_mod (pv 1) pe_int) pe_int (nomark _)) (pss_one (ps_set (i := 2) sc_law_wait.nd rfl (Or.inl rfl) (pe_op op_add pe_int (pe_op op_mod (pe_op op_fdivB (pv 1) pe_int) (pe_op op_pow pe_int pe_int))))) pss_nil) (pss_one (ps_ret (pe_op op_mulO (pe_op op_add (pe_op op_fdivB pe_int (pe_call G_law_many (hr.mono (by decide)) rfl T.m_law_many T.k_law_many B_law_many .nil passN (pa_cons (pv 0) pa_nil))) pe_int) (pv 2)))))) pss_nil) (pss_one (ps_ret (pe_op op_add pe_int (pe_op op_mod (pe_op op_fdivB (pv 1) pe_int) pe_int)))))), ?_⟩
    have b40 := big40
    have p40 := pos40
    refine ⟨_, rfl, _, _, rfl, rfl, (by first | (show (0 : Int) < _; decide) | simp), rfl, _, rfl, ?_⟩
    refine ite2 (fun _ => ?_) (fun _ => ?_)
    · have m := emod_range (c / 4) pos40
      refine ⟨_, rfl, _, _, rfl, rfl, ⟨by decide, by decide⟩, _, _, rfl, rfl, ⟨by decide, by decide, by decide⟩, _, _, rfl, rfl, pos40, _, _, rfl, rfl, q _ ?_⟩
      omega
    refine ⟨_, rfl, _, _, rfl, rfl, (by first | (show (0 : Int) < _; decide) | simp), rfl, _, rfl, ?_⟩
    refine ite2 (fun _ => ?_) (fun _ => ?_)
    · refine ⟨_, rfl, _, _, rfl, rfl, (by first | (show (0 : Int) < _; decide) | simp), rfl, _, rfl, (fun σ' H' => ∃ (m : Int), All4 (σ' = [some (.ref a), some (.int c), some (.int m)]) (H' = H) (1 ≤ m) (m ≤ 10 ^ (40 : Int).toNat)), fun _ => ?_, (fun _ => ⟨1, rfl, rfl, by decide, by decide⟩), ?_⟩
      · have m := emod_range (c / 8) pos40
        exact ⟨_, rfl, _, _, rfl, rfl, ⟨by decide, by decide⟩, _, _, rfl, rfl, ⟨by decide, by decide, by decide⟩, _, _, rfl, rfl, pos40, _, _, rfl, rfl, _, rfl, rfl, by omega, by omega⟩
      rintro σ' H' ⟨m, rfl, rfl, hm1, hm2⟩
      obtain ⟨r1, r2, r3, r4, r5⟩ := hk.rk
      have b1 := prod_bits r4 r3 ws.length (by omega)
      rw [List.take_length] at b1
      have hp1 := prod_le ws (qv cm) (by omega) r1
      refine ⟨_, rfl, a, ws, cm, rfl, ha, hk, ?_⟩
      generalize prodI (qv cm) ws = w1 at b1 hp1
      have d1 : 0 ≤ 3000 / w1 := Int.ediv_nonneg (by decide) (by omega)
      have d2 : 3000 / w1 ≤ 3000 := Int.ediv_le_self _ (by decide)
      have g1 := mul_le4 (show 0 ≤ 3000 / w1 + 1 by omega) (show 3000 / w1 + 1 ≤ 3001 by omega) (show 0 ≤ m by omega) hm2
      refine ⟨_, _, rfl, rfl, ⟨by omega, by omega⟩, _, _, rfl, rfl, _, rfl, _, _, rfl, rfl, mulOk_l (by omega) (by omega), q _ ?_⟩
      show ((3000 / w1 + 1) * m).natAbs < 2 ^ 200
      omega
    · have m := emod_range (c / 4) (show (0 : Int) < 4 by decide)
      refine ⟨_, rfl, _, _, rfl, rfl, ⟨by decide, by decide⟩, _, _, rfl, rfl, (by first | (show (0 : Int) < _; decide) | simp), _, _, rfl, rfl, q _ ?_⟩
      omega
/-! ### law_due -/
noncomputable def sp_law_due (K : PySem.W.Frag) : Sp := fun vs H Q _ => Ex8 fun (a b : Addr) (ws ls : List Int) (cm : Option Int) (q : Int) (wait : Int) (way : Bool) => All7 (vs = [.ref a, .ref b, .int wait, .bl way]) (HallAt H a ws cm) (StAt H b ls q) (HK ws cm) ((ls, q) ∈ standL ws (qv cm)) (wait.natAbs < 2 ^ 200) (∀ (v : Int) (H' : Hp), Same H H' → Due ws ls cm q wait way v → Q (.int v) H')
theorem ok_law_due {fd fd_law_many fd_ranks : FuncData} (T : Txt K mg ad C_NoHall C_TooMany C_Unsafe C_RoundError C_NoChain C_NoListener C_NoLoss C_NoPart C_NoRow C_NoStand C_NoWheel C_TooMuch) (F : Fun K "_law_due" "_law_due" s_law_due ad.f_law_due fd) (G_law_many : FnOk P w K mg base (CX1 P w) 1 ad.f_law_many fd_law_many ["hall"] (sp_law_many K)) (B_law_many : Binds K fd_law_many ["hall"] []) (G_ranks : FnOk P w K mg base (CX1 P w) 7 ad.f_ranks fd_ranks ["hall"] (sp_ranks K C_NoHall C_TooMany C_Unsafe)) (B_ranks : Binds K fd_ranks ["hall"] []) : FnOk P w K mg base (CX1 P w) 8 ad.f_law_due fd ["hall", "standing", "wait", "way"] (sp_law_due K) := by
  refine F.okN sc_law_due (fun vs H Q E h => ?_) (fun cdv A outer s H vs Q E hr h => ?_)
  · rcases h with ⟨a, b, ws, ls, cm, n, wait, way, rfl, ha, hb, hk, hks, hwb, q⟩ <;> rfl
  · obtain ⟨a, b, ws, ls, cm, n, wait, way, rfl, ha, hb, hk, hks, hwb, q⟩ := h
    refine ⟨_, (pss_cons (ps_if (PW.pt (pw_orY (PW.pt (pw_andY (pt_val (pv 3)) (pw_and1 (pt_cmpR op_notN (pe_ix (ix_sq K) (pv 0) pe_int (fun _ _ => rfl)) pe_non (nomark _))))) (pw_orY (pt_cmpR op_lt (pv 2) pe_int (nomark _)) (pw_or1 (pt_cmpR op_eq (pe_callB (call_lenK K) (by rfl) T.n_len PySem.boot_len (pa_cons (pe_ix (ix_sq K) (pv 0) pe_int (fun _ _ => rfl)) pa_nil)) pe_int (nomark _)))))) (pss_one (ps_ret pe_int)) pss_nil) (pss_cons (ps_if (pt_cmpR op_gt (pe_op op_mulO (pe_call G_law_many (hr.mono (by decide)) rfl T.m_law_many T.k_law_many B_law_many .nil passN (pa_cons (pv 0) pa_nil)) (pv 2)) pe_int (nomark _)) (pss_one (ps_ret pe_int)) pss_nil) (pss_cons (ps_if (PW.pt (pw_andY (pt_val (pv 3)) (pw_and1 (pt_cmp (pc_din (hu20 hr) (pv 1) (pe_call G_ranks (hr.mono (by decide)) rfl T.m_ranks T.k_ranks B_ranks .nil passN (pa_cons (pv 0) pa_nil))) rfl)))) (pss_one (ps_ret pe_int)) pss_nil) (pss_one (ps_ret pe_int))))), ?_⟩
    obtain ⟨wt, ha1, ha2⟩ := id ha
    have hw8 := hk.2.2.1
    have hw1 : ∀ x ∈ ws, 1 ≤ x := fun x hx => (hk.1 x hx).1
    refine ⟨_, rfl, _, rfl, (fun d H' => d = (way && !decide (cm = none)) ∧ H' = H), (fun h => ⟨by rw [h]; rfl, rfl⟩), (fun h => ⟨_, rfl, a, _, _, _, rfl, rfl, .inr (SqT.of ha1), rfl, rfl, _, rfl, ?_, rfl⟩), fun d H1 hd => ?_⟩
    · rw [h]
      cases cm <;> simp [vO]
    obtain ⟨hd, rfl⟩ := hd
    refine ⟨(fun d H' => (d = true ↔ Bd ws cm wait way) ∧ H' = H1), (fun h => ⟨⟨fun _ => .inl ?_, fun _ => rfl⟩, rfl⟩), (fun h => ?_), fun d2 H2 hd2 => ?_⟩
    · rw [h] at hd
      cases way <;> cases cm <;> simp at hd ⊢
    · refine ⟨_, rfl, _, _, rfl, rfl, _, rfl, (fun d H' => (d = true ↔ Bd ws cm wait way) ∧ H' = H1), (fun h2 => ⟨⟨fun _ => .inr (.inl (of_decide_eq_true h2)), fun _ => rfl⟩, rfl⟩), (fun h2 => ⟨_, rfl, a, _, _, _, rfl, rfl, .inr (SqT.of ha1), rfl, wt, _, rfl, .inr (SqT.of ha2), rfl, _, rfl, ?_, rfl⟩), fun d2 H2 hd2 => hd2⟩
      have h3 : ¬ wait < 1 := of_decide_eq_false h2
      have h4 : ¬ (way = true ∧ cm ≠ none) := fun z => by
        rw [h, z.1] at hd
        have := z.2
        simp [this] at hd
      rw [List.length_map]
      constructor
      · intro z
        have z2 : ((ws.length : Nat) : Int) = 8 := by simpa using z
        exact .inr (.inr (by omega))
      · rintro (z | z | z)
        · exact absurd z h4
        · exact absurd z h3
        · simp [z]
    obtain ⟨hd2, rfl⟩ := hd2
    refine ite2 (fun h => q 1 _ (Same.refl _) (Due.bad (hd2.mp h))) (fun h => ?_)
    have hB : ¬ Bd ws cm wait way := fun z => h (hd2.mpr z)
    have h1 : 1 ≤ wait := by
      apply Classical.byContradiction
      intro z
      exact hB (.inr (.inl (by omega)))
    have h2 : ws.length < 8 := by
      apply Classical.byContradiction
      intro z
      exact hB (.inr (.inr (by omega)))
    obtain ⟨r1, r2, r3, r4, r5⟩ := hk.rk
    have b1 := prod_bits r4 r3 ws.length (by omega)
    rw [List.take_length] at b1
    have eP := prod_snoc2 (qv cm) ws wait
    refine ⟨_, rfl, a, ws, cm, rfl, ha, hk, _, rfl, _, _, rfl, rfl, mulOk b1 (bits200 hwb) (by omega), _, _, rfl, rfl, _, rfl, ?_⟩
    refine ite2 (fun h => q 2 _ (Same.refl _) (Due.many hB ?_)) (fun h => ?_)
    · rw [eP]
      simpa using h
    have hP : prodI (qv cm) (ws ++ [wait]) ≤ 3000 := by
      rw [eP]
      simpa using h
    have hp1 := prod_le ws (qv cm) (by omega) r1
    have hp2 : prodI (qv cm) ws * 1 ≤ prodI (qv cm) ws * wait := Int.mul_le_mul_of_nonneg_left h1 (by omega)
    refine ⟨_, rfl, _, rfl, (fun d H' => Same H2 H' ∧ ((way = false ∧ d = false) ∨ (way = true ∧ ∃ tv, RankOk ws cm tv ∧ d = (valV tv (ls, n)).isSome))), (fun h => ⟨Same.refl _, .inl ⟨h, rfl⟩⟩), (fun h => ⟨_, rfl, _, rfl, .inl ⟨a, ws, cm, rfl, ha, r1, r2, r3, r4, r5, by omega, fun T tv H3 hT s3 eT hrk hnd htl => ?_⟩⟩), fun d H3 hd3 => ?_⟩
    · exact ⟨T, _, rfl, DGet.t eT (show StH H3 b (ls, n) from hb.same s3), _, rfl, s3, .inr ⟨h, tv, hrk, rfl⟩⟩
    obtain ⟨s3, hd3⟩ := hd3
    refine ite2 (fun h => q 3 _ s3 ?_) (fun h => q 0 _ s3 ?_)
    · rcases hd3 with ⟨_, z⟩ | ⟨z, tv, z1, z2⟩
      · rw [z] at h
        cases h
      · subst z
        exact Due.three hB hP z1 (z2.symm.trans h)
    · rcases hd3 with ⟨z, _⟩ | ⟨z, tv, z1, z2⟩
      · subst z
        exact Due.zero hB hP
      · subst z
        exact Due.safe hB hP z1 (fun y => h (z2.trans y))
/-! ### law -/
noncomputable def sp_law (K : PySem.W.Frag) : Sp := fun vs H Q _ => Ex2 fun (a : Addr) (ns : List Int) => All5 (vs = [.ref a]) (SqL K H a (ns.map V.int)) (ns.length ≤ 63) ((∀ z ∈ ns, intBits z ≤ 2 ^ 20)) (∀ H', Q (.bl true) H')
theorem ok_law {fd fd_law_hall fd_law_standing fd_law_wait fd_law_cell fd_law_refusal fd_law_due : FuncData} (T : Txt K mg ad C_NoHall C_TooMany C_Unsafe C_RoundError C_NoChain C_NoListener C_NoLoss C_NoPart C_NoRow C_NoStand C_NoWheel C_TooMuch) (F : Fun K "law" "law" s_law ad.f_law fd) (G_law_hall : FnOk P w K mg base (CX1 P w) 2 ad.f_law_hall fd_law_hall ["script"] (sp_law_hall K)) (B_law_hall : Binds K fd_law_hall ["script"] []) (G_law_standing : FnOk P w K mg base (CX1 P w) 1 ad.f_law_standing fd_law_standing ["hall", "cell"] (sp_law_standing K)) (B_law_standing : Binds K fd_law_standing ["hall", "cell"] []) (G_law_wait : FnOk P w K mg base (CX1 P w) 2 ad.f_law_wait fd_law_wait ["hall", "cell"] (sp_law_wait K)) (B_law_wait : Binds K fd_law_wait ["hall", "cell"] []) (G_law_cell : FnOk P w K mg base (CX1 P w) 1 ad.f_law_cell fd_law_cell ["script", "k"] (sp_law_cell K)) (B_law_cell : Binds K fd_law_cell ["script", "k"] []) (G_law_refusal : FnOk P w K mg base (CX1 P w) 9 ad.f_law_refusal fd_law_refusal ["hall", "standing", "wait", "way"] (sp_law_refusal K C_NoHall C_TooMany C_Unsafe)) (B_law_refusal : Binds K fd_law_refusal ["hall", "standing", "wait", "way"] []) (G_law_due : FnOk P w K mg base (CX1 P w) 8 ad.f_law_due fd_law_due ["hall", "standing", "wait", "way"] (sp_law_due K)) (B_law_due : Binds K fd_law_due ["hall", "standing", "wait", "way"] []) : FnOk P w K mg base (CX1 P w) 10 ad.f_law fd ["script"] (sp_law K) := by
  refine F.okN sc_law (fun vs H Q E h => ?_) (fun cdv A outer s H vs Q E hr h => ?_)
  · rcases h with ⟨a, ns, rfl, hS, hlen, hbig, q⟩ <;> rfl
  · obtain ⟨a, ns, rfl, hS, hlen, hbig, q⟩ := h
    refine ⟨_, (pss_cons (ps_set (i := 1) sc_law.nd rfl (Or.inl rfl) (pe_call G_law_hall (hr.mono (by decide)) rfl T.m_law_hall T.k_law_hall B_law_hall .nil passN (pa_cons (pv 0) pa_nil))) (pss_cons (ps_set (i := 2) sc_law.nd rfl (Or.inl rfl) (pe_call G_law_standing (hr.mono (by decide)) rfl T.m_law_standing T.k_law_standing B_law_standing .nil passN (pa_cons (pv 1) (pa_cons (pe_call G_law_cell (hr.mono (by decide)) rfl T.m_law_cell T.k_law_cell B_law_cell .nil passN (pa_cons (pv 0) (pa_cons pe_int pa_nil))) pa_nil)))) (pss_cons (ps_set (i := 3) sc_law.nd rfl (Or.inl rfl) (pe_call G_law_wait (hr.mono (by decide)) rfl T.m_law_wait T.k_law_wait B_law_wait .nil passN (pa_cons (pv 1) (pa_cons (pe_call G_law_cell (hr.mono (by decide)) rfl T.m_law_cell T.k_law_cell B_law_cell .nil passN (pa_cons (pv 0) (pa_cons pe_int pa_nil))) pa_nil)))) (pss_cons (ps_for PassesOwn.never rfl (pi_eq (w' := iSq K _) (pi_sq (pe_lst (pa_cons pe_bl (pa_cons pe_bl pa_nil))))) (pg_name (i := 4) sc_law.nd rfl (Or.inl rfl)) (pss_one (ps_if (pt_cmpR op_ne (pe_call G_law_refusal (hr.mono (by decide)) rfl T.m_law_refusal T.k_law_refusal B_law_refusal .nil passN (pa_cons (pv 1) (pa_cons (pv 2) (pa_cons (pv 3) (pa_cons (pv 4) pa_nil))))) (pe_call G_law_due (hr.mono (by decide)) rfl T.m_law_due T.k_law_due B_law_due .nil passN (pa_cons (pv 1) (pa_cons (pv 2) (pa_cons (pv 3) (pa_cons (pv 4) pa_nil))))) (nomark _)) (pss_one (ps_ret pe_bl)) pss_nil))) (pss_one (ps_ret pe_bl)))))), ?_⟩
    refine ⟨_, rfl, a, ns, rfl, hS, fun hp ws cm H1 s1 ha hk => ?_⟩
    refine ⟨_, rfl, _, rfl, a, ns, _, rfl, s1.seq hS, by decide, hp, ws, cm, _, rfl, ha, hk, fun p ls n H2 s2 hst hks => ?_⟩
    refine ⟨_, rfl, _, rfl, a, ns, _, rfl, (s1.trans s2).seq hS, by decide, hp, ws, cm, _, rfl, ha.same s2, hk, fun wait hw => ?_⟩
    refine ⟨lenOk, fun B hB => ?_⟩
    have s3 : Same H2 (upd H2 B (.lst [.bl true, .bl false])) := Same.upd hB
    have e3 : (upd H2 B (.lst [.bl true, .bl false])) B = some (.lst [.bl true, .bl false]) := upd_same
    generalize upd H2 B (.lst [.bl true, .bl false]) = H3 at s3 e3 ⊢

    refine ⟨B, rfl, .inl ⟨⟨_, SqL.of e3⟩, ?_⟩⟩
    refine for_list (K := K) (a := B) (xs := [.bl true, .bl false]) (fun i σ H' => ∃ (v4 : Option V), σ = [some (.ref a), some (.ref hp), some (.ref p), some (.int wait), v4] ∧ Same H3 H') ⟨_, rfl, Same.refl _⟩ (by rintro i σ H' _ ⟨_, _, s⟩; exact SqL.of (s _ _ e3)) ?_ ?_
    · rintro i y σ H' hy ⟨v4, rfl, s'⟩
      have hy2 : y = .bl true ∨ y = .bl false := by simpa using List.mem_of_getElem? hy
      obtain ⟨way, rfl⟩ : ∃ w, y = .bl w := by
        rcases hy2 with z | z
        · exact ⟨_, z⟩
        · exact ⟨_, z⟩
      have sx := s3.trans s'
      have hax := (ha.same s2).same sx
      have hsx := hst.same sx
      refine ⟨_, rfl, _, rfl, _, rfl, _, rfl, hp, p, ws, ls, cm, n, wait, way, rfl, hax, hsx, hk, hks, hw, fun v H4 s4 hd => ?_⟩
      refine ⟨_, rfl, _, rfl, _, rfl, _, rfl, hp, p, ws, ls, cm, n, wait, way, rfl, hax.same s4, hsx.same s4, hk, hks, hw, fun v2 H5 s5 hd2 => ?_⟩
      refine ⟨rfl, _, rfl, ite_f ?_ ⟨_, rfl, (s'.trans s4).trans s5⟩⟩
      rw [hd.one hd2]
      simp
    rintro σ H' ⟨v4, rfl, s'⟩
    exact q _
end
theorem all_mk {l : PySem.W.OpenLaw} {w : World} {K : PySem.W.Frag} {h : Heap} {mg : Str → Option Value} {fa : Addr} (X : K.In h) (G : h.Ns mainGlobals mg) (hfa : mg "law" = some (.ref fa)) {f_hall_of f_may_lose f_is_listener f_refuse_wrong_turn f_left_behind f_quiet_behind f_after f_all_behind f_quiet_values f_how_many f_all_left f_standings f_calls_by_standing f_ways_to f_without_calls_left f_ranks f_with_newcomer f_joined f_may_join f_lengthen_ways f_way_in f_law_cell f_law_other f_law_refusal f_law_many f_law_hall f_law_standing f_law_wait f_law_due f_law C_NoHall C_TooMany C_Unsafe C_RoundError C_NoChain C_NoListener C_NoLoss C_NoPart C_NoRow C_NoStand C_NoWheel C_TooMuch : Addr} {od_hall_of an_hall_of : Option Addr} {sl_hall_of : Array (Option Value)} {oc_hall_of kV_hall_of dc_hall_of pm_hall_of cd_hall_of ct_hall_of : Value} {od_may_lose an_may_lose : Option Addr} {sl_may_lose : Array (Option Value)} {oc_may_lose kV_may_lose dc_may_lose pm_may_lose cd_may_lose ct_may_lose : Value} {od_is_listener an_is_listener : Option Addr} {sl_is_listener : Array (Option Value)} {oc_is_listener kV_is_listener dc_is_listener pm_is_listener cd_is_listener ct_is_listener : Value} {od_refuse_wrong_turn an_refuse_wrong_turn : Option Addr} {sl_refuse_wrong_turn : Array (Option Value)} {oc_refuse_wrong_turn kV_refuse_wrong_turn dc_refuse_wrong_turn pm_refuse_wrong_turn cd_refuse_wrong_turn ct_refuse_wrong_turn : Value} {od_left_behind an_left_behind : Option Addr} {sl_left_behind : Array (Option Value)} {oc_left_behind kV_left_behind dc_left_behind pm_left_behind cd_left_behind ct_left_behind : Value} {od_quiet_behind an_quiet_behind : Option Addr} {sl_quiet_behind : Array (Option Value)} {oc_quiet_behind kV_quiet_behind dc_quiet_behind pm_quiet_behind cd_quiet_behind ct_quiet_behind : Value} {od_after an_after : Option Addr} {sl_after : Array (Option Value)} {oc_after kV_after dc_after pm_after cd_after ct_after : Value} {od_all_behind an_all_behind : Option Addr} {sl_all_behind : Array (Option Value)} {oc_all_behind kV_all_behind dc_all_behind pm_all_behind cd_all_behind ct_all_behind : Value} {od_quiet_values an_quiet_values : Option Addr} {sl_quiet_values : Array (Option Value)} {oc_quiet_values kV_quiet_values dc_quiet_values pm_quiet_values cd_quiet_values ct_quiet_values : Value} {od_how_many an_how_many : Option Addr} {sl_how_many : Array (Option Value)} {oc_how_many kV_how_many dc_how_many pm_how_many cd_how_many ct_how_many : Value} {od_all_left an_all_left : Option Addr} {sl_all_left : Array (Option Value)} {oc_all_left kV_all_left dc_all_left pm_all_left cd_all_left ct_all_left : Value} {od_standings an_standings : Option Addr} {sl_standings : Array (Option Value)} {oc_standings kV_standings dc_standings pm_standings cd_standings ct_standings : Value} {od_calls_by_standing an_calls_by_standing : Option Addr} {sl_calls_by_standing : Array (Option Value)} {oc_calls_by_standing kV_calls_by_standing dc_calls_by_standing pm_calls_by_standing cd_calls_by_standing ct_calls_by_standing : Value} {od_ways_to an_ways_to : Option Addr} {sl_ways_to : Array (Option Value)} {oc_ways_to kV_ways_to dc_ways_to pm_ways_to cd_ways_to ct_ways_to : Value} {od_without_calls_left an_without_calls_left : Option Addr} {sl_without_calls_left : Array (Option Value)} {oc_without_calls_left kV_without_calls_left dc_without_calls_left pm_without_calls_left cd_without_calls_left ct_without_calls_left : Value} {od_ranks an_ranks : Option Addr} {sl_ranks : Array (Option Value)} {oc_ranks kV_ranks dc_ranks pm_ranks cd_ranks ct_ranks : Value} {od_with_newcomer an_with_newcomer : Option Addr} {sl_with_newcomer : Array (Option Value)} {oc_with_newcomer kV_with_newcomer dc_with_newcomer pm_with_newcomer cd_with_newcomer ct_with_newcomer : Value} {od_joined an_joined : Option Addr} {sl_joined : Array (Option Value)} {oc_joined kV_joined dc_joined pm_joined cd_joined ct_joined : Value} {od_may_join an_may_join : Option Addr} {sl_may_join : Array (Option Value)} {oc_may_join kV_may_join dc_may_join pm_may_join cd_may_join ct_may_join : Value} {od_lengthen_ways an_lengthen_ways : Option Addr} {sl_lengthen_ways : Array (Option Value)} {oc_lengthen_ways kV_lengthen_ways dc_lengthen_ways pm_lengthen_ways cd_lengthen_ways ct_lengthen_ways : Value} {od_way_in an_way_in : Option Addr} {sl_way_in : Array (Option Value)} {oc_way_in kV_way_in dc_way_in pm_way_in cd_way_in ct_way_in : Value} {od_law_cell an_law_cell : Option Addr} {sl_law_cell : Array (Option Value)} {oc_law_cell kV_law_cell dc_law_cell pm_law_cell cd_law_cell ct_law_cell : Value} {od_law_other an_law_other : Option Addr} {sl_law_other : Array (Option Value)} {oc_law_other kV_law_other dc_law_other pm_law_other cd_law_other ct_law_other : Value} {od_law_refusal an_law_refusal : Option Addr} {sl_law_refusal : Array (Option Value)} {oc_law_refusal kV_law_refusal dc_law_refusal pm_law_refusal cd_law_refusal ct_law_refusal : Value} {od_law_many an_law_many : Option Addr} {sl_law_many : Array (Option Value)} {oc_law_many kV_law_many dc_law_many pm_law_many cd_law_many ct_law_many : Value} {od_law_hall an_law_hall : Option Addr} {sl_law_hall : Array (Option Value)} {oc_law_hall kV_law_hall dc_law_hall pm_law_hall cd_law_hall ct_law_hall : Value} {od_law_standing an_law_standing : Option Addr} {sl_law_standing : Array (Option Value)} {oc_law_standing kV_law_standing dc_law_standing pm_law_standing cd_law_standing ct_law_standing : Value} {od_law_wait an_law_wait : Option Addr} {sl_law_wait : Array (Option Value)} {oc_law_wait kV_law_wait dc_law_wait pm_law_wait cd_law_wait ct_law_wait : Value} {od_law_due an_law_due : Option Addr} {sl_law_due : Array (Option Value)} {oc_law_due kV_law_due dc_law_due pm_law_due cd_law_due ct_law_due : Value} {od_law an_law : Option Addr} {sl_law : Array (Option Value)} {oc_law kV_law dc_law pm_law cd_law ct_law : Value} {dt_hall_of : Addr} {tc_hall_of : Value} {td_hall_of : Option Addr} {tn_hall_of : Nat} {ts_hall_of : Array (Option Value)} {dt_after : Addr} {tc_after : Value} {td_after : Option Addr} {tn_after : Nat} {ts_after : Array (Option Value)}
    (a_hall_of : PySem.W.nsIn K mainGlobals "hall_of" = some (some (.ref f_hall_of))) (l_hall_of : K.lookup f_hall_of = some ⟨oc_hall_of, od_hall_of, .func (PySem.W.fnOf "hall_of" "hall_of" (defArgs s_hall_of) (defBody s_hall_of) (defScope s_hall_of) (.ref dt_hall_of) kV_hall_of dc_hall_of pm_hall_of an_hall_of cd_hall_of ct_hall_of), sl_hall_of⟩) (c_hall_of : PySem.W.codeIn K cd_hall_of "hall_of" = true) (k_hall_of : PySem.W.keepIn K (.ref f_hall_of) = true) (t_hall_of : K.lookup dt_hall_of = some ⟨tc_hall_of, td_hall_of, .seq #[Value.none] tn_hall_of, ts_hall_of⟩)
    (a_may_lose : PySem.W.nsIn K mainGlobals "may_lose" = some (some (.ref f_may_lose))) (l_may_lose : K.lookup f_may_lose = some ⟨oc_may_lose, od_may_lose, .func (PySem.W.fnOf "may_lose" "may_lose" (defArgs s_may_lose) (defBody s_may_lose) (defScope s_may_lose) .none kV_may_lose dc_may_lose pm_may_lose an_may_lose cd_may_lose ct_may_lose), sl_may_lose⟩) (c_may_lose : PySem.W.codeIn K cd_may_lose "may_lose" = true) (k_may_lose : PySem.W.keepIn K (.ref f_may_lose) = true)
    (a_is_listener : PySem.W.nsIn K mainGlobals "is_listener" = some (some (.ref f_is_listener))) (l_is_listener : K.lookup f_is_listener = some ⟨oc_is_listener, od_is_listener, .func (PySem.W.fnOf "is_listener" "is_listener" (defArgs s_is_listener) (defBody s_is_listener) (defScope s_is_listener) .none kV_is_listener dc_is_listener pm_is_listener an_is_listener cd_is_listener ct_is_listener), sl_is_listener⟩) (c_is_listener : PySem.W.codeIn K cd_is_listener "is_listener" = true) (k_is_listener : PySem.W.keepIn K (.ref f_is_listener) = true)
    (a_refuse_wrong_turn : PySem.W.nsIn K mainGlobals "refuse_wrong_turn" = some (some (.ref f_refuse_wrong_turn))) (l_refuse_wrong_turn : K.lookup f_refuse_wrong_turn = some ⟨oc_refuse_wrong_turn, od_refuse_wrong_turn, .func (PySem.W.fnOf "refuse_wrong_turn" "refuse_wrong_turn" (defArgs s_refuse_wrong_turn) (defBody s_refuse_wrong_turn) (defScope s_refuse_wrong_turn) .none kV_refuse_wrong_turn dc_refuse_wrong_turn pm_refuse_wrong_turn an_refuse_wrong_turn cd_refuse_wrong_turn ct_refuse_wrong_turn), sl_refuse_wrong_turn⟩) (c_refuse_wrong_turn : PySem.W.codeIn K cd_refuse_wrong_turn "refuse_wrong_turn" = true) (k_refuse_wrong_turn : PySem.W.keepIn K (.ref f_refuse_wrong_turn) = true)
    (a_left_behind : PySem.W.nsIn K mainGlobals "left_behind" = some (some (.ref f_left_behind))) (l_left_behind : K.lookup f_left_behind = some ⟨oc_left_behind, od_left_behind, .func (PySem.W.fnOf "left_behind" "left_behind" (defArgs s_left_behind) (defBody s_left_behind) (defScope s_left_behind) .none kV_left_behind dc_left_behind pm_left_behind an_left_behind cd_left_behind ct_left_behind), sl_left_behind⟩) (c_left_behind : PySem.W.codeIn K cd_left_behind "left_behind" = true) (k_left_behind : PySem.W.keepIn K (.ref f_left_behind) = true)
    (a_quiet_behind : PySem.W.nsIn K mainGlobals "quiet_behind" = some (some (.ref f_quiet_behind))) (l_quiet_behind : K.lookup f_quiet_behind = some ⟨oc_quiet_behind, od_quiet_behind, .func (PySem.W.fnOf "quiet_behind" "quiet_behind" (defArgs s_quiet_behind) (defBody s_quiet_behind) (defScope s_quiet_behind) .none kV_quiet_behind dc_quiet_behind pm_quiet_behind an_quiet_behind cd_quiet_behind ct_quiet_behind), sl_quiet_behind⟩) (c_quiet_behind : PySem.W.codeIn K cd_quiet_behind "quiet_behind" = true) (k_quiet_behind : PySem.W.keepIn K (.ref f_quiet_behind) = true)
    (a_after : PySem.W.nsIn K mainGlobals "after" = some (some (.ref f_after))) (l_after : K.lookup f_after = some ⟨oc_after, od_after, .func (PySem.W.fnOf "after" "after" (defArgs s_after) (defBody s_after) (defScope s_after) (.ref dt_after) kV_after dc_after pm_after an_after cd_after ct_after), sl_after⟩) (c_after : PySem.W.codeIn K cd_after "after" = true) (k_after : PySem.W.keepIn K (.ref f_after) = true) (t_after : K.lookup dt_after = some ⟨tc_after, td_after, .seq #[Value.bool false] tn_after, ts_after⟩)
    (a_all_behind : PySem.W.nsIn K mainGlobals "all_behind" = some (some (.ref f_all_behind))) (l_all_behind : K.lookup f_all_behind = some ⟨oc_all_behind, od_all_behind, .func (PySem.W.fnOf "all_behind" "all_behind" (defArgs s_all_behind) (defBody s_all_behind) (defScope s_all_behind) .none kV_all_behind dc_all_behind pm_all_behind an_all_behind cd_all_behind ct_all_behind), sl_all_behind⟩) (c_all_behind : PySem.W.codeIn K cd_all_behind "all_behind" = true) (k_all_behind : PySem.W.keepIn K (.ref f_all_behind) = true)
    (a_quiet_values : PySem.W.nsIn K mainGlobals "quiet_values" = some (some (.ref f_quiet_values))) (l_quiet_values : K.lookup f_quiet_values = some ⟨oc_quiet_values, od_quiet_values, .func (PySem.W.fnOf "quiet_values" "quiet_values" (defArgs s_quiet_values) (defBody s_quiet_values) (defScope s_quiet_values) .none kV_quiet_values dc_quiet_values pm_quiet_values an_quiet_values cd_quiet_values ct_quiet_values), sl_quiet_values⟩) (c_quiet_values : PySem.W.codeIn K cd_quiet_values "quiet_values" = true) (k_quiet_values : PySem.W.keepIn K (.ref f_quiet_values) = true)
    (a_how_many : PySem.W.nsIn K mainGlobals "how_many" = some (some (.ref f_how_many))) (l_how_many : K.lookup f_how_many = some ⟨oc_how_many, od_how_many, .func (PySem.W.fnOf "how_many" "how_many" (defArgs s_how_many) (defBody s_how_many) (defScope s_how_many) .none kV_how_many dc_how_many pm_how_many an_how_many cd_how_many ct_how_many), sl_how_many⟩) (c_how_many : PySem.W.codeIn K cd_how_many "how_many" = true) (k_how_many : PySem.W.keepIn K (.ref f_how_many) = true)
    (a_all_left : PySem.W.nsIn K mainGlobals "all_left" = some (some (.ref f_all_left))) (l_all_left : K.lookup f_all_left = some ⟨oc_all_left, od_all_left, .func (PySem.W.fnOf "all_left" "all_left" (defArgs s_all_left) (defBody s_all_left) (defScope s_all_left) .none kV_all_left dc_all_left pm_all_left an_all_left cd_all_left ct_all_left), sl_all_left⟩) (c_all_left : PySem.W.codeIn K cd_all_left "all_left" = true) (k_all_left : PySem.W.keepIn K (.ref f_all_left) = true)
    (a_standings : PySem.W.nsIn K mainGlobals "standings" = some (some (.ref f_standings))) (l_standings : K.lookup f_standings = some ⟨oc_standings, od_standings, .func (PySem.W.fnOf "standings" "standings" (defArgs s_standings) (defBody s_standings) (defScope s_standings) .none kV_standings dc_standings pm_standings an_standings cd_standings ct_standings), sl_standings⟩) (c_standings : PySem.W.codeIn K cd_standings "standings" = true) (k_standings : PySem.W.keepIn K (.ref f_standings) = true)
    (a_calls_by_standing : PySem.W.nsIn K mainGlobals "calls_by_standing" = some (some (.ref f_calls_by_standing))) (l_calls_by_standing : K.lookup f_calls_by_standing = some ⟨oc_calls_by_standing, od_calls_by_standing, .func (PySem.W.fnOf "calls_by_standing" "calls_by_standing" (defArgs s_calls_by_standing) (defBody s_calls_by_standing) (defScope s_calls_by_standing) .none kV_calls_by_standing dc_calls_by_standing pm_calls_by_standing an_calls_by_standing cd_calls_by_standing ct_calls_by_standing), sl_calls_by_standing⟩) (c_calls_by_standing : PySem.W.codeIn K cd_calls_by_standing "calls_by_standing" = true) (k_calls_by_standing : PySem.W.keepIn K (.ref f_calls_by_standing) = true)
    (a_ways_to : PySem.W.nsIn K mainGlobals "ways_to" = some (some (.ref f_ways_to))) (l_ways_to : K.lookup f_ways_to = some ⟨oc_ways_to, od_ways_to, .func (PySem.W.fnOf "ways_to" "ways_to" (defArgs s_ways_to) (defBody s_ways_to) (defScope s_ways_to) .none kV_ways_to dc_ways_to pm_ways_to an_ways_to cd_ways_to ct_ways_to), sl_ways_to⟩) (c_ways_to : PySem.W.codeIn K cd_ways_to "ways_to" = true) (k_ways_to : PySem.W.keepIn K (.ref f_ways_to) = true)
    (a_without_calls_left : PySem.W.nsIn K mainGlobals "without_calls_left" = some (some (.ref f_without_calls_left))) (l_without_calls_left : K.lookup f_without_calls_left = some ⟨oc_without_calls_left, od_without_calls_left, .func (PySem.W.fnOf "without_calls_left" "without_calls_left" (defArgs s_without_calls_left) (defBody s_without_calls_left) (defScope s_without_calls_left) .none kV_without_calls_left dc_without_calls_left pm_without_calls_left an_without_calls_left cd_without_calls_left ct_without_calls_left), sl_without_calls_left⟩) (c_without_calls_left : PySem.W.codeIn K cd_without_calls_left "without_calls_left" = true) (k_without_calls_left : PySem.W.keepIn K (.ref f_without_calls_left) = true)
    (a_ranks : PySem.W.nsIn K mainGlobals "ranks" = some (some (.ref f_ranks))) (l_ranks : K.lookup f_ranks = some ⟨oc_ranks, od_ranks, .func (PySem.W.fnOf "ranks" "ranks" (defArgs s_ranks) (defBody s_ranks) (defScope s_ranks) .none kV_ranks dc_ranks pm_ranks an_ranks cd_ranks ct_ranks), sl_ranks⟩) (c_ranks : PySem.W.codeIn K cd_ranks "ranks" = true) (k_ranks : PySem.W.keepIn K (.ref f_ranks) = true)
    (a_with_newcomer : PySem.W.nsIn K mainGlobals "with_newcomer" = some (some (.ref f_with_newcomer))) (l_with_newcomer : K.lookup f_with_newcomer = some ⟨oc_with_newcomer, od_with_newcomer, .func (PySem.W.fnOf "with_newcomer" "with_newcomer" (defArgs s_with_newcomer) (defBody s_with_newcomer) (defScope s_with_newcomer) .none kV_with_newcomer dc_with_newcomer pm_with_newcomer an_with_newcomer cd_with_newcomer ct_with_newcomer), sl_with_newcomer⟩) (c_with_newcomer : PySem.W.codeIn K cd_with_newcomer "with_newcomer" = true) (k_with_newcomer : PySem.W.keepIn K (.ref f_with_newcomer) = true)
    (a_joined : PySem.W.nsIn K mainGlobals "joined" = some (some (.ref f_joined))) (l_joined : K.lookup f_joined = some ⟨oc_joined, od_joined, .func (PySem.W.fnOf "joined" "joined" (defArgs s_joined) (defBody s_joined) (defScope s_joined) .none kV_joined dc_joined pm_joined an_joined cd_joined ct_joined), sl_joined⟩) (c_joined : PySem.W.codeIn K cd_joined "joined" = true) (k_joined : PySem.W.keepIn K (.ref f_joined) = true)
    (a_may_join : PySem.W.nsIn K mainGlobals "may_join" = some (some (.ref f_may_join))) (l_may_join : K.lookup f_may_join = some ⟨oc_may_join, od_may_join, .func (PySem.W.fnOf "may_join" "may_join" (defArgs s_may_join) (defBody s_may_join) (defScope s_may_join) .none kV_may_join dc_may_join pm_may_join an_may_join cd_may_join ct_may_join), sl_may_join⟩) (c_may_join : PySem.W.codeIn K cd_may_join "may_join" = true) (k_may_join : PySem.W.keepIn K (.ref f_may_join) = true)
    (a_lengthen_ways : PySem.W.nsIn K mainGlobals "lengthen_ways" = some (some (.ref f_lengthen_ways))) (l_lengthen_ways : K.lookup f_lengthen_ways = some ⟨oc_lengthen_ways, od_lengthen_ways, .func (PySem.W.fnOf "lengthen_ways" "lengthen_ways" (defArgs s_lengthen_ways) (defBody s_lengthen_ways) (defScope s_lengthen_ways) .none kV_lengthen_ways dc_lengthen_ways pm_lengthen_ways an_lengthen_ways cd_lengthen_ways ct_lengthen_ways), sl_lengthen_ways⟩) (c_lengthen_ways : PySem.W.codeIn K cd_lengthen_ways "lengthen_ways" = true) (k_lengthen_ways : PySem.W.keepIn K (.ref f_lengthen_ways) = true)
    (a_way_in : PySem.W.nsIn K mainGlobals "way_in" = some (some (.ref f_way_in))) (l_way_in : K.lookup f_way_in = some ⟨oc_way_in, od_way_in, .func (PySem.W.fnOf "way_in" "way_in" (defArgs s_way_in) (defBody s_way_in) (defScope s_way_in) .none kV_way_in dc_way_in pm_way_in an_way_in cd_way_in ct_way_in), sl_way_in⟩) (c_way_in : PySem.W.codeIn K cd_way_in "way_in" = true) (k_way_in : PySem.W.keepIn K (.ref f_way_in) = true)
    (a_law_cell : PySem.W.nsIn K mainGlobals "_law_cell" = some (some (.ref f_law_cell))) (l_law_cell : K.lookup f_law_cell = some ⟨oc_law_cell, od_law_cell, .func (PySem.W.fnOf "_law_cell" "_law_cell" (defArgs s_law_cell) (defBody s_law_cell) (defScope s_law_cell) .none kV_law_cell dc_law_cell pm_law_cell an_law_cell cd_law_cell ct_law_cell), sl_law_cell⟩) (c_law_cell : PySem.W.codeIn K cd_law_cell "_law_cell" = true) (k_law_cell : PySem.W.keepIn K (.ref f_law_cell) = true)
    (a_law_other : PySem.W.nsIn K mainGlobals "_law_other" = some (some (.ref f_law_other))) (l_law_other : K.lookup f_law_other = some ⟨oc_law_other, od_law_other, .func (PySem.W.fnOf "_law_other" "_law_other" (defArgs s_law_other) (defBody s_law_other) (defScope s_law_other) .none kV_law_other dc_law_other pm_law_other an_law_other cd_law_other ct_law_other), sl_law_other⟩) (c_law_other : PySem.W.codeIn K cd_law_other "_law_other" = true) (k_law_other : PySem.W.keepIn K (.ref f_law_other) = true)
    (a_law_refusal : PySem.W.nsIn K mainGlobals "_law_refusal" = some (some (.ref f_law_refusal))) (l_law_refusal : K.lookup f_law_refusal = some ⟨oc_law_refusal, od_law_refusal, .func (PySem.W.fnOf "_law_refusal" "_law_refusal" (defArgs s_law_refusal) (defBody s_law_refusal) (defScope s_law_refusal) .none kV_law_refusal dc_law_refusal pm_law_refusal an_law_refusal cd_law_refusal ct_law_refusal), sl_law_refusal⟩) (c_law_refusal : PySem.W.codeIn K cd_law_refusal "_law_refusal" = true) (k_law_refusal : PySem.W.keepIn K (.ref f_law_refusal) = true)
    (a_law_many : PySem.W.nsIn K mainGlobals "_law_many" = some (some (.ref f_law_many))) (l_law_many : K.lookup f_law_many = some ⟨oc_law_many, od_law_many, .func (PySem.W.fnOf "_law_many" "_law_many" (defArgs s_law_many) (defBody s_law_many) (defScope s_law_many) .none kV_law_many dc_law_many pm_law_many an_law_many cd_law_many ct_law_many), sl_law_many⟩) (c_law_many : PySem.W.codeIn K cd_law_many "_law_many" = true) (k_law_many : PySem.W.keepIn K (.ref f_law_many) = true)
    (a_law_hall : PySem.W.nsIn K mainGlobals "_law_hall" = some (some (.ref f_law_hall))) (l_law_hall : K.lookup f_law_hall = some ⟨oc_law_hall, od_law_hall, .func (PySem.W.fnOf "_law_hall" "_law_hall" (defArgs s_law_hall) (defBody s_law_hall) (defScope s_law_hall) .none kV_law_hall dc_law_hall pm_law_hall an_law_hall cd_law_hall ct_law_hall), sl_law_hall⟩) (c_law_hall : PySem.W.codeIn K cd_law_hall "_law_hall" = true) (k_law_hall : PySem.W.keepIn K (.ref f_law_hall) = true)
    (a_law_standing : PySem.W.nsIn K mainGlobals "_law_standing" = some (some (.ref f_law_standing))) (l_law_standing : K.lookup f_law_standing = some ⟨oc_law_standing, od_law_standing, .func (PySem.W.fnOf "_law_standing" "_law_standing" (defArgs s_law_standing) (defBody s_law_standing) (defScope s_law_standing) .none kV_law_standing dc_law_standing pm_law_standing an_law_standing cd_law_standing ct_law_standing), sl_law_standing⟩) (c_law_standing : PySem.W.codeIn K cd_law_standing "_law_standing" = true) (k_law_standing : PySem.W.keepIn K (.ref f_law_standing) = true)
    (a_law_wait : PySem.W.nsIn K mainGlobals "_law_wait" = some (some (.ref f_law_wait))) (l_law_wait : K.lookup f_law_wait = some ⟨oc_law_wait, od_law_wait, .func (PySem.W.fnOf "_law_wait" "_law_wait" (defArgs s_law_wait) (defBody s_law_wait) (defScope s_law_wait) .none kV_law_wait dc_law_wait pm_law_wait an_law_wait cd_law_wait ct_law_wait), sl_law_wait⟩) (c_law_wait : PySem.W.codeIn K cd_law_wait "_law_wait" = true) (k_law_wait : PySem.W.keepIn K (.ref f_law_wait) = true)
    (a_law_due : PySem.W.nsIn K mainGlobals "_law_due" = some (some (.ref f_law_due))) (l_law_due : K.lookup f_law_due = some ⟨oc_law_due, od_law_due, .func (PySem.W.fnOf "_law_due" "_law_due" (defArgs s_law_due) (defBody s_law_due) (defScope s_law_due) .none kV_law_due dc_law_due pm_law_due an_law_due cd_law_due ct_law_due), sl_law_due⟩) (c_law_due : PySem.W.codeIn K cd_law_due "_law_due" = true) (k_law_due : PySem.W.keepIn K (.ref f_law_due) = true)
    (a_law : PySem.W.nsIn K mainGlobals "law" = some (some (.ref f_law))) (l_law : K.lookup f_law = some ⟨oc_law, od_law, .func (PySem.W.fnOf "law" "law" (defArgs s_law) (defBody s_law) (defScope s_law) .none kV_law dc_law pm_law an_law cd_law ct_law), sl_law⟩) (c_law : PySem.W.codeIn K cd_law "law" = true) (k_law : PySem.W.keepIn K (.ref f_law) = true)
    
    {tk_MOST_LISTENERS : Nat} (y_MOST_LISTENERS : PySem.W.nsIn K mainGlobals "MOST_LISTENERS" = some (some (.int 8 tk_MOST_LISTENERS))) {tk_MOST_STANDINGS : Nat} (y_MOST_STANDINGS : PySem.W.nsIn K mainGlobals "MOST_STANDINGS" = some (some (.int 3000 tk_MOST_STANDINGS))) (z_min : PySem.W.nsIn K mainGlobals "min" = some none) (z_tuple : PySem.W.nsIn K mainGlobals "tuple" = some none) (z_len : PySem.W.nsIn K mainGlobals "len" = some none) (z_max : PySem.W.nsIn K mainGlobals "max" = some none) (z_range : PySem.W.nsIn K mainGlobals "range" = some none) (z_isinstance : PySem.W.nsIn K mainGlobals "isinstance" = some none) (z_ValueError : PySem.W.nsIn K mainGlobals "ValueError" = some none) (ac_NoHall : PySem.W.nsIn K mainGlobals "NoHall" = some (some (.ref C_NoHall))) (ac_TooMany : PySem.W.nsIn K mainGlobals "TooMany" = some (some (.ref C_TooMany))) (ac_Unsafe : PySem.W.nsIn K mainGlobals "Unsafe" = some (some (.ref C_Unsafe))) (ac_RoundError : PySem.W.nsIn K mainGlobals "RoundError" = some (some (.ref C_RoundError))) (ac_NoChain : PySem.W.nsIn K mainGlobals "NoChain" = some (some (.ref C_NoChain))) (ac_NoListener : PySem.W.nsIn K mainGlobals "NoListener" = some (some (.ref C_NoListener))) (ac_NoLoss : PySem.W.nsIn K mainGlobals "NoLoss" = some (some (.ref C_NoLoss))) (ac_NoPart : PySem.W.nsIn K mainGlobals "NoPart" = some (some (.ref C_NoPart))) (ac_NoRow : PySem.W.nsIn K mainGlobals "NoRow" = some (some (.ref C_NoRow))) (ac_NoStand : PySem.W.nsIn K mainGlobals "NoStand" = some (some (.ref C_NoStand))) (ac_NoWheel : PySem.W.nsIn K mainGlobals "NoWheel" = some (some (.ref C_NoWheel))) (ac_TooMuch : PySem.W.nsIn K mainGlobals "TooMuch" = some (some (.ref C_TooMuch))) (e_NoHall : PySem.W.excIn K C_NoHall [.type "ValueError", .type "Exception", .type "BaseException", .type "object"] "ValueError.__new__" = true) (e_TooMany : PySem.W.excIn K C_TooMany [.type "ValueError", .type "Exception", .type "BaseException", .type "object"] "ValueError.__new__" = true) (e_Unsafe : PySem.W.excIn K C_Unsafe [.type "ValueError", .type "Exception", .type "BaseException", .type "object"] "ValueError.__new__" = true) (e_RoundError : PySem.W.excIn K C_RoundError [.type "ValueError", .type "Exception", .type "BaseException", .type "object"] "ValueError.__new__" = true) (b_RoundError : PySem.W.subIn K (.ref C_RoundError) (.type "BaseException") = some true) (xgs : PySem.W.specialIn K (.builtin "object.__class__") "__get__" = some (some (.builtin "getset_descriptor.__get__"))) (xtk : PySem.W.takesIn K (.builtin "object.__class__") = some true) (xga_NoHall : PySem.W.findIn K (.ref C_NoHall) "__getattribute__" = some (some (.builtin "BaseException.__getattribute__"))) (xgt_NoHall : PySem.W.findIn K (.ref C_NoHall) "__getattr__" = some none) (xcl_NoHall : PySem.W.findIn K (.ref C_NoHall) "__class__" = some (some (.builtin "object.__class__"))) (xob_NoHall : PySem.W.mroIn K C_NoHall (.type "object") = some true) (xbe_NoHall : PySem.W.subIn K (.ref C_NoHall) (.type "BaseException") = some true) (u_NoHall_RoundError : PySem.W.subIn K (.ref C_NoHall) (.ref C_RoundError) = some true) (j_NoHall_NoHall : PySem.W.kitOne K (.ref C_NoHall) (.ref C_NoHall) = some true) (j_NoHall_TooMany : PySem.W.kitOne K (.ref C_NoHall) (.ref C_TooMany) = some false) (j_NoHall_Unsafe : PySem.W.kitOne K (.ref C_NoHall) (.ref C_Unsafe) = some false) (j_NoHall_ValueError : PySem.W.kitOne K (.ref C_NoHall) (.type "ValueError") = some true) (j_NoHall_NoChain : PySem.W.kitOne K (.ref C_NoHall) (.ref C_NoChain) = some false) (j_NoHall_NoListener : PySem.W.kitOne K (.ref C_NoHall) (.ref C_NoListener) = some false) (j_NoHall_NoLoss : PySem.W.kitOne K (.ref C_NoHall) (.ref C_NoLoss) = some false) (j_NoHall_NoPart : PySem.W.kitOne K (.ref C_NoHall) (.ref C_NoPart) = some false) (j_NoHall_NoRow : PySem.W.kitOne K (.ref C_NoHall) (.ref C_NoRow) = some false) (j_NoHall_NoStand : PySem.W.kitOne K (.ref C_NoHall) (.ref C_NoStand) = some false) (j_NoHall_NoWheel : PySem.W.kitOne K (.ref C_NoHall) (.ref C_NoWheel) = some false) (j_NoHall_TooMuch : PySem.W.kitOne K (.ref C_NoHall) (.ref C_TooMuch) = some false) (xga_TooMany : PySem.W.findIn K (.ref C_TooMany) "__getattribute__" = some (some (.builtin "BaseException.__getattribute__"))) (xgt_TooMany : PySem.W.findIn K (.ref C_TooMany) "__getattr__" = some none) (xcl_TooMany : PySem.W.findIn K (.ref C_TooMany) "__class__" = some (some (.builtin "object.__class__"))) (xob_TooMany : PySem.W.mroIn K C_TooMany (.type "object") = some true) (xbe_TooMany : PySem.W.subIn K (.ref C_TooMany) (.type "BaseException") = some true) (u_TooMany_RoundError : PySem.W.subIn K (.ref C_TooMany) (.ref C_RoundError) = some true) (j_TooMany_NoHall : PySem.W.kitOne K (.ref C_TooMany) (.ref C_NoHall) = some false) (j_TooMany_TooMany : PySem.W.kitOne K (.ref C_TooMany) (.ref C_TooMany) = some true) (j_TooMany_Unsafe : PySem.W.kitOne K (.ref C_TooMany) (.ref C_Unsafe) = some false) (j_TooMany_ValueError : PySem.W.kitOne K (.ref C_TooMany) (.type "ValueError") = some true) (j_TooMany_NoChain : PySem.W.kitOne K (.ref C_TooMany) (.ref C_NoChain) = some false) (j_TooMany_NoListener : PySem.W.kitOne K (.ref C_TooMany) (.ref C_NoListener) = some false) (j_TooMany_NoLoss : PySem.W.kitOne K (.ref C_TooMany) (.ref C_NoLoss) = some false) (j_TooMany_NoPart : PySem.W.kitOne K (.ref C_TooMany) (.ref C_NoPart) = some false) (j_TooMany_NoRow : PySem.W.kitOne K (.ref C_TooMany) (.ref C_NoRow) = some false) (j_TooMany_NoStand : PySem.W.kitOne K (.ref C_TooMany) (.ref C_NoStand) = some false) (j_TooMany_NoWheel : PySem.W.kitOne K (.ref C_TooMany) (.ref C_NoWheel) = some false) (j_TooMany_TooMuch : PySem.W.kitOne K (.ref C_TooMany) (.ref C_TooMuch) = some false) (xga_Unsafe : PySem.W.findIn K (.ref C_Unsafe) "__getattribute__" = some (some (.builtin "BaseException.__getattribute__"))) (xgt_Unsafe : PySem.W.findIn K (.ref C_Unsafe) "__getattr__" = some none) (xcl_Unsafe : PySem.W.findIn K (.ref C_Unsafe) "__class__" = some (some (.builtin "object.__class__"))) (xob_Unsafe : PySem.W.mroIn K C_Unsafe (.type "object") = some true) (xbe_Unsafe : PySem.W.subIn K (.ref C_Unsafe) (.type "BaseException") = some true) (u_Unsafe_RoundError : PySem.W.subIn K (.ref C_Unsafe) (.ref C_RoundError) = some true) (j_Unsafe_NoHall : PySem.W.kitOne K (.ref C_Unsafe) (.ref C_NoHall) = some false) (j_Unsafe_TooMany : PySem.W.kitOne K (.ref C_Unsafe) (.ref C_TooMany) = some false) (j_Unsafe_Unsafe : PySem.W.kitOne K (.ref C_Unsafe) (.ref C_Unsafe) = some true) (j_Unsafe_ValueError : PySem.W.kitOne K (.ref C_Unsafe) (.type "ValueError") = some true) (j_Unsafe_NoChain : PySem.W.kitOne K (.ref C_Unsafe) (.ref C_NoChain) = some false) (j_Unsafe_NoListener : PySem.W.kitOne K (.ref C_Unsafe) (.ref C_NoListener) = some false) (j_Unsafe_NoLoss : PySem.W.kitOne K (.ref C_Unsafe) (.ref C_NoLoss) = some false) (j_Unsafe_NoPart : PySem.W.kitOne K (.ref C_Unsafe) (.ref C_NoPart) = some false) (j_Unsafe_NoRow : PySem.W.kitOne K (.ref C_Unsafe) (.ref C_NoRow) = some false) (j_Unsafe_NoStand : PySem.W.kitOne K (.ref C_Unsafe) (.ref C_NoStand) = some false) (j_Unsafe_NoWheel : PySem.W.kitOne K (.ref C_Unsafe) (.ref C_NoWheel) = some false) (j_Unsafe_TooMuch : PySem.W.kitOne K (.ref C_Unsafe) (.ref C_TooMuch) = some false) :
    ∃ fd : FuncData, (∀ (s : Shared) (v : Value), BindsTo s fd ⟨[v], []⟩ [("script", v)]) ∧ ∀ base : Heap, K.In base → base.Ns mainGlobals mg → FnOk l.prog w K mg base (CX1 l.prog w) 10 fa fd ["script"] (sp_law K) := by
  have e := hfa.symm.trans (PySem.W.mg_of X G a_law)
  cases e
  have T : Txt K mg ⟨f_hall_of, f_may_lose, f_is_listener, f_refuse_wrong_turn, f_left_behind, f_quiet_behind, f_after, f_all_behind, f_quiet_values, f_how_many, f_all_left, f_standings, f_calls_by_standing, f_ways_to, f_without_calls_left, f_ranks, f_with_newcomer, f_joined, f_may_join, f_lengthen_ways, f_way_in, f_law_cell, f_law_other, f_law_refusal, f_law_many, f_law_hall, f_law_standing, f_law_wait, f_law_due, fa⟩ C_NoHall C_TooMany C_Unsafe C_RoundError C_NoChain C_NoListener C_NoLoss C_NoPart C_NoRow C_NoStand C_NoWheel C_TooMuch := ⟨PySem.W.mg_of X G a_hall_of, k_hall_of, PySem.W.mg_of X G a_may_lose, k_may_lose, PySem.W.mg_of X G a_is_listener, k_is_listener, PySem.W.mg_of X G a_refuse_wrong_turn, k_refuse_wrong_turn, PySem.W.mg_of X G a_left_behind, k_left_behind, PySem.W.mg_of X G a_quiet_behind, k_quiet_behind, PySem.W.mg_of X G a_after, k_after, PySem.W.mg_of X G a_all_behind, k_all_behind, PySem.W.mg_of X G a_quiet_values, k_quiet_values, PySem.W.mg_of X G a_how_many, k_how_many, PySem.W.mg_of X G a_all_left, k_all_left, PySem.W.mg_of X G a_standings, k_standings, PySem.W.mg_of X G a_calls_by_standing, k_calls_by_standing, PySem.W.mg_of X G a_ways_to, k_ways_to, PySem.W.mg_of X G a_without_calls_left, k_without_calls_left, PySem.W.mg_of X G a_ranks, k_ranks, PySem.W.mg_of X G a_with_newcomer, k_with_newcomer, PySem.W.mg_of X G a_joined, k_joined, PySem.W.mg_of X G a_may_join, k_may_join, PySem.W.mg_of X G a_lengthen_ways, k_lengthen_ways, PySem.W.mg_of X G a_way_in, k_way_in, PySem.W.mg_of X G a_law_cell, k_law_cell, PySem.W.mg_of X G a_law_other, k_law_other, PySem.W.mg_of X G a_law_refusal, k_law_refusal, PySem.W.mg_of X G a_law_many, k_law_many, PySem.W.mg_of X G a_law_hall, k_law_hall, PySem.W.mg_of X G a_law_standing, k_law_standing, PySem.W.mg_of X G a_law_wait, k_law_wait, PySem.W.mg_of X G a_law_due, k_law_due, PySem.W.mg_of X G a_law, k_law, PySem.W.mg_none_of X G z_min, PySem.W.mg_none_of X G z_tuple, PySem.W.mg_none_of X G z_len, PySem.W.mg_none_of X G z_max, PySem.W.mg_none_of X G z_range, PySem.W.mg_none_of X G z_isinstance, PySem.W.mg_none_of X G z_ValueError, ⟨_, PySem.W.mg_of X G y_MOST_LISTENERS⟩, ⟨_, PySem.W.mg_of X G y_MOST_STANDINGS⟩, PySem.W.mg_of X G ac_NoHall, PySem.W.mg_of X G ac_TooMany, PySem.W.mg_of X G ac_Unsafe, PySem.W.mg_of X G ac_RoundError, PySem.W.mg_of X G ac_NoChain, PySem.W.mg_of X G ac_NoListener, PySem.W.mg_of X G ac_NoLoss, PySem.W.mg_of X G ac_NoPart, PySem.W.mg_of X G ac_NoRow, PySem.W.mg_of X G ac_NoStand, PySem.W.mg_of X G ac_NoWheel, PySem.W.mg_of X G ac_TooMuch, e_NoHall, e_TooMany, e_Unsafe, e_RoundError, b_RoundError, xgs, xtk, xga_NoHall, xgt_NoHall, xcl_NoHall, xob_NoHall, xbe_NoHall, u_NoHall_RoundError, j_NoHall_NoHall, j_NoHall_TooMany, j_NoHall_Unsafe, j_NoHall_ValueError, j_NoHall_NoChain, j_NoHall_NoListener, j_NoHall_NoLoss, j_NoHall_NoPart, j_NoHall_NoRow, j_NoHall_NoStand, j_NoHall_NoWheel, j_NoHall_TooMuch, xga_TooMany, xgt_TooMany, xcl_TooMany, xob_TooMany, xbe_TooMany, u_TooMany_RoundError, j_TooMany_NoHall, j_TooMany_TooMany, j_TooMany_Unsafe, j_TooMany_ValueError, j_TooMany_NoChain, j_TooMany_NoListener, j_TooMany_NoLoss, j_TooMany_NoPart, j_TooMany_NoRow, j_TooMany_NoStand, j_TooMany_NoWheel, j_TooMany_TooMuch, xga_Unsafe, xgt_Unsafe, xcl_Unsafe, xob_Unsafe, xbe_Unsafe, u_Unsafe_RoundError, j_Unsafe_NoHall, j_Unsafe_TooMany, j_Unsafe_Unsafe, j_Unsafe_ValueError, j_Unsafe_NoChain, j_Unsafe_NoListener, j_Unsafe_NoLoss, j_Unsafe_NoPart, j_Unsafe_NoRow, j_Unsafe_NoStand, j_Unsafe_NoWheel, j_Unsafe_TooMuch⟩
  have F_hall_of : FunD K "hall_of" "hall_of" s_hall_of f_hall_of _ := ⟨⟨_, _, _, _, _, _, _, _, _, _, rfl, l_hall_of, c_hall_of⟩⟩
  have F_may_lose := fun_mk (st := s_may_lose) l_may_lose c_may_lose k_may_lose
  have F_is_listener := fun_mk (st := s_is_listener) l_is_listener c_is_listener k_is_listener
  have F_refuse_wrong_turn := fun_mk (st := s_refuse_wrong_turn) l_refuse_wrong_turn c_refuse_wrong_turn k_refuse_wrong_turn
  have F_left_behind := fun_mk (st := s_left_behind) l_left_behind c_left_behind k_left_behind
  have F_quiet_behind := fun_mk (st := s_quiet_behind) l_quiet_behind c_quiet_behind k_quiet_behind
  have F_after : FunD K "after" "after" s_after f_after _ := ⟨⟨_, _, _, _, _, _, _, _, _, _, rfl, l_after, c_after⟩⟩
  have F_all_behind := fun_mk (st := s_all_behind) l_all_behind c_all_behind k_all_behind
  have F_quiet_values := fun_mk (st := s_quiet_values) l_quiet_values c_quiet_values k_quiet_values
  have F_how_many := fun_mk (st := s_how_many) l_how_many c_how_many k_how_many
  have F_all_left := fun_mk (st := s_all_left) l_all_left c_all_left k_all_left
  have F_standings := fun_mk (st := s_standings) l_standings c_standings k_standings
  have F_calls_by_standing := fun_mk (st := s_calls_by_standing) l_calls_by_standing c_calls_by_standing k_calls_by_standing
  have F_ways_to := fun_mk (st := s_ways_to) l_ways_to c_ways_to k_ways_to
  have F_without_calls_left := fun_mk (st := s_without_calls_left) l_without_calls_left c_without_calls_left k_without_calls_left
  have F_ranks := fun_mk (st := s_ranks) l_ranks c_ranks k_ranks
  have F_with_newcomer := fun_mk (st := s_with_newcomer) l_with_newcomer c_with_newcomer k_with_newcomer
  have F_joined := fun_mk (st := s_joined) l_joined c_joined k_joined
  have F_may_join := fun_mk (st := s_may_join) l_may_join c_may_join k_may_join
  have F_lengthen_ways := fun_mk (st := s_lengthen_ways) l_lengthen_ways c_lengthen_ways k_lengthen_ways
  have F_way_in := fun_mk (st := s_way_in) l_way_in c_way_in k_way_in
  have F_law_cell := fun_mk (st := s_law_cell) l_law_cell c_law_cell k_law_cell
  have F_law_other := fun_mk (st := s_law_other) l_law_other c_law_other k_law_other
  have F_law_refusal := fun_mk (st := s_law_refusal) l_law_refusal c_law_refusal k_law_refusal
  have F_law_many := fun_mk (st := s_law_many) l_law_many c_law_many k_law_many
  have F_law_hall := fun_mk (st := s_law_hall) l_law_hall c_law_hall k_law_hall
  have F_law_standing := fun_mk (st := s_law_standing) l_law_standing c_law_standing k_law_standing
  have F_law_wait := fun_mk (st := s_law_wait) l_law_wait c_law_wait k_law_wait
  have F_law_due := fun_mk (st := s_law_due) l_law_due c_law_due k_law_due
  have F_law := fun_mk (st := s_law) l_law c_law k_law
  have B_hall_of : Binds K (PySem.W.fnOf "hall_of" "hall_of" (defArgs s_hall_of) (defBody s_hall_of) (defScope s_hall_of) (.ref dt_hall_of) kV_hall_of dc_hall_of pm_hall_of an_hall_of cd_hall_of ct_hall_of) ["waits", "calm"] [] := fun s us hK hl => by
    have h4 : us.length = 2 := by simpa using hl
    obtain ⟨_, _, rfl⟩ := us_2 h4
    exact BindsTo.of_defaults rfl (hK _ _ t_hall_of) rfl rfl rfl
  have B_hall_of_d : Binds K (PySem.W.fnOf "hall_of" "hall_of" (defArgs s_hall_of) (defBody s_hall_of) (defScope s_hall_of) (.ref dt_hall_of) kV_hall_of dc_hall_of pm_hall_of an_hall_of cd_hall_of ct_hall_of) ["waits", "calm"] [Value.none] := fun s us hK hl => by
    have h4 : us.length = 1 := by simpa using hl
    obtain ⟨_, rfl⟩ := us_1 h4
    exact BindsTo.of_defaults rfl (hK _ _ t_hall_of) rfl rfl rfl
  have B_may_lose := F_may_lose.binds (ps := ["hall", "standing"]) fun _ _ _ _ _ _ us hl => by obtain ⟨_, _, rfl⟩ := us_2 hl; rfl
  have B_is_listener := F_is_listener.binds (ps := ["hall", "who"]) fun _ _ _ _ _ _ us hl => by obtain ⟨_, _, rfl⟩ := us_2 hl; rfl
  have B_refuse_wrong_turn := F_refuse_wrong_turn.binds (ps := ["hall", "standing", "who", "lost"]) fun _ _ _ _ _ _ us hl => by obtain ⟨_, _, _, _, rfl⟩ := us_4 hl; rfl
  have B_left_behind := F_left_behind.binds (ps := ["hall", "standing", "who", "lost"]) fun _ _ _ _ _ _ us hl => by obtain ⟨_, _, _, _, rfl⟩ := us_4 hl; rfl
  have B_quiet_behind := F_quiet_behind.binds (ps := ["hall", "standing", "lost"]) fun _ _ _ _ _ _ us hl => by obtain ⟨_, _, _, rfl⟩ := us_3 hl; rfl
  have B_after : Binds K (PySem.W.fnOf "after" "after" (defArgs s_after) (defBody s_after) (defScope s_after) (.ref dt_after) kV_after dc_after pm_after an_after cd_after ct_after) ["hall", "standing", "who", "lost"] [] := fun s us hK hl => by
    have h4 : us.length = 4 := by simpa using hl
    obtain ⟨_, _, _, _, rfl⟩ := us_4 h4
    exact BindsTo.of_defaults rfl (hK _ _ t_after) rfl rfl rfl
  have B_after_d : Binds K (PySem.W.fnOf "after" "after" (defArgs s_after) (defBody s_after) (defScope s_after) (.ref dt_after) kV_after dc_after pm_after an_after cd_after ct_after) ["hall", "standing", "who", "lost"] [Value.bool false] := fun s us hK hl => by
    have h4 : us.length = 3 := by simpa using hl
    obtain ⟨_, _, _, rfl⟩ := us_3 h4
    exact BindsTo.of_defaults rfl (hK _ _ t_after) rfl rfl rfl
  have B_all_behind := F_all_behind.binds (ps := ["hall", "standing", "who"]) fun _ _ _ _ _ _ us hl => by obtain ⟨_, _, _, rfl⟩ := us_3 hl; rfl
  have B_quiet_values := F_quiet_values.binds (ps := ["hall"]) fun _ _ _ _ _ _ us hl => by obtain ⟨_, rfl⟩ := us_1 hl; rfl
  have B_how_many := F_how_many.binds (ps := ["hall"]) fun _ _ _ _ _ _ us hl => by obtain ⟨_, rfl⟩ := us_1 hl; rfl
  have B_all_left := F_all_left.binds (ps := ["waits"]) fun _ _ _ _ _ _ us hl => by obtain ⟨_, rfl⟩ := us_1 hl; rfl
  have B_standings := F_standings.binds (ps := ["hall"]) fun _ _ _ _ _ _ us hl => by obtain ⟨_, rfl⟩ := us_1 hl; rfl
  have B_calls_by_standing := F_calls_by_standing.binds (ps := ["hall"]) fun _ _ _ _ _ _ us hl => by obtain ⟨_, rfl⟩ := us_1 hl; rfl
  have B_ways_to := F_ways_to.binds (ps := ["pending"]) fun _ _ _ _ _ _ us hl => by obtain ⟨_, rfl⟩ := us_1 hl; rfl
  have B_without_calls_left := F_without_calls_left.binds (ps := ["pending", "ways", "ranked"]) fun _ _ _ _ _ _ us hl => by obtain ⟨_, _, _, rfl⟩ := us_3 hl; rfl
  have B_ranks := F_ranks.binds (ps := ["hall"]) fun _ _ _ _ _ _ us hl => by obtain ⟨_, rfl⟩ := us_1 hl; rfl
  have B_with_newcomer := F_with_newcomer.binds (ps := ["standing", "wait"]) fun _ _ _ _ _ _ us hl => by obtain ⟨_, _, rfl⟩ := us_2 hl; rfl
  have B_joined := F_joined.binds (ps := ["hall", "standing", "wait"]) fun _ _ _ _ _ _ us hl => by obtain ⟨_, _, _, rfl⟩ := us_3 hl; rfl
  have B_may_join := F_may_join.binds (ps := ["hall", "standing", "wait"]) fun _ _ _ _ _ _ us hl => by obtain ⟨_, _, _, rfl⟩ := us_3 hl; rfl
  have B_lengthen_ways := F_lengthen_ways.binds (ps := ["hall", "unsafe", "ways", "ends"]) fun _ _ _ _ _ _ us hl => by obtain ⟨_, _, _, _, rfl⟩ := us_4 hl; rfl
  have B_way_in := F_way_in.binds (ps := ["hall", "standing", "wait"]) fun _ _ _ _ _ _ us hl => by obtain ⟨_, _, _, rfl⟩ := us_3 hl; rfl
  have B_law_cell := F_law_cell.binds (ps := ["script", "k"]) fun _ _ _ _ _ _ us hl => by obtain ⟨_, _, rfl⟩ := us_2 hl; rfl
  have B_law_other := F_law_other.binds (ps := ["e"]) fun _ _ _ _ _ _ us hl => by obtain ⟨_, rfl⟩ := us_1 hl; rfl
  have B_law_refusal := F_law_refusal.binds (ps := ["hall", "standing", "wait", "way"]) fun _ _ _ _ _ _ us hl => by obtain ⟨_, _, _, _, rfl⟩ := us_4 hl; rfl
  have B_law_many := F_law_many.binds (ps := ["hall"]) fun _ _ _ _ _ _ us hl => by obtain ⟨_, rfl⟩ := us_1 hl; rfl
  have B_law_hall := F_law_hall.binds (ps := ["script"]) fun _ _ _ _ _ _ us hl => by obtain ⟨_, rfl⟩ := us_1 hl; rfl
  have B_law_standing := F_law_standing.binds (ps := ["hall", "cell"]) fun _ _ _ _ _ _ us hl => by obtain ⟨_, _, rfl⟩ := us_2 hl; rfl
  have B_law_wait := F_law_wait.binds (ps := ["hall", "cell"]) fun _ _ _ _ _ _ us hl => by obtain ⟨_, _, rfl⟩ := us_2 hl; rfl
  have B_law_due := F_law_due.binds (ps := ["hall", "standing", "wait", "way"]) fun _ _ _ _ _ _ us hl => by obtain ⟨_, _, _, _, rfl⟩ := us_4 hl; rfl
  refine ⟨PySem.W.fnOf "law" "law" (defArgs s_law) (defBody s_law) (defScope s_law) .none kV_law dc_law pm_law an_law cd_law ct_law, fun s v => .of_eq rfl, fun base _ _ => ?_⟩
  have G_hall_of : FnOk l.prog w K mg base (CX1 l.prog w) 1 _ _ ["waits", "calm"] (sp_hall_of K C_NoHall C_TooMany C_Unsafe) := ok_hall_of T F_hall_of 
  have G_may_lose : FnOk l.prog w K mg base (CX1 l.prog w) 1 _ _ ["hall", "standing"] (sp_may_lose K) := ok_may_lose T F_may_lose 
  have G_is_listener : FnOk l.prog w K mg base (CX1 l.prog w) 1 _ _ ["hall", "who"] (sp_is_listener K) := ok_is_listener T F_is_listener 
  have G_refuse_wrong_turn : FnOk l.prog w K mg base (CX1 l.prog w) 2 _ _ ["hall", "standing", "who", "lost"] (sp_refuse_wrong_turn K) := ok_refuse_wrong_turn T F_refuse_wrong_turn G_is_listener B_is_listener G_may_lose B_may_lose
  have G_left_behind : FnOk l.prog w K mg base (CX1 l.prog w) 3 _ _ ["hall", "standing", "who", "lost"] (sp_left_behind K) := ok_left_behind T F_left_behind G_refuse_wrong_turn B_refuse_wrong_turn
  have G_quiet_behind : FnOk l.prog w K mg base (CX1 l.prog w) 1 _ _ ["hall", "standing", "lost"] (sp_quiet_behind K) := ok_quiet_behind T F_quiet_behind 
  have G_after : FnOk l.prog w K mg base (CX1 l.prog w) 4 _ _ ["hall", "standing", "who", "lost"] (sp_after K) := ok_after T F_after G_left_behind B_left_behind G_quiet_behind B_quiet_behind
  have G_all_behind : FnOk l.prog w K mg base (CX1 l.prog w) 5 _ _ ["hall", "standing", "who"] (sp_all_behind K) := ok_all_behind T F_all_behind G_may_lose B_may_lose G_after B_after B_after_d
  have G_quiet_values : FnOk l.prog w K mg base (CX1 l.prog w) 1 _ _ ["hall"] (sp_quiet_values K) := ok_quiet_values T F_quiet_values 
  have G_how_many : FnOk l.prog w K mg base (CX1 l.prog w) 2 _ _ ["hall"] (sp_how_many K) := ok_how_many T F_how_many G_quiet_values B_quiet_values
  have G_all_left : FnOk l.prog w K mg base (CX1 l.prog w) 1 _ _ ["waits"] (sp_all_left K) := ok_all_left T F_all_left 
  have G_standings : FnOk l.prog w K mg base (CX1 l.prog w) 3 _ _ ["hall"] (sp_standings K C_NoHall C_TooMany C_Unsafe) := ok_standings T F_standings G_all_left B_all_left G_how_many B_how_many G_quiet_values B_quiet_values
  have G_calls_by_standing : FnOk l.prog w K mg base (CX1 l.prog w) 6 _ _ ["hall"] (sp_calls_by_standing K C_NoHall C_TooMany C_Unsafe) := ok_calls_by_standing T F_calls_by_standing G_standings B_standings G_all_behind B_all_behind
  have G_ways_to : FnOk l.prog w K mg base (CX1 l.prog w) 1 _ _ ["pending"] (sp_ways_to K) := ok_ways_to T F_ways_to 
  have G_without_calls_left : FnOk l.prog w K mg base (CX1 l.prog w) 1 _ _ ["pending", "ways", "ranked"] (sp_without_calls_left K) := ok_without_calls_left T F_without_calls_left 
  have G_ranks : FnOk l.prog w K mg base (CX1 l.prog w) 7 _ _ ["hall"] (sp_ranks K C_NoHall C_TooMany C_Unsafe) := ok_ranks T F_ranks G_calls_by_standing B_calls_by_standing G_ways_to B_ways_to G_without_calls_left B_without_calls_left
  have G_with_newcomer : FnOk l.prog w K mg base (CX1 l.prog w) 1 _ _ ["standing", "wait"] (sp_with_newcomer K) := ok_with_newcomer T F_with_newcomer 
  have G_joined : FnOk l.prog w K mg base (CX1 l.prog w) 2 _ _ ["hall", "standing", "wait"] (sp_joined K C_NoHall C_TooMany C_Unsafe) := ok_joined T F_joined G_hall_of B_hall_of B_hall_of_d G_with_newcomer B_with_newcomer
  have G_may_join : FnOk l.prog w K mg base (CX1 l.prog w) 8 _ _ ["hall", "standing", "wait"] (sp_may_join K C_NoHall C_TooMany C_Unsafe) := ok_may_join T F_may_join G_joined B_joined G_ranks B_ranks
  have G_lengthen_ways : FnOk l.prog w K mg base (CX1 l.prog w) 5 _ _ ["hall", "unsafe", "ways", "ends"] (sp_lengthen_ways K) := ok_lengthen_ways T F_lengthen_ways G_after B_after B_after_d
  have G_way_in : FnOk l.prog w K mg base (CX1 l.prog w) 8 _ _ ["hall", "standing", "wait"] (sp_way_in K C_NoHall C_TooMany C_Unsafe) := ok_way_in T F_way_in G_ranks B_ranks G_joined B_joined G_lengthen_ways B_lengthen_ways G_with_newcomer B_with_newcomer
  have G_law_cell : FnOk l.prog w K mg base (CX1 l.prog w) 1 _ _ ["script", "k"] (sp_law_cell K) := ok_law_cell T F_law_cell 
  have G_law_other : FnOk l.prog w K mg base (CX1 l.prog w) 1 _ _ ["e"] (sp_law_other K C_NoHall C_TooMany C_Unsafe) := ok_law_other T F_law_other 
  have G_law_refusal : FnOk l.prog w K mg base (CX1 l.prog w) 9 _ _ ["hall", "standing", "wait", "way"] (sp_law_refusal K C_NoHall C_TooMany C_Unsafe) := ok_law_refusal T F_law_refusal G_law_other B_law_other G_way_in B_way_in G_may_join B_may_join
  have G_law_many : FnOk l.prog w K mg base (CX1 l.prog w) 1 _ _ ["hall"] (sp_law_many K) := ok_law_many T F_law_many 
  have G_law_hall : FnOk l.prog w K mg base (CX1 l.prog w) 2 _ _ ["script"] (sp_law_hall K) := ok_law_hall T F_law_hall G_law_cell B_law_cell
  have G_law_standing : FnOk l.prog w K mg base (CX1 l.prog w) 1 _ _ ["hall", "cell"] (sp_law_standing K) := ok_law_standing T F_law_standing 
  have G_law_wait : FnOk l.prog w K mg base (CX1 l.prog w) 2 _ _ ["hall", "cell"] (sp_law_wait K) := ok_law_wait T F_law_wait G_law_many B_law_many
  have G_law_due : FnOk l.prog w K mg base (CX1 l.prog w) 8 _ _ ["hall", "standing", "wait", "way"] (sp_law_due K) := ok_law_due T F_law_due G_law_many B_law_many G_ranks B_ranks
  exact ok_law T F_law G_law_hall B_law_hall G_law_standing B_law_standing G_law_wait B_law_wait G_law_cell B_law_cell G_law_refusal B_law_refusal G_law_due B_law_due
theorem walk {l : PySem.W.OpenLaw} {q : Program} {loose : List Str} {XP : (Str → Option Value) → Heap → Prop} {YP : World → Heap → Prop} {d : DefRec} {K : Params → PySem.W.Frag} (hn : l.most = some 63) (hdf : d.params.defaults = [])
    (hY : ∀ (w : World) (h : Heap), YP w h → (K w.params).In h)
    (F : ∀ (w : World) (mg : Str → Option Value) (fa : Addr) (h : Heap), (K w.params).In h → h.Ns mainGlobals mg → mg d.name = some (.ref fa) →
      ∃ fd : FuncData, (∀ (s : Shared) (u : Value), BindsTo s fd ⟨[u], []⟩ [("script", u)]) ∧ ∀ base : Heap, (K w.params).In base → base.Ns mainGlobals mg → FnOk l.prog w (K w.params) mg base (CX1 l.prog w) 10 fa fd ["script"] (sp_law (K w.params))) :
    PySem.W.WalkO q loose XP YP l.row.toRowW d [] (fun f vs => PySem.call f vs) :=
  L2.walk_ofB (n := 63) (k := 10) (x := "script") (CX := fun w => CX1 l.prog w) (sp := fun w => sp_law (K w.params)) hn (by decide) hdf ⟨rfl, by decide, by decide⟩ hY F (fun _ _ a ns hl hb _ hS => ⟨a, ns, rfl, hS, hl, hb, fun _ => rfl⟩) fun _ _ _ _ _ ⟨_, _, _, _, _, _, _, _, q⟩ => q
end Law
theorem PySem.W.Fast.tw12148597711746277109:True:=trivial
theorem PySem.W.Fast.tw12388892891702371676:True:=trivial
theorem PySem.W.Fast.tw8606037967953061850:True:=trivial
theorem PySem.W.Fast.tw12307811553138141481:True:=trivial
theorem PySem.W.Fast.tw5048279923279200150:True:=trivial
theorem PySem.W.Fast.tw203436514980725532:True:=trivial
theorem PySem.W.Fast.tw576946635741825392:True:=trivial
theorem PySem.W.Fast.tw12023009571433751791:True:=trivial
theorem PySem.W.Fast.tw1211413101307614029:True:=trivial
theorem PySem.W.Fast.tw16598027084229394250:True:=trivial
theorem PySem.W.Fast.tw465224008881939166:True:=trivial
theorem PySem.W.Fast.tw16780666174157742834:True:=trivial
theorem PySem.W.Fast.tw8338046520988408157:True:=trivial
theorem PySem.W.Fast.tw11865177646524092814:True:=trivial
theorem PySem.W.Fast.tw10921490457835961832:True:=trivial
theorem PySem.W.Fast.tw2120259870660508525:True:=trivial
theorem PySem.W.Fast.tw15959830168746390293:True:=trivial
theorem PySem.W.Fast.tw13227537782084881387:True:=trivial
theorem PySem.W.Fast.tw1619839807766335328:True:=trivial
theorem PySem.W.Fast.tw16858635289871810054:True:=trivial
theorem PySem.W.Fast.tw14242108292690214110:True:=trivial
theorem PySem.W.Fast.tw12515836527942289908:True:=trivial
theorem PySem.W.Fast.tw13161744152491798867:True:=trivial
theorem PySem.W.Fast.tw5085841264561669615:True:=trivial
theorem PySem.W.Fast.tw14950078334660419152:True:=trivial
theorem PySem.W.Fast.tw6095099674501403325:True:=trivial
theorem PySem.W.Fast.tw10255376227205418113:True:=trivial
theorem PySem.W.Fast.tw3468011758170863984:True:=trivial
theorem PySem.W.Fast.tw8254519453432011785:True:=trivial
theorem PySem.W.Fast.tw6524788842079578357:True:=trivial
theorem PySem.W.Fast.tw9625572702791197758:True:=trivial
theorem PySem.W.Fast.tw286082582930337975:True:=trivial
theorem PySem.W.Fast.tw5141525724733732894:True:=trivial
theorem PySem.W.Fast.tw15665931512149193292:True:=trivial
theorem PySem.W.Fast.tw7994132129820098405:True:=trivial
theorem PySem.W.Fast.tw3113826933007919786:True:=trivial
theorem PySem.W.Fast.tw5784884272253345285:True:=trivial
theorem PySem.W.Fast.tw9760657313671999121:True:=trivial
theorem PySem.W.Fast.tw14280596434050494384:True:=trivial
theorem PySem.W.Fast.tw3333147466505804758:True:=trivial
theorem PySem.W.Fast.tw11463206122801333980:True:=trivial
theorem PySem.W.Fast.tw14462103571632234001:True:=trivial
theorem PySem.W.Fast.tw17425820125671420941:True:=trivial
theorem PySem.W.Fast.tw7372567413818277273:True:=trivial
theorem PySem.W.Fast.tw12007351381419513340:True:=trivial
theorem PySem.W.Fast.tw1600010840264439411:True:=trivial
theorem PySem.W.Fast.tw14103967371140981889:True:=trivial
theorem PySem.W.Fast.tw1432828646383804746:True:=trivial
theorem PySem.W.Fast.tw16244869803801983921:True:=trivial
theorem PySem.W.Fast.tw13764571461156510845:True:=trivial
theorem PySem.W.Fast.tw2025243974836941237:True:=trivial
theorem PySem.W.Fast.tw14997937120484372646:True:=trivial
theorem PySem.W.Fast.tw1179954635437806690:True:=trivial
theorem PySem.W.Fast.tw3687383852611150509:True:=trivial
theorem PySem.W.Fast.tw5597445819946391175:True:=trivial
theorem PySem.W.Fast.tw15217000146966611203:True:=trivial
theorem PySem.W.Fast.tw1266095882374896987:True:=trivial
theorem PySem.W.Fast.tw16632242992651802103:True:=trivial
theorem PySem.W.Fast.tw4776608403147632138:True:=trivial
theorem PySem.W.Fast.tw11656558822707998160:True:=trivial
theorem PySem.W.Fast.tw2373503286511161670:True:=trivial
theorem PySem.W.Fast.tw3504737634322134884:True:=trivial
theorem PySem.W.Fast.tw14334506868013300322:True:=trivial
theorem PySem.W.Fast.tw12156330558202317071:True:=trivial
theorem PySem.W.Fast.tw17571608914415001984:True:=trivial
theorem PySem.W.Fast.tw9150664801637259281:True:=trivial
theorem PySem.W.Fast.tw4782879788009762239:True:=trivial
theorem PySem.W.Fast.tw15607937700249775152:True:=trivial
theorem PySem.W.Fast.tw3124666381503417132:True:=trivial
theorem PySem.W.Fast.tw17001389994081244617:True:=trivial
theorem PySem.W.Fast.tw3563929684480098476:True:=trivial
theorem PySem.W.Fast.tw13715403398737293442:True:=trivial
theorem PySem.W.Fast.tw13298646732434899759:True:=trivial
theorem PySem.W.Fast.tw6728086179366257682:True:=trivial
theorem PySem.W.Fast.tw5408779276928807225:True:=trivial
theorem PySem.W.Fast.tw1251335659313745904:True:=trivial
theorem PySem.W.Fast.tw10515784545983326597:True:=trivial
theorem PySem.W.Fast.tw17579047426926475498:True:=trivial
theorem PySem.W.Fast.tw875777031389536120:True:=trivial
theorem PySem.W.Fast.tw14520919655678350550:True:=trivial
theorem PySem.W.Fast.tw16664394414417962043:True:=trivial
theorem PySem.W.Fast.tw4123778180948726346:True:=trivial
theorem PySem.W.Fast.tw13003951822717790068:True:=trivial
theorem PySem.W.Fast.tw8371839244209225879:True:=trivial
theorem PySem.W.Fast.tw7077345340041447230:True:=trivial
theorem PySem.W.Fast.tw1898645287638393787:True:=trivial
theorem PySem.W.Fast.tw11783886964725739763:True:=trivial
theorem PySem.W.Fast.tw16112688770729450206:True:=trivial
theorem PySem.W.Fast.tw9842015493685253262:True:=trivial
theorem PySem.W.Fast.tw2435001432820074163:True:=trivial
theorem PySem.W.Fast.tw2623654179901117328:True:=trivial
theorem PySem.W.Fast.tw6853656561804931415:True:=trivial
open PySem PySem.W PyProof.Rows
set_option maxRecDepth 100000 in
set_option maxHeartbeats 0 in
theorem PySem.Challenge.cw_roundcall_k88_joining_refused_holds : PySem.Challenge.rw_roundcall_k88_joining_refused.Holds := by
  w_on; o_law; k_head; (case hw => w_witness2)
  k_fill
  refine Law.walk (l := PySem.Challenge.rw_roundcall_k88_joining_refused) rfl rfl (fun w h Y => PySem.W.kIn_of Y) ?F
  case F =>
    intro w mg fa h KX G hmg
    refine' Law.all_mk KX G hmg ?a_hall_of ?l_hall_of ?c_hall_of ?k_hall_of ?t_hall_of ?a_may_lose ?l_may_lose ?c_may_lose ?k_may_lose ?a_is_listener ?l_is_listener ?c_is_listener ?k_is_listener ?a_refuse_wrong_turn ?l_refuse_wrong_turn ?c_refuse_wrong_turn ?k_refuse_wrong_turn ?a_left_behind ?l_left_behind ?c_left_behind ?k_left_behind ?a_quiet_behind ?l_quiet_behind ?c_quiet_behind ?k_quiet_behind ?a_after ?l_after ?c_after ?k_after ?t_after ?a_all_behind ?l_all_behind ?c_all_behind ?k_all_behind ?a_quiet_values ?l_quiet_values ?c_quiet_values ?k_quiet_values ?a_how_many ?l_how_many ?c_how_many ?k_how_many ?a_all_left ?l_all_left ?c_all_left ?k_all_left ?a_standings ?l_standings ?c_standings ?k_standings ?a_calls_by_standing ?l_calls_by_standing ?c_calls_by_standing ?k_calls_by_standing ?a_ways_to ?l_ways_to ?c_ways_to ?k_ways_to ?a_without_calls_left ?l_without_calls_left ?c_without_calls_left ?k_without_calls_left ?a_ranks ?l_ranks ?c_ranks ?k_ranks ?a_with_newcomer ?l_with_newcomer ?c_with_newcomer ?k_with_newcomer ?a_joined ?l_joined ?c_joined ?k_joined ?a_may_join ?l_may_join ?c_may_join ?k_may_join ?a_lengthen_ways ?l_lengthen_ways ?c_lengthen_ways ?k_lengthen_ways ?a_way_in ?l_way_in ?c_way_in ?k_way_in ?a_law_cell ?l_law_cell ?c_law_cell ?k_law_cell ?a_law_other ?l_law_other ?c_law_other ?k_law_other ?a_law_refusal ?l_law_refusal ?c_law_refusal ?k_law_refusal ?a_law_many ?l_law_many ?c_law_many ?k_law_many ?a_law_hall ?l_law_hall ?c_law_hall ?k_law_hall ?a_law_standing ?l_law_standing ?c_law_standing ?k_law_standing ?a_law_wait ?l_law_wait ?c_law_wait ?k_law_wait ?a_law_due ?l_law_due ?c_law_due ?k_law_due ?a_law ?l_law ?c_law ?k_law ?y_MOST_LISTENERS ?y_MOST_STANDINGS ?z_min ?z_tuple ?z_len ?z_max ?z_range ?z_isinstance ?z_ValueError ?ac_NoHall ?ac_TooMany ?ac_Unsafe ?ac_RoundError ?ac_NoChain ?ac_NoListener ?ac_NoLoss ?ac_NoPart ?ac_NoRow ?ac_NoStand ?ac_NoWheel ?ac_TooMuch ?e_NoHall ?e_TooMany ?e_Unsafe ?e_RoundError ?b_RoundError ?xgs ?xtk ?xga_NoHall ?xgt_NoHall ?xcl_NoHall ?xob_NoHall ?xbe_NoHall ?u_NoHall_RoundError ?j_NoHall_NoHall ?j_NoHall_TooMany ?j_NoHall_Unsafe ?j_NoHall_ValueError ?j_NoHall_NoChain ?j_NoHall_NoListener ?j_NoHall_NoLoss ?j_NoHall_NoPart ?j_NoHall_NoRow ?j_NoHall_NoStand ?j_NoHall_NoWheel ?j_NoHall_TooMuch ?xga_TooMany ?xgt_TooMany ?xcl_TooMany ?xob_TooMany ?xbe_TooMany ?u_TooMany_RoundError ?j_TooMany_NoHall ?j_TooMany_TooMany ?j_TooMany_Unsafe ?j_TooMany_ValueError ?j_TooMany_NoChain ?j_TooMany_NoListener ?j_TooMany_NoLoss ?j_TooMany_NoPart ?j_TooMany_NoRow ?j_TooMany_NoStand ?j_TooMany_NoWheel ?j_TooMany_TooMuch ?xga_Unsafe ?xgt_Unsafe ?xcl_Unsafe ?xob_Unsafe ?xbe_Unsafe ?u_Unsafe_RoundError ?j_Unsafe_NoHall ?j_Unsafe_TooMany ?j_Unsafe_Unsafe ?j_Unsafe_ValueError ?j_Unsafe_NoChain ?j_Unsafe_NoListener ?j_Unsafe_NoLoss ?j_Unsafe_NoPart ?j_Unsafe_NoRow ?j_Unsafe_NoStand ?j_Unsafe_NoWheel ?j_Unsafe_TooMuch
    (case a_hall_of => k_is)
    (case l_hall_of => k_is)
    (case c_hall_of => k_is)
    (case k_hall_of => k_is)
    (case t_hall_of => k_is)
    (case a_may_lose => k_is)
    (case l_may_lose => k_is)
    (case c_may_lose => k_is)
    (case k_may_lose => k_is)
    (case a_is_listener => k_is)
    (case l_is_listener => k_is)
    (case c_is_listener => k_is)
    (case k_is_listener => k_is)
    (case a_refuse_wrong_turn => k_is)
    (case l_refuse_wrong_turn => k_is)
    (case c_refuse_wrong_turn => k_is)
    (case k_refuse_wrong_turn => k_is)
    (case a_left_behind => k_is)
    (case l_left_behind => k_is)
    (case c_left_behind => k_is)
    (case k_left_behind => k_is)
    (case a_quiet_behind => k_is)
    (case l_quiet_behind => k_is)
    (case c_quiet_behind => k_is)
    (case k_quiet_behind => k_is)
    (case a_after => k_is)
    (case l_after => k_is)
    (case c_after => k_is)
    (case k_after => k_is)
    (case t_after => k_is)
    (case a_all_behind => k_is)
    (case l_all_behind => k_is)
    (case c_all_behind => k_is)
    (case k_all_behind => k_is)
    (case a_quiet_values => k_is)
    (case l_quiet_values => k_is)
    (case c_quiet_values => k_is)
    (case k_quiet_values => k_is)
    (case a_how_many => k_is)
    (case l_how_many => k_is)
    (case c_how_many => k_is)
    (case k_how_many => k_is)
    (case a_all_left => k_is)
    (case l_all_left => k_is)
    (case c_all_left => k_is)
    (case k_all_left => k_is)
    (case a_standings => k_is)
    (case l_standings => k_is)
    (case c_standings => k_is)
    (case k_standings => k_is)
    (case a_calls_by_standing => k_is)
    (case l_calls_by_standing => k_is)
    (case c_calls_by_standing => k_is)
    (case k_calls_by_standing => k_is)
    (case a_ways_to => k_is)
    (case l_ways_to => k_is)
    (case c_ways_to => k_is)
    (case k_ways_to => k_is)
    (case a_without_calls_left => k_is)
    (case l_without_calls_left => k_is)
    (case c_without_calls_left => k_is)
    (case k_without_calls_left => k_is)
    (case a_ranks => k_is)
    (case l_ranks => k_is)
    (case c_ranks => k_is)
    (case k_ranks => k_is)
    (case a_with_newcomer => k_is)
    (case l_with_newcomer => k_is)
    (case c_with_newcomer => k_is)
    (case k_with_newcomer => k_is)
    (case a_joined => k_is)
    (case l_joined => k_is)
    (case c_joined => k_is)
    (case k_joined => k_is)
    (case a_may_join => k_is)
    (case l_may_join => k_is)
    (case c_may_join => k_is)
    (case k_may_join => k_is)
    (case a_lengthen_ways => k_is)
    (case l_lengthen_ways => k_is)
    (case c_lengthen_ways => k_is)
    (case k_lengthen_ways => k_is)
    (case a_way_in => k_is)
    (case l_way_in => k_is)
    (case c_way_in => k_is)
    (case k_way_in => k_is)
    (case a_law_cell => k_is)
    (case l_law_cell => k_is)
    (case c_law_cell => k_is)
    (case k_law_cell => k_is)
    (case a_law_other => k_is)
    (case l_law_other => k_is)
    (case c_law_other => k_is)
    (case k_law_other => k_is)
    (case a_law_refusal => k_is)
    (case l_law_refusal => k_is)
    (case c_law_refusal => k_is)
    (case k_law_refusal => k_is)
    (case a_law_many => k_is)
    (case l_law_many => k_is)
    (case c_law_many => k_is)
    (case k_law_many => k_is)
    (case a_law_hall => k_is)
    (case l_law_hall => k_is)
    (case c_law_hall => k_is)
    (case k_law_hall => k_is)
    (case a_law_standing => k_is)
    (case l_law_standing => k_is)
    (case c_law_standing => k_is)
    (case k_law_standing => k_is)
    (case a_law_wait => k_is)
    (case l_law_wait => k_is)
    (case c_law_wait => k_is)
    (case k_law_wait => k_is)
    (case a_law_due => k_is)
    (case l_law_due => k_is)
    (case c_law_due => k_is)
    (case k_law_due => k_is)
    (case a_law => k_is)
    (case l_law => k_is)
    (case c_law => k_is)
    (case k_law => k_is)
    (case y_MOST_LISTENERS => k_is)
    (case y_MOST_STANDINGS => k_is)
    (case z_min => k_is)
    (case z_tuple => k_is)
    (case z_len => k_is)
    (case z_max => k_is)
    (case z_range => k_is)
    (case z_isinstance => k_is)
    (case z_ValueError => k_is)
    (case ac_NoHall => k_is)
    (case ac_TooMany => k_is)
    (case ac_Unsafe => k_is)
    (case ac_RoundError => k_is)
    (case ac_NoChain => k_is)
    (case ac_NoListener => k_is)
    (case ac_NoLoss => k_is)
    (case ac_NoPart => k_is)
    (case ac_NoRow => k_is)
    (case ac_NoStand => k_is)
    (case ac_NoWheel => k_is)
    (case ac_TooMuch => k_is)
    (case e_NoHall => k_exc)
    (case e_TooMany => k_exc)
    (case e_Unsafe => k_exc)
    (case e_RoundError => k_exc)
    (case b_RoundError => k_is)
    (case xgs => k_is)
    (case xtk => k_is)
    (case xga_NoHall => k_is)
    (case xgt_NoHall => k_is)
    (case xcl_NoHall => k_is)
    (case xob_NoHall => k_is)
    (case xbe_NoHall => k_is)
    (case u_NoHall_RoundError => k_is)
    (case j_NoHall_NoHall => kit_is)
    (case j_NoHall_TooMany => kit_is)
    (case j_NoHall_Unsafe => kit_is)
    (case j_NoHall_ValueError => kit_is)
    (case j_NoHall_NoChain => kit_is)
    (case j_NoHall_NoListener => kit_is)
    (case j_NoHall_NoLoss => kit_is)
    (case j_NoHall_NoPart => kit_is)
    (case j_NoHall_NoRow => kit_is)
    (case j_NoHall_NoStand => kit_is)
    (case j_NoHall_NoWheel => kit_is)
    (case j_NoHall_TooMuch => kit_is)
    (case xga_TooMany => k_is)
    (case xgt_TooMany => k_is)
    (case xcl_TooMany => k_is)
    (case xob_TooMany => k_is)
    (case xbe_TooMany => k_is)
    (case u_TooMany_RoundError => k_is)
    (case j_TooMany_NoHall => kit_is)
    (case j_TooMany_TooMany => kit_is)
    (case j_TooMany_Unsafe => kit_is)
    (case j_TooMany_ValueError => kit_is)
    (case j_TooMany_NoChain => kit_is)
    (case j_TooMany_NoListener => kit_is)
    (case j_TooMany_NoLoss => kit_is)
    (case j_TooMany_NoPart => kit_is)
    (case j_TooMany_NoRow => kit_is)
    (case j_TooMany_NoStand => kit_is)
    (case j_TooMany_NoWheel => kit_is)
    (case j_TooMany_TooMuch => kit_is)
    (case xga_Unsafe => k_is)
    (case xgt_Unsafe => k_is)
    (case xcl_Unsafe => k_is)
    (case xob_Unsafe => k_is)
    (case xbe_Unsafe => k_is)
    (case u_Unsafe_RoundError => k_is)
    (case j_Unsafe_NoHall => kit_is)
    (case j_Unsafe_TooMany => kit_is)
    (case j_Unsafe_Unsafe => kit_is)
    (case j_Unsafe_ValueError => kit_is)
    (case j_Unsafe_NoChain => kit_is)
    (case j_Unsafe_NoListener => kit_is)
    (case j_Unsafe_NoLoss => kit_is)
    (case j_Unsafe_NoPart => kit_is)
    (case j_Unsafe_NoRow => kit_is)
    (case j_Unsafe_NoStand => kit_is)
    (case j_Unsafe_NoWheel => kit_is)
    (case j_Unsafe_TooMuch => kit_is)
