import PyProof.Rows.All
import Wide.All
import OpenK.AllK
import Wide.FinOn
import Lean
import PyProof.EqAt
import PyProof.EqKinds
import PyProof.TupleCall
import PySem.Challenge.RW_roundcall_k38_papers_for_any_waits
set_option Elab.async false
set_option linter.all false
set_option maxRecDepth 100000
/-! THE HAND LAYER, for ints, bools, texts, own classes, LISTS and tuples (index, slices, in, append, pop ..), calls, loops. Paste it whole ahead of your own text; what your proof does not reach may be deleted. -/
namespace L2
open PySem PySem.Spec PyProof.Rows

/-- a key: an int or a str -/
abbrev Key := Sum Int Str
def keyIs : Key → Value → Bool
  | .inl k, v => Value.isInt k v
  | .inr x, v => Value.isStrOf x v
def keyH (w : World) : Key → Int
  | .inl k => hashInt k
  | .inr x => hashStr w x
theorem keyIs_shape : ∀ {k : Key} {v : Value}, keyIs k v = true → (∃ i t, k = Sum.inl i ∧ v = Value.int i t) ∨ (∃ x t, k = Sum.inr x ∧ v = Value.str x t)
  | .inl i, v, h => by
    obtain ⟨t, e⟩ := Value.isInt_shape (k := i) (v := v) h
    exact .inl ⟨i, t, rfl, e⟩
  | .inr x, v, h => by
    obtain ⟨t, e⟩ := Value.isStrOf_shape (x := x) (v := v) h
    exact .inr ⟨x, t, rfl, e⟩
theorem keyIs_int (i : Int) (t : Tok) : keyIs (.inl i) (.int i t) = true := by simp [keyIs, Value.isInt]
theorem keyIs_str (x : Str) (t : Tok) : keyIs (.inr x) (.str x t) = true := by simp [keyIs, Value.isStrOf]
theorem key_ll (a b : Int) : decide ((Sum.inl a : Key) = Sum.inl b) = (a == b) := by
  by_cases e : a = b
  · subst e; simp
  · have h : ¬ (Sum.inl a : Key) = Sum.inl b := fun q => e (Sum.inl.inj q)
    rw [decide_eq_false h]
    exact (beq_eq_false_iff_ne.mpr e).symm
theorem key_rr (a b : Str) : decide ((Sum.inr a : Key) = Sum.inr b) = decide (a = b) := by
  by_cases e : a = b
  · subst e; simp
  · have h : ¬ (Sum.inr a : Key) = Sum.inr b := fun q => e (Sum.inr.inj q)
    rw [decide_eq_false h, decide_eq_false e]
theorem key_lr (a : Int) (b : Str) : decide ((Sum.inl a : Key) = Sum.inr b) = false := decide_eq_false (fun q => nomatch q)
theorem key_rl (a : Str) (b : Int) : decide ((Sum.inr a : Key) = Sum.inl b) = false := decide_eq_false (fun q => nomatch q)

def mixKind (prog : Program) (w : World) : PySem.KeyKind prog w Key where
  is := keyIs
  hash := keyH w
  inj := fun v a b ha hb => by
    rcases keyIs_shape ha with ⟨i, t, rfl, rfl⟩ | ⟨x, t, rfl, rfl⟩
    · rcases keyIs_shape hb with ⟨j, u, rfl, e⟩ | ⟨y, u, rfl, e⟩
      · injection e with e1 _; rw [e1]
      · exact nomatch e
    · rcases keyIs_shape hb with ⟨j, u, rfl, e⟩ | ⟨y, u, rfl, e⟩
      · exact nomatch e
      · injection e with e1 _; rw [e1]
  byValue := fun k v h => by
    rcases keyIs_shape h with ⟨i, t, rfl, rfl⟩ | ⟨x, t, rfl, rfl⟩ <;> rfl
  pyHash := fun hv h => by
    rcases keyIs_shape hv with ⟨i, t, rfl, rfl⟩ | ⟨x, t, rfl, rfl⟩
    · exact wpAny_pyHash_int h
    · exact wpAny_pyHash_str h
  eqBool := fun hu hv h => by
    rcases keyIs_shape hu with ⟨i, t, rfl, rfl⟩ | ⟨x, t, rfl, rfl⟩
    · rcases keyIs_shape hv with ⟨j, u, rfl, rfl⟩ | ⟨y, u, rfl, rfl⟩
      · rw [key_ll] at h; exact wpAny_eqBool_int h
      · rw [key_lr] at h; exact SeqAt.EqAt.int_str i t y u _ _ _ _ h
    · rcases keyIs_shape hv with ⟨j, u, rfl, rfl⟩ | ⟨y, u, rfl, rfl⟩
      · rw [key_rl] at h; exact SeqAt.EqAt.str_int x t j u _ _ _ _ h
      · rw [key_rr] at h; exact wpAny_eqBool_str h
  «strs» := fun k x t v h => by
    rcases keyIs_shape h with ⟨i, u, rfl, e⟩ | ⟨y, u, rfl, e⟩
    · exact nomatch e
    · injection e with e1 _
      subst e1
      cases v <;> rfl

theorem mixKind_int (prog : Program) (w : World) (i : Int) (t : Tok) : (mixKind prog w).is (.inl i) (.int i t) = true := keyIs_int i t
theorem mixKind_str (prog : Program) (w : World) (x : Str) (t : Tok) : (mixKind prog w).is (.inr x) (.str x t) = true := keyIs_str x t
end L2

namespace L2
open PySem PySem.Spec PyProof.Rows

/-- a value, without the heap -/
inductive V where
  | non | bl (b : Bool) | int (i : Int) | str (x : Str) | byt (b : Array UInt8) | flt (b : UInt64) | ref (a : Addr) | ty (n : String)
  deriving DecidableEq

def RelV : V → Value → Prop
  | .non, u => u = Value.none
  | .bl b, u => u = Value.bool b
  | .int i, u => ∃ t, u = Value.int i t
  | .str x, u => ∃ t, u = Value.str x t
  | .byt b, u => ∃ t, u = Value.bytes b t
  | .flt b, u => ∃ t, u = Value.float b t
  | .ref a, u => u = Value.ref a
  | .ty n, u => u = Value.type n

abbrev Vals : List V → List Value → Prop := Paired RelV
theorem Vals.length {xs : List V} {us : List Value} (r : Vals xs us) : xs.length = us.length := Paired.length r
theorem Vals.get : ∀ {xs : List V} {us : List Value} {i : Nat} {x : V}, Vals xs us → xs[i]? = some x → ∃ u, us[i]? = some u ∧ RelV x u
  | _, _, _, _, .nil, e => by simp at e
  | _, _, 0, _, .cons r _, e => by simp at e; subst e; exact ⟨_, rfl, r⟩
  | _, _, i + 1, x, .cons _ t, e => by
    obtain ⟨u, h1, h2⟩ := Vals.get (i := i) (x := x) t (by simpa using e)
    exact ⟨u, by simpa using h1, h2⟩
theorem Vals.set {x : V} {u : Value} (r : RelV x u) : ∀ {xs : List V} {us : List Value} (i : Nat), Vals xs us → Vals (xs.set i x) (us.set i u)
  | _, _, _, .nil => .nil
  | _, _, 0, .cons _ t => .cons r t
  | _, _, i + 1, .cons q t => .cons q (Vals.set r i t)
theorem Vals.append : ∀ {xs ys : List V} {us ws : List Value}, Vals xs us → Vals ys ws → Vals (xs ++ ys) (us ++ ws)
  | _, _, _, _, .nil, s => s
  | _, _, _, _, .cons r t, s => .cons r (Vals.append t s)
theorem Vals.take : ∀ {xs : List V} {us : List Value} (n : Nat), Vals xs us → Vals (xs.take n) (us.take n)
  | _, _, 0, _ => .nil
  | _, _, _ + 1, .nil => .nil
  | _, _, n + 1, .cons r t => .cons r (Vals.take n t)
theorem Vals.drop : ∀ {xs : List V} {us : List Value} (n : Nat), Vals xs us → Vals (xs.drop n) (us.drop n)
  | _, _, 0, r => r
  | _, _, _ + 1, .nil => .nil
  | _, _, n + 1, .cons _ t => Vals.drop n t
def RelO : Option V → Option Value → Prop
  | some v, some u => RelV v u
  | none, none => True
  | _, _ => False
def KV {κ : Type} : List (κ × V) → List (κ × Value) → Prop := Paired fun (p : κ × V) (q : κ × Value) => p.1 = q.1 ∧ RelV p.2 q.2

/-- a key of a dict (00_mix): an int or a text -/
def kV : Key → V
  | .inl i => .int i
  | .inr x => .str x

section
variable {prog : Program} {w : World}
/-- a standing: a tuple of a tuple of ints and an int -/
def IsStand (prog : Program) (w : World) (h : Heap) (k : List Int × Int) (a : Addr) : Prop :=
  ∃ o n u t, h.get? a = some o ∧ o.cls = .type "tuple" ∧ o.data = .seq #[.ref u, .int k.2 t] n ∧ IsTupleKey (intKind prog w) h k.1 u
theorem IsStand.typeIs {s : Shared} {k : List Int × Int} {a : Addr} (x : IsStand prog w s.heap k a) : s.TypeIs (.ref a) "tuple" := let ⟨o, _, _, _, ho, hc, _⟩ := x; ⟨o, ho, hc⟩
theorem IsStand.inj {h : Heap} {a : Addr} {x y : List Int × Int} (hx : IsStand prog w h x a) (hy : IsStand prog w h y a) : x = y := by
  obtain ⟨o, n, u, t, ho, _, hd, hi⟩ := hx
  obtain ⟨o', n', u', t', ho', _, hd', hi'⟩ := hy
  obtain rfl : o = o' := Option.some.inj (ho.symm.trans ho')
  rw [hd] at hd'
  injection hd' with h1 _
  simp only [Array.mk.injEq, List.cons.injEq, Value.ref.injEq, Value.int.injEq, and_true] at h1
  obtain ⟨rfl, h2, _⟩ := h1
  exact Prod.ext (hi.inj hi') h2
theorem IsStand.keeps {h h' : Heap} {k : List Int × Int} {a d : Addr} {o : Obj} {es ep} (x : IsStand prog w h k a) (ho : h.get? d = some o) (hd : o.data = .dict es ep) (hs : Heap.SameBut d h h') : IsStand prog w h' k a := by
  obtain ⟨o', n, u, t, ho', hc, hd', hi⟩ := x
  have hne : a ≠ d := by
    rintro rfl
    obtain rfl : o' = o := Option.some.inj (ho'.symm.trans ho)
    rw [hd] at hd'
    exact nomatch hd'
  exact ⟨o', n, u, t, (hs.2 a hne).trans ho', hc, hd', hi.keeps ho hd hs⟩
def standHash (prog : Program) (w : World) (k : List Int × Int) : Int := reduceHash (Builtin.Tuple.tupleHashOf [tupleKeyHash (intKind prog w) k.1, (intKind prog w).hash k.2])
theorem stand_hash {A : Around} {E : Value → Shared → Prop} {s : Shared} {k : List Int × Int} {a : Addr} {Q : Int → Shared → Prop} (hu : A.units + 8 < cLine) (hk : IsStand prog w s.heap k a) (h : Q (standHash prog w k) { s with toks := s.toks + (k.1.length + 3) }) :
    wpAny (model prog w) A (pyHash (.ref a)) Q E s := by
  have hT := hk.typeIs
  obtain ⟨o, n, u, t, ho, _, hd, hi⟩ := hk
  unfold pyHash
  first | unfold pyHashByItsType | skip
  first | refine wpAny_bind (wpAny_cRoomFor_or (.inr (by omega)) ?_) | skip
  refine wpAny_bind (wpAny_specialOf hT F.slot_tuple_hash.lookup ?_)
  show wpAny _ _ (if (some (Value.builtin "tuple.__hash__") == some Value.none) = true then _ else _) Q E s
  rw [if_neg (by rw [beq_builtin_none]; exact Bool.false_ne_true)]
  refine wpAny_bind (wpAny_specialOf hT F.slot_tuple_hash.lookup ?_)
  show wpAny _ _ (callSpecialIfBoundUnlessNone? (.ref a) "__hash__" _ >>= _) Q E s
  refine wpAny_bind (wpAny_callSpecialIfBoundUnlessNone?_slot hT F.slot_tuple_hash (wpAny_call_entry F.slot_tuple_hash hT F.entry_tuple_hash ?_ (F.args_tuple_hash_1 _)))
  show wpAny _ _ (Builtin.Tuple.tupleItemsOf (.ref a) >>= _) _ _ s
  refine wpAny_bind (wpAny_tupleItemsOf ho hd ?_)
  refine wpAny_bind ?_
  rw [← Array.forIn_toList]
  show wpAny _ _ (forIn [Value.ref u, Value.int k.2 t] _ _) _ _ _
  rw [List.forIn_cons]
  have hin : A.in1.units < cLine := by
    first | (show A.units + 1 < cLine; omega) | (show A.units < cLine; omega) | (simp only [Around.in1]; omega)
  refine wpAny_bind (wpAny_bind (wpAny_pyHash_tuple (knd := intKind prog w) hin hi ?_))
  refine wpAny_pure ?_
  show wpAny _ _ (forIn [Value.int k.2 t] _ _) _ _ _
  rw [List.forIn_cons]
  refine wpAny_bind (wpAny_bind ((intKind prog w).pyHash (k := k.2) (by simp [intKind, Value.isInt]) ?_))
  refine wpAny_pure ?_
  show wpAny _ _ (forIn [] _ _) _ _ _
  rw [List.forIn_nil]
  refine wpAny_pure ?_
  show wpAny _ _ (retInt (Builtin.Tuple.tupleHashOf [tupleKeyHash (intKind prog w) k.1, (intKind prog w).hash k.2])) _ _ _
  refine wpAny_ret_mkInt ?_
  generalize e : Builtin.Tuple.tupleHashOf [tupleKeyHash (intKind prog w) k.1, (intKind prog w).hash k.2] = z
  show wpAny _ _ (if (decide (-(2 : Int) ^ 63 ≤ z) && decide (z < 2 ^ 63)) = true then _ else _) Q E _
  unfold standHash reduceHash at h
  rw [e] at h
  by_cases hr : (decide (-(2 : Int) ^ 63 ≤ z) && decide (z < 2 ^ 63)) = true
  · rw [if_pos hr]
    rw [if_pos hr] at h
    exact wpAny_pure (by simpa [Nat.add_assoc] using h)
  · rw [if_neg hr]
    rw [if_neg hr] at h
    exact wpAny_bind (wpAny_rule (wpAny_pure (by simpa [Nat.add_assoc] using h)))
theorem stand_eq {A : Around} {E : Value → Shared → Prop} {s : Shared} {x y : List Int × Int} {a b : Addr} {Q : Bool → Shared → Prop} (hu : A.units + 8 < cLine) (hx : IsStand prog w s.heap x a) (hy : IsStand prog w s.heap y b) (h : Q (decide (x = y)) s) :
    wpAny (model prog w) A (eqBool (.ref a) (.ref b)) Q E s := by
  unfold eqBool
  try with_reducible refine wpAny_holding ?_
  show wpAny _ _ (if (Value.ref a == Value.ref b) = true then _ else _) Q E s
  by_cases hab : (Value.ref a == Value.ref b) = true
  · rw [if_pos hab]
    have e : a = b := by have := eq_of_beq hab; injection this
    subst e
    obtain rfl := hx.inj hy
    exact wpAny_bind (wpAny_rule (wpAny_pure (by simpa using h)))
  · rw [if_neg hab]
    refine wpAny_bind (wpAny_richCompare_same_room (op := .Eq) hx.typeIs hy.typeIs F.slot_tuple_eq
      (wpAny_call_entry F.slot_tuple_eq hx.typeIs F.entry_tuple_eq ?_ (F.args_tuple_eq_2 _ _)) (by omega))
    have hTb := hy.typeIs
    obtain ⟨oa, na, ua, ta, hoa, _, hda, hia⟩ := hx
    obtain ⟨ob, nb, ub, tb, hob, _, hdb, hib⟩ := hy
    show wpAny _ _ (isInstance (.ref b) (.type "tuple") >>= _) _ _ s
    refine wpAny_bind (wpAny_isInstance hTb isSubtype_tuple_tuple ?_)
    simp only [Bool.not_true, Bool.false_eq_true, if_false]
    refine wpAny_bind (wpAny_tupleItemsOf hoa hda ?_)
    refine wpAny_bind (wpAny_tupleItemsOf hob hdb ?_)
    refine wpAny_bind ?_
    show wpAny _ _ (forIn [(Value.ref ua, Value.ref ub), (Value.int x.2 ta, Value.int y.2 tb)] _ _) _ _ _
    rw [List.forIn_cons]
    have hin : A.in1.units < cLine := by
      first | (show A.units + 1 < cLine; omega) | (show A.units < cLine; omega) | (simp only [Around.in1]; omega)
    refine wpAny_bind (wpAny_bind (wpAny_eqBool_tuple (knd := intKind prog w) hin hia hib ?_))
    by_cases h1 : x.1 = y.1
    · rw [decide_eq_true h1]
      simp only [Bool.not_true, Bool.false_eq_true, if_false]
      refine wpAny_pure ?_
      show wpAny _ _ (forIn [(Value.int x.2 ta, Value.int y.2 tb)] _ _) _ _ _
      rw [List.forIn_cons]
      refine wpAny_bind (wpAny_bind ((intKind prog w).eqBool (a := x.2) (b := y.2) (by simp [intKind, Value.isInt]) (by simp [intKind, Value.isInt]) ?_))
      by_cases h2 : x.2 = y.2
      · rw [decide_eq_true h2]
        simp only [Bool.not_true, Bool.false_eq_true, if_false]
        refine wpAny_pure ?_
        show wpAny _ _ (forIn [] _ _) _ _ _
        rw [List.forIn_nil]
        refine wpAny_pure ?_
        have e : decide (x = y) = true := decide_eq_true (Prod.ext h1 h2)
        rw [e] at h
        exact wpAny_pure ⟨_, rfl, (fun e => nomatch e), wpAny_truthy_bool h⟩
      · rw [decide_eq_false h2]
        simp only [Bool.not_false, if_true]
        have e : decide (x = y) = false := decide_eq_false fun z => h2 (by rw [z])
        rw [e] at h
        exact wpAny_bind (wpAny_pure (wpAny_pure (wpAny_pure (wpAny_pure ⟨_, rfl, (fun e => nomatch e), wpAny_truthy_bool h⟩))))
    · rw [decide_eq_false h1]
      simp only [Bool.not_false, if_true]
      have e : decide (x = y) = false := decide_eq_false fun z => h1 (by rw [z])
      rw [e] at h
      exact wpAny_bind (wpAny_pure (wpAny_pure (wpAny_pure (wpAny_pure ⟨_, rfl, (fun e => nomatch e), wpAny_truthy_bool h⟩))))
theorem quiet7 {A : Around} {E : Value → Shared → Prop} {s : Shared} {ks : List Int} {a : Addr} {Q : Bool → Shared → Prop} (hk : IsTupleKey (intKind prog w) s.heap ks a) (h : Q true s) : wpAny (model prog w) A (eqIsQuiet 7 (.ref a)) Q E s := by
  have hT := hk.typeIs
  obtain ⟨o, items, n, ho, _, hd, hi⟩ := hk
  unfold eqIsQuiet
  refine wpAny_bind (wpAny_specialOf hT F.slot_tuple_eq.lookup ?_)
  show wpAny _ _ (isInstance (.ref a) (.type "tuple") >>= _) _ _ s
  refine wpAny_bind (wpAny_isInstance hT isSubtype_tuple_tuple ?_)
  simp only [Bool.not_true, Bool.false_eq_true, if_false]
  refine wpAny_bind (wpAny_seqItems ho hd ?_)
  refine wpAny_bind ?_
  show wpAny _ _ (forIn items _ _) _ _ s
  rw [← Array.forIn_toList]
  refine wpAny_forIn_list _ (fun rest r s' => r.1 = none ∧ s' = s ∧ ∀ v ∈ rest, carriedByValue v = true) _ ?_ ?_ _ _ ⟨rfl, rfl, hi.byValue⟩
  · rintro v rest r s' ⟨hr, rfl, hall⟩
    rw [eqIsQuiet_byValue _ (hall v List.mem_cons_self)]
    refine wpAny_bind (wpAny_pure ?_)
    simp only [Bool.not_true, Bool.false_eq_true, if_false]
    exact wpAny_pure ⟨rfl, rfl, fun u hu' => hall u (List.mem_cons_of_mem _ hu')⟩
  · rintro ⟨r1, r2⟩ s' ⟨hr, rfl, _⟩
    simp only at hr
    subst hr
    exact wpAny_pure h
theorem stand_quiet {A : Around} {E : Value → Shared → Prop} {s : Shared} {k : List Int × Int} {a : Addr} {Q : Bool → Shared → Prop} (hk : IsStand prog w s.heap k a) (h : Q true s) : wpAny (model prog w) A (eqIsQuiet 8 (.ref a)) Q E s := by
  have hT := hk.typeIs
  obtain ⟨o, n, u, t, ho, _, hd, hi⟩ := hk
  unfold eqIsQuiet
  refine wpAny_bind (wpAny_specialOf hT F.slot_tuple_eq.lookup ?_)
  show wpAny _ _ (isInstance (.ref a) (.type "tuple") >>= _) _ _ s
  refine wpAny_bind (wpAny_isInstance hT isSubtype_tuple_tuple ?_)
  simp only [Bool.not_true, Bool.false_eq_true, if_false]
  refine wpAny_bind (wpAny_seqItems ho hd ?_)
  refine wpAny_bind ?_
  show wpAny _ _ (forIn #[Value.ref u, Value.int k.2 t] _ _) _ _ s
  rw [← Array.forIn_toList]
  show wpAny _ _ (forIn [Value.ref u, Value.int k.2 t] _ _) _ _ s
  rw [List.forIn_cons]
  refine wpAny_bind (wpAny_bind (quiet7 hi ?_))
  simp only [Bool.not_true, Bool.false_eq_true, if_false]
  refine wpAny_pure ?_
  show wpAny _ _ (forIn [Value.int k.2 t] _ _) _ _ s
  rw [List.forIn_cons, eqIsQuiet_byValue _ rfl]
  refine wpAny_bind (wpAny_bind (wpAny_pure ?_))
  simp only [Bool.not_true, Bool.false_eq_true, if_false]
  refine wpAny_pure ?_
  show wpAny _ _ (forIn [] _ _) _ _ s
  rw [List.forIn_nil]
  exact wpAny_pure (wpAny_pure h)
def standKind (prog : Program) (w : World) : HeapKind prog w (List Int × Int) where
  is := IsStand prog w
  hash := standHash prog w
  draws := fun k => k.1.length + 3
  room := fun A => A.units + 8 < cLine
  inj := fun hx hy => hx.inj hy
  keeps := fun x ho hd hs => x.keeps ho hd hs
  pyHash := fun hu hk h => stand_hash hu hk h
  eqBool := fun hu hx hy h => stand_eq hu hx hy h
  quiet := fun hk h => stand_quiet hk h
end
/-- what stands at a tracked address -/
inductive HO where
  /-- a list -/
  | lst (xs : List V)
  /-- a tuple (never changes) -/
  | tup (xs : List V)
  /-- a dict whose keys are ints and texts; one whose keys are tuples of ints and texts (the empty one is both) -/
  | dK (kvs : List (Key × V)) | dT (kvs : List ((List Int × Int) × V))
  /-- a set of ints: its members, its size -/
  | set (S : Int → Bool) (n : Nat)
  /-- an instance of the class at C, its dict at dx, its attributes -/
  | ins (C dx : Addr) (fs : List (Str × V))
  /-- the dict of the instance at x -/
  | own (x : Addr)
  /-- the dict of an exception -/
  | xd (fs : List (Str × V))
  /-- a bound method, f of x -/
  | met (f x : Addr)
  /-- a range object lo, lo + 1, .. below hi -/
  | rng (lo hi : Int)
  /-- a thing that is known to the object (the script; a dict while a loop walks it): read, never written while it is so -/
  | frz (o : Obj) (u : HO)
  /-- a code object's table -/
  | tbl (ps : Array Value)
  /-- any other thing, by what is true of its one object (a def of one's own: SetO a S n := HO.ext fun h => ..) -/
  | ext (φ : Heap → Prop)

abbrev Hp := Addr → Option HO
/-- a standing lies at b -/
def StH (H : Hp) (b : Addr) (k : List Int × Int) : Prop := ∃ u, H b = some (.tup [.ref u, .int k.2]) ∧ H u = some (.tup (k.1.map V.int))
theorem StH.up {H H2 : Hp} {b : Addr} {k : List Int × Int} (ht : ∀ b xs, H b = some (.tup xs) → H2 b = some (.tup xs)) (h : StH H b k) : StH H2 b k := let ⟨u, a1, a2⟩ := h; ⟨u, ht _ _ a1, ht _ _ a2⟩
def upd (H : Hp) (a : Addr) (o : HO) : Hp := fun b => if b = a then some o else H b
theorem upd_same {H : Hp} {a : Addr} {o : HO} : upd H a o a = some o := by unfold upd; rw [if_pos rfl]
theorem upd_ne {H : Hp} {a b : Addr} {o : HO} (h : b ≠ a) : upd H a o b = H b := by unfold upd; rw [if_neg h]
/-- two objects of different content stand apart -/
theorem ne_of {H : Hp} {a b : Addr} {o u : HO} (h : H a = some o) (h' : H b = some u) (d : o ≠ u) : a ≠ b := by
  intro e; subst e; rw [h] at h'; exact d (Option.some.inj h')
theorem ne_of_none {H : Hp} {a b : Addr} {o : HO} (h : H a = some o) (h' : H b = none) : a ≠ b := by
  intro e; subst e; rw [h] at h'; cases h'

section
variable (P : Program) (w : World)
def ObjOk (H : Hp) (h : Heap) (a : Addr) : HO → Prop
  | .lst xs => xs.length ≤ sizeLine ∧ ∃ (its : List Value) (n : Nat), Vals xs its ∧ h.get? a = some { cls := .type "list", data := .seq its.toArray n }
  | .tup xs => (xs.length ≤ sizeLine ∧ ∃ o, h.get? a = some o ∧ o.dict = none) ∧ ∃ its : List Value, Vals xs its ∧ IsTup h a its.toArray
  | .dK kvs => kvs.length ≤ sizeLine ∧ (a == sysModules) = false ∧ ∃ vs, KV kvs vs ∧ h.DictOf (mixKind P w) a vs
  | .dT kvs => kvs.length ≤ sizeLine ∧ (a == sysModules) = false ∧ ∃ xs : List ((List Int × Int) × Addr × Value),
      Paired (fun (p : (List Int × Int) × V) (q : (List Int × Int) × Addr × Value) => p.1 = q.1 ∧ StH H q.2.1 p.1 ∧ RelV p.2 q.2.2) kvs xs ∧
      ∃ o es ep, h.get? a = some o ∧ o.ExactDict ∧ o.data = .dict es ep ∧ es.toList = xs.map (entryOfKey (standKind P w)) ∧ (xs.map (·.1)).Nodup
  | .set S n => h.SetOf (intKind P w) a S n
  | .ins C dx fs => H dx = some (.own a) ∧ fs.length ≤ 1000 ∧ dx ≠ a ∧ h.get? a = some (PySem.W.instObj C dx) ∧
      ∃ mA, h.Ns1 dx mA ∧ (∀ f, RelO (fs.lookup f) (mA f)) ∧ PySem.Within mA (fs.map (·.1))
  | .own _ => ∃ o, h.get? a = some o
  | .xd fs => ∃ mA, h.Ns1 a mA ∧ ∀ f, RelO (fs.lookup f) (mA f)
  | .rng lo hi => ∃ t u v, h.get? a = some { cls := .type "range", data := .fields #[.int lo t, .int hi u, .int 1 v] }
  | .frz o u => h.get? a = some o ∧ ObjOk H h a u
  | .tbl ps => h.get? a = some { cls := .none, data := .fields ps }
  | .met f x => h.get? a = some (PySem.W.methodObj (.ref f) (.ref x))
  | .ext φ => φ h ∧ (∃ o, h.get? a = some o) ∧ ∀ h1 h2 : Heap, φ h1 → (∀ o, h1.get? a = some o → h2.get? a = some o) → φ h2
/-- the abstract heap is held -/
def HOk (H : Hp) (h : Heap) : Prop := ∀ a o, H a = some o → ObjOk P w H h a o
end

section
variable {P : Program} {w : World} {H H' : Hp} {h h' : Heap} {a : Addr} {o : HO}
theorem ObjOk.lt (x : ObjOk P w H h a o) : a < h.objs.size := by
  cases o with
  | lst xs => obtain ⟨_, _, _, _, e⟩ := x; exact Heap.lt_size e
  | tup xs => obtain ⟨_, _, _, p⟩ := x; exact p.lt
  | dK kvs => obtain ⟨_, _, _, _, o, _, _, e, _⟩ := x; exact Heap.lt_size e
  | dT kvs => obtain ⟨_, _, _, _, o, _, _, e, _⟩ := x; exact Heap.lt_size e
  | set S n => obtain ⟨o, _, _, _, e, _⟩ := x; exact Heap.lt_size e
  | ins C dx fs => obtain ⟨_, _, _, e, _⟩ := x; exact Heap.lt_size e
  | own y => obtain ⟨_, e⟩ := x; exact Heap.lt_size e
  | xd fs => obtain ⟨_, ⟨_, _, _, e, _⟩, _⟩ := x; exact Heap.lt_size e
  | rng lo hi => obtain ⟨_, _, _, e⟩ := x; exact Heap.lt_size e
  | frz ob u => obtain ⟨e, _⟩ := x; exact Heap.lt_size e
  | tbl ps => exact Heap.lt_size (show h.get? a = some _ from x)
  | met f y => exact Heap.lt_size (show h.get? a = some _ from x)
  | ext φ => obtain ⟨_, ⟨_, e⟩, _⟩ := x; exact Heap.lt_size e
theorem Paired.mapP {α β : Type} {F G : α → β → Prop} : ∀ {l₁ : List α} {l₂ : List β}, Paired F l₁ l₂ → (∀ a b, F a b → G a b) → Paired G l₁ l₂
  | _, _, .nil, _ => .nil
  | _, _, .cons r t, f => .cons (f _ _ r) (Paired.mapP t f)
/-- what an object's description leans on: its own object, its own dict, the tuples -/
theorem ObjOk.stay (x : ObjOk P w H h a o) (k : ∀ b u, (b = a ∨ H b = some (.own a)) → h.get? b = some u → h'.get? b = some u)
    (ho : ∀ b, H b = some (.own a) → H' b = some (.own a)) (ht : ∀ b xs, H b = some (.tup xs) → H' b = some (.tup xs)) : ObjOk P w H' h' a o := by
  induction o with
  | lst xs => obtain ⟨z, its, n, r, e⟩ := x; exact ⟨z, its, n, r, k _ _ (.inl rfl) e⟩
  | tup xs => obtain ⟨z, its, r, ob, e, c⟩ := x; exact ⟨⟨z.1, let ⟨o, e2, d⟩ := z.2; ⟨o, k _ _ (.inl rfl) e2, d⟩⟩, its, r, ob, k _ _ (.inl rfl) e, c⟩
  | dK kvs => obtain ⟨z, y, vs, r, ob, es, ep, e, c⟩ := x; exact ⟨z, y, vs, r, ob, es, ep, k _ _ (.inl rfl) e, c⟩
  | dT kvs =>
    obtain ⟨z, y, xs, r, ob, es, ep, e, c⟩ := x
    exact ⟨z, y, xs, Paired.mapP r fun p q z => ⟨z.1, z.2.1.up ht, z.2.2⟩, ob, es, ep, k _ _ (.inl rfl) e, c⟩
  | set S n => obtain ⟨ob, es, ep, t, e, c⟩ := x; exact ⟨ob, es, ep, t, k _ _ (.inl rfl) e, c⟩
  | ins C dx fs =>
    obtain ⟨d, z, ne, e, mA, ⟨od, es, ep, e2, c⟩, r⟩ := x
    exact ⟨ho _ d, z, ne, k _ _ (.inl rfl) e, mA, ⟨od, es, ep, k _ _ (.inr d) e2, c⟩, r⟩
  | own y => obtain ⟨ob, e⟩ := x; exact ⟨ob, k _ _ (.inl rfl) e⟩
  | xd fs => obtain ⟨mA, ⟨od, es, ep, e, c⟩, r⟩ := x; exact ⟨mA, ⟨od, es, ep, k _ _ (.inl rfl) e, c⟩, r⟩
  | rng lo hi => obtain ⟨t, u, v, e⟩ := x; exact ⟨t, u, v, k _ _ (.inl rfl) e⟩
  | frz ob u ih => obtain ⟨e, q⟩ := x; exact ⟨k _ _ (.inl rfl) e, ih q⟩
  | tbl ps =>
    have e : h.get? a = some { cls := .none, data := .fields ps } := x
    show h'.get? a = some { cls := .none, data := .fields ps }
    exact k a _ (.inl rfl) e
  | met f y =>
    have e : h.get? a = some (PySem.W.methodObj (.ref f) (.ref y)) := x
    show h'.get? a = some (PySem.W.methodObj (.ref f) (.ref y))
    exact k a _ (.inl rfl) e
  | ext φ => obtain ⟨p, ⟨o, e⟩, st⟩ := x; exact ⟨st _ _ p fun o q => k _ _ (.inl rfl) q, ⟨o, k _ _ (.inl rfl) e⟩, st⟩
theorem HOk.lt (x : HOk P w H h) (e : H a = some o) : a < h.objs.size := (x a o e).lt
theorem HOk.fresh (x : HOk P w H h) (e : h.objs.size ≤ a) : H a = none := by
  cases q : H a with
  | none => rfl
  | some u => exact absurd (Nat.lt_of_lt_of_le (x.lt q) e) (Nat.lt_irrefl _)
/-- every object of the heap is kept -/
theorem HOk.kept (x : HOk P w H h) (k : ∀ b u, h.get? b = some u → h'.get? b = some u) : HOk P w H h' := fun a o e =>
  (x a o e).stay (fun b u _ q => k b u q) (fun _ q => q) fun _ _ q => q
/-- a new object is laid and tracked -/
theorem HOk.laid (x : HOk P w H h) (k : ∀ b u, h.get? b = some u → h'.get? b = some u) (hp : h.objs.size ≤ a) (new : ObjOk P w (upd H a o) h' a o) : HOk P w (upd H a o) h' := fun b u e => by
  have hn := x.fresh hp
  by_cases hb : b = a
  · subst hb; rw [upd_same] at e; cases e; exact new
  · rw [upd_ne hb] at e
    exact (x b u e).stay (fun c v _ q => k c v q) (fun c q => by rw [upd_ne (ne_of_none q hn)]; exact q) fun c xs q => by rw [upd_ne (ne_of_none q hn)]; exact q
end

/-- what may be read as u: it is u, or a known u -/
def Rd (H : Hp) (a : Addr) (u : HO) : Prop := H a = some u ∨ ∃ o, H a = some (.frz o u)
theorem Rd.of {H : Hp} {a : Addr} {u : HO} (h : H a = some u) : Rd H a u := .inl h
theorem Rd.ok {P : Program} {w : World} {H : Hp} {h : Heap} {a : Addr} {u : HO} (r : Rd H a u) (x : HOk P w H h) : ObjOk P w H h a u := by
  rcases r with r | ⟨o, r⟩
  · exact x a u r
  · obtain ⟨_, q⟩ := x a _ r
    exact q
/-- what may be written -/
def Mut : Option HO → Prop
  | some (.lst _) => True
  | some (.dK _) => True
  | some (.dT _) => True
  | some (.set _ _) => True
  | some (.ins _ _ _) => True
  | some (.ext _) => True
  | _ => False
section
variable {P : Program} {w : World} {H : Hp} {h h' : Heap} {x e : Addr} {o' : HO}
/-- the object at e is changed: x itself, or the dict of the instance x -/
theorem HOk.write (ok : HOk P w H h) (mu : Mut (H x)) (he : e = x ∨ H e = some (.own x)) (k : ∀ b u, b ≠ e → h.get? b = some u → h'.get? b = some u) (heo : ∃ u, h'.get? e = some u)
    (new : ObjOk P w (upd H x o') h' x o') : HOk P w (upd H x o') h' := fun b u q => by
  have nown : ∀ c y, H c = some (.own y) → c ≠ x := fun c y r z => by subst z; rw [r] at mu; exact mu
  have ntup : ∀ c xs, H c = some (.tup xs) → c ≠ x := fun c xs r z => by subst z; rw [r] at mu; exact mu
  by_cases hb : b = x
  · subst hb; rw [upd_same] at q; cases q; exact new
  · rw [upd_ne hb] at q
    by_cases hbe : b = e
    · have q' : H b = some (.own x) := by
        rcases he with z | z
        · exact absurd (hbe.trans z) hb
        · rw [hbe]; exact z
      rw [q] at q'; cases q'
      obtain ⟨v, hv⟩ := heo
      exact ⟨v, by rw [hbe]; exact hv⟩
    · refine (ok b u q).stay (fun c v hc r => k c v ?_ r) (fun c r => by rw [upd_ne (nown c b r)]; exact r) fun c xs r => by rw [upd_ne (ntup c xs r)]; exact r
      rcases hc with rfl | hc
      · exact hbe
      · rintro rfl
        rcases he with z | z
        · exact nown c b hc z
        · rw [hc] at z; cases z; exact hb rfl
end

/-! ### kept unless tracked; of the frames at fs (the callers') the slots may change (an exception that passes writes there); of the records at ex (iterators) nothing is said -/
structure Un (fs ex : List Addr) (H H' : Hp) (h h' : Heap) : Prop where
  keep : ∀ b o, h.get? b = some o → H b = none → b ∉ fs → b ∉ ex → h'.get? b = some o
  slot : ∀ b o, h.get? b = some o → H b = none → b ∈ fs → b ∉ ex → ∃ sl, h'.get? b = some { o with slots := sl }
  free : ∀ b o, h.get? b = some o → H b = none → b ∉ ex → H' b = none
  there : ∀ b o, h.get? b = some o → b ∉ ex → ∃ o', h'.get? b = some o'
  tups : ∀ b xs, H b = some (.tup xs) → H' b = some (.tup xs)
  frzs : ∀ b o u, H b = some (.frz o u) → H' b = some (.frz o u)
  tbls : ∀ b ps, H b = some (.tbl ps) → ∃ more, H' b = some (.tbl (ps ++ more))
section
variable {fs fs' ex ex' : List Addr} {H H1 H2 : Hp} {h h1 h2 h' : Heap} {a x e : Addr} {o : HO}
theorem Un.any (u : Un fs ex H H1 h h1) {b : Addr} {ob : Obj} (q : h.get? b = some ob) (n : H b = none) (hx : b ∉ ex) : ∃ sl, h1.get? b = some { ob with slots := sl } := by
  by_cases hb : b ∈ fs
  · exact u.slot b ob q n hb hx
  · exact ⟨ob.slots, u.keep b ob q n hb hx⟩
theorem Un.trans (a : Un fs ex H H1 h h1) (b : Un fs ex H1 H2 h1 h2) : Un fs ex H H2 h h2 where
  keep := fun c ob q n hc hx => b.keep c ob (a.keep c ob q n hc hx) (a.free c ob q n hx) hc hx
  slot := fun c ob q n hc hx => by
    obtain ⟨sl, e1⟩ := a.slot c ob q n hc hx
    obtain ⟨sl', e2⟩ := b.slot c _ e1 (a.free c ob q n hx) hc hx
    exact ⟨sl', e2⟩
  free := fun c ob q n hx => by
    obtain ⟨o', e1⟩ := a.there c ob q hx
    exact b.free c o' e1 (a.free c ob q n hx) hx
  there := fun c ob q hx => by
    obtain ⟨o', e1⟩ := a.there c ob q hx
    exact b.there c o' e1 hx
  tups := fun c xs q => b.tups c xs (a.tups c xs q)
  frzs := fun c ob xs q => b.frzs c ob xs (a.frzs c ob xs q)
  tbls := fun c ps q => by
    obtain ⟨m1, e1⟩ := a.tbls c ps q
    obtain ⟨m2, e2⟩ := b.tbls c _ e1
    exact ⟨m1 ++ m2, by rw [e2, Array.append_assoc]⟩
theorem Un.kept (k : ∀ b u, h.get? b = some u → h'.get? b = some u) : Un fs ex H H h h' :=
  ⟨fun b ob q _ _ _ => k b ob q, fun b ob q _ _ _ => ⟨ob.slots, k b ob q⟩, fun _ _ _ n _ => n, fun b ob q _ => ⟨ob, k b ob q⟩, fun _ _ q => q, fun _ _ _ q => q, fun _ ps q => ⟨#[], by rw [q]; simp⟩⟩
theorem Un.refl : Un fs ex H H h h := Un.kept fun _ _ q => q
theorem Un.laid (k : ∀ b u, h.get? b = some u → h'.get? b = some u) (hp : h.objs.size ≤ a) (hn : H a = none) : Un fs ex H (upd H a o) h h' where
  keep := fun b u q _ _ _ => k b u q
  slot := fun b u q _ _ _ => ⟨u.slots, k b u q⟩
  free := fun b u q n _ => by rw [upd_ne (Nat.ne_of_lt (Nat.lt_of_lt_of_le (Heap.lt_size q) hp))]; exact n
  there := fun b u q _ => ⟨u, k b u q⟩
  tups := fun b xs q => by rw [upd_ne (ne_of_none q hn)]; exact q
  frzs := fun b u xs q => by rw [upd_ne (ne_of_none q hn)]; exact q
  tbls := fun b ps q => ⟨#[], by rw [upd_ne (ne_of_none q hn), q]; simp⟩
theorem Un.write (mu : Mut (H x)) (he : e = x ∨ H e = some (.own x)) (k : ∀ b u, b ≠ e → h.get? b = some u → h'.get? b = some u) (heo : ∃ u, h'.get? e = some u) : Un fs ex H (upd H x o) h h' := by
  have hx : ∀ b, H b = none → b ≠ x := fun b n z => by subst z; rw [n] at mu; exact mu
  have hb : ∀ b, H b = none → b ≠ e := fun b n z => by
    subst z
    rcases he with r | r
    · exact hx b n r
    · rw [n] at r; cases r
  have hm : ∀ b u, H b = some u → ¬ Mut (some u) → b ≠ x := fun b u q nm z => by subst z; rw [q] at mu; exact nm mu
  refine ⟨fun b u q n _ _ => k b u (hb b n) q, fun b u q n _ _ => ⟨u.slots, k b u (hb b n) q⟩, fun b u q n _ => by rw [upd_ne (hx b n)]; exact n, fun b u q _ => ?_,
    fun b xs q => by rw [upd_ne (hm b _ q fun z => z)]; exact q, fun b u xs q => by rw [upd_ne (hm b _ q fun z => z)]; exact q, fun b ps q => ⟨#[], by rw [upd_ne (hm b _ q fun z => z), q]; simp⟩⟩
  by_cases hbe : b = e
  · subst hbe; exact heo
  · exact ⟨u, k b u hbe q⟩
theorem Un.mono (u : Un fs ex H H1 h h1) (hs : ∀ b ∈ fs, b ∈ fs') (hx : ∀ b ∈ ex, b ∈ ex') : Un fs' ex' H H1 h h1 :=
  ⟨fun b ob q n hb he => u.keep b ob q n (fun z => hb (hs b z)) fun z => he (hx b z), fun _ _ q n _ he => u.any q n fun z => he (hx _ z), fun b ob q n he => u.free b ob q n fun z => he (hx b z), fun b ob q he => u.there b ob q fun z => he (hx b z), u.tups, u.frzs, u.tbls⟩
end

/-! ### the heap without what is tracked -/
def trk (h : Heap) (H : Hp) : List Addr := (List.range h.objs.size).filter fun a => (H a).isSome
def hidT (h : Heap) (H : Hp) : Heap := PySem.W.hideAll h (trk h H)
theorem hidT_size (h : Heap) (H : Hp) : (hidT h H).objs.size = h.objs.size := PySem.W.hideAll_size _ _
theorem hidT_get {h : Heap} {H : Hp} {b : Addr} {o : Obj} (e : h.get? b = some o) (n : H b = none) : (hidT h H).get? b = some o :=
  PySem.W.hideAll_get _ e fun hm => by
    have q : (H b).isSome = true := (List.mem_filter.mp hm).2
    rw [n] at q; simp at q
theorem of_hidT {h : Heap} {H : Hp} {b : Addr} {o : Obj} (e : (hidT h H).get? b = some o) : h.get? b = some o ∧ H b = none := by
  have e' : h.get? b = some o := PySem.W.of_hideAll (trk h H) e
  refine ⟨e', ?_⟩
  cases q : H b with
  | none => rfl
  | some x =>
    have hm : b ∈ trk h H := List.mem_filter.mpr ⟨List.mem_range.mpr (Heap.lt_size e'), by simp [q]⟩
    have z : (hidT h H).get? b = none := PySem.W.hideAll_none (trk h H) hm
    rw [z] at e; cases e

/-! ### OpenK's ledger, filled with every new object but one -/
def allNews (g h : Heap) (L : Addr) : List (Addr × Obj) := (List.range h.objs.size).filterMap fun a => if a = L ∨ (g.get? a).isSome = true then none else (h.get? a).map fun o => (a, o)
def rest (g h : Heap) (L d : Addr) : List (Addr × Obj) := (allNews g h L).filter fun p => decide (p.1 ≠ d)
end L2

namespace L2
open PySem PySem.Spec PyProof.Rows

/-- the module's facts, over the base: the heap at the law's entry without what is tracked there -/
structure Mod (K : PySem.W.Frag) (mg : Str → Option Value) (base : Heap) : Prop where
  kin : K.In base
  glob : base.Ns mainGlobals mg
  blt : ∃ mb, base.Ns builtinsNs mb ∧ ∀ x : Str, x ≠ "__name__" → mb x = bootBuiltins x
  nolimit : base.NoLimit

/-- the context: a def's body (or a comprehension's block) running. base: fixed through the whole law; s₀, H₀: the entry; outer: the frames whose slots others may change (a def's callers); stack: all frames that run;
   ex: iterators that were made ahead of the entry and are walked here (a comprehension's); fn: the names whose cells were made at the entry (a def: all; a comprehension's block: its own); calm: not within an except suite; pn: pins that every state bears; xe: what is wanted of an exception that leaves the code -/
structure Cx where
  prog : Program
  w : World
  K : PySem.W.Frag
  mg : Str → Option Value
  base : Heap
  A : Around
  N : List Str
  s₀ : Shared
  H₀ : Hp
  env : Env
  outer : List Env
  stack : List Env
  ex : List Addr
  fn : Str → Bool
  calm : Bool
  pn : List (Addr × Obj)
  xe : Value → Shared → Prop
/-- the callers' frames -/
def frs (l : List Env) : List Addr := l.filterMap (·.frame)
abbrev Cx.fs (X : Cx) : List Addr := frs X.outer

def Vis (sc : Scope) (x : Str) : Prop := sc.names.lookup x = some .local ∨ sc.names.lookup x = some .cell ∨ sc.names.lookup x = some .free
def Loc (sc : Scope) (x : Str) : Prop := sc.names.lookup x = some .local ∨ sc.names.lookup x = some .cell
def Look (env : Env) (h : Heap) (m : Str → Option Value) (x : Str) (u : Value) : Prop :=
  (env.kindOf x = some .local ∧ m x = some u) ∨ ((env.kindOf x = some .cell ∨ env.kindOf x = some .free) ∧ ∃ c, env.cells.lookup x = some c ∧ h.IsCell c (some u))

structure Cx.Ok (X : Cx) : Prop where
  mod : Mod X.K X.mg X.base
  kind : X.env.scope.kind = .function
  glob : X.env.globals = mainGlobals
  blt : X.env.builtins = builtinsNs
  above : X.s₀.heap.objs.size ≤ X.env.locals
  inj : ∀ x y c, X.env.cells.lookup x = some c → X.env.cells.lookup y = some c → x = y
  has : ∀ x, (X.env.kindOf x = some .cell ∨ X.env.kindOf x = some .free) → ∃ c, X.env.cells.lookup x = some c
  cab : ∀ x c, X.fn x = true → X.env.cells.lookup x = some c → X.s₀.heap.objs.size ≤ c
  hd : X.calm = true → X.A.handled = none
  frames : X.A.frames = some X.stack
  stk : X.stack = X.outer ∨ (X.stack = X.env :: X.outer ∧ X.env.frame = some X.env.locals)
  exf : ∀ b ∈ X.ex, b ≠ X.env.locals ∧ ∀ x c, X.env.cells.lookup x = some c → c ≠ b
  bs : ∀ b o, X.base.get? b = some o → X.s₀.heap.get? b = some o ∧ X.H₀ b = none
  bsz : X.base.objs.size ≤ X.s₀.heap.objs.size
  noex : ∀ b o, X.base.get? b = some o → b ∉ X.ex
  exfs : ∀ b ∈ X.ex, b ∉ X.fs
  funs : X.s₀.heap.FunFrames X.base X.outer
  frf : ∀ b ∈ X.fs, X.H₀ b = none

structure Inv (X : Cx) (pins : List (Addr × Obj)) (σ : List (Option V)) (H : Hp) (s : Shared) : Prop where
  ok : X.Ok
  os : s.os = X.s₀.os
  bare : AllBare s.gens
  base : Un X.fs X.ex X.H₀ H X.s₀.heap s.heap
  loc : ∃ m, s.heap.Ns X.env.locals m ∧ ∀ (i : Nat) (x : Str) (v : V), X.N[i]? = some x → σ[i]? = some (some v) → Vis X.env.scope x → ∃ u, RelV v u ∧ Look X.env s.heap m x u
  cell : ∀ x c, X.env.cells.lookup x = some c → ∃ v, s.heap.IsCell c v
  free : H X.env.locals = none
  freeC : ∀ x c, X.env.cells.lookup x = some c → H c = none
  pin : ∀ p ∈ X.pn ++ pins, s.heap.get? p.1 = some p.2 ∧ H p.1 = none ∧ p.1 ≠ X.env.locals ∧ p.1 ∉ X.fs ∧ ∀ v, p.2.data ≠ .cell v
  hok : HOk X.prog X.w H s.heap
  len : σ.length = X.N.length

section
variable {X : Cx} {pins : List (Addr × Obj)} {σ : List (Option V)} {H H' : Hp} {s : Shared} {h' : Heap}

theorem Cx.Ok.nofr (ok : X.Ok) {b : Addr} {o : Obj} (e : X.base.get? b = some o) : b ∉ X.fs := fun hb => by
  have := (ok.funs.mem hb).1
  rw [e] at this; cases this
theorem Inv.bs (I : Inv X pins σ H s) : ∀ b o, X.base.get? b = some o → s.heap.get? b = some o ∧ H b = none := fun b o e =>
  ⟨I.base.keep b o (I.ok.bs b o e).1 (I.ok.bs b o e).2 (I.ok.nofr e) (I.ok.noex b o e), I.base.free b o (I.ok.bs b o e).1 (I.ok.bs b o e).2 (I.ok.noex b o e)⟩
theorem Inv.bk (I : Inv X pins σ H s) : ∀ b o, X.base.get? b = some o → s.heap.get? b = some o := fun b o e => (I.bs b o e).1
theorem Inv.mod (I : Inv X pins σ H s) : Mod X.K X.mg X.base := I.ok.mod
theorem Inv.kIn (I : Inv X pins σ H s) : X.K.In s.heap := I.ok.mod.kin.keeps I.bk
theorem Inv.nolimit (I : Inv X pins σ H s) : s.heap.NoLimit := I.ok.mod.nolimit.keeps I.bk
/-- the frame over the base: for OpenK's rules (K.In X.base is I.mod.kin) -/
theorem Inv.fr (I : Inv X pins σ H s) : ∃ m, Fr X.base X.env.locals s.heap m :=
  let ⟨m, hn, _⟩ := I.loc
  ⟨m, hn, I.bk, Nat.le_trans I.ok.bsz I.ok.above⟩
theorem Inv.lt (I : Inv X pins σ H s) : X.env.locals < s.heap.objs.size := let ⟨_, hn, _⟩ := I.loc; hn.lt
theorem Inv.sz (I : Inv X pins σ H s) : X.s₀.heap.objs.size ≤ s.heap.objs.size := Nat.le_trans I.ok.above (Nat.le_of_lt I.lt)
theorem Inv.nofs (I : Inv X pins σ H s) {a : Addr} (h : s.heap.objs.size ≤ a) : a ∉ X.fs := fun hb => by
  obtain ⟨_, o, ho, _⟩ := I.ok.funs.mem hb
  exact absurd (Nat.lt_of_lt_of_le (Heap.lt_size ho) (Nat.le_trans I.sz h)) (Nat.lt_irrefl _)
theorem Inv.cne (I : Inv X pins σ H s) : ∀ x c, X.env.cells.lookup x = some c → c ≠ X.env.locals := fun x c e z => by
  obtain ⟨v, o, ho, hd⟩ := I.cell x c e
  obtain ⟨m, ⟨o', es, ep, ho', hd', _⟩, _⟩ := I.loc
  rw [z, ho'] at ho; cases ho; rw [hd'] at hd; cases hd
theorem Inv.funs (I : Inv X pins σ H s) : s.heap.FunFrames X.base X.outer := by
  have all : ∀ (l : List Env), (∀ b ∈ frs l, b ∈ X.fs) → X.s₀.heap.FunFrames X.base l → s.heap.FunFrames X.base l := by
    intro l
    induction l with
    | nil => intro _ _; trivial
    | cons env r ih =>
      intro hs hl
      obtain ⟨hk, ⟨L, o, hf, hn, ho, hd⟩, hr⟩ := hl
      have hL : L ∈ X.fs := hs L (by unfold frs; rw [List.filterMap_cons, hf]; exact List.mem_cons_self)
      obtain ⟨sl, e⟩ := I.base.slot L o ho (I.ok.frf L hL) hL fun z => I.ok.exfs L z hL
      exact ⟨hk, ⟨L, _, hf, hn, e, hd⟩, ih (fun b hb => hs b (by unfold frs; rw [List.filterMap_cons, hf]; exact List.mem_cons_of_mem _ hb)) hr⟩
  exact all X.outer (fun _ hb => hb) I.ok.funs

/-- the frames that run, for a call -/
theorem Inv.stack (I : Inv X pins σ H s) : s.heap.FunFrames X.base X.stack := by
  rcases I.ok.stk with e | ⟨e, hf⟩
  · rw [e]; exact I.funs
  · rw [e]
    obtain ⟨m, hn, _⟩ := I.loc
    refine .cons (by rw [I.ok.kind]; decide) hf hn ?_ I.funs
    exact Heap.get?_none_of_le (Nat.le_trans I.ok.bsz I.ok.above)
theorem Inv.stkSub (I : Inv X pins σ H s) : ∀ b ∈ frs X.stack, b ∈ X.env.locals :: X.fs := fun b hb => by
  rcases I.ok.stk with e | ⟨e, hf⟩
  · rw [e] at hb; exact List.mem_cons_of_mem _ hb
  · rw [e] at hb
    unfold frs at hb
    rw [List.filterMap_cons, hf] at hb
    exact hb
theorem Inv.stkFree (I : Inv X pins σ H s) : ∀ b ∈ frs X.stack, H b = none := fun b hb => by
  rcases List.mem_cons.mp (I.stkSub b hb) with e | hb
  · rw [e]; exact I.free
  · obtain ⟨_, o, ho, _⟩ := I.ok.funs.mem hb
    exact I.base.free b o ho (I.ok.frf b hb) fun z => I.ok.exfs b z hb

/-- THE STEP: the untracked objects but the frame and the records at ch are kept (the callers' frames up to slots), the frame's map is kept, the new abstract heap is held -/
theorem Inv.step {g' : Array GenState} {t' : Nat} {d' : Drawn} {ch : List Addr} (I : Inv X pins σ H s)
    (hch : ∀ b ∈ ch, (b ∈ X.ex ∨ X.s₀.heap.objs.size ≤ b) ∧ b ≠ X.env.locals ∧ (∀ x c, X.env.cells.lookup x = some c → c ≠ b) ∧ ∀ p ∈ X.pn ++ pins, p.1 ≠ b)
    (keep : ∀ b o, b ≠ X.env.locals → b ∉ X.fs → b ∉ ch → s.heap.get? b = some o → H b = none → h'.get? b = some o)
    (slot : ∀ b o, b ≠ X.env.locals → b ∈ X.fs → b ∉ ch → s.heap.get? b = some o → H b = none → ∃ sl, h'.get? b = some { o with slots := sl }) (free : ∀ b o, b ∉ ch → s.heap.get? b = some o → H b = none → H' b = none)
    (there : ∀ b o, b ∉ ch → s.heap.get? b = some o → ∃ o', h'.get? b = some o')
    (tups : ∀ b xs, H b = some (.tup xs) → H' b = some (.tup xs)) (frzs : ∀ b o u, H b = some (.frz o u) → H' b = some (.frz o u)) (tbls : ∀ b ps, H b = some (.tbl ps) → ∃ more, H' b = some (.tbl (ps ++ more)))
    (ns : ∀ m, s.heap.Ns X.env.locals m → h'.Ns X.env.locals m) (hok : HOk X.prog X.w H' h') (hg : AllBare g') :
    Inv X pins σ H' { s with heap := h', gens := g', drawn := d', toks := t' } := by
  have neL : ∀ b o, X.s₀.heap.get? b = some o → b ≠ X.env.locals := fun b o e => Nat.ne_of_lt (Nat.lt_of_lt_of_le (Heap.lt_size e) I.ok.above)
  have neC : ∀ b o, X.s₀.heap.get? b = some o → b ∉ X.ex → b ∉ ch := fun b o e hx hb => by
    rcases (hch b hb).1 with z | z
    · exact hx z
    · exact absurd (Nat.lt_of_lt_of_le (Heap.lt_size e) z) (Nat.lt_irrefl _)
  have cellK : ∀ x c, X.env.cells.lookup x = some c → ∀ v, s.heap.IsCell c v → h'.IsCell c v := fun x c e v ⟨o, ho, hd⟩ => by
    have nch : c ∉ ch := fun z => (hch c z).2.2.1 x c e rfl
    by_cases hc : c ∈ X.fs
    · obtain ⟨sl, q⟩ := slot c o (I.cne x c e) hc nch ho (I.freeC x c e)
      exact ⟨_, q, hd⟩
    · exact ⟨o, keep c o (I.cne x c e) hc nch ho (I.freeC x c e), hd⟩
  refine ⟨I.ok, I.os, hg, ⟨fun b o e n hb hx => ?_, fun b o e n hb hx => ?_, fun b o e n hx => ?_, fun b o e hx => ?_, fun b xs e => tups b xs (I.base.tups b xs e), fun b o xs e => frzs b o xs (I.base.frzs b o xs e), fun b ps e => ?_⟩, ?_, fun x c e => ?_, ?_, fun x c e => ?_, fun p hp => ?_, hok, I.len⟩
  · exact keep b o (neL b o e) hb (neC b o e hx) (I.base.keep b o e n hb hx) (I.base.free b o e n hx)
  · obtain ⟨sl, e1⟩ := I.base.slot b o e n hb hx
    obtain ⟨sl', e2⟩ := slot b _ (neL b o e) hb (neC b o e hx) e1 (I.base.free b o e n hx)
    exact ⟨sl', e2⟩
  · obtain ⟨o', e1⟩ := I.base.there b o e hx
    exact free b o' (neC b o e hx) e1 (I.base.free b o e n hx)
  · obtain ⟨o', e1⟩ := I.base.there b o e hx
    exact there b o' (neC b o e hx) e1
  · obtain ⟨m1, e1⟩ := I.base.tbls b ps e
    obtain ⟨m2, e2⟩ := tbls b _ e1
    exact ⟨m1 ++ m2, by rw [e2, Array.append_assoc]⟩
  · obtain ⟨m, hn, hl⟩ := I.loc
    refine ⟨m, ns m hn, fun i x v e1 e2 e3 => ?_⟩
    obtain ⟨u, r, l⟩ := hl i x v e1 e2 e3
    refine ⟨u, r, ?_⟩
    rcases l with l | ⟨k, c, e, z⟩
    · exact .inl l
    · exact .inr ⟨k, c, e, cellK x c e _ z⟩
  · obtain ⟨v, z⟩ := I.cell x c e
    exact ⟨v, cellK x c e v z⟩
  · obtain ⟨m, ⟨o, _, _, ho, _⟩, _⟩ := I.loc
    exact free _ o (fun z => (hch _ z).2.1 rfl) ho I.free
  · obtain ⟨v, o, ho, hd⟩ := I.cell x c e
    exact free c o (fun z => (hch c z).2.2.1 x c e rfl) ho (I.freeC x c e)
  · obtain ⟨e, n, ne, nf, d⟩ := I.pin p hp
    have nch : p.1 ∉ ch := fun z => (hch p.1 z).2.2.2 p hp rfl
    exact ⟨keep p.1 p.2 ne nf nch e n, free p.1 p.2 nch e n, ne, nf, d⟩
/-- .. where the frame's own object is kept too -/
theorem Inv.un {t' : Nat} (I : Inv X pins σ H s) (u : Un X.fs [] H H' s.heap h') (hok : HOk X.prog X.w H' h') : Inv X pins σ H' { s with heap := h', toks := t' } := by
  obtain ⟨m, ⟨o, es, ep, ho, r⟩, _⟩ := id I.loc
  obtain ⟨sl, hL⟩ := u.any ho I.free (by simp)
  exact I.step (g' := s.gens) (d' := s.drawn) (ch := []) (fun _ z => nomatch z) (fun b o _ hb _ e n => u.keep b o e n hb (by simp)) (fun b o _ hb _ e n => u.slot b o e n hb (by simp)) (fun b o _ e n => u.free b o e n (by simp)) (fun b o _ e => u.there b o e (by simp)) u.tups u.frzs u.tbls (fun m' hm => by
    obtain ⟨o', es', ep', ho', r'⟩ := hm
    rw [ho] at ho'; cases ho'
    exact ⟨_, es', ep', hL, r'⟩) hok I.bare
/-- behind a call (or a comprehension's block): the slots of this frame may have changed too, the records at ch may have turned -/
theorem Inv.call {g' : Array GenState} {t' : Nat} {d' : Drawn} {ch : List Addr} (I : Inv X pins σ H s) (u : Un (frs X.stack) ch H H' s.heap h') (hok : HOk X.prog X.w H' h') (hg : AllBare g')
    (hch : ∀ b ∈ ch, (b ∈ X.ex ∨ X.s₀.heap.objs.size ≤ b) ∧ b ≠ X.env.locals ∧ (∀ x c, X.env.cells.lookup x = some c → c ≠ b) ∧ ∀ p ∈ X.pn ++ pins, p.1 ≠ b) :
    Inv X pins σ H' { s with heap := h', gens := g', drawn := d', toks := t' } := by
  obtain ⟨m, ⟨o, es, ep, ho, r⟩, _⟩ := id I.loc
  obtain ⟨sl, hL⟩ := u.any ho I.free fun z => (hch _ z).2.1 rfl
  exact I.step (ch := ch) hch (fun b o hL hb hc e n => u.keep b o e n (fun z => (List.mem_cons.mp (I.stkSub b z)).elim hL hb) hc) (fun b o _ _ hc e n => u.any e n hc) (fun b o hc e n => u.free b o e n hc) (fun b o hc e => u.there b o e hc) u.tups u.frzs u.tbls (fun m' hm => by
    obtain ⟨o', es', ep', ho', r'⟩ := hm
    rw [ho] at ho'; cases ho'
    exact ⟨_, es', ep', hL, r'⟩) hok hg
/-- an untracked record of ours (an iterator) has turned -/
theorem Inv.turned {t' : Nat} {it : Addr} (I : Inv X pins σ H s) (k : ∀ b o, b ≠ it → s.heap.get? b = some o → h'.get? b = some o) (hn : H it = none) (hL : it ≠ X.env.locals)
    (h1 : it ∈ X.ex ∨ X.s₀.heap.objs.size ≤ it) (h2 : ∀ x c, X.env.cells.lookup x = some c → c ≠ it) (h3 : ∀ p ∈ X.pn ++ pins, p.1 ≠ it) : Inv X pins σ H { s with heap := h', toks := t' } := by
  have nit : ∀ b u, H b = some u → b ≠ it := fun b u e z => by rw [z, hn] at e; cases e
  refine I.step (g' := s.gens) (d' := s.drawn) (ch := [it]) (fun b hb => ?_) (fun b o _ _ hc e _ => k b o (fun z => hc (by simp [z])) e) (fun b o _ _ hc e _ => ⟨o.slots, k b o (fun z => hc (by simp [z])) e⟩) (fun _ _ _ _ n => n)
    (fun b o hc e => ⟨o, k b o (fun z => hc (by simp [z])) e⟩) (fun _ _ e => e) (fun _ _ _ e => e) (fun b ps e => ⟨#[], by rw [e]; simp⟩) (fun m hm => ?_) (fun b u e => ?_) I.bare
  · have e : b = it := by simpa using hb
    subst e
    exact ⟨h1, hL, h2, h3⟩
  · obtain ⟨o, es, ep, ho, r⟩ := hm
    exact ⟨o, es, ep, k _ o (Ne.symm hL) ho, r⟩
  · refine (I.hok b u e).stay (fun c v hc q => k c v ?_ q) (fun _ q => q) fun _ _ q => q
    rcases hc with z | z
    · rw [z]; exact nit b u e
    · exact nit c _ z
theorem Inv.tok (I : Inv X pins σ H s) (t : Nat) : Inv X pins σ H { s with toks := t } := I.un (h' := s.heap) (t' := t) Un.refl I.hok
/-- all objects kept -/
theorem Inv.kept {t' : Nat} (I : Inv X pins σ H s) (k : ∀ b u, s.heap.get? b = some u → h'.get? b = some u) : Inv X pins σ H { s with heap := h', toks := t' } := I.un (Un.kept k) (I.hok.kept k)
/-- a new object laid and tracked -/
theorem Inv.laid {a : Addr} {o : HO} {t' : Nat} (I : Inv X pins σ H s) (k : ∀ b u, s.heap.get? b = some u → h'.get? b = some u) (hp : s.heap.objs.size ≤ a) (new : ObjOk X.prog X.w (upd H a o) h' a o) :
    Inv X pins σ (upd H a o) { s with heap := h', toks := t' } := I.un (Un.laid k hp (I.hok.fresh hp)) (I.hok.laid k hp new)
/-- an object written -/
theorem Inv.write {x e : Addr} {o : HO} {t' : Nat} (I : Inv X pins σ H s) (mu : Mut (H x)) (he : e = x ∨ H e = some (.own x)) (k : ∀ b u, b ≠ e → s.heap.get? b = some u → h'.get? b = some u) (heo : ∃ u, h'.get? e = some u)
    (new : ObjOk X.prog X.w (upd H x o) h' x o) : Inv X pins σ (upd H x o) { s with heap := h', toks := t' } := I.un (Un.write mu he k heo) (I.hok.write mu he k heo new)
/-- forgetting slots, pins -/
theorem Inv.weak {σ' : List (Option V)} (I : Inv X pins σ H s) (hl : σ'.length = σ.length) (w : ∀ (i : Nat) v, σ'[i]? = some (some v) → σ[i]? = some (some v)) : Inv X pins σ' H s :=
  ⟨I.ok, I.os, I.bare, I.base, let ⟨m, hn, hl'⟩ := I.loc; ⟨m, hn, fun i x v e1 e2 e3 => hl' i x v e1 (w i v e2) e3⟩, I.cell, I.free, I.freeC, I.pin, I.hok, hl.trans I.len⟩
theorem Inv.pins_of {pins' : List (Addr × Obj)} (I : Inv X pins σ H s) (h : ∀ p ∈ pins', s.heap.get? p.1 = some p.2 ∧ H p.1 = none ∧ p.1 ≠ X.env.locals ∧ p.1 ∉ X.fs ∧ ∀ v, p.2.data ≠ .cell v) : Inv X pins' σ H s :=
  ⟨I.ok, I.os, I.bare, I.base, I.loc, I.cell, I.free, I.freeC, fun p hp => (List.mem_append.mp hp).elim (fun z => I.pin p (List.mem_append_left _ z)) (h p), I.hok, I.len⟩

theorem nodup_ix {N : List Str} (hN : N.Nodup) {i j : Nat} {x : Str} (a : N[i]? = some x) (b : N[j]? = some x) : i = j := by
  obtain ⟨h1, e1⟩ := List.getElem?_eq_some_iff.mp a
  obtain ⟨h2, e2⟩ := List.getElem?_eq_some_iff.mp b
  exact (List.getElem_inj hN).mp (e1.trans e2.symm)

/-- a name is stored; what changed -/
theorem store_ok2 {M : Model} {A : Around} {E : Value → Shared → Prop} {i : Nat} {x : Str} {v : V} {u : Value} {Q : Unit → Shared → Prop} (I : Inv X pins σ H s) (hN : X.N.Nodup) (hi : X.N[i]? = some x) (hx : Loc X.env.scope x) (r : RelV v u)
    (h : ∀ s', Inv X pins (σ.set i (some v)) H s' → (∃ a, Heap.SameBut a s.heap s'.heap ∧ (a = X.env.locals ∨ X.env.cells.lookup x = some a)) → Q () s') (hf : X.fn x = true ∨ X.env.scope.names.lookup x = some .local := by first | exact .inl rfl | exact .inr rfl | assumption) : wpAny M A (storeName X.env x u) Q E s := by
  obtain ⟨m, hn, hl⟩ := id I.loc
  have hcls : (X.env.scope.kind == .class || (X.env.scope.kind == .module && X.env.locals != X.env.globals)) = false := by rw [I.ok.kind]; rfl
  have hiσ : i < σ.length := by rw [I.len]; exact (List.getElem?_eq_some_iff.mp hi).1
  have cne := I.cne
  have tracked : ∀ {a : Addr} {h' : Heap}, (∃ o, s.heap.get? a = some o ∧ H a = none) → Heap.SameBut a s.heap h' → HOk X.prog X.w H h' := fun {a h'} ha hs b ob e => by
    obtain ⟨_, _, hfree⟩ := ha
    refine (I.hok b ob e).stay (fun c w' hc q => (hs.2 c ?_).trans q) (fun _ q => q) fun _ _ q => q
    rintro rfl
    rcases hc with rfl | hc
    · rw [hfree] at e; cases e
    · rw [hfree] at hc; cases hc
  rcases hx with hk | hk
  · refine wpAny_storeName_local hk hn (fun h' hn' hs => ?_) hcls
    obtain ⟨oL, _, _, hoL, _⟩ := id hn
    refine h _ ⟨I.ok, I.os, I.bare, ⟨fun b o e n hb hx => ?_, fun b o e n hb hx => ?_, I.base.free, fun b o e hx => ?_, I.base.tups, I.base.frzs, I.base.tbls⟩, ⟨_, hn', fun j y v' e1 e2 e3 => ?_⟩, fun y c e => ?_, I.free, I.freeC, fun p hp => ?_, tracked ⟨oL, hoL, I.free⟩ hs, by simpa using I.len⟩ ⟨_, hs, .inl rfl⟩
    · exact (hs.2 b (Nat.ne_of_lt (Nat.lt_of_lt_of_le (Heap.lt_size e) I.ok.above))).trans (I.base.keep b o e n hb hx)
    · obtain ⟨sl, e1⟩ := I.base.slot b o e n hb hx
      exact ⟨sl, (hs.2 b (Nat.ne_of_lt (Nat.lt_of_lt_of_le (Heap.lt_size e) I.ok.above))).trans e1⟩
    · obtain ⟨o', e1⟩ := I.base.there b o e hx
      exact ⟨o', (hs.2 b (Nat.ne_of_lt (Nat.lt_of_lt_of_le (Heap.lt_size e) I.ok.above))).trans e1⟩
    · by_cases hj : j = i
      · subst hj
        rw [hi] at e1; cases e1
        rw [List.getElem?_set_self hiσ] at e2
        cases e2
        exact ⟨u, r, .inl ⟨hk, by simp⟩⟩
      · rw [List.getElem?_set_ne (Ne.symm hj)] at e2
        obtain ⟨u', r', q⟩ := hl j y v' e1 e2 e3
        refine ⟨u', r', ?_⟩
        rcases q with ⟨k, e⟩ | ⟨k, c, e, z⟩
        · refine .inl ⟨k, ?_⟩
          have : y ≠ x := fun e => hj (nodup_ix hN e1 (e ▸ hi))
          simp [this, e]
        · exact .inr ⟨k, c, e, z.sameBut hs (cne y c e)⟩
    · obtain ⟨w', z⟩ := I.cell y c e
      exact ⟨w', z.sameBut hs (cne y c e)⟩
    · obtain ⟨e, n, ne, nf, d⟩ := I.pin p hp
      exact ⟨(hs.2 p.1 ne).trans e, n, ne, nf, d⟩
  · have hfn : X.fn x = true := by
      rcases hf with z | z
      · exact z
      · rw [z] at hk; cases hk
    obtain ⟨c, hc⟩ := I.ok.has x (.inl hk)
    obtain ⟨w', z⟩ := I.cell x c hc
    refine wpAny_storeName_cell I.ok.kind hk hc z (fun h' hc' hs => ?_)
    obtain ⟨oc, hoc, hocd⟩ := id z
    refine h { s with heap := h' } ⟨I.ok, I.os, I.bare, ⟨fun b o e n hb hx => ?_, fun b o e n hb hx => ?_, I.base.free, fun b o e hx => ?_, I.base.tups, I.base.frzs, I.base.tbls⟩, ⟨m, hn.sameBut hs (Ne.symm (cne x c hc)), fun j y v' e1 e2 e3 => ?_⟩, fun y c' e => ?_, I.free, I.freeC, fun p hp => ?_, tracked ⟨oc, hoc, I.freeC x c hc⟩ hs, by simpa using I.len⟩ ⟨c, hs, .inr hc⟩
    · exact (hs.2 b (Nat.ne_of_lt (Nat.lt_of_lt_of_le (Heap.lt_size e) (I.ok.cab x c hfn hc)))).trans (I.base.keep b o e n hb hx)
    · obtain ⟨sl, e1⟩ := I.base.slot b o e n hb hx
      exact ⟨sl, (hs.2 b (Nat.ne_of_lt (Nat.lt_of_lt_of_le (Heap.lt_size e) (I.ok.cab x c hfn hc)))).trans e1⟩
    · obtain ⟨o', e1⟩ := I.base.there b o e hx
      exact ⟨o', (hs.2 b (Nat.ne_of_lt (Nat.lt_of_lt_of_le (Heap.lt_size e) (I.ok.cab x c hfn hc)))).trans e1⟩
    · by_cases hj : j = i
      · subst hj
        rw [hi] at e1; cases e1
        rw [List.getElem?_set_self hiσ] at e2
        cases e2
        exact ⟨u, r, .inr ⟨.inl hk, c, hc, hc'⟩⟩
      · rw [List.getElem?_set_ne (Ne.symm hj)] at e2
        obtain ⟨u', r', q⟩ := hl j y v' e1 e2 e3
        refine ⟨u', r', ?_⟩
        rcases q with q | ⟨k, c', e, z'⟩
        · exact .inl q
        · refine .inr ⟨k, c', e, z'.sameBut hs ?_⟩
          rintro rfl
          exact hj (nodup_ix hN e1 (I.ok.inj _ _ _ e hc ▸ hi))
    · by_cases hcc : c' = c
      · subst hcc; exact ⟨_, hc'⟩
      · obtain ⟨w2, z2⟩ := I.cell y c' e
        exact ⟨w2, z2.sameBut hs hcc⟩
    · obtain ⟨e, n, ne, nf, d⟩ := I.pin p hp
      refine ⟨(hs.2 p.1 ?_).trans e, n, ne, nf, d⟩
      intro q
      rw [q, hoc] at e
      have q' : oc = p.2 := Option.some.inj e
      exact d w' (by rw [← q']; exact hocd)
theorem store_ok {M : Model} {A : Around} {E : Value → Shared → Prop} {i : Nat} {x : Str} {v : V} {u : Value} {Q : Unit → Shared → Prop} (I : Inv X pins σ H s) (hN : X.N.Nodup) (hi : X.N[i]? = some x) (hx : Loc X.env.scope x) (r : RelV v u)
    (h : ∀ s', Inv X pins (σ.set i (some v)) H s' → Q () s') (hf : X.fn x = true ∨ X.env.scope.names.lookup x = some .local := by first | exact .inl rfl | exact .inr rfl | assumption) : wpAny M A (storeName X.env x u) Q E s :=
  store_ok2 I hN hi hx r (fun s' I' _ => h s' I') hf
/-- behind a call or a block, the state as it is -/
theorem Inv.call' {s' : Shared} {ch : List Addr} (I : Inv X pins σ H s) (ho : s'.os = s.os) (u : Un (frs X.stack) ch H H' s.heap s'.heap) (hok : HOk X.prog X.w H' s'.heap) (hg : AllBare s'.gens)
    (hch : ∀ b ∈ ch, (b ∈ X.ex ∨ X.s₀.heap.objs.size ≤ b) ∧ b ≠ X.env.locals ∧ (∀ x c, X.env.cells.lookup x = some c → c ≠ b) ∧ ∀ p ∈ X.pn ++ pins, p.1 ≠ b) : Inv X pins σ H' s' := by
  obtain ⟨h', g', d', t', o'⟩ := s'
  have e : o' = s.os := ho
  subst e
  exact I.call (g' := g') (t' := t') (d' := d') u hok hg hch
end

/-! ### the judgements -/
/-- an exception: its class, its own dict's address (where it has one), the abstract heap behind it -/
abbrev XK := Value → Option Addr → Hp → Prop
abbrev St := List (Option V)
abbrev VK := V → Hp → Prop
/-- an expression's reading; a test's; an argument list's -/
abbrev TE := St → Hp → VK → Prop
abbrev TT := St → Hp → (Bool → Hp → Prop) → Prop
abbrev TA := St → Hp → (List V → Hp → Prop) → Prop
/-- what is wanted behind a statement -/
structure Ends where
  nx : St → Hp → Prop
  rt : VK
  bk : St → Hp → Prop := fun _ _ => False
  ct : St → Hp → Prop := fun _ _ => False
abbrev TS := Ends → St → Hp → Prop

def EP (X : Cx) (pins : List (Addr × Obj)) (σ : St) (Q : VK) (u : Value) (s' : Shared) : Prop := ∃ v H', Inv X pins σ H' s' ∧ RelV v u ∧ Q v H'
def TP (X : Cx) (pins : List (Addr × Obj)) (σ : St) (Q : Bool → Hp → Prop) (b : Bool) (s' : Shared) : Prop := ∃ H', Inv X pins σ H' s' ∧ Q b H'
def AP (X : Cx) (pins : List (Addr × Obj)) (σ : St) (Q : List V → Hp → Prop) (us : List Value) (s' : Shared) : Prop := ∃ vs H', Inv X pins σ H' s' ∧ Vals vs us ∧ Q vs H'
def SP (X : Cx) (pins : List (Addr × Obj)) (D : Ends) (f : Flow) (s' : Shared) : Prop :=
  match f with
  | .next => ∃ σ' H', Inv X pins σ' H' s' ∧ D.nx σ' H'
  | .brk => ∃ σ' H', Inv X pins σ' H' s' ∧ D.bk σ' H'
  | .cont => ∃ σ' H', Inv X pins σ' H' s' ∧ D.ct σ' H'
  | .ret u => ∃ v σ' H', Inv X pins σ' H' s' ∧ RelV v u ∧ D.rt v H'

def PE (X : Cx) (e : Expr) (t : TE) : Prop :=
  ∀ (pins : List (Addr × Obj)) (s : Shared) (σ : St) (H : Hp) (Q : VK), Inv X pins σ H s → t σ H Q → wpAny (model X.prog X.w) X.A (eval e X.env) (EP X pins σ Q) X.xe s
def PT (X : Cx) (e : Expr) (t : TT) : Prop :=
  ∀ (pins : List (Addr × Obj)) (s : Shared) (σ : St) (H : Hp) (Q : Bool → Hp → Prop), Inv X pins σ H s → t σ H Q → wpAny (model X.prog X.w) X.A (isTrue e X.env (eval e X.env)) (TP X pins σ Q) X.xe s
/-- a test whatever its 'whole' is (and, or) -/
def PW (X : Cx) (e : Expr) (t : TT) : Prop :=
  ∀ (whole : Sem Value) (pins : List (Addr × Obj)) (s : Shared) (σ : St) (H : Hp) (Q : Bool → Hp → Prop), Inv X pins σ H s → t σ H Q → wpAny (model X.prog X.w) X.A (isTrue e X.env whole) (TP X pins σ Q) X.xe s
theorem PW.pt {X : Cx} {e : Expr} {t : TT} (h : PW X e t) : PT X e t := h _
/-- an argument list (no star), from the left -/
def PA (X : Cx) (es : List Expr) (t : TA) : Prop :=
  ∀ (pos : Pos) (pins : List (Addr × Obj)) (s : Shared) (σ : St) (H : Hp) (Q : List V → Hp → Prop), Inv X pins σ H s → t σ H Q → wpAny (model X.prog X.w) X.A (spliced (backTo pos (starEach es X.env))) (AP X pins σ Q) X.xe s
def PS (X : Cx) (st : Stmt) (t : TS) : Prop :=
  ∀ (pins : List (Addr × Obj)) (s : Shared) (σ : St) (H : Hp) (D : Ends), Inv X pins σ H s → t D σ H → wpAny (model X.prog X.w) X.A (exec st X.env) (SP X pins D) X.xe s
def PSs (X : Cx) (st : List Stmt) (t : TS) : Prop :=
  ∀ (pins : List (Addr × Obj)) (s : Shared) (σ : St) (H : Hp) (D : Ends), Inv X pins σ H s → t D σ H → wpAny (model X.prog X.w) X.A (execs st X.env) (SP X pins D) X.xe s
/-- weaken the end -/
theorem thn {α : Type} {t : Sem α} {Q Q' : α → Shared → Prop} {M : Model} {A : Around} {E : Value → Shared → Prop} {s : Shared} (h : wpAny M A t Q E s) (hQ : ∀ a s, Q a s → Q' a s) : wpAny M A t Q' E s := wpAny_mono h hQ fun _ _ x => x
end L2

namespace L2
open PySem PySem.Spec PyProof.Rows
section
variable {X : Cx}

/-! ### names and constants -/
def tVar (i : Nat) : TE := fun σ H Q => ∃ v, σ[i]? = some (some v) ∧ Q v H
def tC (v : V) : TE := fun _ H Q => Q v H
theorem pe_var {i : Nat} {x : Str} {pos : Pos} (hN : X.N[i]? = some x) (hv : Vis X.env.scope x) (hd : (x == ("__debug__" : Str)) = false := by decide) (hcd : (x == ("__classdict__" : Str)) = false := by decide) : PE X (.Name x pos) (tVar i) := by
  intro pins s σ H Q I h
  obtain ⟨v, e, h⟩ := h
  obtain ⟨m, hn, hl⟩ := I.loc
  obtain ⟨u, r, l⟩ := hl i x v hN e hv
  have fin : EP X pins σ Q u s := ⟨v, H, I, r, h⟩
  rcases l with ⟨hk, hm⟩ | ⟨hk, c, hc, hcell⟩
  · exact wpAny_Name (wpAny_loadName_local I.ok.kind hk hn hm fin) hd
  · rcases hk with hk | hk
    · exact wpAny_Name (wpAny_loadName_cell I.ok.kind hk hc hcell fin) hd
    · exact wpAny_Name (wpAny_loadName_free I.ok.kind hk hc hcell fin hcd) hd
theorem pe_int {i j pos} : PE X (.Constant (.int i) j pos) (tC (.int i)) := fun _ _ _ H _ I h => wpAny_Constant_int ⟨.int i, H, I.tok _, ⟨_, rfl⟩, h⟩
theorem pe_bl {b j pos} : PE X (.Constant (.bool b) j pos) (tC (.bl b)) := fun _ _ _ H _ I h => Constant_bool ⟨.bl b, H, I, rfl, h⟩
theorem pe_non {j pos} : PE X (.Constant .none j pos) (tC .non) := fun _ _ _ H _ I h => Constant_none ⟨.non, H, I, rfl, h⟩
/-- a global name of the def -/
def Gl (X : Cx) (x : Str) : Prop := X.env.kindOf x = some .globalImplicit
theorem ld_glob {E : Value → Shared → Prop} {pins : List (Addr × Obj)} {s : Shared} {σ : St} {H : Hp} {x : Str} {u : Value} {pos : Pos} {Q : Value → Shared → Prop} (I : Inv X pins σ H s) (hg : Gl X x) (hm : X.mg x = some u) (h : Q u s)
    (hd : (x == ("__debug__" : Str)) = false := by decide) : wpAny (model X.prog X.w) X.A (eval (.Name x pos) X.env) Q E s :=
  Calls.Name_function_global I.ok.kind hg (Calls.loadGlobal_global (by rw [I.ok.glob]; exact I.mod.glob.keeps I.bk) hm h) hd
theorem ld_blt {E : Value → Shared → Prop} {pins : List (Addr × Obj)} {s : Shared} {σ : St} {H : Hp} {x : Str} {u : Value} {pos : Pos} {Q : Value → Shared → Prop} (I : Inv X pins σ H s) (hg : Gl X x) (hm : X.mg x = none) (hv : bootBuiltins x = some u) (h : Q u s)
    (hn : x ≠ "__name__" := by decide) (hd : (x == ("__debug__" : Str)) = false := by decide) : wpAny (model X.prog X.w) X.A (eval (.Name x pos) X.env) Q E s := by
  obtain ⟨mb, h1, h2⟩ := I.mod.blt
  exact Calls.Name_function_global I.ok.kind hg (Calls.loadGlobal_builtin (by rw [I.ok.glob]; exact I.mod.glob.keeps I.bk) hm (by rw [I.ok.blt]; exact h1.keeps I.bk) ((h2 x hn).trans hv) h) hd
theorem pe_bltn {x : Str} {v : V} {u : Value} {pos : Pos} (hg : Gl X x) (hm : X.mg x = none) (hv : bootBuiltins x = some u) (r : RelV v u) (hn : x ≠ "__name__" := by decide) (hd : (x == ("__debug__" : Str)) = false := by decide) : PE X (.Name x pos) (tC v) :=
  fun _ _ _ H _ I h => ld_blt I hg hm hv ⟨v, H, I, r, h⟩ hn hd

/-! ### arithmetic -/
/-- two ints -/
def t2I (ta tb : TE) (k : Int → Int → Hp → Prop) : St → Hp → Prop := fun σ H => ta σ H fun x H1 => tb σ H1 fun y H2 => ∃ i j, x = .int i ∧ y = .int j ∧ k i j H2
def tAdd (ta tb : TE) : TE := fun σ H Q => t2I ta tb (fun i j H2 => Q (.int (i + j)) H2) σ H
def tSub (ta tb : TE) : TE := fun σ H Q => t2I ta tb (fun i j H2 => Q (.int (i - j)) H2) σ H
/-- the left factor below 2^64 -/
def tMul (ta tb : TE) : TE := fun σ H Q => t2I ta tb (fun i j H2 => (-(2 ^ 64) < i ∧ i < 2 ^ 64) ∧ Q (.int (i * j)) H2) σ H
variable {a b : Expr} {ta tb : TE} {pos : Pos}
/-! ### comparisons -/
def PC (X : Cx) (op : CmpOp) (a b : Expr) (t : TE) : Prop :=
  ∀ (pins : List (Addr × Obj)) (s : Shared) (σ : St) (H : Hp) (Q : VK), Inv X pins σ H s → t σ H Q →
    wpAny (model X.prog X.w) X.A (eval a X.env) (fun v s₁ => wpAny (model X.prog X.w) X.A (eval b X.env) (fun u s₂ => wpAny (model X.prog X.w) X.A (compareOp op v u) (EP X pins σ Q) X.xe s₂) X.xe s₁) X.xe s
theorem nobehind (b : Expr) {op : CmpOp} (h : op ≠ .In) (h2 : op ≠ .NotIn) : behindInMarks op b = false := by
  have e1 : (op == CmpOp.In) = false := by cases op <;> first | rfl | exact absurd rfl h
  have e2 : (op == CmpOp.NotIn) = false := by cases op <;> first | rfl | exact absurd rfl h2
  cases b <;> simp [behindInMarks, e1, e2]
def tCmp (p : Int → Int → Bool) (ta tb : TE) : TE := fun σ H Q => t2I ta tb (fun i j H2 => Q (.bl (p i j)) H2) σ H
abbrev tLt : TE → TE → TE := tCmp fun i j => decide (i < j)
abbrev tLe : TE → TE → TE := tCmp fun i j => decide (i ≤ j)
abbrev tGt : TE → TE → TE := tCmp fun i j => decide (j < i)
abbrev tGe : TE → TE → TE := tCmp fun i j => decide (j ≤ i)
abbrev tEqI : TE → TE → TE := tCmp fun i j => decide (i = j)
abbrev tNeI : TE → TE → TE := tCmp fun i j => !decide (i = j)
/-- is None -/
def tIsN (ta : TE) : TE := fun σ H Q => ta σ H fun x H1 => Q (.bl (decide (x = .non))) H1
def tNotN (ta : TE) : TE := fun σ H Q => ta σ H fun x H1 => Q (.bl (!decide (x = .non))) H1
/-- a comparison as a value, as a test -/
def tB (t : TE) : TT := fun σ H Q => t σ H fun x H1 => ∃ c, x = .bl c ∧ Q c H1
theorem pe_cmp {op : CmpOp} {t : TE} (h : PC X op a b t) (h1 : behindInMarks op b = false := by first | exact nobehind _ (by decide) (by decide) | rfl) : PE X (.Compare a [op] [b] pos) t := fun pins s σ H Q I hw => wpAny_Compare1 (h pins s σ H Q I hw) h1
theorem pt_cmp {op : CmpOp} {t : TE} (h : PC X op a b t) (h1 : behindInMarks op b = false := by first | exact nobehind _ (by decide) (by decide) | rfl) : PT X (.Compare a [op] [b] pos) (tB t) := by
  intro pins s σ H Q I hw
  refine wpAny_isTrue_Compare1 (thn (h pins s σ H _ I hw) fun v s1 h1 => thn h1 fun u s2 h2 => thn h2 fun c s3 ⟨x, H1, I1, r1, q1⟩ => ?_) h1
  obtain ⟨d, rfl, q⟩ := q1
  cases r1
  exact wpAny_truthy_bool ⟨H1, I1, q⟩
/-- an expression whose value is a bool, as a test -/
theorem pt_val {e : Expr} {t : TE} (h : PE X e t) (he : ∀ whole, isTrue e X.env whole = (do let v ← whole; standAt e.pos; holding [v] (truthy v)) := by intro _; rfl) : PT X e (tB t) := by
  intro pins s σ H Q I hw
  refine isTrue_plain (thn (h pins s σ H _ I hw) fun v s1 ⟨x, H1, I1, r1, q1⟩ => ?_) (he _)
  obtain ⟨d, rfl, q⟩ := q1
  cases r1
  exact wpAny_truthy_bool ⟨H1, I1, q⟩

/-! ### and, or, not -/
variable {tA tB' : TT} {rest : List Expr}
def tAnd (t u : TT) : TT := fun σ H Q => t σ H fun c H1 => if c = true then u σ H1 Q else Q false H1
def tOr (t u : TT) : TT := fun σ H Q => t σ H fun c H1 => if c = true then Q true H1 else u σ H1 Q
def tNot (t : TT) : TT := fun σ H Q => t σ H fun c H1 => Q (!c) H1
theorem pw_and1 (ha : PT X a tA) : PW X (.BoolOp .And [a] pos) tA := by
  intro wh pins s σ H Q I h
  refine isTrue_and (thn (ha pins s σ H Q I h) fun c s1 e => ?_)
  cases c with
  | true => exact isTrue_and_nil e
  | false => exact e
theorem pw_or1 (ha : PT X a tA) : PW X (.BoolOp .Or [a] pos) tA := by
  intro wh pins s σ H Q I h
  refine isTrue_or (thn (ha pins s σ H Q I h) fun c s1 e => ?_)
  cases c with
  | false => exact isTrue_or_nil e
  | true => exact e
theorem pt_not (ha : PT X a tA) : PT X (.UnaryOp .Not a pos) (tNot tA) := by
  intro pins s σ H Q I h
  exact isTrue_not (ha pins s σ H (fun c H1 => Q (!c) H1) I h)
/-- .. as values (bools) -/
def tAndV (ta tb : TE) : TE := fun σ H Q => ta σ H fun x H1 => ∃ c, x = .bl c ∧ if c = true then tb σ H1 Q else Q (.bl false) H1
def tOrV (ta tb : TE) : TE := fun σ H Q => ta σ H fun x H1 => ∃ c, x = .bl c ∧ if c = true then Q (.bl true) H1 else tb σ H1 Q
def tNotV (ta : TE) : TE := fun σ H Q => ta σ H fun x H1 => ∃ c, x = .bl c ∧ Q (.bl (!c)) H1
theorem pe_one {op} {t : TE} (h : PE X a t) : PE X (.BoolOp op [a] pos) t := fun pins s σ H Q I hw => BoolOp_one (h pins s σ H Q I hw)
/-- a if t else b -/
def tIf (t : TT) (ta tb : TE) : TE := fun σ H Q => t σ H fun c H1 => if c = true then ta σ H1 Q else tb σ H1 Q
end
end L2

namespace L2
open PySem PySem.Spec PyProof.Rows

/-! ### a list, a tuple that is read: tracked, frozen, or an object of the module -/
def SqL (K : PySem.W.Frag) (H : Hp) (a : Addr) (xs : List V) : Prop :=
  Rd H a (.lst xs) ∨
    ∃ (o : Obj) (its : Array Value) (n : Nat), K.lookup a = some o ∧ o.cls = .type "list" ∧ o.dict = none ∧ o.data = .seq its n ∧ its.size ≤ sizeLine ∧ Vals xs its.toList
def SqT (K : PySem.W.Frag) (H : Hp) (a : Addr) (xs : List V) : Prop :=
  Rd H a (.tup xs) ∨
    ∃ (o : Obj) (its : Array Value) (n : Nat), K.lookup a = some o ∧ o.cls = .type "tuple" ∧ o.data = .seq its n ∧ its.size ≤ sizeLine ∧ Vals xs its.toList
def absV : Value → Option V
  | .none => some .non
  | .bool b => some (.bl b)
  | .int i _ => some (.int i)
  | .str x _ => some (.str x)
  | .bytes b _ => some (.byt b)
  | .float b _ => some (.flt b)
  | .ref a => some (.ref a)
  | .type n => some (.ty n)
  | _ => none
theorem RelV.abs {x : V} {u : Value} (r : RelV x u) : absV u = some x := by
  cases x with
  | non => cases r; rfl
  | bl _ => cases r; rfl
  | int _ => obtain ⟨t, rfl⟩ := r; rfl
  | str _ => obtain ⟨t, rfl⟩ := r; rfl
  | byt _ => obtain ⟨t, rfl⟩ := r; rfl
  | flt _ => obtain ⟨t, rfl⟩ := r; rfl
  | ref _ => cases r; rfl
  | ty _ => cases r; rfl
theorem RelV.inj {x y : V} {u : Value} (r : RelV x u) (q : RelV y u) : x = y := Option.some.inj (r.abs.symm.trans q.abs)
theorem Vals.inj : ∀ {xs ys : List V} {us : List Value}, Vals xs us → Vals ys us → xs = ys
  | _, _, _, .nil, .nil => rfl
  | _, _, _, .cons r t, .cons r' t' => by rw [r.inj r', Vals.inj t t']
section
variable {X : Cx} {pins : List (Addr × Obj)} {σ : St} {H : Hp} {s : Shared} {a : Addr} {xs ys : List V}
theorem SqL.of {K : PySem.W.Frag} (h : H a = some (.lst xs)) : SqL K H a xs := .inl (.inl h)
theorem SqT.of {K : PySem.W.Frag} (h : H a = some (.tup xs)) : SqT K H a xs := .inl (.inl h)
theorem Inv.list (I : Inv X pins σ H s) (h : SqL X.K H a xs) : ∃ its : List Value, Vals xs its ∧ PlainL s.heap a its.toArray ∧ xs.length ≤ sizeLine := by
  rcases h with h | ⟨o, its, n, hk, hc, hd, hs, hz, r⟩
  · obtain ⟨z, its, n, r, e⟩ := h.ok I.hok
    exact ⟨its, r, ⟨_, n, e, rfl, rfl, rfl⟩, z⟩
  · refine ⟨its.toList, r, ⟨o, n, I.kIn a o hk, hc, hd, by simpa using hs⟩, ?_⟩
    have e := r.length
    simp only [Array.length_toList] at e
    omega
theorem Inv.tuple (I : Inv X pins σ H s) (h : SqT X.K H a xs) : ∃ its : List Value, Vals xs its ∧ IsTup s.heap a its.toArray ∧ xs.length ≤ sizeLine := by
  rcases h with h | ⟨o, its, n, hk, hc, hs, hz, r⟩
  · obtain ⟨z, its, r, p⟩ := h.ok I.hok
    exact ⟨its, r, p, z.1⟩
  · refine ⟨its.toList, r, ⟨o, I.kIn a o hk, hc, n, by simpa using hs⟩, ?_⟩
    have e := r.length
    simp only [Array.length_toList] at e
    omega
theorem Inv.list_inj (I : Inv X pins σ H s) (h : SqL X.K H a xs) (h' : SqL X.K H a ys) : xs = ys := by
  obtain ⟨its, r, ⟨o, n, e, _, _, d⟩, _⟩ := I.list h
  obtain ⟨its', r', ⟨o', n', e', _, _, d'⟩, _⟩ := I.list h'
  rw [e] at e'; cases e'
  rw [d] at d'
  injection d' with d1 _
  have : its = its' := by simpa using congrArg Array.toList d1
  subst this
  exact r.inj r'
theorem Inv.tuple_inj (I : Inv X pins σ H s) (h : SqT X.K H a xs) (h' : SqT X.K H a ys) : xs = ys := by
  obtain ⟨its, r, ⟨o, e, _, n, d⟩, _⟩ := I.tuple h
  obtain ⟨its', r', ⟨o', e', _, n', d'⟩, _⟩ := I.tuple h'
  rw [e] at e'; cases e'
  rw [d] at d'
  injection d' with d1 _
  have : its = its' := by simpa using congrArg Array.toList d1
  subst this
  exact r.inj r'
end

/-! ### another wish about exceptions -/
abbrev Cx.wish (X : Cx) (E : Value → Shared → Prop) : Cx := { X with xe := E }
/-- no exception leaves -/
abbrev Cx.nox (X : Cx) : Cx := X.wish fun _ _ => False
theorem Cx.Ok.wish {X : Cx} (ok : X.Ok) (E : Value → Shared → Prop) : (X.wish E).Ok :=
  ⟨ok.mod, ok.kind, ok.glob, ok.blt, ok.above, ok.inj, ok.has, ok.cab, ok.hd, ok.frames, ok.stk, ok.exf, ok.bs, ok.bsz, ok.noex, ok.exfs, ok.funs, ok.frf⟩
theorem Cx.Ok.unwish {X : Cx} {E : Value → Shared → Prop} (ok : (X.wish E).Ok) : X.Ok :=
  ⟨ok.mod, ok.kind, ok.glob, ok.blt, ok.above, ok.inj, ok.has, ok.cab, ok.hd, ok.frames, ok.stk, ok.exf, ok.bs, ok.bsz, ok.noex, ok.exfs, ok.funs, ok.frf⟩
section
variable {X : Cx} {pins : List (Addr × Obj)} {σ : St} {H : Hp} {s : Shared} {E : Value → Shared → Prop}
theorem Inv.wish (I : Inv X pins σ H s) (E : Value → Shared → Prop) : Inv (X.wish E) pins σ H s := ⟨I.ok.wish E, I.os, I.bare, I.base, I.loc, I.cell, I.free, I.freeC, I.pin, I.hok, I.len⟩
theorem Inv.unwish (I : Inv (X.wish E) pins σ H s) : Inv X pins σ H s := ⟨I.ok.unwish, I.os, I.bare, I.base, I.loc, I.cell, I.free, I.freeC, I.pin, I.hok, I.len⟩
theorem SP.unwish {D : Ends} {f : Flow} {s' : Shared} (h : SP (X.wish E) pins D f s') : SP X pins D f s' := by
  cases f with
  | next => obtain ⟨σ', H', I, q⟩ := h; exact ⟨σ', H', I.unwish, q⟩
  | brk => obtain ⟨σ', H', I, q⟩ := h; exact ⟨σ', H', I.unwish, q⟩
  | cont => obtain ⟨σ', H', I, q⟩ := h; exact ⟨σ', H', I.unwish, q⟩
  | ret u => obtain ⟨v, σ', H', I, r, q⟩ := h; exact ⟨v, σ', H', I.unwish, r, q⟩
theorem PE.nox {e : Expr} {t : TE} (h : PE X.nox e t) : PE X e t := fun pins s σ H Q I hw =>
  wpAny_mono (h pins s σ H Q (I.wish _) hw) (fun _ _ ⟨v, H', I', r, q⟩ => ⟨v, H', I'.unwish, r, q⟩) fun _ _ z => False.elim z
theorem PT.nox {e : Expr} {t : TT} (h : PT X.nox e t) : PT X e t := fun pins s σ H Q I hw =>
  wpAny_mono (h pins s σ H Q (I.wish _) hw) (fun _ _ ⟨H', I', q⟩ => ⟨H', I'.unwish, q⟩) fun _ _ z => False.elim z
theorem PSs.nox {st : List Stmt} {t : TS} (h : PSs X.nox st t) : PSs X st t := fun pins s σ H D I hw =>
  wpAny_mono (h pins s σ H D (I.wish _) hw) (fun _ _ q => q.unwish) fun _ _ z => False.elim z
end

/-! ### blocks and small statements -/
section
variable {X : Cx} {st : Stmt} {rest : List Stmt} {t u : TS} {e : Expr} {te : TE} {pos : Pos}
def tNext : TS := fun D σ H => D.nx σ H
def tSeq (t u : TS) : TS := fun D σ H => t { D with nx := u D } σ H
theorem pss_nil : PSs X [] tNext := fun _ _ σ H _ I h => wpAny_execs_nil ⟨σ, H, I, h⟩
theorem pss_cons (h1 : PS X st t) (h2 : PSs X rest u) : PSs X (st :: rest) (tSeq t u) := by
  intro pins s σ H D I h
  refine wpAny_execs_cons (thn (h1 pins s σ H { D with nx := u D } I h) fun f s1 q => ?_)
  cases f with
  | next =>
    obtain ⟨σ', H', I', q⟩ := q
    exact h2 pins s1 σ' H' D I' q
  | ret v => exact q
  | brk => exact q
  | cont => exact q
theorem pss_one (h1 : PS X st t) : PSs X [st] t := by
  intro pins s σ H D I h
  refine wpAny_execs_cons (thn (h1 pins s σ H D I h) fun f s1 q => ?_)
  cases f with
  | next => exact wpAny_execs_nil q
  | ret v => exact q
  | brk => exact q
  | cont => exact q
def tBreak : TS := fun D σ H => D.bk σ H
def tCont : TS := fun D σ H => D.ct σ H
/-- in a def's body nothing is shown -/
theorem Inv.quiet {pins : List (Addr × Obj)} {σ : St} {H : Hp} {s : Shared} (I : Inv X pins σ H s) : interactive X.env = false := by simp [interactive, I.ok.kind]
/-- an expression whose value is dropped -/
def tDrop (te : TE) : TS := fun D σ H => te σ H fun _ H1 => D.nx σ H1
theorem ps_expr (he : PE X e te) (hs : swapsWith e none pos.line X.env = pure false := by rfl) : PS X (.Expr e pos) (tDrop te) := by
  intro pins s σ H D I h
  exact wpAny_Expr_any (thn (he pins s σ H _ I h) fun v s1 ⟨x, H1, I1, r1, q1⟩ => ⟨σ, H1, I1, q1⟩) I.quiet hs
def tRet (te : TE) : TS := fun D σ H => te σ H D.rt
theorem ps_ret (he : PE X e te) : PS X (.Return (some e) pos) (tRet te) := by
  intro pins s σ H D I h
  exact wpAny_Return_some (thn (he pins s σ H _ I h) fun v s1 ⟨x, H1, I1, r1, q1⟩ => ⟨x, σ, H1, I1, r1, q1⟩)
def tRetN : TS := fun D _ H => D.rt .non H
def tIfS (c : TT) (t u : TS) : TS := fun D σ H => c σ H fun b H1 => if b = true then t D σ H1 else u D σ H1
theorem ps_if {c : Expr} {a b : List Stmt} {tc : TT} (hc : PT X c tc) (ha : PSs X a t) (hb : PSs X b u) : PS X (.If c a b pos) (tIfS tc t u) := by
  intro pins s σ H D I h
  refine wpAny_If (thn (hc pins s σ H _ I h) fun d s1 ⟨H1, I1, q1⟩ => ?_)
  cases d with
  | true => exact ha pins s1 σ H1 D I1 q1
  | false => exact hb pins s1 σ H1 D I1 q1
/-- code that the proof never comes to -/
def tNever : TS := fun _ _ _ => False
theorem ps_never : PS X st tNever := fun _ _ _ _ _ _ h => h.elim
end

/-! ### targets -/
abbrev TG := V → St → Hp → (St → Hp → Prop) → Prop
abbrev TGs := List V → St → Hp → (St → Hp → Prop) → Prop
def PG (X : Cx) (target : Expr) (t : TG) : Prop :=
  ∀ (pins : List (Addr × Obj)) (s : Shared) (σ : St) (H : Hp) (v : V) (u : Value) (Q : St → Hp → Prop), Inv X pins σ H s → RelV v u → t v σ H Q →
    wpAny (model X.prog X.w) X.A (assign target X.env u) (fun _ s' => ∃ σ' H', Inv X pins σ' H' s' ∧ Q σ' H') X.xe s
/-- several targets, one after another -/
def PGs (X : Cx) (ts : List Expr) (t : TGs) : Prop :=
  ∀ (pins : List (Addr × Obj)) (s : Shared) (σ : St) (H : Hp) (vs : List V) (us : List Value) (Q : St → Hp → Prop), Inv X pins σ H s → Vals vs us → t vs σ H Q →
    wpAny (model X.prog X.w) X.A (assignInOrder ((assignEach ts X.env).map (·.2)) us) (fun _ s' => ∃ σ' H', Inv X pins σ' H' s' ∧ Q σ' H') X.xe s
/-- o[i] = v, by values -/
abbrev TSet := V → V → V → Hp → (Hp → Prop) → Prop
def PSet (X : Cx) (t : TSet) : Prop :=
  ∀ (pins : List (Addr × Obj)) (s : Shared) (σ : St) (H : Hp) (o i v : V) (ov iv u : Value) (Q : Hp → Prop), Inv X pins σ H s → RelV o ov → RelV i iv → RelV v u → t o i v H Q →
    wpAny (model X.prog X.w) X.A (setItem ov iv u) (fun _ s' => ∃ H', Inv X pins σ H' s' ∧ Q H') X.xe s
/-- a op= b, by values -/
abbrev TIp := V → V → Hp → VK → Prop
def PIp (X : Cx) (op : Operator) (t : TIp) : Prop :=
  ∀ (pins : List (Addr × Obj)) (s : Shared) (σ : St) (H : Hp) (x y : V) (v u : Value) (Q : VK), Inv X pins σ H s → RelV x v → RelV y u → t x y H Q →
    wpAny (model X.prog X.w) X.A (inplaceOp op v u) (EP X pins σ Q) X.xe s
section
variable {X : Cx} {pos : Pos}
def gName (i : Nat) : TG := fun v σ H Q => Q (σ.set i (some v)) H
theorem pg_name {i : Nat} {x : Str} (hN : X.N.Nodup) (hi : X.N[i]? = some x) (hx : Loc X.env.scope x) (hf : X.fn x = true ∨ X.env.scope.names.lookup x = some .local := by first | exact .inl rfl | exact .inr rfl | assumption) : PG X (.Name x pos) (gName i) := by
  intro pins s σ H v u Q I r h
  exact wpAny_assign_Name (store_ok I hN hi hx r (fun s' I' => ⟨_, H, I', h⟩) hf)
def gNil : TGs := fun vs σ H Q => vs = [] ∧ Q σ H
def gCons (t : TG) (u : TGs) : TGs := fun vs σ H Q => ∃ v r, vs = v :: r ∧ t v σ H fun σ' H' => u r σ' H' Q
theorem pgs_nil : PGs X [] gNil := by
  intro pins s σ H vs us Q I r h
  obtain ⟨e, h⟩ := h
  subst e
  cases r
  exact assignInOrder_nil ⟨σ, H, I, h⟩
theorem pgs_cons {e : Expr} {es : List Expr} {t : TG} {u : TGs} (h1 : PG X e t) (h2 : PGs X es u)
    (hs : (assignEach (e :: es) X.env).map (·.2) = assign e X.env :: (assignEach es X.env).map (·.2) := by rfl) : PGs X (e :: es) (gCons t u) := by
  intro pins s σ H vs us Q I r h
  obtain ⟨v, vr, e1, h⟩ := h
  subst e1
  cases r with
  | cons r rr =>
    rw [hs]
    refine assignInOrder_cons (thn (h1 pins s σ H _ _ _ I r h) fun _ s1 ⟨σ1, H1, I1, q1⟩ => ?_)
    exact h2 pins s1 σ1 H1 _ _ Q I1 rr q1
/-- (a, b, ..) = a tuple of that length -/
def gTup (K : PySem.W.Frag) (n : Nat) (t : TGs) : TG := fun v σ H Q => ∃ a xs, v = .ref a ∧ SqT K H a xs ∧ xs.length = n ∧ t xs σ H Q
theorem pg_tup {es : List Expr} {k : Nat} {t : TGs} {n : Nat} (hc : X.calm = true) (h : PGs X es t)
    (hn : (assignEach es X.env).length = n := by rfl) (hst : (assignEach es X.env).findIdx? (·.1) = none := by rfl) : PG X (.Tuple es k pos) (gTup X.K n t) := by
  intro pins s σ H v u Q I r hw
  obtain ⟨a, xs, e1, hq, hl, hw⟩ := hw
  subst e1
  cases r
  obtain ⟨its, rv, ht, hz⟩ := I.tuple hq
  refine assign_Tuple_tuple (I.ok.hd hc) ht (by simp [hn, ← hl, rv.length]) hst fun h' hx => ?_
  have I1 : Inv X pins σ H { s with heap := h' } := I.kept (t' := s.toks) fun b o e => hx b o (Nat.ne_of_lt (Heap.lt_size e)) e
  exact h pins _ σ H xs _ Q I1 (by simpa using rv) hw
/-- o[i] = .. -/
def gSub (to ti : TE) (t : TSet) : TG := fun v σ H Q => to σ H fun o H1 => ti σ H1 fun i H2 => t o i v H2 fun H3 => Q σ H3
theorem pg_sub {o i : Expr} {to ti : TE} {t : TSet} (ho : PE X o to) (hi : PE X i ti) (hs : PSet X t)
    (ha : ∀ v, assign (.Subscript o i pos) X.env v = (do
      let ov ← holding [v] (eval o X.env)
      let iv ← holding [v, ov] (eval i X.env)
      standAt pos
      holding [v, ov, iv] (setItem ov iv v)
      release [v, ov, iv] []) := by intro _; rfl) : PG X (.Subscript o i pos) (gSub to ti t) := by
  intro pins s σ H v u Q I r h
  rw [ha]
  refine wpAny_bind (wpAny_holding (thn (ho pins s σ H _ I h) fun ov s1 ⟨x, H1, I1, r1, q1⟩ => ?_))
  refine wpAny_bind (wpAny_holding (thn (hi pins s1 σ H1 _ I1 q1) fun iv s2 ⟨y, H2, I2, r2, q2⟩ => ?_))
  refine wpAny_bind (wpAny_standAt (wpAny_bind (wpAny_holding (thn (hs pins s2 σ H2 x y v ov iv u _ I2 r1 r2 r q2) fun _ s3 ⟨H3, I3, q3⟩ => ?_))))
  exact wpAny_release ⟨σ, H3, I3, q3⟩
/-- target = value -/
def tAsg (te : TE) (g : TG) : TS := fun D σ H => te σ H fun x H1 => g x σ H1 D.nx
theorem ps_asg {tg e : Expr} {te : TE} {g : TG} (he : PE X e te) (hg : PG X tg g) (hs : swapsWithSole [tg] e pos.line X.env = pure false := by rfl) (hw : swappedStores [tg] e X.env = pure none := by rfl)
    (h1 : (assignEach [tg] X.env).map (·.2) = [assign tg X.env] := by rfl) : PS X (.Assign [tg] e pos) (tAsg te g) := by
  intro pins s σ H D I h
  refine wpAny_Assign_stores (thn (he pins s σ H _ I h) fun v s1 ⟨x, H1, I1, r1, q1⟩ => ?_) hs hw
  rw [h1]
  exact thn (hg pins s1 σ H1 x v _ I1 r1 q1) fun _ s2 q => q
/-- name = value -/
theorem ps_set {i : Nat} {x : Str} {e : Expr} {te : TE} {pos' : Pos} (hN : X.N.Nodup) (hi : X.N[i]? = some x) (hx : Loc X.env.scope x) (he : PE X e te) (hs : swapsWith e (some (.Name x pos')) pos.line X.env = pure false := by rfl) (hf : X.fn x = true ∨ X.env.scope.names.lookup x = some .local := by first | exact .inl rfl | exact .inr rfl | assumption) :
    PS X (.Assign [.Name x pos'] e pos) (tAsg te (gName i)) := by
  intro pins s σ H D I h
  refine wpAny_Assign_Name (thn (he pins s σ H _ I h) fun v s1 ⟨y, H1, I1, r1, q1⟩ => ?_) hs
  exact store_ok I1 hN hi hx r1 (fun s2 I2 => ⟨_, H1, I2, q1⟩) hf
/-- a, b = x, y with plain local names: stored from the right; the pair itself is not tracked (the opening rows as in PyProof/Rows/TupAssign.lean:23) -/
def tPar (i j : Nat) (ta : TA) : TS := fun D σ H => ta σ H fun vs H1 => ∃ v w, vs = [v, w] ∧ D.nx ((σ.set i (some v)).set j (some w)) H1
/-- name op= e -/
def tAug (i : Nat) (te : TE) (ti : TIp) : TS := fun D σ H => ∃ x, σ[i]? = some (some x) ∧ te σ H fun y H1 => ti x y H1 fun z H2 => D.nx (σ.set i (some z)) H2
/-- o[i] op= e -/
def tAugS (to ti te : TE) (tget : V → V → Hp → VK → Prop) (tip : TIp) (tset : TSet) : TS := fun D σ H => to σ H fun o H1 => ti σ H1 fun i H2 => tget o i H2 fun x H3 => te σ H3 fun y H4 => tip x y H4 fun z H5 => tset o i z H5 fun H6 => D.nx σ H6
/-- o[i], by values -/
def PGet (X : Cx) (t : V → V → Hp → VK → Prop) : Prop :=
  ∀ (pins : List (Addr × Obj)) (s : Shared) (σ : St) (H : Hp) (o i : V) (ov iv : Value) (Q : VK), Inv X pins σ H s → RelV o ov → RelV i iv → t o i H Q →
    wpAny (model X.prog X.w) X.A (getItem ov iv) (EP X pins σ Q) X.xe s
/-- ints -/
def ipI (f : Int → Int → Int) : TIp := fun x y H Q => ∃ i j, x = .int i ∧ y = .int j ∧ Q (.int (f i j)) H
end

/-! ### while -/
section
variable {X : Cx} {pos : Pos}
/-- the invariant W with its measure -/
def tWhile (c : TT) (tb : TS) : TS := fun D σ H => ∃ W : Nat → St → Hp → Prop, (∃ m, W m σ H) ∧ ∀ m σ H, W m σ H →
  c σ H fun b H1 => if b = true then ∃ N : St → Hp → Prop, (∀ σ' H', N σ' H' → ∃ m', m' < m ∧ W m' σ' H') ∧ tb { D with nx := N, ct := N, bk := D.nx } σ H1 else D.nx σ H1
theorem ps_while {c : Expr} {body : List Stmt} {tc : TT} {tb : TS} (hp : PassesOwn (model X.prog X.w) X.A X.env X.xe) (hc : PT X c tc) (hb : PSs X body tb) : PS X (.While c body [] pos) (tWhile tc tb) := by
  intro pins s σ H D I h
  obtain ⟨W, ⟨m0, w0⟩, turn⟩ := h
  refine wpAny_While (codeAny_whileLoop (fun n s' => ∃ σ' H', Inv X pins σ' H' s' ∧ W n σ' H') ?_ m0 ⟨σ, H, I, w0⟩)
  rintro n s1 ⟨σ1, H1, I1, w1⟩
  refine wpAny_passesOwn hp (thn (hc pins s1 σ1 H1 _ I1 (turn n σ1 H1 w1)) fun b s2 ⟨H2, I2, q2⟩ => ?_)
  cases b with
  | true =>
    obtain ⟨N, hN, q2⟩ := q2
    rw [if_pos rfl]
    refine wpAny_passesOwn hp (thn (hb pins s2 σ1 H2 _ I2 q2) fun f s3 q3 => ?_)
    cases f with
    | next =>
      obtain ⟨σ3, H3, I3, n3⟩ := q3
      obtain ⟨m', hm, w3⟩ := hN σ3 H3 n3
      exact ⟨m', hm, σ3, H3, I3, w3⟩
    | cont =>
      obtain ⟨σ3, H3, I3, n3⟩ := q3
      obtain ⟨m', hm, w3⟩ := hN σ3 H3 n3
      exact ⟨m', hm, σ3, H3, I3, w3⟩
    | brk => exact q3
    | ret v => exact q3
  | false =>
    rw [if_neg Bool.false_ne_true]
    exact wpAny_execs_nil ⟨σ1, H2, I2, q2⟩
end

/-! ### what a loop or a comprehension walks -/
/-- at turn i: it yields x (the heap may grow), or it stops -/
structure It where
  go : Nat → Hp → Prop
  yld : Nat → Hp → V → Hp → Prop
  stop : Nat → Hp → Prop
/-- the iterator's own objects may turn: they are not the frame's, not pinned, younger than the entry (or a comprehension's own) -/
def FpOk (X : Cx) (pins : List (Addr × Obj)) (H : Hp) (b : Addr) : Prop :=
  H b = none ∧ b ≠ X.env.locals ∧ b ∉ X.fs ∧ (b ∈ X.ex ∨ X.s₀.heap.objs.size ≤ b) ∧ (∀ x c, X.env.cells.lookup x = some c → c ≠ b) ∧ ∀ p ∈ X.pn ++ pins, p.1 ≠ b
theorem Inv.fpOk {X : Cx} {pins : List (Addr × Obj)} {σ : St} {H H' : Hp} {s : Shared} {b : Addr} (I : Inv X pins σ H s) (hb : s.heap.objs.size ≤ b) (hn : H' b = none) : FpOk X pins H' b := by
  refine ⟨hn, Nat.ne_of_gt (Nat.lt_of_lt_of_le I.lt hb), I.nofs hb, .inr (Nat.le_trans I.sz hb), fun x c e z => ?_, fun p hp z => ?_⟩
  · obtain ⟨v, q⟩ := I.cell x c e
    exact absurd (Nat.lt_of_lt_of_le q.lt (by rw [z]; exact hb)) (Nat.lt_irrefl _)
  · exact absurd (Nat.lt_of_lt_of_le (Heap.lt_size (I.pin p hp).1) (by rw [z]; exact hb)) (Nat.lt_irrefl _)
structure Turn (P : Program) (w : World) (K : PySem.W.Frag) (tg : Expr) (J : It) (fp : List Addr) (it : Addr) (tn : Nat → Heap → Prop) : Prop where
  mem : it ∈ fp
  obj : ∀ i h, tn i h → ∀ b ∈ fp, ∃ o, h.get? b = some o ∧ ∀ v, o.data ≠ .cell v
  keep : ∀ i h h', tn i h → (∀ b ∈ fp, ∀ o, h.get? b = some o → h'.get? b = some o) → tn i h'
  item : ∀ (X : Cx), X.prog = P → X.w = w → X.K = K → X.calm = true → ∀ (i : Nat) (pins : List (Addr × Obj)) (s : Shared) (σ : St) (H : Hp) (E : Value → Shared → Prop), Inv X pins σ H s → (∀ b ∈ fp, FpOk X pins H b) → tn i s.heap → J.go i H →
    wpAny (model P w) X.A (pyNext (.ref it)) (fun r s1 => ∃ u, r = some u ∧
      wpAny (model P w) X.A (letOwnedTupleGo tg (.ref it) u) (fun _ s2 => ∃ x H', Inv X pins σ H' s2 ∧ RelV x u ∧ J.yld i H x H' ∧ tn (i + 1) s2.heap ∧ ∀ b ∈ fp, H' b = none) E s1) E s
  done : ∀ (X : Cx), X.prog = P → X.w = w → X.K = K → X.calm = true → ∀ (i : Nat) (pins : List (Addr × Obj)) (s : Shared) (σ : St) (H : Hp) (E : Value → Shared → Prop), Inv X pins σ H s → (∀ b ∈ fp, FpOk X pins H b) → tn i s.heap → J.stop i H →
    wpAny (model P w) X.A (pyNext (.ref it)) (fun r s1 => r = none ∧ Inv X pins σ H s1) E s
  self : ∀ (A : Around) (i : Nat) (s : Shared) (Q : Value → Shared → Prop) (E : Value → Shared → Prop), tn i s.heap → Q (.ref it) s → wpAny (model P w) A (pyIter (.ref it)) Q E s
abbrev TI := St → Hp → (It → Hp → Prop) → Prop
/-- an iterator has come -/
def PIE (X : Cx) (pins : List (Addr × Obj)) (σ : St) (tg : Expr) (R : It → Hp → Prop) (itv : Value) (s2 : Shared) : Prop :=
  ∃ (it : Addr) (fp : List Addr) (tn : Nat → Heap → Prop) (J : It) (H' : Hp), itv = .ref it ∧ Inv X pins σ H' s2 ∧ Turn X.prog X.w X.K tg J fp it tn ∧ tn 0 s2.heap ∧ (∀ b ∈ fp, FpOk X pins H' b) ∧ R J H'
def PI (X : Cx) (tg iter : Expr) (wi : TI) : Prop :=
  ∀ (pins : List (Addr × Obj)) (s : Shared) (σ : St) (H : Hp) (R : It → Hp → Prop), Inv X pins σ H s → wi σ H R →
    wpAny (model X.prog X.w) X.A (eval iter X.env) (fun v s1 => wpAny (model X.prog X.w) X.A (pyIter v) (PIE X pins σ tg R) X.xe s1) X.xe s

/-- the step ahead of the store is nothing for an iterator that keeps no tuple -/
theorem go_of {M : Model} {A : Around} {E : Value → Shared → Prop} {s : Shared} {tg : Expr} {it : Addr} {u : Value} {o : Obj} {n : String} {vs : Array Value} {Q : Unit → Shared → Prop} (ho : s.heap.get? it = some o) (hc : o.cls = .type n) (hd : o.data = .fields vs)
    (hn : ["enumerate", "zip", "dict_itemiterator", "dict_reverseitemiterator", "odict_iterator", "itertools.zip_longest", "itertools.pairwise"].contains n = false) (hQ : Q () s) : wpAny M A (letOwnedTupleGo tg (.ref it) u) Q E s := by
  unfold letOwnedTupleGo
  cases tg <;> first
    | exact wpAny_pure hQ
    | (cases u <;> first
        | exact wpAny_pure hQ
        | (refine wpAny_bind (wpAny_load ho ?_)
           rw [hc, hd]
           show wpAny M A (if (["enumerate", "zip", "dict_itemiterator", "dict_reverseitemiterator", "odict_iterator", "itertools.zip_longest", "itertools.pairwise"].contains n && vs[0]? == some (rawInt _)) = true then _ else _) Q E s
           rw [if_neg (by intro h; rw [hn, Bool.false_and] at h; cases h)]
           exact wpAny_pure hQ))

/-- the list at a, as it stands at each turn (a loop may append to it) -/
def Itl (K : PySem.W.Frag) (a : Addr) : It :=
  ⟨fun i H => ∃ xs x, SqL K H a xs ∧ xs[i]? = some x, fun i H x H' => H' = H ∧ ∀ xs, SqL K H a xs → xs[i]? = some x, fun i H => ∃ xs, SqL K H a xs ∧ xs.length ≤ i⟩
def Itt (K : PySem.W.Frag) (a : Addr) : It :=
  ⟨fun i H => ∃ xs x, SqT K H a xs ∧ xs[i]? = some x, fun i H x H' => H' = H ∧ ∀ xs, SqT K H a xs → xs[i]? = some x, fun i H => ∃ xs, SqT K H a xs ∧ xs.length ≤ i⟩
/-- lo, lo + 1, .. (n of them) -/
def Itr (lo : Int) (n : Nat) : It := ⟨fun i _ => i < n, fun i H x H' => H' = H ∧ x = .int (lo + i), fun i _ => n ≤ i⟩
theorem turn_list {P : Program} {w : World} {K : PySem.W.Frag} {tg : Expr} (a it : Addr) : Turn P w K tg (Itl K a) [it] it (fun i h => h.IsListIter it a i) where
  mem := by simp
  obj := fun i h st b hb => by
    have e : b = it := by simpa using hb
    subst e
    obtain ⟨o, e, c, d⟩ := st
    exact ⟨o, e, fun v z => by rw [d] at z; cases z⟩
  keep := fun i h h' st k => st.at fun o e => k it (by simp) o e
  item := by
    intro X hP hw hK hc i pins s σ H E I hf st hg
    subst hP hw hK
    obtain ⟨xs, x, hq, hx⟩ := hg
    obtain ⟨its, rv, p, hz⟩ := I.list hq
    obtain ⟨u, hu, ru⟩ := rv.get hx
    obtain ⟨f0, f1, f2, f3, f4, f5⟩ := hf it (by simp)
    refine wpAny_pyNext_list_item st p.isList (x := u) (by simpa using hu) fun h' st' sb => ?_
    have I1 : Inv X pins σ H { s with heap := h' } := I.turned (t' := s.toks) (fun b o hb e => (sb.2 b hb).trans e) f0 f1 f3 f4 f5
    obtain ⟨o, e, c, d⟩ := id st'
    exact ⟨u, rfl, go_of (s := { s with heap := h' }) e c d (by decide) ⟨x, H, I1, ru, ⟨rfl, fun ys hy => by rw [I.list_inj hy hq]; exact hx⟩, st', fun b hb => (hf b hb).1⟩⟩
  done := by
    intro X hP hw hK hc i pins s σ H E I hf st hg
    subst hP hw hK
    obtain ⟨xs, hq, hx⟩ := hg
    obtain ⟨its, rv, p, hz⟩ := I.list hq
    obtain ⟨f0, f1, f2, f3, f4, f5⟩ := hf it (by simp)
    have hl := rv.length
    exact wpAny_pyNext_list_end (I.ok.hd hc) st p.isList (by simp; omega) fun h' eb => ⟨rfl, I.turned (t' := s.toks) (fun b o hb e => eb b o hb e) f0 f1 f3 f4 f5⟩
  self := fun _ _ _ _ _ st h => wpAny_pyIter_listiter st h
theorem turn_tuple {P : Program} {w : World} {K : PySem.W.Frag} {tg : Expr} (a it : Addr) : Turn P w K tg (Itt K a) [it] it (fun i h => h.IsTupleIter it a i) where
  mem := by simp
  obj := fun i h st b hb => by
    have e : b = it := by simpa using hb
    subst e
    obtain ⟨o, e, c, d⟩ := st
    exact ⟨o, e, fun v z => by rw [d] at z; cases z⟩
  keep := fun i h h' st k => st.at fun o e => k it (by simp) o e
  item := by
    intro X hP hw hK hc i pins s σ H E I hf st hg
    subst hP hw hK
    obtain ⟨xs, x, hq, hx⟩ := hg
    obtain ⟨its, rv, p, hz⟩ := I.tuple hq
    obtain ⟨u, hu, ru⟩ := rv.get hx
    obtain ⟨f0, f1, f2, f3, f4, f5⟩ := hf it (by simp)
    refine wpAny_pyNext_tuple_item st (show s.heap.IsTuple a its.toArray from p) (x := u) (by simpa using hu) fun h' st' sb => ?_
    have I1 : Inv X pins σ H { s with heap := h' } := I.turned (t' := s.toks) (fun b o hb e => (sb.2 b hb).trans e) f0 f1 f3 f4 f5
    obtain ⟨o, e, c, d⟩ := id st'
    exact ⟨u, rfl, go_of (s := { s with heap := h' }) e c d (by decide) ⟨x, H, I1, ru, ⟨rfl, fun ys hy => by rw [I.tuple_inj hy hq]; exact hx⟩, st', fun b hb => (hf b hb).1⟩⟩
  done := by
    intro X hP hw hK hc i pins s σ H E I hf st hg
    subst hP hw hK
    obtain ⟨xs, hq, hx⟩ := hg
    obtain ⟨its, rv, p, hz⟩ := I.tuple hq
    obtain ⟨f0, f1, f2, f3, f4, f5⟩ := hf it (by simp)
    have hl := rv.length
    exact wpAny_pyNext_tuple_end (I.ok.hd hc) st (show s.heap.IsTuple a its.toArray from p) (by simp; omega) fun h' eb => ⟨rfl, I.turned (t' := s.toks) (fun b o hb e => eb b o hb e) f0 f1 f3 f4 f5⟩
  self := fun _ _ _ _ _ st h => wpAny_pyIter_tupleiter st h
theorem turn_range {P : Program} {w : World} {K : PySem.W.Frag} {tg : Expr} (it : Addr) (lo : Int) (n : Nat) : Turn P w K tg (Itr lo n) [it] it (fun i h => IsRangeIter h it (lo + (i : Nat) * 1) ((n : Int) - (i : Nat)) 1) where
  mem := by simp
  obj := fun i h st b hb => by
    have e : b = it := by simpa using hb
    subst e
    exact ⟨_, st, fun v z => by
      have z' : Data.fields _ = Data.cell v := z
      cases z'⟩
  keep := fun i h h' st k => k it (by simp) _ st
  item := by
    intro X hP hw hK hc i pins s σ H E I hf st hg
    subst hP hw hK
    obtain ⟨f0, f1, f2, f3, f4, f5⟩ := hf it (by simp)
    have W := Walks.range (prog := X.prog) (w := X.w) (I.ok.hd hc) it lo 1 n
    refine W.item i s _ _ hg st fun v h' tk hv st' kk => ?_
    obtain ⟨t, rfl⟩ := hv
    have I1 : Inv X pins σ H { s with heap := h', toks := tk } := I.turned (fun b o hb e => kk b o (by simpa using hb) e) f0 f1 f3 f4 f5
    refine ⟨_, rfl, go_of (s := { s with heap := h', toks := tk }) (n := "range_iterator") st' rfl rfl (by decide) ⟨.int (lo + i), H, I1, ⟨t, ?_⟩, ⟨rfl, rfl⟩, st', fun b hb => (hf b hb).1⟩⟩
    rw [Int.mul_one]
  done := by
    intro X hP hw hK hc i pins s σ H E I hf st hg
    subst hP hw hK
    obtain ⟨f0, f1, f2, f3, f4, f5⟩ := hf it (by simp)
    exact wpAny_pyNext_range_end (I.ok.hd hc) st (by have : n ≤ i := hg; omega) fun h' eb => ⟨rfl, I.turned (t' := s.toks) (fun b o hb e => eb b o hb e) f0 f1 f3 f4 f5⟩
  self := fun _ _ _ _ _ st h => wpAny_pyIter_rangeiter st h
end L2

namespace L2
open PySem PySem.Spec PyProof.Rows
section
variable {X : Cx} {tg : Expr}
def iList (K : PySem.W.Frag) (tl : TE) : TI := fun σ H R => tl σ H fun x H1 => ∃ a, x = .ref a ∧ (∃ xs, SqL K H1 a xs) ∧ R (Itl K a) H1
def iTup (K : PySem.W.Frag) (tl : TE) : TI := fun σ H R => tl σ H fun x H1 => ∃ a, x = .ref a ∧ (∃ xs, SqT K H1 a xs) ∧ R (Itt K a) H1
/-- a range object just made, walked -/
theorem range_it {pins : List (Addr × Obj)} {σ : St} {H : Hp} {s : Shared} {R : It → Hp → Prop} {E : Value → Shared → Prop} {lo hi : Int} {t u v : Tok} {tk : Nat} (I : Inv X pins σ H s) (h1 : -(2 ^ 62) ≤ lo) (h2 : lo < 2 ^ 62) (h3 : -(2 ^ 62) ≤ hi) (h4 : hi < 2 ^ 62)
    (q : R (Itr lo (hi - lo).toNat) H) : wpAny (model X.prog X.w) X.A (pyIter (.ref s.heap.objs.size)) (PIE X pins σ tg R) E { s with heap := s.heap.push { cls := .type "range", data := .fields #[.int lo t, .int hi u, .int 1 v] }, toks := tk } := by
  refine wpAny_pyIter_range (IsRange.new ..) (small_one h1 h2 h3 h4) ?_
  have I1 : Inv X pins σ H { s with heap := s.heap.push { cls := .type "range", data := .fields #[.int lo t, .int hi u, .int 1 v] }, toks := tk } := I.kept fun b o e => Heap.get?_push_of_some _ e
  refine ⟨(s.heap.push { cls := .type "range", data := .fields #[.int lo t, .int hi u, .int 1 v] }).objs.size, [(s.heap.push { cls := .type "range", data := .fields #[.int lo t, .int hi u, .int 1 v] }).objs.size], _, _, H, rfl,
    I1.kept (t' := tk) fun b o e => Heap.get?_push_of_some _ e, turn_range _ lo (hi - lo).toNat, ?_, fun b hb => ?_, q⟩
  · have e1 : lo + ((0 : Nat) : Int) * 1 = lo := by simp
    have e2 : (((hi - lo).toNat : Nat) : Int) - ((0 : Nat) : Int) = Builtin.Range.rangeSize lo hi 1 := by rw [rangeSize_one]; split <;> omega
    show IsRangeIter _ _ (lo + ((0 : Nat) : Int) * 1) ((((hi - lo).toNat : Nat) : Int) - ((0 : Nat) : Int)) 1
    rw [e1, e2]
    exact Heap.get?_push_size _ rfl
  · have e : b = (s.heap.push { cls := .type "range", data := .fields #[.int lo t, .int hi u, .int 1 v] }).objs.size := by simpa using hb
    subst e
    exact I1.fpOk (Nat.le_refl _) (I1.hok.fresh (Nat.le_refl _))
def iRng1 (ta : TA) : TI := fun σ H R => ta σ H fun vs H1 => ∃ j : Int, vs = [.int j] ∧ -(2 ^ 62) ≤ j ∧ j < 2 ^ 62 ∧ R (Itr 0 j.toNat) H1
def iRng2 (ta : TA) : TI := fun σ H R => ta σ H fun vs H1 => ∃ i j : Int, vs = [.int i, .int j] ∧ (-(2 ^ 62) ≤ i ∧ i < 2 ^ 62 ∧ -(2 ^ 62) ≤ j ∧ j < 2 ^ 62) ∧ R (Itr i (j - i).toNat) H1
theorem pi_range1 {a : Expr} {ta : TA} {p pos : Pos} (hg : Gl X "range") (hm : X.mg "range" = none) (ha : PA X [a] ta) (hs : starEach [a] X.env = [(false, eval a X.env)] := by rfl) : PI X tg (.Call (.Name "range" p) [a] [] pos) (iRng1 ta) := by
  intro pins s σ H R I h
  refine Call_ (ld_blt I hg hm boot_range (PyProof.Rows.callWith_type1 (thn (ha pos pins s σ H _ I h) fun us s1 ⟨vs, H1, I1, r1, q1⟩ => ?_) hs rfl))
  obtain ⟨j, e, q1, q2, q⟩ := q1
  subst e
  cases r1 with
  | cons r rr =>
    cases rr
    obtain ⟨t, rfl⟩ := r
    exact call_range_1 (range_it I1 (by omega) (by omega) q1 q2 (by simpa using q))
/-! ### for -/
/-- W: the invariant by the turn and a measure; N: what the body is to reach -/
def tFor (wi : TI) (g : TG) (tb : TS) : TS := fun D σ H => wi σ H fun J H1 => ∃ W : Nat → Nat → St → Hp → Prop, (∃ m, W 0 m σ H1) ∧ ∀ i m σ H, W i m σ H →
  (J.stop i H ∧ D.nx σ H) ∨ (J.go i H ∧ ∃ N : St → Hp → Prop, (∀ σ' H', N σ' H' → ∃ m', m' < m ∧ W (i + 1) m' σ' H') ∧ ∀ x H', J.yld i H x H' → g x σ H' fun σ2 H2 => tb { D with nx := N, ct := N, bk := D.nx } σ2 H2)
/-- the records at fp as they stand -/
def pinsAt (fp : List Addr) (h : Heap) : List (Addr × Obj) := fp.filterMap fun b => (h.get? b).map fun o => (b, o)
theorem mem_pinsAt {fp : List Addr} {h : Heap} {b : Addr} {o : Obj} (hb : b ∈ fp) (e : h.get? b = some o) : (b, o) ∈ pinsAt fp h := List.mem_filterMap.mpr ⟨b, hb, by rw [e]; rfl⟩
theorem of_pinsAt {fp : List Addr} {h : Heap} {p : Addr × Obj} (hp : p ∈ pinsAt fp h) : p.1 ∈ fp ∧ h.get? p.1 = some p.2 := by
  obtain ⟨b, hb, e⟩ := List.mem_filterMap.mp hp
  cases q : h.get? b with
  | none => rw [q] at e; cases e
  | some o =>
    rw [q] at e
    have e' : (b, o) = p := Option.some.inj e
    subst e'
    exact ⟨hb, q⟩
theorem Inv.pinned {pins : List (Addr × Obj)} {σ : St} {H : Hp} {s : Shared} {fp : List Addr} (I : Inv X pins σ H s) (hf : ∀ b ∈ fp, FpOk X pins H b) (ho : ∀ b ∈ fp, ∃ o, s.heap.get? b = some o ∧ ∀ v, o.data ≠ .cell v) : Inv X (pins ++ pinsAt fp s.heap) σ H s :=
  I.pins_of fun p hp => (List.mem_append.mp hp).elim (fun z => I.pin p (List.mem_append_right _ z)) fun z => by
    obtain ⟨hb, e⟩ := of_pinsAt z
    obtain ⟨f0, f1, f2, _⟩ := hf p.1 hb
    obtain ⟨o, e', d⟩ := ho p.1 hb
    rw [e] at e'; cases e'
    exact ⟨e, f0, f1, f2, d⟩
theorem Inv.unpinned {pins pl : List (Addr × Obj)} {σ : St} {H : Hp} {s : Shared} (I : Inv X (pins ++ pl) σ H s) : Inv X pins σ H s := I.pins_of fun p hp => I.pin p (List.mem_append_right _ (List.mem_append_left _ hp))
theorem ps_for {iter : Expr} {body : List Stmt} {wi : TI} {g : TG} {tb : TS} {pos : Pos} (hp : PassesOwn (model X.prog X.w) X.A X.env X.xe) (hc : X.calm = true) (hi : PI X tg iter wi) (hg : PG X tg g) (hb : PSs X body tb)
    (hs : ∀ x, foldedSetIterable iter X.env x = pure x := by intro _; rfl) : PS X (.For tg iter body [] pos) (tFor wi g tb) := by
  intro pins s σ H D I h
  refine wpAny_For (thn (hi pins s σ H _ I h) fun v s1 h1 => thn h1 fun itv s2 h2 => ?_) hs
  obtain ⟨it, fp, tn, J, H2, e, I2, T, st2, f2, W, ⟨m0, w0⟩, turn⟩ := h2
  subst e
  -- what stays true of the iterator's objects through the loop
  have stat : ∀ {H' : Hp}, (∀ b ∈ fp, H' b = none) → ∀ b ∈ fp, FpOk X pins H' b := fun hn b hb => ⟨hn b hb, (f2 b hb).2⟩
  refine codeAny_forLoop_any (fun n s' => ∃ i σ' H', Inv X pins σ' H' s' ∧ tn i s'.heap ∧ (∀ b ∈ fp, H' b = none) ∧ W i n σ' H') ?_ m0 ⟨0, σ, H2, I2, st2, fun b hb => (f2 b hb).1, w0⟩
  rintro n s3 ⟨i, σ3, H3, I3, st3, fr3, w3⟩
  rcases turn i n σ3 H3 w3 with ⟨stop, qn⟩ | ⟨go, N, hN, step⟩
  · refine wpAny_passesOwn hp (thn (T.done X rfl rfl rfl hc i pins s3 σ3 H3 X.xe I3 (stat fr3) st3 stop) fun r s4 ⟨hr, I4⟩ => ?_)
    subst hr
    exact wpAny_execs_nil ⟨σ3, H3, I4, qn⟩
  · refine wpAny_passesOwn hp (thn (T.item X rfl rfl rfl hc i pins s3 σ3 H3 X.xe I3 (stat fr3) st3 go) fun r s4 ⟨u, hr, h4⟩ => ?_)
    subst hr
    refine wpAny_passesOwn hp (thn h4 fun _ s5 ⟨x, H5, I5, r5, y5, st5, fr5⟩ => ?_)
    have I5' := I5.pinned (stat fr5) (T.obj _ _ st5)
    refine wpAny_passesOwn hp (thn (hg _ s5 σ3 H5 x u _ I5' r5 (step x H5 y5)) fun _ s6 ⟨σ6, H6, I6, q6⟩ => ?_)
    refine wpAny_passesOwn hp (thn (hb _ s6 σ6 H6 _ I6 q6) fun f s7 q7 => ?_)
    have again : ∀ {σ7 : St} {H7 : Hp}, Inv X (pins ++ pinsAt fp s5.heap) σ7 H7 s7 → N σ7 H7 → ∃ m, m < n ∧ ∃ i σ' H', Inv X pins σ' H' s7 ∧ tn i s7.heap ∧ (∀ b ∈ fp, H' b = none) ∧ W i m σ' H' := fun {σ7 H7} I7 n7 => by
      obtain ⟨m', hm, w7⟩ := hN σ7 H7 n7
      refine ⟨m', hm, i + 1, σ7, H7, I7.unpinned, T.keep _ _ _ st5 fun b hb o e => (I7.pin (b, o) (List.mem_append_right _ (List.mem_append_right _ (mem_pinsAt hb e)))).1, fun b hb => ?_, w7⟩
      obtain ⟨o, e, d⟩ := T.obj _ _ st5 b hb
      exact (I7.pin (b, o) (List.mem_append_right _ (List.mem_append_right _ (mem_pinsAt hb e)))).2.1
    cases f with
    | next => obtain ⟨σ7, H7, I7, n7⟩ := q7; exact again I7 n7
    | cont => obtain ⟨σ7, H7, I7, n7⟩ := q7; exact again I7 n7
    | brk => obtain ⟨σ7, H7, I7, q7⟩ := q7; exact ⟨σ7, H7, I7.unpinned, q7⟩
    | ret v => obtain ⟨x7, σ7, H7, I7, r7, q7⟩ := q7; exact ⟨x7, σ7, H7, I7.unpinned, r7, q7⟩
end

/-! ### the forms one uses -/
/-- over a list that the body leaves as it is -/
theorem for_list {K : PySem.W.Frag} {a : Addr} {xs : List V} {g : TG} {tb : TS} {D : Ends} {σ : St} {H : Hp} (Pv : Nat → St → Hp → Prop) (h0 : Pv 0 σ H) (hl : ∀ i σ H, i ≤ xs.length → Pv i σ H → SqL K H a xs)
    (hs : ∀ i x σ H, xs[i]? = some x → Pv i σ H → g x σ H fun σ2 H2 => tb { D with nx := Pv (i + 1), ct := Pv (i + 1), bk := D.nx } σ2 H2) (hd : ∀ σ H, Pv xs.length σ H → D.nx σ H) :
    ∃ W : Nat → Nat → St → Hp → Prop, (∃ m, W 0 m σ H) ∧ ∀ i m σ H, W i m σ H →
      ((Itl K a).stop i H ∧ D.nx σ H) ∨ ((Itl K a).go i H ∧ ∃ N : St → Hp → Prop, (∀ σ' H', N σ' H' → ∃ m', m' < m ∧ W (i + 1) m' σ' H') ∧ ∀ x H', (Itl K a).yld i H x H' → g x σ H' fun σ2 H2 => tb { D with nx := N, ct := N, bk := D.nx } σ2 H2) := by
  refine ⟨fun i m σ H => m = xs.length - i ∧ i ≤ xs.length ∧ Pv i σ H, ⟨xs.length, by simp, Nat.zero_le _, h0⟩, ?_⟩
  rintro i m σ H ⟨rfl, hi, p⟩
  have q := hl i σ H hi p
  by_cases hlt : i < xs.length
  · refine .inr ⟨⟨xs, xs[i], q, by simp [hlt]⟩, Pv (i + 1), fun σ' H' p' => ⟨xs.length - (i + 1), by omega, rfl, hlt, p'⟩, fun x H' y => ?_⟩
    obtain ⟨e, y⟩ := y
    subst e
    exact hs i x σ _ (y xs q) p
  · have e : i = xs.length := by omega
    subst e
    exact .inl ⟨⟨xs, q, Nat.le_refl _⟩, hd σ H p⟩
theorem for_range {lo : Int} {n : Nat} {g : TG} {tb : TS} {D : Ends} {σ : St} {H : Hp} (Pv : Nat → St → Hp → Prop) (h0 : Pv 0 σ H)
    (hs : ∀ i σ H, i < n → Pv i σ H → g (.int (lo + i)) σ H fun σ2 H2 => tb { D with nx := Pv (i + 1), ct := Pv (i + 1), bk := D.nx } σ2 H2) (hd : ∀ σ H, Pv n σ H → D.nx σ H) :
    ∃ W : Nat → Nat → St → Hp → Prop, (∃ m, W 0 m σ H) ∧ ∀ i m σ H, W i m σ H →
      ((Itr lo n).stop i H ∧ D.nx σ H) ∨ ((Itr lo n).go i H ∧ ∃ N : St → Hp → Prop, (∀ σ' H', N σ' H' → ∃ m', m' < m ∧ W (i + 1) m' σ' H') ∧ ∀ x H', (Itr lo n).yld i H x H' → g x σ H' fun σ2 H2 => tb { D with nx := N, ct := N, bk := D.nx } σ2 H2) := by
  refine ⟨fun i m σ H => m = n - i ∧ i ≤ n ∧ Pv i σ H, ⟨n, by simp, Nat.zero_le _, h0⟩, ?_⟩
  rintro i m σ H ⟨rfl, hi, p⟩
  by_cases hlt : i < n
  · refine .inr ⟨hlt, Pv (i + 1), fun σ' H' p' => ⟨n - (i + 1), by omega, rfl, hlt, p'⟩, fun x H' y => ?_⟩
    obtain ⟨e, y⟩ := y
    subst e y
    exact hs i σ _ hlt p
  · have e : i = n := by omega
    subst e
    exact .inl ⟨Nat.le_refl _, hd σ H p⟩
/-- while, by a word and a measure of the state -/
theorem while_by {c : TT} {tb : TS} {D : Ends} {σ : St} {H : Hp} (Pv : St → Hp → Prop) (μ : St → Hp → Nat) (h0 : Pv σ H)
    (hs : ∀ σ H, Pv σ H → c σ H fun b H1 => if b = true then tb { D with nx := fun σ' H' => Pv σ' H' ∧ μ σ' H' < μ σ H, ct := fun σ' H' => Pv σ' H' ∧ μ σ' H' < μ σ H, bk := D.nx } σ H1 else D.nx σ H1)
    (mono : ∀ σ H Q Q', (∀ b H1, Q b H1 → Q' b H1) → c σ H Q → c σ H Q') : tWhile c tb D σ H := by
  refine ⟨fun m σ H => m = μ σ H ∧ Pv σ H, ⟨_, rfl, h0⟩, ?_⟩
  rintro m σ H ⟨rfl, p⟩
  refine mono σ H _ _ (fun b H1 q => ?_) (hs σ H p)
  cases b with
  | true => exact ⟨_, fun σ' H' ⟨p', l⟩ => ⟨_, l, rfl, p'⟩, q⟩
  | false => exact q
end L2

namespace L2
open PySem PySem.Spec PyProof.Rows

abbrev R2 := V → V → Hp → VK → Prop
/-- a two-place operation on values: f is binaryOp op, inplaceOp op or compareOp op -/
def OpR (X : Cx) (f : Value → Value → Sem Value) (r : R2) : Prop :=
  ∀ (pins : List (Addr × Obj)) (s : Shared) (σ : St) (H : Hp) (x y : V) (v u : Value) (Q : VK), Inv X pins σ H s → RelV x v → RelV y u → r x y H Q →
    wpAny (model X.prog X.w) X.A (f v u) (EP X pins σ Q) X.xe s
/-- a one-place operation -/
def UnR (X : Cx) (f : Value → Sem Value) (r : V → Hp → VK → Prop) : Prop :=
  ∀ (pins : List (Addr × Obj)) (s : Shared) (σ : St) (H : Hp) (x : V) (v : Value) (Q : VK), Inv X pins σ H s → RelV x v → r x H Q →
    wpAny (model X.prog X.w) X.A (f v) (EP X pins σ Q) X.xe s
/-- a call of a value that is known (a builtin, a type) with values -/
def CallR (X : Cx) (f : Value) (r : List V → Hp → VK → Prop) : Prop :=
  ∀ (pins : List (Addr × Obj)) (s : Shared) (σ : St) (H : Hp) (xs : List V) (us : List Value) (Q : VK), Inv X pins σ H s → Vals xs us → r xs H Q →
    wpAny (model X.prog X.w) X.A (call f us) (EP X pins σ Q) X.xe s
/-- a value's truth -/
def TruR (X : Cx) (r : V → Hp → (Bool → Hp → Prop) → Prop) : Prop :=
  ∀ (pins : List (Addr × Obj)) (s : Shared) (σ : St) (H : Hp) (x : V) (v : Value) (Q : Bool → Hp → Prop), Inv X pins σ H s → RelV x v → r x H Q →
    wpAny (model X.prog X.w) X.A (truthy v) (TP X pins σ Q) X.xe s

def tOp (r : R2) (ta tb : TE) : TE := fun σ H Q => ta σ H fun x H1 => tb σ H1 fun y H2 => r x y H2 Q
def tUn (r : V → Hp → VK → Prop) (ta : TE) : TE := fun σ H Q => ta σ H fun x H1 => r x H1 Q
/-- ints in, under C, and a value out -/
def rI (C : Int → Int → Prop) (g : Int → Int → V) : R2 := fun x y H Q => ∃ i j, x = .int i ∧ y = .int j ∧ C i j ∧ Q (g i j) H
def rI0 (g : Int → Int → V) : R2 := fun x y H Q => ∃ i j, x = .int i ∧ y = .int j ∧ Q (g i j) H
def rU (g : Int → V) : V → Hp → VK → Prop := fun x H Q => ∃ i, x = .int i ∧ Q (g i) H

section
variable {X : Cx} {a b c : Expr} {ta tb tc : TE} {pos : Pos}

theorem binT (ha : PE X a ta) (hb : PE X b tb) {pins : List (Addr × Obj)} {s : Shared} {σ : St} {H : Hp} {R : V → V → Hp → Prop} (I : Inv X pins σ H s)
    (h : ta σ H fun x H1 => tb σ H1 fun y H2 => R x y H2) {Q : Value → Shared → Prop} {f : Value → Value → Sem Value}
    (hf : ∀ v u s2 x y H2, Inv X pins σ H2 s2 → RelV x v → RelV y u → R x y H2 → wpAny (model X.prog X.w) X.A (f v u) Q X.xe s2) :
    wpAny (model X.prog X.w) X.A (eval a X.env) (fun v s₁ => wpAny (model X.prog X.w) X.A (eval b X.env) (fun u s₂ => wpAny (model X.prog X.w) X.A (f v u) Q X.xe s₂) X.xe s₁) X.xe s := by
  refine thn (ha pins s σ H _ I h) fun v s1 ⟨x, H1, I1, r1, q1⟩ => ?_
  refine thn (hb pins s1 σ H1 _ I1 q1) fun u s2 ⟨y, H2, I2, r2, q2⟩ => ?_
  exact hf v u s2 x y H2 I2 r1 r2 q2

theorem pe_op {op : Operator} {r : R2} (ho : OpR X (binaryOp op) r) (ha : PE X a ta) (hb : PE X b tb) : PE X (.BinOp a op b pos) (tOp r ta tb) := by
  intro pins s σ H Q I h
  exact wpAny_BinOp (binT ha hb I h fun v u s2 x y H2 I2 rx ry q => ho pins s2 σ H2 x y v u Q I2 rx ry q)
/-! ### ints -/
theorem opI {f : Value → Value → Sem Value} {C : Int → Int → Prop} {g : Int → Int → Int}
    (rule : ∀ (i j : Int) (t u : Tok) (s : Shared) (Q : Value → Shared → Prop) (E : Value → Shared → Prop), C i j → Q (.int (g i j) s.toks) { s with toks := s.toks + 1 } → wpAny (model X.prog X.w) X.A (f (.int i t) (.int j u)) Q E s) :
    OpR X f (rI C fun i j => .int (g i j)) := by
  intro pins s σ H x y v u Q I rx ry h
  obtain ⟨i, j, rfl, rfl, hc, q⟩ := h
  obtain ⟨t, rfl⟩ := rx
  obtain ⟨t', rfl⟩ := ry
  exact rule i j t t' s _ _ hc ⟨.int (g i j), H, I.tok _, ⟨_, rfl⟩, q⟩
theorem opI0 {f : Value → Value → Sem Value} {g : Int → Int → Int}
    (rule : ∀ (i j : Int) (t u : Tok) (s : Shared) (Q : Value → Shared → Prop) (E : Value → Shared → Prop), Q (.int (g i j) s.toks) { s with toks := s.toks + 1 } → wpAny (model X.prog X.w) X.A (f (.int i t) (.int j u)) Q E s) :
    OpR X f (rI0 fun i j => .int (g i j)) := by
  intro pins s σ H x y v u Q I rx ry h
  obtain ⟨i, j, rfl, rfl, q⟩ := h
  obtain ⟨t, rfl⟩ := rx
  obtain ⟨t', rfl⟩ := ry
  exact rule i j t t' s _ _ ⟨.int (g i j), H, I.tok _, ⟨_, rfl⟩, q⟩
theorem opB0 {f : Value → Value → Sem Value} {g : Int → Int → Bool}
    (rule : ∀ (i j : Int) (t u : Tok) (s : Shared) (Q : Value → Shared → Prop) (E : Value → Shared → Prop), Q (.bool (g i j)) s → wpAny (model X.prog X.w) X.A (f (.int i t) (.int j u)) Q E s) :
    OpR X f (rI0 fun i j => .bl (g i j)) := by
  intro pins s σ H x y v u Q I rx ry h
  obtain ⟨i, j, rfl, rfl, q⟩ := h
  obtain ⟨t, rfl⟩ := rx
  obtain ⟨t', rfl⟩ := ry
  exact rule i j t t' s _ _ ⟨.bl (g i j), H, I, rfl, q⟩

def CDiv (i j : Int) : Prop := 0 < j ∧ j < 1073741824
def CDivN (i j : Int) : Prop := j ≠ 0 ∧ j.natAbs < 1073741824
def CPow (i j : Int) : Prop := 0 ≤ j ∧ j ≤ 1000000 ∧ i.natAbs < 2 ^ 64
def CMul (i j : Int) : Prop := (-(2 ^ 64) < i ∧ i < 2 ^ 64) ∨ (-(2 ^ 64) < j ∧ j < 2 ^ 64)
theorem CMul.ok {i j : Int} (h : CMul i j) : IntMulOk i j := by
  rcases h with ⟨h1, h2⟩ | ⟨h1, h2⟩
  · exact .of_left (intBits_le_64 h1 h2)
  · exact .of_right (intBits_le_64 h1 h2)
theorem op_add : OpR X (binaryOp .Add) (rI0 fun i j => .int (i + j)) := opI0 fun _ _ _ _ _ _ _ q => add_int q
theorem op_sub : OpR X (binaryOp .Sub) (rI0 fun i j => .int (i - j)) := opI0 fun _ _ _ _ _ _ _ q => sub_int q
/-- // by a positive divisor -/
theorem op_fdiv : OpR X (binaryOp .FloorDiv) (rI CDiv fun i j => .int (i / j)) := opI fun i j _ _ _ _ _ hc q => by
  have h1 : (0 : Int) < j := hc.1
  have h2 : j < 1073741824 := hc.2
  exact floordiv_int (by omega) (by rw [Int.fdiv_eq_ediv_of_nonneg i (by omega)]; exact q) (.inl (PyProof.noPylong_small (by omega)))
/-- % by a positive divisor of any size -/
theorem op_mod : OpR X (binaryOp .Mod) (rI (fun _ j => 0 < j) fun i j => .int (i % j)) := opI fun i j _ _ _ _ _ hc q => by
  have h1 : (0 : Int) < j := hc
  exact mod_int' (by omega) (by rw [Int.fmod_eq_emod_of_nonneg i (by omega)]; exact q)
theorem op_pow : OpR X (binaryOp .Pow) (rI CPow fun i j => .int (i ^ j.toNat)) := opI fun _ _ _ _ _ _ _ hc q => pow_int_small hc.1 hc.2.1 hc.2.2 q
/-! ### bools among ints: n += (a < b) -/
end

/-! ### comparisons -/
/-- the scalars that == tells apart as data does -/
def scal : V → V → Bool
  | .non, .non => true | .non, .int _ => true | .int _, .non => true | .non, .bl _ => true | .bl _, .non => true | .non, .str _ => true | .str _, .non => true
  | .int _, .int _ => true | .bl _, .bl _ => true | .str _, .str _ => true | .byt _, .byt _ => true
  | .int _, .str _ => true | .str _, .int _ => true | .bl _, .str _ => true | .str _, .bl _ => true
  | _, _ => false
def rEq : R2 := fun x y H Q => scal x y = true ∧ Q (.bl (decide (x = y))) H
def rNe : R2 := fun x y H Q => scal x y = true ∧ Q (.bl (!decide (x = y))) H

theorem dec_int {i j : Int} : decide (V.int i = V.int j) = (i == j) := by
  rw [Bool.eq_iff_iff]
  simp
theorem dec_bl {i j : Bool} : decide (V.bl i = V.bl j) = (i == j) := by
  rw [Bool.eq_iff_iff]
  simp
theorem dec_str {i j : Str} : decide (V.str i = V.str j) = (i == j) := by
  rw [Bool.eq_iff_iff]
  simp
theorem dec_byt {i j : Array UInt8} : decide (V.byt i = V.byt j) = (i.toList == j.toList) := by
  rw [Bool.eq_iff_iff]
  cases i
  cases j
  simp

section
variable {X : Cx} {a b c : Expr} {ta tb tc : TE} {pos : Pos}
theorem fin_bl {pins : List (Addr × Obj)} {σ : St} {H : Hp} {s : Shared} {Q : VK} {k k' : Bool} (I : Inv X pins σ H s) (q : Q (.bl k) H) (e : k = k') : EP X pins σ Q (.bool k') s := by
  subst e
  exact ⟨.bl k, H, I, rfl, q⟩
theorem op_eq : OpR X (compareOp .Eq) rEq := by
  intro pins s σ H x y v u Q I rx ry h
  obtain ⟨hs, q⟩ := h
  cases x with
  | non =>
    cases rx
    cases y with
    | non => cases ry; exact PySem.EqNone.eq_none_none (fin_bl I q (by simp))
    | bl j => cases ry; exact PySem.EqNone.eq_none_bool (fin_bl I q (by simp))
    | int j => obtain ⟨t', rfl⟩ := ry; exact PySem.EqNone.eq_none_int (fin_bl I q (by simp))
    | str j => obtain ⟨t', rfl⟩ := ry; exact PySem.EqNone.eq_none_str (fin_bl I q (by simp))
    | _ => exact absurd (show false = true from hs) Bool.false_ne_true
  | bl i =>
    cases rx
    cases y with
    | non => cases ry; exact PySem.EqNone.eq_bool_none (fin_bl I q (by simp))
    | bl j => cases ry; exact eq_bool (fin_bl I q dec_bl)
    | str j => obtain ⟨t', rfl⟩ := ry; exact PySem.EqMixed.eq_bool_str (fin_bl I q (by simp))
    | _ => exact absurd (show false = true from hs) Bool.false_ne_true
  | int i =>
    obtain ⟨t, rfl⟩ := rx
    cases y with
    | non => cases ry; exact PySem.EqNone.eq_int_none (fin_bl I q (by simp))
    | int j => obtain ⟨t', rfl⟩ := ry; exact eq_int (fin_bl I q dec_int)
    | str j => obtain ⟨t', rfl⟩ := ry; exact PySem.EqMixed.eq_int_str (fin_bl I q (by simp))
    | _ => exact absurd (show false = true from hs) Bool.false_ne_true
  | str i =>
    obtain ⟨t, rfl⟩ := rx
    cases y with
    | non => cases ry; exact PySem.EqNone.eq_str_none (fin_bl I q (by simp))
    | bl j => cases ry; exact PySem.EqMixed.eq_str_bool (fin_bl I q (by simp))
    | int j => obtain ⟨t', rfl⟩ := ry; exact PySem.EqMixed.eq_str_int (fin_bl I q (by simp))
    | str j => obtain ⟨t', rfl⟩ := ry; exact eq_str (fin_bl I q dec_str)
    | _ => exact absurd (show false = true from hs) Bool.false_ne_true
  | byt i =>
    obtain ⟨t, rfl⟩ := rx
    cases y with
    | byt j => obtain ⟨t', rfl⟩ := ry; exact PySem.W.eq_bytes (fin_bl I q dec_byt)
    | _ => exact absurd (show false = true from hs) Bool.false_ne_true
  | _ => cases y <;> exact absurd (show false = true from hs) Bool.false_ne_true
theorem op_ne : OpR X (compareOp .NotEq) rNe := by
  intro pins s σ H x y v u Q I rx ry h
  obtain ⟨hs, q⟩ := h
  cases x with
  | non =>
    cases rx
    cases y with
    | non => cases ry; exact PySem.EqNone.ne_none_none (fin_bl I q (by simp))
    | bl j => cases ry; exact PySem.EqNone.ne_none_bool (fin_bl I q (by simp))
    | int j => obtain ⟨t', rfl⟩ := ry; exact PySem.EqNone.ne_none_int (fin_bl I q (by simp))
    | str j => obtain ⟨t', rfl⟩ := ry; exact PySem.EqNone.ne_none_str (fin_bl I q (by simp))
    | _ => exact absurd (show false = true from hs) Bool.false_ne_true
  | bl i =>
    cases rx
    cases y with
    | non => cases ry; exact PySem.EqNone.ne_bool_none (fin_bl I q (by simp))
    | bl j => cases ry; exact ne_bool (fin_bl I q (congrArg not dec_bl))
    | str j => obtain ⟨t', rfl⟩ := ry; exact PySem.EqMixed.ne_bool_str (fin_bl I q (by simp))
    | _ => exact absurd (show false = true from hs) Bool.false_ne_true
  | int i =>
    obtain ⟨t, rfl⟩ := rx
    cases y with
    | non => cases ry; exact PySem.EqNone.ne_int_none (fin_bl I q (by simp))
    | int j => obtain ⟨t', rfl⟩ := ry; exact ne_int (fin_bl I q (congrArg not dec_int))
    | str j => obtain ⟨t', rfl⟩ := ry; exact PySem.EqMixed.ne_int_str (fin_bl I q (by simp))
    | _ => exact absurd (show false = true from hs) Bool.false_ne_true
  | str i =>
    obtain ⟨t, rfl⟩ := rx
    cases y with
    | non => cases ry; exact PySem.EqNone.ne_str_none (fin_bl I q (by simp))
    | bl j => cases ry; exact PySem.EqMixed.ne_str_bool (fin_bl I q (by simp))
    | int j => obtain ⟨t', rfl⟩ := ry; exact PySem.EqMixed.ne_str_int (fin_bl I q (by simp))
    | str j => obtain ⟨t', rfl⟩ := ry; exact ne_str (fin_bl I q (congrArg not dec_str))
    | _ => exact absurd (show false = true from hs) Bool.false_ne_true
  | byt i =>
    obtain ⟨t, rfl⟩ := rx
    cases y with
    | byt j => obtain ⟨t', rfl⟩ := ry; exact PySem.W.ne_bytes (fin_bl I q (congrArg not dec_byt))
    | _ => exact absurd (show false = true from hs) Bool.false_ne_true
  | _ => cases y <;> exact absurd (show false = true from hs) Bool.false_ne_true

theorem op_lt : OpR X (compareOp .Lt) (rI0 fun i j => .bl (decide (i < j))) := opB0 fun _ _ _ _ _ _ _ q => lt_int q
theorem op_gt : OpR X (compareOp .Gt) (rI0 fun i j => .bl (decide (j < i))) := opB0 fun _ _ _ _ _ _ _ q => gt_int q
theorem op_ge : OpR X (compareOp .GtE) (rI0 fun i j => .bl (decide (j ≤ i))) := opB0 fun _ _ _ _ _ _ _ q => ge_int q
/-- is None, is not None: the right side a value none -/
theorem op_isN : OpR X (compareOp .Is) (fun x y H Q => y = .non ∧ Q (.bl (decide (x = .non))) H) := by
  intro pins s σ H x y v u Q I rx ry h
  obtain ⟨rfl, q⟩ := h
  cases ry
  refine is_none_gen (fin_bl I q ?_)
  cases x <;> first
    | (cases rx; rfl)
    | (obtain ⟨t, rfl⟩ := rx; rfl)
theorem op_notN : OpR X (compareOp .IsNot) (fun x y H Q => y = .non ∧ Q (.bl (!decide (x = .non))) H) := by
  intro pins s σ H x y v u Q I rx ry h
  obtain ⟨rfl, q⟩ := h
  cases ry
  refine isnot_none_gen (fin_bl I q ?_)
  cases x <;> first
    | (cases rx; rfl)
    | (obtain ⟨t, rfl⟩ := rx; rfl)

/-- is, is not of two objects that are tracked lists or instances -/
def isObj : HO → Bool
  | .lst _ => true
  | .ins _ _ _ => true
  | _ => false
theorem nomark (b : Expr) {op : CmpOp} (h : op ≠ .In := by decide) (h2 : op ≠ .NotIn := by decide) : behindInMarks op b = false := by
  have e1 : (op == CmpOp.In) = false := by cases op <;> first | rfl | exact absurd rfl h
  have e2 : (op == CmpOp.NotIn) = false := by cases op <;> first | rfl | exact absurd rfl h2
  cases b <;> simp [behindInMarks, e1, e2]
/-- a comparison as a value; hm: nomark b, or (for in, not in) by with_unfolding_all rfl -/
theorem pe_cmpR {op : CmpOp} {r : R2} (ho : OpR X (compareOp op) r) (ha : PE X a ta) (hb : PE X b tb) (hm : behindInMarks op b = false) : PE X (.Compare a [op] [b] pos) (tOp r ta tb) := by
  intro pins s σ H Q I h
  exact wpAny_Compare1 (binT ha hb I h fun v u s2 x y H2 I2 rx ry q => ho pins s2 σ H2 x y v u Q I2 rx ry q) hm
/-- a reading of a value as a test -/
def tTest (t : TE) : TT := fun σ H Q => t σ H fun x H' => ∃ k, x = .bl k ∧ Q k H'
theorem pt_cmpR {op : CmpOp} {r : R2} (ho : OpR X (compareOp op) r) (ha : PE X a ta) (hb : PE X b tb) (hm : behindInMarks op b = false) : PT X (.Compare a [op] [b] pos) (tTest (tOp r ta tb)) := by
  intro pins s σ H Q I h
  refine wpAny_isTrue_Compare1 (thn (ha pins s σ H _ I h) fun v s1 ⟨x, H1, I1, r1, q1⟩ => thn (hb pins s1 σ H1 _ I1 q1) fun u s2 ⟨y, H2, I2, r2, q2⟩ =>
    thn (ho pins s2 σ H2 x y v u _ I2 r1 r2 q2) fun c s3 ⟨z, H3, I3, r3, k, e, q3⟩ => ?_) hm
  subst e
  cases r3
  exact wpAny_truthy_bool ⟨H3, I3, q3⟩
/-- a op1 b op2 c -/
def tChain (r r' : R2) (ta tb tc : TE) : TE := fun σ H Q => ta σ H fun x H1 => tb σ H1 fun y H2 => r x y H2 fun z H3 => ∃ k, z = .bl k ∧
  (if k = true then tc σ H3 fun w' H4 => r' y w' H4 Q else Q (.bl false) H3)
/-! ### truth -/
/-- a value's truth by the abstract heap -/
def TruV (K : PySem.W.Frag) (x : V) (H : Hp) (k : Bool) : Prop :=
  match x with
  | .non => k = false
  | .bl b => k = b
  | .int i => k = (i != 0)
  | .str y => y.length ≤ sizeLine ∧ k = ((y.length : Int) != 0)
  | .byt y => y.size ≤ sizeLine ∧ k = ((y.size : Int) != 0)
  | .ref p => (∃ xs, SqL K H p xs ∧ k = !xs.isEmpty) ∨ (∃ xs, SqT K H p xs ∧ k = !xs.isEmpty) ∨ ∃ kvs, H p = some (.dK kvs) ∧ k = !kvs.isEmpty
  | _ => False
theorem line63 : (sizeLine : Nat) < 2 ^ 63 := by rw [sizeLine_eq]; decide
/-! ### strs and bytes -/
def PlainIxT (b : Expr) : Prop := ∀ o i, subscripted b false o i = operate [o, i] (getItem o i)
/-! ### scalar builtins, by CallR -/
theorem vals1 {x : V} {us : List Value} (r : Vals [x] us) : ∃ u, us = [u] ∧ RelV x u := by
  cases r with
  | cons r1 r2 => cases r2; exact ⟨_, rfl, r1⟩
theorem vals2 {x y : V} {us : List Value} (r : Vals [x, y] us) : ∃ u w', us = [u, w'] ∧ RelV x u ∧ RelV y w' := by
  cases r with
  | cons r1 r2 =>
    cases r2 with
    | cons r3 r4 => cases r4; exact ⟨_, _, rfl, r1, r3⟩
theorem call_max2 (hc : X.calm = true) : CallR X (.builtin "max") (fun xs H Q => ∃ i j, xs = [.int i, .int j] ∧ Q (.int (if j > i then j else i)) H) := by
  intro pins s σ H xs us Q I r h
  obtain ⟨i, j, rfl, q⟩ := h
  obtain ⟨u, w', rfl, ⟨t, rfl⟩, ⟨t', rfl⟩⟩ := vals2 r
  refine max_two_ints (I.ok.hd hc) fun h' tk k => ⟨_, H, I.kept k, ?_, q⟩
  by_cases hj : j > i
  · rw [if_pos hj, if_pos hj]; exact ⟨_, rfl⟩
  · rw [if_neg hj, if_neg hj]; exact ⟨_, rfl⟩
theorem call_int1 : CallR X (.type "int") (fun xs H Q => (∃ i, xs = [.int i] ∧ Q (.int i) H) ∨ ∃ k, xs = [.bl k] ∧ Q (.int (if k then 1 else 0)) H) := by
  intro pins s σ H xs us Q I r h
  rcases h with ⟨i, rfl, q⟩ | ⟨k, rfl, q⟩
  · obtain ⟨u, rfl, t, rfl⟩ := vals1 r
    exact call_int_int ⟨.int i, H, I, ⟨_, rfl⟩, q⟩
  · obtain ⟨u, rfl, r1⟩ := vals1 r
    cases r1
    exact call_int_bool ⟨.int (if k then 1 else 0), H, I.tok _, ⟨_, rfl⟩, q⟩
/-- len of a str, a bytes, a list, a tuple -/
def LenV (K : PySem.W.Frag) (x : V) (H : Hp) (n : Nat) : Prop :=
  match x with
  | .str y => y.length ≤ sizeLine ∧ n = y.length
  | .byt y => y.size ≤ sizeLine ∧ n = y.size
  | .ref p => (∃ xs, SqL K H p xs ∧ n = xs.length) ∨ ∃ xs, SqT K H p xs ∧ n = xs.length
  | _ => False
end
end L2

namespace L2
open PySem PySem.Spec PyProof.Rows

/-! ### an instance, its attributes a map -/
structure ObjM (h : Heap) (x dx C : Addr) (mA : Str → Option Value) : Prop where
  obj : h.get? x = some (PySem.W.instObj C dx)
  ns : h.Ns1 dx mA
  ne : dx ≠ x

theorem lookIn_ns {h : Heap} {dx : Addr} {mA : Str → Option Value} (n : h.Ns1 dx mA) : ∃ od, h.get? dx = some od ∧ ∀ name, PySem.W.lookIn name od = some (mA name) := by
  obtain ⟨o, es, ep, ho, hd, hk, _, hm⟩ := n
  refine ⟨o, ho, fun name => ?_⟩
  have e := hm name
  unfold nsFind findBy at e
  rw [← Array.find?_toList] at e
  unfold PySem.W.lookIn
  rw [hd]
  dsimp only
  split
  · rename_i y q
    rw [q] at e
    exact congrArg some e
  · rename_i q
    rw [q] at e
    have a : es.toList.any (·.refKey) = false := by
      rw [List.any_eq_false]
      intro y hy
      obtain ⟨z, t, hkey⟩ := hk y (Array.mem_toList_iff.mp hy)
      simp [DictEntry.refKey, hkey]
    have a' : ¬ es.toList.any (·.refKey) = true := by rw [a]; exact Bool.false_ne_true
    rw [if_neg a']
    exact congrArg some e

theorem ObjM.look {h : Heap} {x dx C : Addr} {mA : Str → Option Value} (I : ObjM h x dx C mA) : ∃ od, PySem.W.InstAt h x (PySem.W.instObj C dx) C (some od) ∧ ∀ name, PySem.W.lookIn name od = some (mA name) :=
  let ⟨od, ho, hl⟩ := lookIn_ns I.ns
  ⟨od, ⟨I.obj, rfl, rfl, ho⟩, hl⟩

section
variable {prog : Program} {w : World} {A : Around} {E : Value → Shared → Prop} {s : Shared} {K : PySem.W.Frag} {x dx C f : Addr} {mA : Str → Option Value} {name : Str} {v : Value}

end

/-! ### the attributes as a list of pairs -/
def putF (f : Str) (v : V) : List (Str × V) → List (Str × V)
  | [] => [(f, v)]
  | (g, x) :: r => if g = f then (g, v) :: r else (g, x) :: putF f v r
theorem RelO.some_of {v : V} {o : Option Value} (r : RelO (some v) o) : ∃ u, o = some u ∧ RelV v u := by
  cases o with
  | none => exact (show False from r).elim
  | some u => exact ⟨u, rfl, r⟩
section
variable {P : Program} {w : World} {H H' : Hp} {h h' : Heap} {a C dx : Addr} {fs fs' : List (Str × V)}
theorem ins_get (hok : HOk P w H h) (e : H a = some (.ins C dx fs)) : ∃ mA, ObjM h a dx C mA ∧ (∀ f, RelO (fs.lookup f) (mA f)) ∧ PySem.Within mA (fs.map (·.1)) ∧ fs.length ≤ 1000 ∧ H dx = some (.own a) := by
  obtain ⟨d, z, ne, ob, mA, n, r, q⟩ := (show ObjOk P w H h a (.ins C dx fs) from hok a _ e)
  exact ⟨mA, ⟨ob, n, ne⟩, r, q, z, d⟩
end

/-! ### what of the text a class must have -/
structure Cls (K : PySem.W.Frag) (C : Addr) : Prop where
  pg : PySem.W.plainGet K C Str.empty = true
  hd : PySem.W.hasDictIn K C = true
  po : PySem.W.plainOver K C = true
  sa : PySem.W.findIn K (.ref C) "__setattr__" = some (some (.builtin "object.__setattr__"))
theorem Cls.get {K : PySem.W.Frag} {C : Addr} (c : Cls K C) (f : Str) : PySem.W.plainGet K C f = true := c.pg
/-- no class of it has the name -/
def NoAttr (K : PySem.W.Frag) (C : Addr) (f : Str) : Prop := PySem.W.findIn K (.ref C) f = some none
/-- a constant of the class -/
structure Con (K : PySem.W.Frag) (C : Addr) (f : Str) (v : V) (u : Value) : Prop where
  at_ : PySem.W.findIn K (.ref C) f = some (some u)
  rel : RelV v u
  get : PySem.W.specialIn K u "__get__" = some none
  cp : PySem.W.copiedNames.contains f = false
/-- a method: a plain def of the class or of one above it -/
structure Meth (K : PySem.W.Frag) (C : Addr) (m : Str) (f : Addr) : Prop where
  at_ : PySem.W.findIn K (.ref C) m = some (some (.ref f))
  fn : PySem.W.isFn K (.ref f) = true
  kp : PySem.W.keepIn K (.ref f) = true

section
variable {X : Cx} {pins : List (Addr × Obj)} {σ : St} {H : Hp} {s : Shared} {a C dx : Addr} {fs : List (Str × V)} {f : Str} {v : V} {A : Around} {E : Value → Shared → Prop}

end

/-! ### readings and rules -/
/-- e.f, an attribute of the instance -/
def tFld (K : PySem.W.Frag) (ta : TE) (f : Str) : TE := fun σ H Q => ta σ H fun x H1 => ∃ a C dx fs v, x = .ref a ∧ H1 a = some (.ins C dx fs) ∧ Cls K C ∧ NoAttr K C f ∧ fs.lookup f = some v ∧ Q v H1
/-- e.f, a constant of the class -/
def tCon (K : PySem.W.Frag) (ta : TE) (f : Str) : TE := fun σ H Q => ta σ H fun x H1 => ∃ a C dx fs v u, x = .ref a ∧ H1 a = some (.ins C dx fs) ∧ Cls K C ∧ Con K C f v u ∧ fs.lookup f = none ∧ Q v H1
/-- e.f = value -/
def sFld (K : PySem.W.Frag) (ta tv : TE) (f : Str) : TS := fun D σ H => tv σ H fun y H1 => ta σ H1 fun x H2 => ∃ a C dx fs, x = .ref a ∧ H2 a = some (.ins C dx fs) ∧ Cls K C ∧ NoAttr K C f ∧ fs.length < 1000 ∧
  D.nx σ (upd H2 a (.ins C dx (putF f y fs)))
/-- an augmented operator on two values -/
def InOp (X : Cx) (op : Operator) (rd : V → V → Hp → VK → Prop) : Prop :=
  ∀ (pins : List (Addr × Obj)) (s : Shared) (σ : St) (H : Hp) (x y : V) (u v : Value) (Q : VK), Inv X pins σ H s → RelV x u → RelV y v → rd x y H Q → wpAny (model X.prog X.w) X.A (inplaceOp op u v) (EP X pins σ Q) X.xe s
/-- e.f op= value -/
def sFldAug (K : PySem.W.Frag) (ta tv : TE) (rd : V → V → Hp → VK → Prop) (f : Str) : TS := fun D σ H => ta σ H fun x H1 => ∃ a C dx fs v, x = .ref a ∧ H1 a = some (.ins C dx fs) ∧ Cls K C ∧ NoAttr K C f ∧ fs.lookup f = some v ∧
  tv σ H1 fun y H2 => rd v y H2 fun z H3 => ∃ dx' fs', H3 a = some (.ins C dx' fs') ∧ fs'.length < 1000 ∧ D.nx σ (upd H3 a (.ins C dx' (putF f z fs')))

section
variable {X : Cx} {o e value : Expr} {f : Str} {pos pos' tpos : Pos} {ta tv : TE}
def rAdd : V → V → Hp → VK → Prop := fun x y H Q => ∃ i j, x = .int i ∧ y = .int j ∧ Q (.int (i + j)) H
def rSub : V → V → Hp → VK → Prop := fun x y H Q => ∃ i j, x = .int i ∧ y = .int j ∧ Q (.int (i - j)) H
end

/-! ### isinstance -/
section
variable {X : Cx} {pins : List (Addr × Obj)} {σ : St} {H : Hp} {s : Shared} {A : Around} {E : Value → Shared → Prop} {Q : Value → Shared → Prop} {c : Value} {b : Bool}
/-- the type of a value, as the fragment's deciders take it; for an instance its class -/
inductive TyOf (K : PySem.W.Frag) (H : Hp) : V → Value → Prop where
  | non : TyOf K H .non (.type "NoneType")
  | bl (x : Bool) : TyOf K H (.bl x) (.type "bool")
  | int (i : Int) : TyOf K H (.int i) (.type "int")
  | str (x : Str) : TyOf K H (.str x) (.type "str")
  | flt (x : UInt64) : TyOf K H (.flt x) (.type "float")
  | lst {a : Addr} {xs : List V} (e : H a = some (.lst xs)) : TyOf K H (.ref a) (.type "list")
  | frz {a : Addr} {o : Obj} {xs : List V} (e : H a = some (.frz o (.lst xs))) : TyOf K H (.ref a) (.type "list")
  | tup {a : Addr} {xs : List V} (e : H a = some (.tup xs)) : TyOf K H (.ref a) (.type "tuple")
  | dK {a : Addr} {kvs : List (Key × V)} (e : H a = some (.dK kvs)) : TyOf K H (.ref a) (.type "dict")
  | dT {a : Addr} {kvs : List ((List Int × Int) × V)} (e : H a = some (.dT kvs)) : TyOf K H (.ref a) (.type "dict")
  | ins {a C dx : Addr} {fs : List (Str × V)} (e : H a = some (.ins C dx fs)) (cl : Cls K C) (ha : PySem.W.findIn K (.ref C) "__class__" = some (some (.builtin "object.__class__")))
      (hn : PySem.W.specialIn K (.builtin "object.__class__") "__get__" = some (some (.builtin "getset_descriptor.__get__"))) (htk : PySem.W.takesIn K (.builtin "object.__class__") = some true)
      (hm : PySem.W.mroIn K C (.type "object") = some true) : TyOf K H (.ref a) (.ref C)
/-- isinstance(x, c) for one class c, a built-in or an own one: kitOne's answer -/
theorem isinst_ok {x : V} {u t : Value} (I : Inv X pins σ H s) (rx : RelV x u) (ty : TyOf X.K H x t) (e : PySem.W.kitOne X.K t c = some b) (h : ∀ tk, Q (.bool b) { s with toks := tk }) :
    wpAny (model X.prog X.w) A (call (.builtin "isinstance") [u, c]) Q E s := by
  cases ty with
  | non => cases (show u = Value.none from rx); exact PySem.W.kia_one PySem.W.kitx_none I.kIn True.intro e (fun z => nomatch z) h
  | bl y => cases (show u = Value.bool y from rx); exact PySem.W.kia_one PySem.W.kitx_bool I.kIn True.intro e (fun z => nomatch z) h
  | int i => obtain ⟨t, q⟩ := (show ∃ t, u = Value.int i t from rx); cases q; exact PySem.W.kia_one PySem.W.kitx_int I.kIn True.intro e (fun z => nomatch z) h
  | str y => obtain ⟨t, q⟩ := (show ∃ t, u = Value.str y t from rx); cases q; exact PySem.W.kia_one PySem.W.kitx_str I.kIn True.intro e (fun z => nomatch z) h
  | flt y => obtain ⟨t, q⟩ := (show ∃ t, u = Value.float y t from rx); cases q; exact PySem.W.kia_one PySem.W.kitx_float I.kIn True.intro e (fun z => nomatch z) h
  | @lst a xs ea =>
    cases (show u = Value.ref a from rx)
    obtain ⟨_, _, n, _, h1⟩ := (show ObjOk X.prog X.w H s.heap a (.lst xs) from I.hok a _ ea)
    exact PySem.W.kia_one PySem.W.kitx_list I.kIn ⟨_, h1, rfl⟩ e (fun z => nomatch z) h
  | @frz a ob xs ea =>
    cases (show u = Value.ref a from rx)
    obtain ⟨_, _, _, n, _, h1⟩ := (show ObjOk X.prog X.w H s.heap a (.frz ob (.lst xs)) from I.hok a _ ea)
    exact PySem.W.kia_one PySem.W.kitx_list I.kIn ⟨_, h1, rfl⟩ e (fun z => nomatch z) h
  | @tup a xs ea =>
    cases (show u = Value.ref a from rx)
    obtain ⟨_, _, _, p⟩ := (show ObjOk X.prog X.w H s.heap a (.tup xs) from I.hok a _ ea)
    obtain ⟨o, h1, h2, _⟩ := p
    exact PySem.W.kia_one PySem.W.kitx_tuple I.kIn ⟨o, h1, h2⟩ e (fun z => nomatch z) h
  | @dK a kvs ea =>
    cases (show u = Value.ref a from rx)
    obtain ⟨_, _, vs, _, p⟩ := (show ObjOk X.prog X.w H s.heap a (.dK kvs) from I.hok a _ ea)
    obtain ⟨o, es, ep, h1, h2, _⟩ := p
    exact PySem.W.kia_one PySem.W.kitx_dict I.kIn ⟨o, h1, h2.1⟩ e (fun z => nomatch z) h
  | @dT a kvs ea =>
    cases (show u = Value.ref a from rx)
    obtain ⟨_, _, xs, _, o, es, ep, h1, h2, _⟩ := (show ObjOk X.prog X.w H s.heap a (.dT kvs) from I.hok a _ ea)
    exact PySem.W.kia_one PySem.W.kitx_dict I.kIn ⟨o, h1, h2.1⟩ e (fun z => nomatch z) h
  | @ins a C dx fs ea cl ha hn htk hm =>
    cases (show u = Value.ref a from rx)
    obtain ⟨mA, O, _⟩ := ins_get I.hok ea
    obtain ⟨od, J, _⟩ := O.look
    exact PySem.W.kia_one (PySem.W.kitx_own (cl.get _) cl.hd ha hn htk hm) I.kIn J e (fun z => nomatch z) h
end
end L2

namespace L2
open PySem PySem.Spec PyProof.Rows

/-! ### room -/
structure Room (k : Nat) (A : Around) : Prop where
  hd : A.handled = none
  dp : A.depth + 3 * k + 5 < recursionLimit
  un : A.units + 16 * k + 200 < cLine
theorem Room.mono {j k : Nat} {A : Around} (r : Room k A) (h : j ≤ k) : Room j A := ⟨r.hd, by have := r.dp; omega, by have := r.un; omega⟩
theorem Room.deeper {k : Nat} {A : Around} (r : Room (k + 1) A) (env : Env) : Room k (A.deeper env) :=
  ⟨r.hd, by have := r.dp; show A.depth + 1 + 3 * k + 5 < _; omega, by have := r.un; show A.units + 3 + 16 * k + 200 < _; omega⟩
theorem Room.in1 {k : Nat} {A : Around} (r : Room (k + 1) A) : Room k A.in1 :=
  ⟨r.hd, by have := r.dp; show A.depth + 3 * k + 5 < _; omega, by have := r.un; show A.units + 1 + 16 * k + 200 < _; omega⟩
theorem Room.depth {k : Nat} {A : Around} (r : Room k A) : A.depth < recursionLimit := by have := r.dp; omega
theorem Room.units {k : Nat} {A : Around} (r : Room k A) : A.units + 64 < cLine := by have := r.un; omega
/-! ### argument lists and displays -/
def tNil : TA := fun _ H Q => Q [] H
def tCons (ta : TE) (tr : TA) : TA := fun σ H Q => ta σ H fun x H1 => tr σ H1 fun xs H2 => Q (x :: xs) H2
section
variable {X : Cx} {e : Expr} {es : List Expr} {te : TE} {t : TA} {pos : Pos}
theorem pa_nil : PA X [] tNil := fun _ _ _ _ H Q I h => Calls.spliced_nil ⟨[], H, I, .nil, h⟩
theorem pa_cons (ha : PE X e te) (hr : PA X es t) (hs : starEach (e :: es) X.env = (false, eval e X.env) :: starEach es X.env := by rfl) : PA X (e :: es) (tCons te t) := by
  intro pos pins s σ H Q I h
  rw [hs]
  show wpAny _ _ (spliced ((false, eval e X.env) :: backTo pos (starEach es X.env))) _ _ s
  refine Calls.spliced_cons (thn (ha pins s σ H _ I h) fun u s1 ⟨x, H1, I1, r1, q1⟩ => ?_)
  exact thn (hr pos pins s1 σ H1 _ I1 q1) fun us s2 ⟨xs, H2, I2, r2, q2⟩ => ⟨x :: xs, H2, I2, .cons r1 r2, q2⟩

/-- a tuple, a list of written items -/
def tTup (t : TA) : TE := fun σ H Q => t σ H fun xs H1 => xs.length ≤ sizeLine ∧ ∀ p, H1 p = none → Q (.ref p) (upd H1 p (.tup xs))
def tLst (t : TA) : TE := fun σ H Q => t σ H fun xs H1 => xs.length ≤ sizeLine ∧ ∀ p, H1 p = none → Q (.ref p) (upd H1 p (.lst xs))
theorem pe_tup {x1} (h : PA X es t) : PE X (.Tuple es x1 pos) (tTup t) := by
  intro pins s σ H Q I hq
  refine wpAny_Tuple_spliced (thn (h pos pins s σ H _ I hq) fun us s1 ⟨xs, H1, I1, r, z, q⟩ => ⟨by rw [← r.length]; exact z, ?_⟩)
  have hf : H1 s1.heap.objs.size = none := I1.hok.fresh (Nat.le_refl _)
  refine ⟨.ref s1.heap.objs.size, upd H1 s1.heap.objs.size (.tup xs), I1.laid (t' := s1.toks) (fun b u e => Heap.get?_push_of_some _ e) (Nat.le_refl _) ?_, rfl, q _ hf⟩
  exact ⟨⟨z, ⟨_, Heap.get?_push_size _ rfl, rfl⟩⟩, us, r, ⟨_, Heap.get?_push_size _ rfl, rfl, _, rfl⟩⟩
theorem pe_lst (h : PA X es t) : PE X (.List es pos) (tLst t) := by
  intro pins s σ H Q I hq
  refine wpAny_List_spliced (thn (h pos pins s σ H _ I hq) fun us s1 ⟨xs, H1, I1, r, z, q⟩ => ⟨by rw [← r.length]; exact z, ?_⟩)
  have hf : H1 s1.heap.objs.size = none := I1.hok.fresh (Nat.le_refl _)
  refine ⟨.ref s1.heap.objs.size, upd H1 s1.heap.objs.size (.lst xs), I1.laid (t' := s1.toks) (fun b u e => Heap.get?_push_of_some _ e) (Nat.le_refl _) ?_, rfl, q _ hf⟩
  exact ⟨z, us, 0, r, Heap.get?_push_size _ rfl⟩
end

/-! ### what a def promises -/
/-- a def's promise: the bound arguments in the parameters' order, the heap, the wanted end, the wanted exception -/
abbrev Sp := List V → Hp → VK → XK → Prop
/-- how an exception lies behind a call (file 08 gives it): the callers' frames, abstract heap and state ahead of the call, the wish, the exception, the state -/
abbrev CXT := List Env → Hp → Shared → XK → Value → Shared → Prop

/-- the state at a call -/
structure Env0 (P : Program) (w : World) (K : PySem.W.Frag) (mg : Str → Option Value) (base : Heap) (A : Around) (outer : List Env) (s : Shared) (H : Hp) : Prop where
  frames : A.frames = some outer
  mod : Mod K mg base
  bs : ∀ b o, base.get? b = some o → s.heap.get? b = some o ∧ H b = none
  bsz : base.objs.size ≤ s.heap.objs.size
  funs : s.heap.FunFrames base outer
  frf : ∀ b ∈ frs outer, H b = none
  hok : HOk P w H s.heap
  bare : AllBare s.gens
/-- a call's end -/
def CE (outer : List Env) (P : Program) (w : World) (H : Hp) (s : Shared) (Q : VK) (u : Value) (s' : Shared) : Prop :=
  ∃ v H', s'.os = s.os ∧ AllBare s'.gens ∧ Un (frs outer) [] H H' s.heap s'.heap ∧ HOk P w H' s'.heap ∧ RelV v u ∧ Q v H'
def CR (CX : CXT) (outer : List Env) (P : Program) (w : World) (H : Hp) (s : Shared) (Q : VK) (E : XK) (r : Result) (s' : Shared) : Prop :=
  match r with
  | .ok (.ret u) => CE outer P w H s Q u s'
  | .ok _ => False
  | .error e => CX outer H s E e s'
structure FnOk (P : Program) (w : World) (K : PySem.W.Frag) (mg : Str → Option Value) (base : Heap) (CX : CXT) (k : Nat) (f : Addr) (fd : FuncData) (ps : List Str) (sp : Sp) : Prop where
  len : ∀ vs H Q E, sp vs H Q E → vs.length = ps.length
  run : ∀ (A : Around) (outer : List Env) (s : Shared) (H : Hp) (args : Args) (us : List Value) (vs : List V) (Q : VK) (E : XK), Room k A → Env0 P w K mg base A outer s H → BindsTo s fd args (ps.zip us) → Vals vs us → sp vs H Q E →
    codeAny (model P w) A (.call (.ref f) args) (CR CX outer P w H s Q E) s
theorem FnOk.mono {P : Program} {w : World} {K : PySem.W.Frag} {mg : Str → Option Value} {base : Heap} {CX : CXT} {j k : Nat} {f : Addr} {fd : FuncData} {ps : List Str} {sp : Sp} (F : FnOk P w K mg base CX j f fd ps sp) (h : j ≤ k) :
    FnOk P w K mg base CX k f fd ps sp := ⟨F.len, fun A outer s H args us vs Q E hr => F.run A outer s H args us vs Q E (hr.mono h)⟩
/-- a weaker promise -/
theorem FnOk.imp {P : Program} {w : World} {K : PySem.W.Frag} {mg : Str → Option Value} {base : Heap} {CX : CXT} {k : Nat} {f : Addr} {fd : FuncData} {ps : List Str} {sp sp' : Sp} (F : FnOk P w K mg base CX k f fd ps sp)
    (h : ∀ vs H Q E, sp' vs H Q E → sp vs H Q E) : FnOk P w K mg base CX k f fd ps sp' :=
  ⟨fun vs H Q E q => F.len vs H Q E (h _ _ _ _ q), fun A outer s H args us vs Q E hr he hb hv hs => F.run A outer s H args us vs Q E hr he hb hv (h _ _ _ _ hs)⟩

theorem Env0.in1 {P : Program} {w : World} {K : PySem.W.Frag} {mg : Str → Option Value} {base : Heap} {A : Around} {outer : List Env} {s : Shared} {H : Hp} (e : Env0 P w K mg base A outer s H) :
    Env0 P w K mg base A.in1 outer s H := ⟨e.frames, e.mod, e.bs, e.bsz, e.funs, e.frf, e.hok, e.bare⟩

section
variable {X : Cx} {pins : List (Addr × Obj)} {σ : St} {H : Hp} {s s' : Shared}
/-- from a body: what a callee wants -/
theorem Inv.env0 (I : Inv X pins σ H s) : Env0 X.prog X.w X.K X.mg X.base X.A X.stack s H :=
  ⟨I.ok.frames, I.ok.mod, I.bs, Nat.le_trans I.ok.bsz I.sz, I.stack, I.stkFree, I.hok, I.bare⟩
/-- behind a call -/
theorem Inv.after {Q : VK} {u : Value} (I : Inv X pins σ H s) (h : CE X.stack X.prog X.w H s Q u s') : EP X pins σ Q u s' := by
  obtain ⟨v, H', os, bare, un, hok, r, q⟩ := h
  obtain ⟨hh, g, d, t, os'⟩ := s'
  obtain rfl : os' = s.os := os
  exact ⟨v, H', I.call (h' := hh) (g' := g) (d' := d) (t' := t) (ch := []) un hok bare (fun b z => absurd z (by simp)), r, q⟩
end

/-! ### calls -/
/-- f(..): the written arguments, then the defaults dvs; E: what is wanted of an exception -/
def tCall (sp : Sp) (dvs : List V) (E : XK) (t : TA) : TE := fun σ H Q => t σ H fun vs H1 => sp (vs ++ dvs) H1 Q E
/-- o.m(..) of an instance of the class at C -/
def tMeth (C : Addr) (m : Str) (sp : Sp) (dvs : List V) (E : XK) (ta : TE) (t : TA) : TE := fun σ H Q => ta σ H fun x H1 => ∃ a dx fs, x = .ref a ∧ H1 a = some (.ins C dx fs) ∧ fs.lookup m = none ∧
  t σ H1 fun vs H2 => sp (x :: (vs ++ dvs)) H2 Q E
/-- C(..): a new instance and its dict, then __init__ -/
def tMake (C : Addr) (sp : Sp) (dvs : List V) (E : XK) (t : TA) : TE := fun σ H Q => t σ H fun vs H1 => ∀ x dx, H1 x = none → H1 dx = none → dx ≠ x →
  sp (.ref x :: (vs ++ dvs)) (upd (upd H1 dx (.own x)) x (.ins C dx [])) (fun v H2 => v = .non ∧ Q (.ref x) H2) E

/-- how the parameters are bound: us the positional arguments, kw the keywords' values by name, ds the defaults that fill up -/
def Binds (K : PySem.W.Frag) (fd : FuncData) (ps : List Str) (ds : List Value) : Prop :=
  ∀ (s : Shared) (us : List Value), K.In s.heap → (us ++ ds).length = ps.length → BindsTo s fd ⟨us, []⟩ (ps.zip (us ++ ds))
/-- every parameter is given -/
theorem Binds.all {K : PySem.W.Frag} {fd : FuncData} {ps : List Str} (h : ∀ us : List Value, us.length = ps.length → bindArgs fd ⟨us, []⟩ = pure (ps.zip us)) : Binds K fd ps [] := fun s us _ hl => by
  rw [List.append_nil] at hl ⊢
  exact .of_eq (h us hl)

/-- an exception of a callee reaches what this body wants of exceptions -/
def Passes (CX : CXT) (X : Cx) (E : XK) : Prop := ∀ (pins : List (Addr × Obj)) (σ : St) (H : Hp) (s : Shared) (e : Value) (s' : Shared), Inv X pins σ H s → CX X.stack H s E e s' → X.xe e s'

section
variable {X : Cx} {CX : CXT} {k : Nat} {f C : Addr} {fd : FuncData} {ps : List Str} {sp : Sp} {dvs : List V} {ds : List Value} {E : XK} {x m : Str} {p pos apos : Pos} {e o : Expr} {es : List Expr} {ta : TE} {t : TA}

/-- the callee runs -/
theorem run_fn {pins : List (Addr × Obj)} {σ : St} {H : Hp} {s : Shared} {Q : VK} {us : List Value} {vs : List V} (F : FnOk X.prog X.w X.K X.mg X.base CX k f fd ps sp) (hr : Room k X.A) (hb : Binds X.K fd ps ds) (hd : Vals dvs ds) (hx : Passes CX X E)
    (I : Inv X pins σ H s) (r : Vals vs us) (h : sp (vs ++ dvs) H Q E) : wpAny (model X.prog X.w) X.A (call (.ref f) us) (EP X pins σ Q) X.xe s := by
  have r2 : Vals (vs ++ dvs) (us ++ ds) := r.append hd
  have hl : (us ++ ds).length = ps.length := by rw [← r2.length]; exact F.len _ _ _ _ h
  refine wpAny_call (codeAny_mono (F.run X.A X.stack s H ⟨us, []⟩ (us ++ ds) (vs ++ dvs) Q E hr I.env0 (hb s us I.kIn hl) r2 h) fun r s' hq => ?_)
  cases r with
  | error e => exact hx pins σ H s e s' I hq
  | ok fl =>
    cases fl with
    | ret u => exact I.after hq
    | next => exact False.elim hq
    | brk => exact False.elim hq
    | cont => exact False.elim hq

theorem pe_call (F : FnOk X.prog X.w X.K X.mg X.base CX k f fd ps sp) (hr : Room k X.A) (hg : Gl X x) (hm : X.mg x = some (.ref f)) (hk : PySem.W.keepIn X.K (.ref f) = true) (hb : Binds X.K fd ps ds) (hd : Vals dvs ds) (hx : Passes CX X E)
    (ha : PA X (e :: es) t) (hdb : (x == ("__debug__" : Str)) = false := by decide) (he : starEach (e :: es) X.env = (false, eval e X.env) :: starEach es X.env := by rfl) (hpl : (backTo pos (starEach es X.env)).any (·.1) = false := by rfl) :
    PE X (.Call (.Name x p) (e :: es) [] pos) (tCall sp dvs E t) := by
  intro pins s σ H Q I h
  refine wpAny_Call_Name_kw (ld_glob I hg hm ?_ hdb)
  refine PySem.W.callWith_K (h₀ := X.base) I.ok.mod.kin hk (thn (ha pos pins s σ H _ I h) fun us s1 ⟨vs, H1, I1, r, q⟩ => ⟨I1.kIn, ?_⟩) he hpl
  exact run_fn F hr hb hd hx I1 r q
/-- what a class must have to be made -/
structure Mk (K : PySem.W.Frag) (C f : Addr) : Prop where
  makes : PySem.W.makesIn K C = true
  init : PySem.W.findIn K (.ref C) "__init__" = some (some (.ref f))
  fn : PySem.W.isFn K (.ref f) = true
  kp : PySem.W.keepIn K (.ref C) = true

end

/-! ### keywords -/
/-- the values of the keywords, from the left -/
def PK (X : Cx) (kws : List Keyword) (t : TA) : Prop :=
  ∀ (pos : Pos) (pins : List (Addr × Obj)) (s : Shared) (σ : St) (H : Hp) (Q : List V → Hp → Prop), Inv X pins σ H s → t σ H Q → wpAny (model X.prog X.w) X.A (evalAll ((backToKw pos (keywordEach kws X.env)).map (·.2))) (AP X pins σ Q) X.xe s
section
variable {X : Cx} {CX : CXT} {k : Nat} {f C : Addr} {fd : FuncData} {ps ks : List Str} {sp : Sp} {E : XK} {x m : Str} {p pos apos kpos : Pos} {e o : Expr} {es : List Expr} {kws : List Keyword} {te ta : TE} {t tk : TA} {nm : Option Str}
/-- how a call with keywords binds: g puts the positional values us and the keywords' values ws (names ks) in the parameters' order, defaults among them -/
structure KBinds (K : PySem.W.Frag) (fd : FuncData) (ps ks : List Str) (g : List Value → List Value → List Value) (gV : List V → List V → List V) : Prop where
  to : ∀ (s : Shared) (us ws : List Value), K.In s.heap → (g us ws).length = ps.length → BindsTo s fd ⟨us, ks.zip ws⟩ (ps.zip (g us ws))
  rel : ∀ {vs : List V} {us : List Value} {zs : List V} {ws : List Value}, Vals vs us → Vals zs ws → Vals (gV vs zs) (g us ws)
def tCallK (sp : Sp) (gV : List V → List V → List V) (E : XK) (t tk : TA) : TE := fun σ H Q => t σ H fun vs H1 => tk σ H1 fun zs H2 => sp (gV vs zs) H2 Q E
variable {g : List Value → List Value → List Value} {gV : List V → List V → List V}
end

/-! ### a def's body keeps its promise -/
/-- names: the parameters first -/
structure FnScope (N P : List Str) (sc : Scope) : Prop where
  kind : sc.kind = .function
  co : sc.isCoroutine = false
  gen : sc.isGenerator = false
  nd : N.Nodup
  pre : N.take P.length = P
  par : ∀ x ∈ P, sc.names.lookup x = some .local ∨ sc.names.lookup x = some .cell
  nofree : ∀ y ∈ sc.names, y.2 ≠ .free

theorem bindL_out {kindOf : Str → Option NameKind} {x : Str} : ∀ {binds : List (Str × Value)} {m : Str → Option Value}, (∀ v, (x, v) ∉ binds) → bindL kindOf binds m x = m x
  | [], _, _ => rfl
  | (n, v) :: r, m, h => by
    unfold bindL
    rw [bindL_out fun w hw => h w (List.mem_cons_of_mem _ hw)]
    split
    · have : x ≠ n := by rintro rfl; exact h v List.mem_cons_self
      simp [this]
    · rfl
theorem bindC_out {kindOf : Str → Option NameKind} {x : Str} : ∀ {binds : List (Str × Value)} {m : Str → Option Value}, (∀ v, (x, v) ∉ binds) → bindC kindOf binds m x = m x
  | [], _, _ => rfl
  | (n, v) :: r, m, h => by
    unfold bindC
    rw [bindC_out fun w hw => h w (List.mem_cons_of_mem _ hw)]
    split
    · rfl
    · have : x ≠ n := by rintro rfl; exact h v List.mem_cons_self
      simp [this]
theorem bindL_get {kindOf : Str → Option NameKind} {x : Str} {v : Value} : ∀ {P : List Str} {vs : List Value} {i : Nat} {m : Str → Option Value}, P.Nodup → P[i]? = some x → vs[i]? = some v → kindOf x = some .local →
    bindL kindOf (P.zip vs) m x = some v
  | [], _, _, _, _, h, _, _ => by simp at h
  | _ :: _, [], _, _, _, _, h, _ => by simp at h
  | p :: P, w :: vs, 0, m, nd, h1, h2, hk => by
    simp at h1 h2; subst h1; subst h2
    show bindL kindOf ((p, w) :: P.zip vs) m p = _
    unfold bindL
    rw [bindL_out fun v hv => (List.nodup_cons.mp nd).1 (List.of_mem_zip hv).1, if_pos hk]
    simp
  | p :: P, w :: vs, i + 1, m, nd, h1, h2, hk => by
    show bindL kindOf ((p, w) :: P.zip vs) m x = _
    unfold bindL
    exact bindL_get (i := i) (List.nodup_cons.mp nd).2 (by simpa using h1) (by simpa using h2) hk
theorem bindC_get {kindOf : Str → Option NameKind} {x : Str} {v : Value} : ∀ {P : List Str} {vs : List Value} {i : Nat} {m : Str → Option Value}, P.Nodup → P[i]? = some x → vs[i]? = some v → kindOf x ≠ some .local →
    bindC kindOf (P.zip vs) m x = some v
  | [], _, _, _, _, h, _, _ => by simp at h
  | _ :: _, [], _, _, _, _, h, _ => by simp at h
  | p :: P, w :: vs, 0, m, nd, h1, h2, hk => by
    simp at h1 h2; subst h1; subst h2
    show bindC kindOf ((p, w) :: P.zip vs) m p = _
    unfold bindC
    rw [bindC_out fun v hv => (List.nodup_cons.mp nd).1 (List.of_mem_zip hv).1, if_neg hk]
    simp
  | p :: P, w :: vs, i + 1, m, nd, h1, h2, hk => by
    show bindC kindOf ((p, w) :: P.zip vs) m x = _
    unfold bindC
    exact bindC_get (i := i) (List.nodup_cons.mp nd).2 (by simpa using h1) (by simpa using h2) hk

/-- the names' values at the entry -/
def start (N : List Str) (vs : List V) : St := vs.map some ++ List.replicate (N.length - vs.length) none

/-- the context of a def's body, at its entry; an exception leaves the frame, then lies as CX says -/
def cxOf (CX : CXT) (P : Program) (w : World) (K : PySem.W.Frag) (mg : Str → Option Value) (base : Heap) (N : List Str) (qual : Str) (scope : Scope) (f : Addr) (cd : Value) (A : Around) (outer : List Env) (s : Shared) (H : Hp) (E : XK) : Cx where
  prog := P
  w := w
  K := K
  mg := mg
  base := base
  A := A.deeper (envOfC qual scope s.heap.objs.size f cd)
  N := N
  s₀ := s
  H₀ := H
  env := envOfC qual scope s.heap.objs.size f cd
  outer := outer
  stack := envOfC qual scope s.heap.objs.size f cd :: outer
  ex := []
  calm := true
  fn := fun _ => true
  pn := []
  xe := fun e s' => wpAny (model P w) (A.deeper (envOfC qual scope s.heap.objs.size f cd)) (leaving (envOfC qual scope s.heap.objs.size f cd) e) (fun _ s'' => CX outer H s E e s'') (fun e' s'' => CX outer H s E e' s'') s'

theorem cell_has {sc : Scope} {n : Nat} {x : Str} (h : sc.names.lookup x = some .cell) : ∃ c, (cellsFrom n sc.names []).lookup x = some c := by
  have q := PySem.W.cellsFrom_some sc.names n [] (.inl h)
  exact Option.isSome_iff_exists.mp q

theorem inv_start {CX : CXT} {P : Program} {w : World} {K : PySem.W.Frag} {mg : Str → Option Value} {base : Heap} {N ps : List Str} {qual : Str} {scope : Scope} {f : Addr} {cd : Value} {A : Around} {outer : List Env} {s s1 : Shared} {H : Hp} {E : XK} {us : List Value} {vs : List V}
    (S : FnScope N ps scope) (hd : A.handled = none) (e0 : Env0 P w K mg base A outer s H) (hl : vs.length = ps.length) (r : Vals vs us)
    (x : InCallC s s.heap.objs.size (bindL (envOfC qual scope s.heap.objs.size f cd).kindOf (ps.zip us) fun _ => none) (cellsFrom (s.heap.objs.size + 1) scope.names []) (bindC (envOfC qual scope s.heap.objs.size f cd).kindOf (ps.zip us) fun _ => none) s1) :
    Inv (cxOf CX P w K mg base N qual scope f cd A outer s H E) [] (start N vs) H s1 := by
  have hpl : ps.length ≤ N.length := by have := congrArg List.length S.pre; rw [List.length_take] at this; omega
  obtain ⟨h1, tk, rfl, hk⟩ := x.done
  have noA : ∀ b : Addr, b ∉ (cxOf CX P w K mg base N qual scope f cd A outer s H E).ex := fun b z => absurd (show b ∈ ([] : List Addr) from z) (by simp)
  refine ⟨⟨e0.mod, S.kind, rfl, rfl, Nat.le_refl _, fun y z c h1 h2 => ?_, fun y hy => ?_, fun y c _ h => ?_, fun _ => hd, Around.frames_deeper e0.frames, .inr ⟨rfl, rfl⟩, fun b z => absurd z (noA b), e0.bs, e0.bsz, fun b _ _ => noA b, fun b z => absurd z (noA b), e0.funs, e0.frf⟩,
    rfl, e0.bare, Un.kept hk, ⟨_, x.toInCall.ns, fun i y v h1 h2 h3 => ?_⟩, fun y c h => ⟨_, x.cell y c h⟩, e0.hok.fresh (Nat.le_refl _), fun y c h => ?_, fun p hp => absurd (show p ∈ ([] : List (Addr × Obj)) from hp) (by simp), e0.hok.kept hk, ?_⟩
  · exact name_of_addr x.apart (PySem.mem_of_lookup h1) (PySem.mem_of_lookup h2)
  · have hy : scope.names.lookup y = some .cell ∨ scope.names.lookup y = some .free := hy
    rcases hy with hy | hy
    · exact cell_has hy
    · exact absurd rfl (S.nofree _ (PySem.mem_of_lookup hy))
  · exact Nat.le_of_lt (x.above y c (PySem.mem_of_lookup h))
  · have hi : i < vs.length := by
      unfold start at h2
      by_cases hi : i < vs.length
      · exact hi
      · rw [List.getElem?_append_right (by simpa using hi)] at h2
        rw [List.getElem?_replicate] at h2
        split at h2 <;> cases h2
    have ha : vs[i]? = some v := by
      unfold start at h2
      rw [List.getElem?_append_left (by simpa using hi), List.getElem?_map] at h2
      cases e : vs[i]? with
      | none => rw [e] at h2; cases h2
      | some a => rw [e] at h2; cases h2; rfl
    obtain ⟨u, hu, rv⟩ := r.get ha
    have hp : ps[i]? = some y := by
      rw [← S.pre, List.getElem?_take_of_lt (by omega)]; exact h1
    have ndP : ps.Nodup := by rw [← S.pre]; exact S.nd.sublist (List.take_sublist _ _)
    refine ⟨u, rv, ?_⟩
    rcases S.par y (List.mem_of_getElem? hp) with k | k
    · exact .inl ⟨k, bindL_get ndP hp hu k⟩
    · obtain ⟨c, e⟩ := cell_has (n := s.heap.objs.size + 1) k
      refine .inr ⟨.inl k, c, e, ?_⟩
      have q := x.cell y c e
      rw [bindC_get ndP hp hu (by show scope.names.lookup y ≠ _; rw [k]; decide)] at q
      exact q
  · exact e0.hok.fresh (Nat.le_of_lt (x.above y c (PySem.mem_of_lookup h)))
  · unfold start
    show _ = N.length
    rw [List.length_append, List.length_map, List.length_replicate]
    omega

/-- THE RULE: a def (or a method) of the text, by its body. The body's reading t is chosen for each entry; it is run at the parameters' values -/
theorem fn_of {CX : CXT} {P : Program} {w : World} {K : PySem.W.Frag} {mg : Str → Option Value} {base : Heap} {k : Nat} {f : Addr} {name qual : Str} {params : Arguments} {body : List Stmt} {scope : Scope} {dV kV doc pm cdv ct oc : Value} {an od : Option Addr}
    {osl : Array (Option Value)} {N ps : List Str} {sp : Sp} (lk : K.lookup f = some ⟨oc, od, .func (PySem.W.fnOf name qual params body scope dV kV doc pm an cdv ct), osl⟩) (hcd : PySem.W.codeIn K cdv qual = true) (S : FnScope N ps scope)
    (len : ∀ vs H Q E, sp vs H Q E → vs.length = ps.length)
    (hbody : ∀ (A : Around) (outer : List Env) (s : Shared) (H : Hp) (vs : List V) (Q : VK) (E : XK), Room k (A.deeper (envOfC qual scope s.heap.objs.size f cdv)) → sp vs H Q E →
      ∃ t, PSs (cxOf CX P w K mg base N qual scope f cdv A outer s H E) body t ∧ t { nx := fun _ H' => Q .non H', rt := Q } (start N vs) H) :
    FnOk P w K mg base CX (k + 1) f (PySem.W.fnOf name qual params body scope dV kV doc pm an cdv ct) ps sp := by
  refine ⟨len, fun A outer s H args us vs Q E hr e0 hb r hsp => ?_⟩
  have hl := len _ _ _ _ hsp
  have KX : K.In s.heap := e0.mod.kin.keeps fun b o e => (e0.bs b o e).1
  have lim : s.heap.NoLimit := e0.mod.nolimit.keeps fun b o e => (e0.bs b o e).1
  have hkind : ∀ y ∈ ps.zip us, scope.names.lookup y.1 = some .local ∨ (scope.names.lookup y.1 = some .cell ∧ ((cellsFrom (s.heap.objs.size + 1) scope.names []).lookup y.1).isSome = true) := fun ⟨n, v⟩ hy => by
    rcases S.par n (List.of_mem_zip hy).1 with q | q
    · exact .inl q
    · exact .inr ⟨q, PySem.W.cellsFrom_some _ _ _ (.inl q)⟩
  refine codeAny_call_function hr.depth (KX _ _ lk) rfl S.co S.gen rfl (PySem.W.codeRec_of KX hcd) (hb _ _ _ _ ?_)
  refine wpAny_newFunctionEnv_cells S.kind hkind fun env he s1 x => ?_
  subst he
  refine ⟨lim.keeps x.toInCall.keep, codeAny_func ?_⟩
  obtain ⟨t, ht, hq⟩ := hbody A outer s H vs Q E (hr.deeper _) hsp
  have I : Inv (cxOf CX P w K mg base N qual scope f cdv A outer s H E) [] (start N vs) H s1 := inv_start S hr.hd e0 hl r x
  refine wpAny_mono (ht [] s1 (start N vs) H _ I hq) (fun fl s' hs => ?_) fun e s' hs => hs
  have fin : ∀ {σ' : St} {H' : Hp} {v : V} {u : Value}, Inv (cxOf CX P w K mg base N qual scope f cdv A outer s H E) [] σ' H' s' → RelV v u → Q v H' → CE outer P w H s Q u s' :=
    fun {σ' H' v u} J rv q => ⟨v, H', J.os, J.bare, J.base, J.hok, rv, q⟩
  cases fl with
  | ret u =>
    obtain ⟨v, σ', H', J, rv, q⟩ := hs
    exact fin J rv q
  | next =>
    obtain ⟨σ', H', J, q⟩ := hs
    exact fin (v := V.non) (u := Value.none) J rfl q
  | brk =>
    obtain ⟨_, _, _, q⟩ := hs
    exact False.elim q
  | cont =>
    obtain ⟨_, _, _, q⟩ := hs
    exact False.elim q
end L2

namespace L2
open PySem PySem.Spec PyProof.Rows
section
variable {X : Cx} {x : Str} {p pos : Pos} {e : Expr} {es : List Expr} {t : TA} {id T : String} {r : List V → Hp → VK → Prop}

def tCB (r : List V → Hp → VK → Prop) (t : TA) : TE := fun σ H Q => t σ H fun vs H1 => r vs H1 Q
/-- f(e, ..), f a built-in function -/
theorem pe_callB (hc : CallR X (.builtin id) r) (hg : Gl X x) (hm : X.mg x = none) (hv : bootBuiltins x = some (.builtin id)) (ha : PA X (e :: es) t) (hn : x ≠ "__name__" := by decide) (hdb : (x == ("__debug__" : Str)) = false := by decide)
    (he : starEach (e :: es) X.env = (false, eval e X.env) :: starEach es X.env := by rfl) (hpl : (backTo pos (starEach es X.env)).any (·.1) = false := by rfl) : PE X (.Call (.Name x p) (e :: es) [] pos) (tCB r t) := by
  intro pins s σ H Q I h
  refine wpAny_Call_Name_kw (ld_blt I hg hm hv ?_ hn hdb)
  exact PyProof.Rows.callWith_builtin1 (thn (ha pos pins s σ H _ I h) fun us s1 ⟨vs, H1, I1, r1, q1⟩ => hc pins s1 σ H1 vs us Q I1 r1 q1) he hpl
/-- T(e, ..), T a built-in type -/
theorem pe_callTy (hc : CallR X (.type T) r) (hg : Gl X x) (hm : X.mg x = none) (hv : bootBuiltins x = some (.type T)) (ha : PA X (e :: es) t) (hn : x ≠ "__name__" := by decide) (hdb : (x == ("__debug__" : Str)) = false := by decide)
    (he : starEach (e :: es) X.env = (false, eval e X.env) :: starEach es X.env := by rfl) (hpl : (backTo pos (starEach es X.env)).any (·.1) = false := by rfl) : PE X (.Call (.Name x p) (e :: es) [] pos) (tCB r t) := by
  intro pins s σ H Q I h
  refine wpAny_Call_Name_kw (ld_blt I hg hm hv ?_ hn hdb)
  exact PyProof.Rows.callWith_type1 (thn (ha pos pins s σ H _ I h) fun us s1 ⟨vs, H1, I1, r1, q1⟩ => hc pins s1 σ H1 vs us Q I1 r1 q1) he hpl
end
end L2

namespace HT
open PySem PyProof.Rows

/-- t < u of tuples of ints -/
def lexLt : List Int → List Int → Bool
  | [], [] => false
  | [], _ :: _ => true
  | _ :: _, [] => false
  | x :: xs, y :: ys => if x = y then lexLt xs ys else decide (x < y)
section
open PySem.SeqAt
open PySem.AutoSeq1 (wpAny_loadPart')
open PySem.MeetsSeq PySem.MeetsSeq2 PySem.MeetsSeq3

end

section
variable {prog : Program} {w : World} {A : Around} {E : Value → Shared → Prop} {s : Shared}

/-! ### t[a:b], not the whole -/
/-- a slice's bound as a place among n (d where it is left out) -/
def sIx (n d : Nat) : Option Int → Nat
  | none => d
  | some v => if v < 0 then (v + (n : Int)).toNat else min v.toNat n
theorem sIx_none (n d : Nat) : sIx n d none = d := rfl
theorem sIx_nat (n d k : Nat) : sIx n d (some (k : Int)) = min k n := by
  show (if (k : Int) < 0 then ((k : Int) + (n : Int)).toNat else min (k : Int).toNat n) = min k n
  rw [if_neg (by omega), Int.toNat_natCast]
end
end HT

namespace L2
open PySem PySem.Spec PyProof.Rows

/-! ### the parts of a slice -/
abbrev TO := St → Hp → (Option Int → Hp → Prop) → Prop
/-- a slice's part (left out, or an int) -/
def PO (X : Cx) (e : Option Expr) (t : TO) : Prop :=
  ∀ (pins : List (Addr × Obj)) (s : Shared) (σ : St) (H : Hp) (Q : Option Int → Hp → Prop), Inv X pins σ H s → t σ H Q →
    wpAny (model X.prog X.w) X.A (evalPart e X.env) (fun u s' => ∃ o H', Inv X pins σ H' s' ∧ IsPart u o ∧ Q o H') X.xe s
def tNoPart : TO := fun _ H Q => Q none H
def tPart (t : TE) : TO := fun σ H Q => t σ H fun x H1 => ∃ i, x = .int i ∧ Q (some i) H1

theorem intsAre_of {ns : List Int} : ∀ {us : List Value}, Vals (ns.map V.int) us → IntsAre us ns := by
  induction ns with
  | nil => intro us r; rw [List.map_nil] at r; cases r; exact .nil
  | cons n ns ih =>
    intro us r
    rw [List.map_cons] at r
    cases r with
    | cons r1 r2 =>
      obtain ⟨t, e⟩ := r1
      subst e
      exact .cons n t (ih r2)

section
variable {X : Cx} {e : Expr} {te : TE} {lo hi : Option Expr} {tl th : TO} {pos p2 : Pos}

theorem po_none : PO X none tNoPart := by
  intro pins s σ H Q I h
  rw [evalPart_none]
  exact wpAny_pure ⟨none, H, I, .none, h⟩
theorem po_some (h : PE X e te) : PO X (some e) (tPart te) := by
  intro pins s σ H Q I hw
  rw [evalPart_some]
  refine thn (h pins s σ H _ I hw) fun u s1 ⟨x, H1, I1, r1, q1⟩ => ?_
  obtain ⟨i, rfl, q⟩ := q1
  obtain ⟨t, rfl⟩ := r1
  exact ⟨some i, H1, I1, .int i t, q⟩

/-- what a slice of a value is, by values: the slice object stands at sl -/
def SlR (X : Cx) (r : V → Option Int → Option Int → Hp → VK → Prop) : Prop :=
  ∀ (pins : List (Addr × Obj)) (s : Shared) (σ : St) (H : Hp) (x : V) (v vl vu : Value) (lo hi : Option Int) (sl : Addr) (Q : VK), Inv X pins σ H s → RelV x v → s.heap.IsSliceOf sl vl vu .none → IsPart vl lo → IsPart vu hi → r x lo hi H Q →
    ∃ T id, typeLookup (.type T) "__getitem__" = pure (some (.builtin id)) ∧ s.TypeIs v T ∧ wpAny (model X.prog X.w) X.A (getItem v (.ref sl)) (EP X pins σ Q) X.xe s
def tSl (r : V → Option Int → Option Int → Hp → VK → Prop) (te : TE) (tl th : TO) : TE := fun σ H Q => te σ H fun x H1 => tl σ H1 fun l H2 => th σ H2 fun u H3 => r x l u H3 Q
/-- a[lo:hi], any a -/
theorem pe_slice {r : V → Option Int → Option Int → Hp → VK → Prop} (hr : SlR X r) (he : PE X e te) (hl : PO X lo tl) (hu : PO X hi th) : PE X (.Subscript e (.Slice lo hi none p2) pos) (tSl r te tl th) := by
  intro pins s σ H Q I h
  refine Subscript_ (thn (he pins s σ H _ I h) fun v s1 ⟨x, H1, I1, r1, q1⟩ => ?_)
  refine wpAny_Slice (thn (hl pins s1 σ H1 _ I1 q1) fun vl s2 ⟨l, H2, I2, pl, q2⟩ => thn (hu pins s2 σ H2 _ I2 q2) fun vu s3 ⟨u, H3, I3, pu, q3⟩ => ?_)
  rw [evalPart_none]
  refine wpAny_pure ?_
  have I4 : Inv X pins σ H3 { s3 with heap := s3.heap.push { cls := .type "slice", data := .fields #[vl, vu, .none] } } := I3.kept (t' := s3.toks) fun b ob q => Heap.get?_push_of_some _ q
  obtain ⟨T, id, hT, ht, hg⟩ := hr pins { s3 with heap := s3.heap.push { cls := .type "slice", data := .fields #[vl, vu, .none] } } σ H3 x v vl vu l u s3.heap.objs.size Q I4 r1 (Heap.IsSliceOf.new ..) pl pu q3
  show wpAny (model X.prog X.w) X.A (subscriptTail e (.Slice lo hi none p2) v (.ref s3.heap.objs.size)) (EP X pins σ Q) X.xe { s3 with heap := s3.heap.push { cls := .type "slice", data := .fields #[vl, vu, .none] } }
  exact tail_any (ops := [.ref s3.heap.objs.size, v]) ht hT hg (by with_unfolding_all rfl)

/-- the items of xs[lo:hi] -/
def cutV (xs : List V) (lo hi : Option Int) : List V := (xs.drop (HT.sIx xs.length 0 lo)).take (HT.sIx xs.length xs.length hi - HT.sIx xs.length 0 lo)
theorem cutV_length (xs : List V) (lo hi : Option Int) : (cutV xs lo hi).length ≤ xs.length := by
  unfold cutV
  rw [List.length_take, List.length_drop]
  omega
/-- t[lo:hi], not the whole of it (the whole would be t itself) -/
def rSlT (K : PySem.W.Frag) : V → Option Int → Option Int → Hp → VK → Prop := fun x lo hi H Q => ∃ a xs, x = .ref a ∧ SqT K H a xs ∧
  ¬ (HT.sIx xs.length 0 lo = 0 ∧ HT.sIx xs.length xs.length hi = xs.length) ∧ ∀ p, H p = none → Q (.ref p) (upd H p (.tup (cutV xs lo hi)))
/-! ### t < u, t + u -/
def rLtT (K : PySem.W.Frag) : R2 := fun x y H Q => ∃ a b ns ms, x = .ref a ∧ y = .ref b ∧ SqT K H a (ns.map V.int) ∧ SqT K H b (ms.map V.int) ∧ Q (.bl (HT.lexLt ns ms)) H
/-- t + u, t not empty: u empty gives t itself -/
def rCatT (K : PySem.W.Frag) : R2 := fun x y H Q => ∃ a b xs ys, x = .ref a ∧ y = .ref b ∧ SqT K H a xs ∧ SqT K H b ys ∧ xs ≠ [] ∧ xs.length + ys.length ≤ sizeLine ∧
  (ys = [] → Q (.ref a) H) ∧ (ys ≠ [] → ∀ p, H p = none → Q (.ref p) (upd H p (.tup (xs ++ ys))))
end
end L2

namespace L2
open PySem PySem.Spec PyProof.Rows

/-! ### places -/
/-- the place that an index of any sign means -/
def ixN (n : Nat) (i : Int) : Option Nat := if 0 ≤ i then (if i < n then some i.toNat else none) else if -(n : Int) ≤ i then some (i + n).toNat else none
def atI {α : Type} (xs : List α) (i : Int) : Option α := (ixN xs.length i).bind fun j => xs[j]?
theorem ixN_seq {n : Nat} {i : Int} {j : Nat} (h : ixN n i = some j) : seqIndex? i n = some j ∧ j < n ∧ -(n : Int) ≤ i ∧ i < n := by
  unfold ixN at h
  by_cases h0 : 0 ≤ i
  · rw [if_pos h0] at h
    by_cases h1 : i < n
    · rw [if_pos h1] at h
      have e : i.toNat = j := Option.some.inj h
      exact ⟨by rw [seqIndex_of h0 h1, e], by omega, by omega, h1⟩
    · rw [if_neg h1] at h; cases h
  · rw [if_neg h0] at h
    by_cases h1 : -(n : Int) ≤ i
    · rw [if_pos h1] at h
      have e : (i + n).toNat = j := Option.some.inj h
      exact ⟨by rw [seqIndex_neg (by omega) h1, e], by omega, h1, by omega⟩
    · rw [if_neg h1] at h; cases h
theorem atI_get {α : Type} {xs : List α} {i : Int} {v : α} (h : atI xs i = some v) : ∃ j, seqIndex? i xs.length = some j ∧ xs[j]? = some v ∧ j < xs.length ∧ -(xs.length : Int) ≤ i ∧ i < xs.length := by
  unfold atI at h
  cases e : ixN xs.length i with
  | none => rw [e] at h; cases h
  | some j =>
    rw [e] at h
    obtain ⟨h1, h2, h3, h4⟩ := ixN_seq e
    exact ⟨j, h1, h, h2, h3, h4⟩
theorem atI_nat {α : Type} {xs : List α} {j : Nat} {v : α} (h : xs[j]? = some v) : atI xs (j : Int) = some v := by
  have hj : j < xs.length := (List.getElem?_eq_some_iff.mp h).1
  have e : ixN xs.length (j : Int) = some j := by
    unfold ixN
    rw [if_pos (by omega), if_pos (by omega)]; simp
  unfold atI; rw [e]; exact h
/-! ### what may be subscripted -/
/-- what stands as an index of a plain subscript -/
def PlainIx (b : Expr) : Prop := ∀ o i, subscripted b false o i = operate [o, i] (getItem o i)
/-- a subscript by values -/
def IxR (X : Cx) (r : R2) : Prop :=
  ∀ (value slice : Expr) (pins : List (Addr × Obj)) (s : Shared) (σ : St) (H : Hp) (x y : V) (v u : Value) (Q : VK), Inv X pins σ H s → RelV x v → RelV y u → r x y H Q →
    subscripted slice false v u = operate [v, u] (getItem v u) → wpAny (model X.prog X.w) X.A (subscriptTail value slice v u) (EP X pins σ Q) X.xe s
/-- a call of a builtin's method by values: the receiver, the arguments -/
def MtR (X : Cx) (id : String) (r : V → List V → Hp → VK → Prop) : Prop :=
  ∀ (pins : List (Addr × Obj)) (s : Shared) (σ : St) (H : Hp) (x : V) (xs : List V) (v : Value) (us : List Value) (Q : VK), Inv X pins σ H s → RelV x v → Vals xs us → r x xs H Q →
    wpAny (model X.prog X.w) X.A (call (.builtin id) (v :: us)) (EP X pins σ Q) X.xe s
section
variable {X : Cx} {a b : Expr} {ta tb : TE} {pos : Pos}
/-- a[b] -/
theorem pe_ix {r : R2} (hr : IxR X r) (ha : PE X a ta) (hb : PE X b tb) (hs : PlainIx b) : PE X (.Subscript a b pos) (tOp r ta tb) := by
  intro pins s σ H Q I h
  exact Subscript_ (binT ha hb I h fun v u s2 x y H2 I2 rx ry q => hr a b pins s2 σ H2 x y v u Q I2 rx ry q (hs _ _))

def rIxL (K : PySem.W.Frag) : R2 := fun x y H Q => ∃ p xs i v, x = .ref p ∧ y = .int i ∧ SqL K H p xs ∧ atI xs i = some v ∧ Q v H
def rIxT (K : PySem.W.Frag) : R2 := fun x y H Q => ∃ p xs i v, x = .ref p ∧ y = .int i ∧ SqT K H p xs ∧ atI xs i = some v ∧ Q v H
def rIxS : R2 := fun x y H Q => ∃ z i c, x = .str z ∧ y = .int i ∧ z.length ≤ sizeLine ∧ atI z.cps.toList i = some c ∧ Q (.str ⟨#[c]⟩) H
theorem ix_list : IxR X (rIxL X.K) := by
  intro value slice pins s σ H x y v u Q I rx ry h hs
  obtain ⟨p, xs, i, z, rfl, rfl, hq, he, q⟩ := h
  cases rx
  obtain ⟨t, rfl⟩ := ry
  obtain ⟨its, r, pl, hz⟩ := I.list hq
  obtain ⟨j, h1, h2, h3, h4, h5⟩ := atI_get he
  obtain ⟨w, ew, rw'⟩ := r.get h2
  have hl := r.length
  have hn := line63
  have fin : EP X pins σ Q w s := ⟨z, H, I, rw', q⟩
  by_cases h0 : 0 ≤ i
  · have hj : i.toNat = j := by
      rw [seqIndex_of h0 h5] at h1
      exact Option.some.inj h1
    exact item_listR pl.isList h0 (by omega) (by rw [hj]; simpa using ew) fin hs
  · have hj : (i + (its.toArray.size : Int)).toNat = j := by
      rw [seqIndex_neg (by omega) h4] at h1
      rw [List.size_toArray, ← hl]
      exact Option.some.inj h1
    exact subscriptTail_builtinR (x := w) pl.isList.typeIs slot_list_getitem.lookup
      (wpAny_getItem_list_neg (Q := fun r s' => r = w ∧ EP X pins σ Q r s') pl.isList (by omega) (by rw [List.size_toArray] <;> omega) (by omega) (by rw [hj]; simpa using ew) ⟨rfl, fin⟩) hs
theorem ix_tup : IxR X (rIxT X.K) := by
  intro value slice pins s σ H x y v u Q I rx ry h hs
  obtain ⟨p, xs, i, z, rfl, rfl, hq, he, q⟩ := h
  cases rx
  obtain ⟨t, rfl⟩ := ry
  obtain ⟨its, r, pl, hz⟩ := I.tuple hq
  obtain ⟨j, h1, h2, h3, h4, h5⟩ := atI_get he
  obtain ⟨w, ew, rw'⟩ := r.get h2
  have hl := r.length
  have hn := line63
  have fin : EP X pins σ Q w s := ⟨z, H, I, rw', q⟩
  exact subscriptTail_builtinR (x := w) pl.typeIs slot_tuple_getitem.lookup
    (getItem_tuple (j := j) (Q := fun r s' => r = w ∧ EP X pins σ Q r s') pl (by omega) (by omega) (by rw [List.size_toArray, ← hl]; exact h1) (by simpa using ew) ⟨rfl, fin⟩) hs
/-- list, tuple or str -/
def rIx (K : PySem.W.Frag) : R2 := fun x y H Q => rIxL K x y H Q ∨ rIxT K x y H Q ∨ rIxS x y H Q
/-! ### xs[i] = v, any sign -/
/-- the list's object behind a store -/
theorem mapSeq_set (its : List Value) (n j : Nat) (u : Value) : Obj.mapSeq (·.setIfInBounds j u) { cls := .type "list", data := .seq its.toArray n } = { cls := .type "list", data := .seq (its.set j u).toArray n } := by
  simp [Obj.mapSeq]
theorem Inv.lst {pins : List (Addr × Obj)} {σ : St} {H : Hp} {s : Shared} {p : Addr} {xs : List V} (I : Inv X pins σ H s) (h : H p = some (.lst xs)) :
    ∃ (its : List Value) (n : Nat), Vals xs its ∧ s.heap.get? p = some { cls := .type "list", data := .seq its.toArray n } ∧ xs.length ≤ sizeLine := by
  obtain ⟨z, its, n, r, e⟩ := I.hok p _ h
  exact ⟨its, n, r, e, z⟩
/-- the list at p is written by an update of its object -/
theorem Inv.lstUpd {pins : List (Addr × Obj)} {σ : St} {H : Hp} {s : Shared} {p : Addr} {xs ys : List V} {its its' : List Value} {n n' : Nat} {f : Obj → Obj} (I : Inv X pins σ H s) (h : H p = some (.lst xs))
    (ho : s.heap.get? p = some { cls := .type "list", data := .seq its.toArray n }) (hf : f { cls := .type "list", data := .seq its.toArray n } = { cls := .type "list", data := .seq its'.toArray n' }) (r : Vals ys its') (hz : ys.length ≤ sizeLine) (t : Nat) :
    Inv X pins σ (upd H p (.lst ys)) { s with heap := s.heap.update p f, toks := t } := by
  have e : (s.heap.update p f).get? p = some { cls := .type "list", data := .seq its'.toArray n' } := by
    rw [Heap.get?_update_self f ho (by rw [hf] <;> rfl), hf]
  refine I.write (x := p) (e := p) (by rw [h]; trivial) (.inl rfl) (fun b u hb q => (Heap.get?_update_other _ _ (Ne.symm hb)).trans q) ⟨_, e⟩ ?_
  exact ⟨hz, its', n', r, e⟩
def rSetL : V → V → V → Hp → (Hp → Prop) → Prop := fun o i v H Q => ∃ p xs k j, o = .ref p ∧ i = .int k ∧ H p = some (.lst xs) ∧ ixN xs.length k = some j ∧ Q (upd H p (.lst (xs.set j v)))
theorem set_list : PSet X rSetL := by
  intro pins s σ H o i v ov iv u Q I ro ri rv h
  obtain ⟨p, xs, k, j, rfl, rfl, hp, hj, q⟩ := h
  cases ro
  obtain ⟨t, rfl⟩ := ri
  obtain ⟨its, n, r, ho, hz⟩ := I.lst hp
  obtain ⟨h1, h2, h3, h4⟩ := ixN_seq hj
  have hl := r.length
  have hn := line63
  have I' : Inv X pins σ (upd H p (.lst (xs.set j v))) { s with heap := s.heap.update p (Obj.mapSeq (·.setIfInBounds j u)) } :=
    I.lstUpd hp ho (mapSeq_set its n j u) (r.set rv j) (by rw [List.length_set]; exact hz) s.toks
  by_cases h0 : 0 ≤ k
  · have hk : k.toNat = j := by
      rw [seqIndex_of h0 h4] at h1
      exact Option.some.inj h1
    exact PySem.W.ki_setAt ho h0 (by omega) (by rw [List.size_toArray, ← hl]; exact h4) (by rw [hk]; exact ⟨_, I', q⟩)
  · have hk : (k + (its.toArray.size : Int)).toNat = j := by
      rw [seqIndex_neg (by omega) h3] at h1
      rw [List.size_toArray, ← hl]
      exact Option.some.inj h1
    exact PySem.W.ki_setBack ho (by omega) (by rw [List.size_toArray, ← hl]; exact h3) (by omega) (by rw [hk]; exact ⟨_, I', q⟩)

/-! ### slices -/
theorem slice_bounds (lo hi : Option Int) (n : Nat) : (sliceBounds lo hi none n).1 = ((HT.sIx n 0 lo : Nat) : Int) ∧ (sliceBounds lo hi none n).2.1 = ((HT.sIx n n hi : Nat) : Int) ∧ (sliceBounds lo hi none n).2.2 = 1 := by
  refine ⟨?_, ?_, rfl⟩
  · cases lo with
    | none => simp [sliceBounds, HT.sIx]
    | some i =>
      simp only [sliceBounds, HT.sIx, Option.getD_none, show (1 : Int) > 0 by decide, if_true]
      by_cases h : i < 0
      · simp only [h, if_true] <;> omega
      · simp only [h, if_false] <;> omega
  · cases hi with
    | none => simp [sliceBounds, HT.sIx]
    | some i =>
      simp only [sliceBounds, HT.sIx, Option.getD_none, show (1 : Int) > 0 by decide, if_true]
      by_cases h : i < 0
      · simp only [h, if_true] <;> omega
      · simp only [h, if_false] <;> omega
theorem slicePick_cut (its : List Value) (lo hi : Option Int) : slicePick its.toArray lo hi none = ((its.drop (HT.sIx its.length 0 lo)).take (HT.sIx its.length its.length hi - HT.sIx its.length 0 lo)).toArray := by
  obtain ⟨h1, h2, h3⟩ := slice_bounds lo hi its.toArray.size
  unfold slicePick
  rw [h1, h2, h3]
  simp only [sliceRange_one, pick_run, List.size_toArray] <;> rfl
/-- xs[lo:hi] of a list: a new list -/
def rSlL (K : PySem.W.Frag) : V → Option Int → Option Int → Hp → VK → Prop := fun x lo hi H Q => ∃ a xs, x = .ref a ∧ SqL K H a xs ∧ ∀ p, H p = none → Q (.ref p) (upd H p (.lst (cutV xs lo hi)))
theorem sl_list : SlR X (rSlL X.K) := by
  intro pins s σ H x v vl vu lo hi sl Q I rx hs pl pu h
  obtain ⟨a, xs, rfl, hx, q⟩ := h
  cases rx
  obtain ⟨its, r, ht, hz⟩ := I.list hx
  have hlen := r.length
  refine ⟨"list", _, slot_list_getitem.lookup, ht.isList.typeIs, ?_⟩
  refine wpAny_getItem_list_slice ht.isList hs pl pu .none (by simp) ?_ (by rw [List.size_toArray] <;> omega)
  rw [slicePick_cut, ← hlen]
  refine ⟨.ref s.heap.objs.size, _, I.laid (t' := s.toks) (o := .lst (cutV xs lo hi)) (fun b ob q => Heap.get?_push_of_some _ q) (Nat.le_refl _) ?_, rfl, q _ (I.hok.fresh (Nat.le_refl _))⟩
  exact ⟨Nat.le_trans (cutV_length xs lo hi) hz, _, 0, (r.drop (HT.sIx xs.length 0 lo)).take (HT.sIx xs.length xs.length hi - HT.sIx xs.length 0 lo), Heap.get?_push_size _ rfl⟩

/-! ### in, not in: flat items -/
def flatV : V → Bool
  | .non => true
  | .bl _ => true
  | .int _ => true
  | .str _ => true
  | _ => false
/-- == of flat values -/
def eqV : V → V → Bool
  | .non, .non => true
  | .bl a, .bl b => a == b
  | .bl a, .int b => (if a then 1 else 0) == b
  | .int a, .bl b => a == (if b then 1 else 0)
  | .int a, .int b => a == b
  | .str a, .str b => a == b
  | _, _ => false
theorem eqAt_V {A : Around} {s : Shared} {y x : V} {u v : Value} (ry : RelV y u) (rx : RelV x v) (fy : flatV y = true) (fx : flatV x = true) : SeqAt.EqAt A s u v (eqV y x) := by
  cases y with
  | non =>
    cases ry
    cases x with
    | non => cases rx; exact SeqAt.EqAt.same _
    | bl b => cases rx; exact SeqAt.EqAt.none_bool b
    | int b => obtain ⟨t, rfl⟩ := rx; exact SeqAt.EqAt.none_int b t
    | str b => obtain ⟨t, rfl⟩ := rx; exact SeqAt.EqAt.none_str b t
    | _ => exact absurd (show false = true from fx) Bool.false_ne_true
  | bl a =>
    cases ry
    cases x with
    | non => cases rx; exact SeqAt.EqAt.bool_none a
    | bl b => cases rx; exact SeqAt.EqAt.bool_bool a b
    | int b => obtain ⟨t, rfl⟩ := rx; exact SeqAt.EqAt.bool_int a b t
    | str b => obtain ⟨t, rfl⟩ := rx; exact SeqAt.EqAt.bool_str a b t
    | _ => exact absurd (show false = true from fx) Bool.false_ne_true
  | int a =>
    obtain ⟨t', rfl⟩ := ry
    cases x with
    | non => cases rx; exact SeqAt.EqAt.int_none a t'
    | bl b => cases rx; exact SeqAt.EqAt.int_bool a t' b
    | int b => obtain ⟨t, rfl⟩ := rx; exact SeqAt.EqAt.int_int a t' b t
    | str b => obtain ⟨t, rfl⟩ := rx; exact SeqAt.EqAt.int_str a t' b t
    | _ => exact absurd (show false = true from fx) Bool.false_ne_true
  | str a =>
    obtain ⟨t', rfl⟩ := ry
    cases x with
    | non => cases rx; exact SeqAt.EqAt.str_none a t'
    | bl b => cases rx; exact SeqAt.EqAt.str_bool a t' b
    | int b => obtain ⟨t, rfl⟩ := rx; exact SeqAt.EqAt.str_int a t' b t
    | str b => obtain ⟨t, rfl⟩ := rx; exact SeqAt.EqAt.str_str a t' b t
    | _ => exact absurd (show false = true from fx) Bool.false_ne_true
  | _ => exact absurd (show false = true from fy) Bool.false_ne_true
/-- the items' answers, read off the values (a value's own answer does not lean on its token) -/
def eqU (x : V) (u : Value) : Bool := match u with
  | .none => eqV .non x
  | .bool b => eqV (.bl b) x
  | .int i _ => eqV (.int i) x
  | .str z _ => eqV (.str z) x
  | _ => false
theorem eqU_of {x y : V} {u : Value} (r : RelV y u) (f : flatV y = true) : eqU x u = eqV y x := by
  cases y with
  | non => cases r; rfl
  | bl b => cases r; rfl
  | int i => obtain ⟨t, rfl⟩ := r; rfl
  | str z => obtain ⟨t, rfl⟩ := r; rfl
  | _ => exact absurd (show false = true from f) Bool.false_ne_true
theorem any_eqU {x : V} : ∀ {xs : List V} {us : List Value}, Vals xs us → xs.all flatV = true → us.any (eqU x) = xs.any fun y => eqV y x
  | _, _, .nil, _ => rfl
  | y :: xs, u :: us, .cons r t, f => by
    rw [List.all_cons, Bool.and_eq_true] at f
    rw [List.any_cons, List.any_cons, eqU_of r f.1, any_eqU t f.2]
theorem mem_eqAt {A : Around} {s : Shared} {x : V} {v : Value} (rx : RelV x v) (fx : flatV x = true) : ∀ {xs : List V} {us : List Value}, Vals xs us → xs.all flatV = true → ∀ u ∈ us, SeqAt.EqAt A s u v (eqU x u)
  | _, _, .nil, _ => fun u hu => by cases hu
  | y :: xs, u :: us, .cons r t, f => fun u' hu => by
    rw [List.all_cons, Bool.and_eq_true] at f
    rcases List.mem_cons.mp hu with rfl | hu
    · rw [eqU_of r f.1]; exact eqAt_V r rx f.1 fx
    · exact mem_eqAt rx fx t f.2 u' hu
def inV (x : V) (xs : List V) : Bool := xs.any fun y => eqV y x
/-- x in a list or tuple of flat items -/
def rIn (K : PySem.W.Frag) (neg : Bool) : R2 := fun x y H Q => ∃ p xs, y = .ref p ∧ (SqL K H p xs ∨ SqT K H p xs) ∧ flatV x = true ∧ xs.all flatV = true ∧ Q (.bl (if neg then !inV x xs else inV x xs)) H
theorem op_in_seq : OpR X (compareOp .In) (rIn X.K false) := by
  intro pins s σ H x y v u Q I rx ry h
  obtain ⟨p, xs, rfl, hq, fx, fs, q⟩ := h
  cases ry
  rcases hq with hq | hq
  · obtain ⟨its, r, pl, hz⟩ := I.list hq
    refine SeqAt.in_listAt (eqU x) pl.isList (fun w hw => mem_eqAt rx fx r fs w (by simpa using hw)) ⟨.bl _, H, I, rfl, ?_⟩
    rw [show its.toArray.any (eqU x) = its.any (eqU x) by simp, any_eqU r fs]
    exact q
  · obtain ⟨its, r, pl, hz⟩ := I.tuple hq
    refine SeqAt.in_tupleAt (eqU x) pl (fun w hw => mem_eqAt rx fx r fs w (by simpa using hw)) ⟨.bl _, H, I, rfl, ?_⟩
    rw [show its.toArray.any (eqU x) = its.any (eqU x) by simp, any_eqU r fs]
    exact q
theorem op_notIn_seq : OpR X (compareOp .NotIn) (rIn X.K true) := by
  intro pins s σ H x y v u Q I rx ry h
  obtain ⟨p, xs, rfl, hq, fx, fs, q⟩ := h
  cases ry
  rcases hq with hq | hq
  · obtain ⟨its, r, pl, hz⟩ := I.list hq
    refine SeqAt.notIn_listAt (eqU x) pl.isList (fun w hw => mem_eqAt rx fx r fs w (by simpa using hw)) ⟨.bl _, H, I, rfl, ?_⟩
    rw [show its.toArray.any (eqU x) = its.any (eqU x) by simp, any_eqU r fs]
    exact q
  · obtain ⟨its, r, pl, hz⟩ := I.tuple hq
    refine SeqAt.notIn_tupleAt (eqU x) pl (fun w hw => mem_eqAt rx fx r fs w (by simpa using hw)) ⟨.bl _, H, I, rfl, ?_⟩
    rw [show its.toArray.any (eqU x) = its.any (eqU x) by simp, any_eqU r fs]
    exact q
/-! ### len, list(x), tuple(x) of any list or tuple that is read -/
theorem call_len_seq : CallR X (.builtin "len") (fun xs H Q => ∃ p ys, xs = [.ref p] ∧ (SqL X.K H p ys ∨ SqT X.K H p ys) ∧ Q (.int ys.length) H) := by
  intro pins s σ H xs us Q I r h
  obtain ⟨p, ys, rfl, hq, q⟩ := h
  obtain ⟨u, rfl, rx⟩ := vals1 r
  cases rx
  have hn := line63
  rcases hq with hq | hq
  · obtain ⟨its, r', pl, hz⟩ := I.list hq
    have hlen := r'.length
    exact Calls.call_len_list pl.isList (by simp only [List.size_toArray] <;> omega) ⟨.int ys.length, H, I.tok _, ⟨s.toks + 1, by rw [List.size_toArray, hlen]⟩, q⟩
  · obtain ⟨its, r', pl, hz⟩ := I.tuple hq
    have hlen := r'.length
    exact len_tuple pl (by simp only [List.size_toArray] <;> omega) ⟨.int ys.length, H, I.tok _, ⟨s.toks + 1, by rw [List.size_toArray, hlen]⟩, q⟩
theorem call_list_of : CallR X (.type "list") (fun xs H Q => ∃ p ys, xs = [.ref p] ∧ (SqL X.K H p ys ∨ SqT X.K H p ys) ∧ ∀ l, H l = none → Q (.ref l) (upd H l (.lst ys))) := by
  intro pins s σ H xs us Q I r h
  obtain ⟨p, ys, rfl, hq, q⟩ := h
  obtain ⟨u, rfl, rx⟩ := vals1 r
  cases rx
  have fin : ∀ (its : List Value), Vals ys its → ys.length ≤ sizeLine → ∀ (h' : Heap) (c' : Nat), (∀ b o', s.heap.get? b = some o' → h'.get? b = some o') →
      h'.get? s.heap.objs.size = some { cls := .type "list", dict := none, data := .seq its.toArray c', slots := #[] } → EP X pins σ Q (.ref s.heap.objs.size) { s with heap := h' } := fun its r' hz h' c' kp e =>
    ⟨.ref s.heap.objs.size, _, I.laid (t' := s.toks) kp (Nat.le_refl _) (show ObjOk X.prog X.w _ h' _ (.lst ys) from ⟨hz, its, c', r', e⟩), rfl, q _ (I.hok.fresh (Nat.le_refl _))⟩
  rcases hq with hq | hq
  · obtain ⟨its, r', pl, hz⟩ := I.list hq
    have hlen := r'.length
    obtain ⟨o, ho, hc, n, hd⟩ := pl.isList
    exact call_list_seq p (.inl rfl) ho hc hd (fun h' c' kp e => fin its r' hz h' c' kp e) (by simp only [List.size_toArray] <;> omega)
  · obtain ⟨its, r', pl, hz⟩ := I.tuple hq
    have hlen := r'.length
    obtain ⟨o, ho, hc, n, hd⟩ := pl
    exact call_list_seq p (.inr rfl) ho hc hd (fun h' c' kp e => fin its r' hz h' c' kp e) (by simp only [List.size_toArray] <;> omega)
theorem call_tuple_of : CallR X (.type "tuple") (fun xs H Q => ∃ p ys, xs = [.ref p] ∧ ((SqL X.K H p ys ∧ ∀ l, H l = none → Q (.ref l) (upd H l (.tup ys))) ∨ (SqT X.K H p ys ∧ Q (.ref p) H))) := by
  intro pins s σ H xs us Q I r h
  obtain ⟨p, ys, rfl, h⟩ := h
  obtain ⟨u, rfl, rx⟩ := vals1 r
  cases rx
  rcases h with ⟨hq, q⟩ | ⟨hq, q⟩
  · obtain ⟨its, r', pl, hz⟩ := I.list hq
    have hlen := r'.length
    refine call_tuple_list pl.isList (fun h' kp => ?_) (by simp only [List.size_toArray] <;> omega)
    have I1 : Inv X pins σ H { s with heap := h' } := I.kept (t' := s.toks) kp
    have I2 : Inv X pins σ (upd H h'.objs.size (.tup ys)) { s with heap := h'.push { cls := .type "tuple", data := .seq its.toArray } } :=
      I1.laid (t' := s.toks) (fun b o e => Heap.get?_push_of_some _ e) (Nat.le_refl _) (show ObjOk X.prog X.w _ _ _ (.tup ys) from ⟨⟨hz, ⟨_, Heap.get?_push_size _ rfl, rfl⟩⟩, its, r', IsTup.new _ _⟩)
    exact ⟨.ref h'.objs.size, _, I2, rfl, q _ (I1.hok.fresh (Nat.le_refl _))⟩
  · obtain ⟨its, r', pl, hz⟩ := I.tuple hq
    exact call_tuple_same pl ⟨.ref p, H, I, rfl, q⟩

/-! ### the call of a builtin's method: o.m(..) -/
/-- the value is of that builtin type -/
def tyV (K : PySem.W.Frag) (T : String) (x : V) (H : Hp) : Prop := match x with
  | .str _ => T = "str"
  | .int _ => T = "int"
  | .ref p => (T = "list" ∧ ∃ xs, SqL K H p xs) ∨ (T = "tuple" ∧ ((∃ o, K.lookup p = some o ∧ o.cls = .type "tuple" ∧ o.dict = none) ∨ ∃ xs, H p = some (.tup xs))) ∨
      (T = "dict" ∧ ((∃ kvs, H p = some (.dK kvs)) ∨ ∃ kvs, H p = some (.dT kvs))) ∨ (T = "set" ∧ ∃ S n, H p = some (.set S n))
  | _ => False
theorem tyV_is {pins : List (Addr × Obj)} {σ : St} {H : Hp} {s : Shared} {T : String} {x : V} {v : Value} (I : Inv X pins σ H s) (r : RelV x v) (ty : tyV X.K T x H) :
    s.TypeIs v T ∧ ∀ a, v = .ref a → ∃ ob, s.heap.get? a = some ob ∧ ob.dict = none := by
  cases x with
  | str z =>
    obtain ⟨t, rfl⟩ := r
    cases (show T = "str" from ty)
    exact ⟨typeIs_str s z t, fun _ e => nomatch e⟩
  | int i =>
    obtain ⟨t, rfl⟩ := r
    cases (show T = "int" from ty)
    exact ⟨typeIs_int s i t, fun _ e => nomatch e⟩
  | ref p =>
    cases r
    rcases ty with ⟨rfl, xs, hq⟩ | ⟨rfl, ⟨o, hk, hc, hd⟩ | ⟨ys, hk⟩⟩ | ⟨rfl, hk⟩ | ⟨rfl, S, n, hk⟩
    · obtain ⟨its, _, pl, _⟩ := I.list hq
      refine ⟨pl.isList.typeIs, fun a e => ?_⟩
      cases e
      obtain ⟨o, n, e, c, hd, _⟩ := pl
      exact ⟨o, e, hd⟩
    · refine ⟨⟨o, I.kIn p o hk, hc⟩, fun a e => ?_⟩
      cases e
      exact ⟨o, I.kIn _ o hk, hd⟩
    · obtain ⟨⟨_, o2, e2, d2⟩, _, _, ⟨o1, e1, c1, _⟩⟩ := (show ObjOk X.prog X.w H s.heap p (.tup ys) from I.hok p _ hk)
      refine ⟨⟨o1, e1, c1⟩, fun a ea => ?_⟩
      cases ea
      exact ⟨o2, e2, d2⟩
    · have z : ∃ o, s.heap.get? p = some o ∧ o.ExactDict := by
        rcases hk with ⟨kvs, hk⟩ | ⟨kvs, hk⟩
        · obtain ⟨_, _, _, _, o, _, _, e, ex, _⟩ := I.hok p _ hk
          exact ⟨o, e, ex⟩
        · obtain ⟨_, _, _, _, o, _, _, e, ex, _⟩ := I.hok p _ hk
          exact ⟨o, e, ex⟩
      obtain ⟨o, e, ex⟩ := z
      refine ⟨⟨o, e, ex.1⟩, fun a e2 => ?_⟩
      cases e2
      exact ⟨o, e, ex.2.1⟩
    · obtain ⟨o, _, _, _, e, ex, _⟩ := I.hok p _ hk
      refine ⟨⟨o, e, ex.1⟩, fun a e2 => ?_⟩
      cases e2
      exact ⟨o, e, ex.2.1⟩
  | _ => exact False.elim ty
def tBM0 (K : PySem.W.Frag) (T : String) (r : V → List V → Hp → VK → Prop) (to : TE) : TE := fun σ H Q => to σ H fun x H1 => tyV K T x H1 ∧ r x [] H1 Q
def tBM (K : PySem.W.Frag) (T : String) (r : V → List V → Hp → VK → Prop) (to : TE) (t : TA) : TE := fun σ H Q => to σ H fun x H1 => tyV K T x H1 ∧ t σ H1 fun xs H2 => r x xs H2 Q
variable {o e : Expr} {es : List Expr} {to : TE} {t : TA} {name : Str} {apos cpos : Pos} {T id : String} {r : V → List V → Hp → VK → Prop}
theorem pe_bm0 (pa : PlainAttrs T) (slot : Slot T name id) (hty : typeOf (.builtin id) = pure (.type "method_descriptor")) (hm : MtR X id r) (ho : PE X o to)
    (hbase : attributeBase o name X.env (eval o X.env) = eval o X.env := by rfl) (hline : (apos.endLine == cpos.line) = true := by rfl) : PE X (.Call (.Attribute o name apos) [] [] cpos) (tBM0 X.K T r to) := by
  intro pins s σ H Q I h
  refine wpAny_Call_method0_late hbase hline (thn (ho pins s σ H _ I h) fun v s1 ⟨x, H1, I1, r1, ty, q1⟩ => ?_)
  obtain ⟨h1, h2⟩ := tyV_is I1 r1 ty
  exact ⟨T, id, pa, slot, hty, h1, h2, Calls.callWith_builtin rfl (PySem.evalArgs_none (hm pins s1 σ H1 x [] v [] Q I1 r1 .nil q1))⟩
theorem pe_bm (pa : PlainAttrs T) (slot : Slot T name id) (hty : typeOf (.builtin id) = pure (.type "method_descriptor")) (hm : MtR X id r) (ho : PE X o to) (ha : PA X (e :: es) t)
    (hbase : attributeBase o name X.env (eval o X.env) = eval o X.env := by rfl)
    (hfew : ((backTo cpos (starEach (e :: es) X.env)).all (fun x => !x.1) && (backToKw cpos (keywordEach [] X.env)).all (fun x => x.1.isSome)
      && decide ((e :: es).length + ([] : List Keyword).length + (if ([] : List Keyword).isEmpty then 0 else 1) < 30)) = true := by rfl)
    (hline : (apos.endLine == cpos.line) = true := by rfl) (hs : starEach (e :: es) X.env = (false, eval e X.env) :: starEach es X.env := by rfl) (hplain : (backTo cpos (starEach es X.env)).any (·.1) = false := by rfl) :
    PE X (.Call (.Attribute o name apos) (e :: es) [] cpos) (tBM X.K T r to t) := by
  intro pins s σ H Q I h
  refine wpAny_Call_method_late hbase hfew hline rfl (thn (ho pins s σ H _ I h) fun v s1 ⟨x, H1, I1, r1, ty, q1⟩ => ?_)
  obtain ⟨h1, h2⟩ := tyV_is I1 r1 ty
  refine ⟨T, id, pa, slot, hty, h1, h2, ?_⟩
  have hA := ha cpos pins s1 σ H1 _ I1 q1
  rw [hs] at hA ⊢
  refine Calls.callWith_builtin (by show (false || (backTo cpos (starEach es X.env)).any (·.1)) = false; rw [hplain] <;> rfl) (Calls.evalArgs_plain ?_)
  exact thn hA fun us s2 ⟨vs, H2, I2, r2, q2⟩ => hm pins s2 σ H2 x vs v us Q I2 r1 r2 q2
/- xs.append(e), list.index on a module's tuple .. are MtR facts of 06m -/
end
end L2

namespace L2
open PySem PySem.Spec PyProof.Rows

def MtM (X : Cx) (id : String) (r : V → List V → Hp → VK → Prop) : Prop :=
  ∀ (pins : List (Addr × Obj)) (s : Shared) (σ : St) (H : Hp) (x : V) (xs : List V) (v : Value) (us : List Value) (Q : VK), Inv X pins σ H s → RelV x v → Vals xs us → r x xs H Q →
    wpAny (model X.prog X.w) X.A (call (.builtin id) (v :: us)) (EP X pins σ Q) X.xe s

/-! ### lists of values -/
theorem Vals.one : ∀ {x : V} {us : List Value}, Vals [x] us → ∃ u, us = [u] ∧ RelV x u
  | _, _, .cons r .nil => ⟨_, rfl, r⟩
theorem Vals.two : ∀ {x y : V} {us : List Value}, Vals [x, y] us → ∃ u v, us = [u, v] ∧ RelV x u ∧ RelV y v
  | _, _, _, .cons r (.cons q .nil) => ⟨_, _, rfl, r, q⟩
theorem Vals.zero : ∀ {us : List Value}, Vals [] us → us = []
  | _, .nil => rfl
theorem Vals.dropLast {xs : List V} {us : List Value} (h : Vals xs us) : Vals xs.dropLast us.dropLast := by
  induction h with
  | nil => exact .nil
  | cons r t ih =>
    cases t with
    | nil => exact .nil
    | cons q t' => exact .cons r ih
theorem Vals.eraseIdx : ∀ {xs : List V} {us : List Value} (i : Nat), Vals xs us → Vals (xs.eraseIdx i) (us.eraseIdx i)
  | _, _, _, .nil => .nil
  | _, _, 0, .cons _ t => t
  | _, _, i + 1, .cons r t => .cons r (Vals.eraseIdx i t)
theorem Vals.reverse {xs : List V} {us : List Value} (h : Vals xs us) : Vals xs.reverse us.reverse := by
  induction h with
  | nil => exact .nil
  | cons r t ih => rw [List.reverse_cons, List.reverse_cons]; exact Vals.append ih (.cons r .nil)
theorem Vals.rep {xs : List V} {us : List Value} (h : Vals xs us) : ∀ k : Nat, Vals (List.replicate k xs).flatten (List.replicate k us).flatten
  | 0 => .nil
  | k + 1 => by
    rw [List.replicate_succ, List.replicate_succ, List.flatten_cons, List.flatten_cons]
    exact Vals.append h (Vals.rep h k)
theorem erase_last {α : Type} (l : List α) : l.eraseIdx (l.length - 1) = l.dropLast := by
  induction l with
  | nil => rfl
  | cons a r ih =>
    cases r with
    | nil => rfl
    | cons b r =>
      have e : (a :: b :: r).length - 1 = ((b :: r).length - 1) + 1 := by
        have h1 : (a :: b :: r).length = r.length + 2 := rfl
        have h2 : (b :: r).length = r.length + 1 := rfl
        omega
      rw [e, List.eraseIdx_cons_succ, ih]
      all_goals rfl
theorem foldl_rep (its : List Value) : ∀ (k : Nat) (acc : List Value),
    List.foldl (fun x1 x2 => x1 ++ x2) acc.toArray (List.replicate k its.toArray) = (acc ++ (List.replicate k its).flatten).toArray
  | 0, acc => by simp
  | k + 1, acc => by
    have e : acc.toArray ++ its.toArray = (acc ++ its).toArray := by simp
    have e2 : (acc ++ its) ++ (List.replicate k its).flatten = acc ++ (List.replicate (k + 1) its).flatten := by
      rw [List.replicate_succ, List.flatten_cons, List.append_assoc]
    rw [← e2, ← foldl_rep its k (acc ++ its), ← e, List.replicate_succ, List.foldl_cons]

section
variable {X : Cx} {pins : List (Addr × Obj)} {σ : St} {H : Hp} {s : Shared} {l b : Addr} {xs ys zs : List V}

/-! ### the two steps: a tracked list is rewritten, a new list is laid -/
theorem Inv.lset {its its' : List Value} {n : Nat} {f : Array Value → Array Value} {t' : Nat} (I : Inv X pins σ H s) (hH : H l = some (.lst xs))
    (e : s.heap.get? l = some { cls := .type "list", data := .seq its.toArray n }) (hf : f its.toArray = its'.toArray) (hv : Vals ys its') (hz : ys.length ≤ sizeLine) :
    Inv X pins σ (upd H l (.lst ys)) { s with heap := s.heap.update l (Obj.mapSeq f), toks := t' } := by
  have q := PySem.IsL.update e f
  rw [hf] at q
  refine I.write (x := l) (e := l) (by rw [hH]; exact trivial) (.inl rfl) (fun b' u hb hu => (Heap.get?_update_other s.heap (Obj.mapSeq f) (Ne.symm hb)).trans hu) ⟨_, q⟩ ?_
  exact ⟨hz, its', _, hv, q⟩
theorem Inv.lnew {its : List Value} {t' : Nat} (I : Inv X pins σ H s) (hv : Vals ys its) (hz : ys.length ≤ sizeLine) :
    Inv X pins σ (upd H s.heap.objs.size (.lst ys)) { s with heap := s.heap.push { cls := .type "list", data := .seq its.toArray }, toks := t' } :=
  I.laid (fun _ _ q => Heap.get?_push_of_some _ q) (Nat.le_refl _) ⟨hz, its, 0, hv, Heap.get?_push_size _ rfl⟩
theorem Inv.fresh (I : Inv X pins σ H s) : H s.heap.objs.size = none := I.hok.fresh (Nat.le_refl _)
theorem Inv.lstM (I : Inv X pins σ H s) (hH : H l = some (.lst xs)) : xs.length ≤ sizeLine ∧ ∃ (its : List Value) (n : Nat), Vals xs its ∧ xs.length = its.length ∧ s.heap.get? l = some { cls := .type "list", data := .seq its.toArray n } := by
  obtain ⟨z, its, n, r, e⟩ := I.hok l _ hH
  exact ⟨z, its, n, r, r.length, e⟩

theorem notLongL {n : Nat} (h : n ≤ sizeLine) : Builtin.List.listTooLong n = false := by
  unfold Builtin.List.listTooLong
  exact decide_eq_false (by omega)
end

section
variable {X : Cx}

/-! ### methods -/
def rAppend : V → List V → Hp → VK → Prop := fun x vs H Q => ∃ l xs y, x = .ref l ∧ vs = [y] ∧ H l = some (.lst xs) ∧ xs.length < sizeLine ∧ Q .non (upd H l (.lst (xs ++ [y])))
theorem mt_append : MtM X "list.append" rAppend := by
  intro pins s σ H x vs v us Q I rx rv h
  obtain ⟨l, xs, y, rfl, rfl, hH, hz, q⟩ := h
  cases rx
  obtain ⟨u, rfl, ru⟩ := rv.one
  obtain ⟨z, its, n, r, hl, e⟩ := I.lstM hH
  refine call_meets F.slot_list_append ⟨_, e, rfl⟩ F.entry_list_append (F.args_list_append_2 _ _) (PySem.list_append l its.toArray n u (by rw [List.size_toArray]; omega)) ⟨e, ?_⟩
  refine ⟨.non, _, I.lset (its' := its ++ [u]) hH e (by simp) (r.append (.cons ru .nil)) ?_, rfl, q⟩
  rw [List.length_append, List.length_singleton]
  omega

def rExtend : V → List V → Hp → VK → Prop := fun x vs H Q => ∃ l b xs zs, x = .ref l ∧ vs = [.ref b] ∧ H l = some (.lst xs) ∧ H b = some (.lst zs) ∧ xs.length + zs.length ≤ sizeLine ∧ Q .non (upd H l (.lst (xs ++ zs)))
def rPop : V → List V → Hp → VK → Prop := fun x vs H Q => ∃ l xs y, x = .ref l ∧ vs = [] ∧ H l = some (.lst xs) ∧ xs[xs.length - 1]? = some y ∧ Q y (upd H l (.lst xs.dropLast))
theorem mt_pop : MtM X "list.pop" rPop := by
  intro pins s σ H x vs v us Q I rx rv h
  obtain ⟨l, xs, y, rfl, rfl, hH, hy, q⟩ := h
  cases rx
  have hus := rv.zero
  subst hus
  obtain ⟨z, its, n, r, hl, e⟩ := I.lstM hH
  obtain ⟨u, hu, ru⟩ := r.get hy
  have hy' : its.toArray[its.toArray.size - 1]? = some u := by
    show its.toArray[its.length - 1]? = some u
    rw [← Array.getElem?_toList, ← hl]
    exact hu
  refine call_meets F.slot_list_pop ⟨_, e, rfl⟩ F.entry_list_pop (F.args_list_pop_1 _) (MeetsSeq.list_pop_last l its.toArray n u hy' (by rw [List.size_toArray]; omega)) ⟨e, ?_⟩
  refine ⟨y, _, I.lset (its' := its.dropLast) hH e ?_ r.dropLast ?_, ru, q⟩
  · show its.toArray.eraseIdxIfInBounds (its.toArray.size - 1) = its.dropLast.toArray
    rw [List.size_toArray, List.eraseIdxIfInBounds_toArray, erase_last]
  · rw [List.length_dropLast]
    omega

def rPopAt : V → List V → Hp → VK → Prop := fun x vs H Q => ∃ l xs i k y, x = .ref l ∧ vs = [.int i] ∧ H l = some (.lst xs) ∧ -(2 ^ 63) ≤ i ∧ i < 2 ^ 63 ∧ seqIndex? i xs.length = some k ∧ xs[k]? = some y ∧ Q y (upd H l (.lst (xs.eraseIdx k)))
def rReverse : V → List V → Hp → VK → Prop := fun x vs H Q => ∃ l xs, x = .ref l ∧ vs = [] ∧ H l = some (.lst xs) ∧ Q .non (upd H l (.lst xs.reverse))
def rClear : V → List V → Hp → VK → Prop := fun x vs H Q => ∃ l xs, x = .ref l ∧ vs = [] ∧ H l = some (.lst xs) ∧ Q .non (upd H l (.lst []))
/-! ### list + list, list += list, list * int -/
def rCat : R2 := fun x y H Q => ∃ l b xs zs, x = .ref l ∧ y = .ref b ∧ H l = some (.lst xs) ∧ H b = some (.lst zs) ∧ xs.length + zs.length ≤ sizeLine ∧ ∀ p, H p = none → Q (.ref p) (upd H p (.lst (xs ++ zs)))
theorem op_cat : OpR X (binaryOp .Add) rCat := by
  intro pins s σ H x y v u Q I rx ry h
  obtain ⟨l, b, xs, zs, rfl, rfl, hH, hB, hz, q⟩ := h
  cases rx
  cases ry
  obtain ⟨z, its, n, r, hl, e⟩ := I.lstM hH
  obtain ⟨z2, its2, n2, r2, hl2, e2⟩ := I.lstM hB
  refine PySem.P.add_list e e2 ?_ (by rw [List.size_toArray, List.size_toArray]; omega)
  have ea : its.toArray ++ its2.toArray = (its ++ its2).toArray := by simp
  rw [ea]
  exact ⟨.ref _, _, I.lnew (t' := s.toks) (r.append r2) (by rw [List.length_append]; omega), rfl, q _ I.fresh⟩
/-- a list times an int (a negative one is nothing) -/
def rRep : R2 := fun x y H Q => ∃ l k xs, x = .ref l ∧ y = .int k ∧ H l = some (.lst xs) ∧ -(2 ^ 63) ≤ k ∧ k < 2 ^ 63 ∧ xs.length * k.toNat ≤ sizeLine ∧
  ∀ p, H p = none → Q (.ref p) (upd H p (.lst (List.replicate k.toNat xs).flatten))
theorem len_rep {α : Type} (xs : List α) (k : Nat) : (List.replicate k xs).flatten.length = k * xs.length := by
  induction k with
  | zero => simp
  | succ k ih => rw [List.replicate_succ, List.flatten_cons, List.length_append, ih, Nat.succ_mul, Nat.add_comm]
theorem op_rep : OpR X (binaryOp .Mult) rRep := by
  intro pins s σ H x y v u Q I rx ry h
  obtain ⟨l, k, xs, rfl, rfl, hH, h1, h2, hz, q⟩ := h
  cases rx
  obtain ⟨t, rfl⟩ := ry
  obtain ⟨z, its, n, r, hl, e⟩ := I.lstM hH
  have hlen : its.toArray.size * k.toNat ≤ sizeLine := by rw [List.size_toArray, ← hl]; exact hz
  have hcap : ¬ its.toArray.size * k.toNat > (2 ^ 63 - 1) / 8 := by
    have : (sizeLine : Nat) ≤ (2 ^ 63 - 1) / 8 := by decide
    omega
  have hfit : ¬ (!Builtin.List.listFitsIndex k) = true := by
    rw [fitsIndex_both h1 h2]
    exact Bool.false_ne_true
  have hlong : ¬ Builtin.List.listTooLong (its.toArray.size * k.toNat) = true := by
    rw [notLongL hlen]
    exact Bool.false_ne_true
  have hnew : List.foldl (fun x1 x2 => x1 ++ x2) #[] (List.replicate (if its.toArray.isEmpty = true then 0 else k.toNat) its.toArray) = (List.replicate k.toNat its).flatten.toArray := by
    have f0 : ∀ m : Nat, List.foldl (fun x1 x2 => x1 ++ x2) #[] (List.replicate m its.toArray) = (List.replicate m its).flatten.toArray := fun m => by
      have := foldl_rep its m []
      rw [List.nil_append] at this
      exact this
    rw [f0]
    cases its with
    | nil => simp
    | cons a r' => rw [if_neg (by simp)]
  refine wpAny_binaryOp_repeat_ref (T := "list") (U := "int") (by decide) ⟨_, e, rfl⟩ (fun s' => typeIs_int s' k t) noFill_list_mul F.fills_int_mul F.slot_int_rmul repeat_list F.slot_int_index.lookup
    (call_meets F.slot_int_rmul (typeIs_int s k t) F.entry_int_rmul (F.args_int_rmul_2 _ _) (int___rmul___int_list k t l its.toArray n)
      ⟨e, rfl, ⟨_, e, rfl⟩, call_meets F.slot_list_mul ⟨_, e, rfl⟩ F.entry_list_mul (F.args_list_mul_2 _ _) (AutoListH.list___mul___list_int_3 l its.toArray n k t hfit hcap hlong) ⟨e, ?_⟩⟩)
  rw [hnew]
  exact ⟨.ref _, _, I.lnew (t' := s.toks) (r.rep k.toNat) (by rw [len_rep, Nat.mul_comm]; exact hz), rfl, q _ I.fresh⟩

/-! ### del xs[i] -/
end

/-! ### xs[a:b] = ys -/
section
variable {prog : Program} {w : World} {A : Around} {E : Value → Shared → Prop} {s : Shared}
end

section
variable {X : Cx}
end
end L2

namespace Att
open PySem PySem.W PySem.Calls PyProof.Rows

/-! ### the script -/
theorem ints_of_wellAll {P : Params} {h : Heap} : ∀ (ns : List Int) (vs : List Value), WellAll P h vs (ns.map WData.int) → IntsAre vs ns := by
  intro ns
  induction ns with
  | nil =>
    intro vs w
    rw [List.map_nil] at w
    cases w
    exact .nil
  | cons n ns ih =>
    intro vs w
    rw [List.map_cons] at w
    cases w with
    | cons a b =>
      cases a
      exact .cons _ _ (ih _ b)

theorem script_of {l : OpenLaw} {n : Nat} (hn : l.most = some n) {P : Params} {h : Heap} {args : List WData} {vals : List Value}
    (hpre : l.row.toRowW.claim.pre args = true) (hwl : WellAll P h vals args) :
    ∃ a vs ns, vals = [Value.ref a] ∧ args = [WData.list (ns.map WData.int)] ∧ h.get? a = some { cls := .type "list", data := .seq vs.toArray } ∧ IntsAre vs ns ∧ ns.length ≤ n := by
  have hsh : WShape.hasAll [] args [.list .int] = true := (pre_splitW hpre).1
  have hc : l.pre.holds [] { args := args } = true := (pre_splitW hpre).2
  obtain ⟨d, r, rfl, h1, h2⟩ := hasAllW_cons hsh
  obtain rfl := hasAllW_nil h2
  obtain ⟨xs, rfl, h3⟩ := hasW_list h1
  obtain ⟨ns, rfl⟩ := items_int h3
  have hlen : ns.length ≤ n := by
    unfold OpenLaw.pre at hc
    have h4 : (WTm.not (.lt (.lit (.int (n : Int))) (.len (.arg 0)))).holds [] { args := [.list (ns.map .int)] } = true := by
      have h4 := (holds_andW hc).1
      rw [hn] at h4
      exact h4
    have h5 := condW_of h4 (w_not (w_lt w_lit (w_len_list (w_arg rfl))))
    rw [List.length_map] at h5
    refine Nat.le_of_not_lt fun q => ?_
    have q' : (n : Int) < ((ns.length : Nat) : Int) := by omega
    first
      | (rw [decide_eq_true q'] at h5; exact absurd h5 (by decide))
      | (simp at h5; omega)
  cases hwl with
  | cons w1 w2 =>
    cases w2
    cases w1 with
    | list ho hall => exact ⟨_, _, ns, rfl, rfl, ho, ints_of_wellAll ns _ hall, hlen⟩

theorem post_true (l : OpenLaw) (args : List WData) : l.row.toRowW.claim.post args (.bool true) args = true :=
  postW_of (r := l.row.toRowW) (X := (true == true))
    (show WShape.has [] (.bool true) .bool = true by first | rfl | decide | simp [WShape.has, WShape.arms, WShape.armsAll])
    (show (WTm.eq .res (.lit (.bool true))).value [] { args := args, res := some (.bool true), after := args } = some (.bool (true == true)) from w_eq_bool (w_res rfl) w_lit) rfl

/-! ### the attachment: holds_open's last premise (the goal 'hc' behind k_head) from a wpAny of the law's body -/
/-! ### rules over ANY heap (no ledger) from facts about the written part K: the library's own take a ledger (News) for what they write -/
section
variable {prog : Program} {w : World} {A : Around} {E : Value → Shared → Prop} {s : Shared} {K : Frag}

/-! the whole heap as the ledger: makes every rule that writes through a ledger a rule over any heap -/
def noObjs (h : Heap) : Heap := { h with objs := #[] }
def ledger (h : Heap) (L d : Addr) : List (Addr × Obj) := (List.range h.objs.size).filterMap fun a => if a = L ∨ a = d then none else (h.get? a).map fun o => (a, o)
end
end Att

namespace L2
open PySem PySem.Spec PyProof.Rows

theorem vals_ints : ∀ {vs : List Value} {ns : List Int}, IntsAre vs ns → Vals (ns.map V.int) vs
  | _, _, .nil => .nil
  | _, _, .cons n t h => .cons ⟨t, rfl⟩ (vals_ints h)

/-- nothing is tracked but the script, known to the object (or it is an object of the module) -/
def Only (H : Hp) : Prop := ∀ b, H b = none ∨ ∃ o xs, H b = some (.frz o (.lst xs))

/-- THE HEAD: the law's promise, at the heap behind the top. F, the promise of the law's def, may use that base is part of the heap (so K.In base, base.Ns mainGlobals mg stand in Mod) -/
theorem law_call {P : Program} {w : World} {K : PySem.W.Frag} {mg mb : Str → Option Value} {CX : CXT} {k : Nat} {fa a : Addr} {fd : FuncData} {x : Str} {sp : Sp} {s₁ : Shared} {vs : List Value} {ns : List Int}
    (KX : K.In s₁.heap) (hns : s₁.heap.Ns mainGlobals mg) (hb : s₁.heap.Ns builtinsNs mb) (hbb : ∀ x : Str, x ≠ "__name__" → mb x = bootBuiltins x) (hlim : s₁.heap.NoLimit) (hg : s₁.gens = #[])
    (ha : s₁.heap.get? a = some { cls := .type "list", data := .seq vs.toArray }) (hi : IntsAre vs ns) (hl : ns.length ≤ sizeLine) (hr : Room k callerA)
    (F : ∀ base : Heap, K.In base → base.Ns mainGlobals mg → FnOk P w K mg base CX k fa fd [x] sp) (hbind : ∀ (s : Shared) (u : Value), BindsTo s fd ⟨[u], []⟩ [(x, u)])
    (hsp : ∀ H : Hp, Only H → SqL K H a (ns.map V.int) → sp [.ref a] H (fun v _ => v = .bl true) fun _ _ _ => False)
    (hCX : ∀ H e s', CX [] H s₁ (fun _ _ _ => False) e s' → False) :
    codeAny (model P w) callerA (.call (.ref fa) ⟨[.ref a], []⟩) (fun r s' => r = .ok (.ret (.bool true)) ∧ OldK s₁.heap s'.heap ∧ s'.os = s₁.os ∧ AllBare s'.gens) s₁ := by
  have rv := vals_ints hi
  have lenV := hi.length
  -- from an abstract heap in which nothing but the script may be tracked
  have core : ∀ H : Hp, Only H → SqL K H a (ns.map V.int) → HOk P w H s₁.heap → (∀ b, H b ≠ none → b = a) → (H a ≠ none → K.lookup a = none) →
      codeAny (model P w) callerA (.call (.ref fa) ⟨[.ref a], []⟩) (fun r s' => r = .ok (.ret (.bool true)) ∧ OldK s₁.heap s'.heap ∧ s'.os = s₁.os ∧ AllBare s'.gens) s₁ := by
    intro H hO hS hok hA hK
    have base_of : ∀ {b : Addr} {o : Obj}, s₁.heap.get? b = some o → H b = none → (hidT s₁.heap H).get? b = some o := fun e n => hidT_get e n
    have noA : ∀ {b : Addr} {o : Obj} {es : Array DictEntry} {ep : Nat}, s₁.heap.get? b = some o → o.data = .dict es ep → H b = none := fun {b o es ep} e d => by
      cases q : H b with
      | none => rfl
      | some u =>
        have e' : b = a := hA b (by rw [q]; simp)
        subst e'
        rw [ha] at e; cases e
        have d' : Data.seq vs.toArray _ = Data.dict es ep := d
        cases d'
    have nsK : ∀ {b : Addr} {m : Str → Option Value}, s₁.heap.Ns b m → (hidT s₁.heap H).Ns b m := fun {b m} ⟨o, es, ep, e, d, r⟩ => ⟨o, es, ep, base_of e (noA e d), d, r⟩
    have hKb : K.In (hidT s₁.heap H) := fun b o e => base_of (KX b o e) (by
      cases q : H b with
      | none => rfl
      | some u =>
        have e' : b = a := hA b (by rw [q]; simp)
        subst e'
        rw [hK (by rw [q]; simp)] at e; cases e)
    have hM : Mod K mg (hidT s₁.heap H) := ⟨hKb, nsK hns, ⟨mb, nsK hb, hbb⟩, let ⟨mc, h1, h2⟩ := hlim; ⟨mc, nsK h1, h2⟩⟩
    have e0 : Env0 P w K mg (hidT s₁.heap H) callerA [] s₁ H := ⟨rfl, hM, fun b o e => of_hidT e, Nat.le_of_eq (hidT_size _ _), trivial, fun b hb => absurd (show b ∈ ([] : List Addr) from hb) (by simp), hok, .of_eq hg⟩
    refine codeAny_mono ((F _ hKb (nsK hns)).run callerA [] s₁ H ⟨[.ref a], []⟩ [.ref a] [.ref a] _ _ hr e0 (hbind s₁ (.ref a)) (.cons rfl .nil) (hsp H hO hS)) fun r s' h => ?_
    cases r with
    | error e => exact (hCX H e s' h).elim
    | ok fl =>
      cases fl with
      | next => exact False.elim h
      | brk => exact False.elim h
      | cont => exact False.elim h
      | ret u =>
        obtain ⟨v, H', os, bare, un, hok', r', q⟩ := h
        have q' : v = .bl true := q
        subst q'
        obtain rfl : u = Value.bool true := r'
        refine ⟨rfl, OldK.of_keep fun b o e => ?_, os, bare⟩
        cases q : H b with
        | none => exact un.keep b o e q (by intro z; exact absurd (show b ∈ ([] : List Addr) from z) (by simp)) (by simp)
        | some u =>
          rcases hO b with z | ⟨ob, xs, z⟩
          · rw [q] at z; cases z
          · have z2 := un.frzs b ob _ z
            obtain ⟨e1, _⟩ := hok b _ z
            obtain ⟨e2, _⟩ := hok' b _ z2
            rw [e] at e1; cases e1
            exact e2
  cases hk : K.lookup a with
  | some o =>
    -- the script is one of the module's own objects
    have e := KX a o hk
    rw [ha] at e
    cases e
    refine core (fun _ => none) (fun _ => .inl rfl) (.inr ⟨_, vs.toArray, _, hk, rfl, rfl, rfl, by rw [List.size_toArray, lenV]; exact hl, by simpa using rv⟩) (fun b u z => by have z' : (none : Option HO) = some u := z; cases z') (fun b z => absurd rfl z) fun z => absurd rfl z
  | none =>
    refine core (fun b => if b = a then some (.frz { cls := .type "list", data := .seq vs.toArray } (.lst (ns.map V.int))) else none) (fun b => ?_) (.inl (.inr ⟨{ cls := .type "list", data := .seq vs.toArray }, if_pos rfl⟩)) (fun b u z => ?_) (fun b z => ?_) fun _ => hk
    · by_cases hb : b = a
      · exact .inr ⟨_, _, if_pos hb⟩
      · exact .inl (if_neg hb)
    · by_cases hb : b = a
      · have z' := (if_pos hb).symm.trans z
        cases z'
        subst hb
        exact ⟨ha, by rw [List.length_map]; exact hl, vs, _, rv, ha⟩
      · have z' := (if_neg hb).symm.trans z
        cases z'
    · by_cases hb : b = a
      · exact hb
      · exact absurd (if_neg hb) z
end L2

namespace L2
open PySem PySem.Spec PyProof.Rows

abbrev KOf {K : PySem.W.Frag} {h : Heap} (_ : K.In h) : PySem.W.Frag := K

end L2

/-! SHORT WORDS over the layer: a def of the text, its body, what a loop and a test want. -/
namespace L2
open PySem PySem.Spec PyProof.Rows

/-! ### the text by places -/
/-- the j-th statement of a class's body -/
def inClass (s : Stmt) (j : Nat) : Stmt := match s with
  | .ClassDef _ _ _ body _ _ _ _ _ _ _ => body.getD j (.Pass ⟨0, 0, 0, 0⟩)
  | _ => .Pass ⟨0, 0, 0, 0⟩
def defArgs (s : Stmt) : Arguments := match s with
  | .FunctionDef _ a _ _ _ _ _ _ _ _ => a
  | _ => { posonlyargs := [], args := [], vararg := none, kwonlyargs := [], kw_defaults := [], kwarg := none, defaults := [] }
def defBody (s : Stmt) : List Stmt := match s with
  | .FunctionDef _ _ b _ _ _ _ _ _ _ => b
  | _ => []
def defScope (s : Stmt) : Scope := match s with
  | .FunctionDef _ _ _ _ _ _ sc _ _ _ => sc
  | _ => { kind := .function, names := [], isGenerator := false, isCoroutine := false }

/-! ### no exception leaves a def -/
abbrev CX0 : CXT := fun _ _ _ _ _ _ => False
abbrev E0 : XK := fun _ _ _ => False
theorem pass0 {X : Cx} : Passes CX0 X E0 := fun _ _ _ _ _ _ _ h => h.elim

/-! ### a def (or method) of the text as it stands behind the top -/
structure Fun (K : PySem.W.Frag) (x qual : Str) (st : Stmt) (f : Addr) (fd : FuncData) : Prop where
  ex : ∃ (oc : Value) (od : Option Addr) (kV doc pm : Value) (an : Option Addr) (cdv ct : Value) (osl : Array (Option Value)),
    fd = PySem.W.fnOf x qual (defArgs st) (defBody st) (defScope st) .none kV doc pm an cdv ct ∧ K.lookup f = some ⟨oc, od, .func fd, osl⟩ ∧ PySem.W.codeIn K cdv qual = true
  kp : PySem.W.keepIn K (.ref f) = true
section
variable {P : Program} {w : World} {K : PySem.W.Frag} {mg : Str → Option Value} {base : Heap}
/-- THE RULE for a def: its body as a term of rules, and the reading of that term -/
theorem Fun.ok {x qual : Str} {st : Stmt} {f : Addr} {fd : FuncData} {N ps : List Str} {k : Nat} {sp : Sp} (F : Fun K x qual st f fd) (S : FnScope N ps (defScope st)) (len : ∀ vs H Q E, sp vs H Q E → vs.length = ps.length)
    (hbody : ∀ (cdv : Value) (A : Around) (outer : List Env) (s : Shared) (H : Hp) (vs : List V) (Q : VK) (E : XK), Room k (A.deeper (envOfC qual (defScope st) s.heap.objs.size f cdv)) → sp vs H Q E →
      ∃ t, PSs (cxOf CX0 P w K mg base N qual (defScope st) f cdv A outer s H E).nox (defBody st) t ∧ t { nx := fun _ H' => Q .non H', rt := Q } (start N vs) H) : FnOk P w K mg base CX0 (k + 1) f fd ps sp := by
  obtain ⟨oc, od, kV, doc, pm, an, cdv, ct, osl, rfl, lk, hcd⟩ := F.ex
  refine fn_of lk hcd S len fun A outer s H vs Q E hr hsp => ?_
  obtain ⟨t, h, q⟩ := hbody cdv A outer s H vs Q E hr hsp
  exact ⟨t, h.nox, q⟩
/-- how its arguments bind (no defaults): h is «fun _ _ _ _ _ _ us hl => match us, hl with | [_, _], _ => rfl», one _ a parameter -/
theorem Fun.binds {x qual : Str} {st : Stmt} {f : Addr} {fd : FuncData} {ps : List Str} (F : Fun K x qual st f fd)
    (h : ∀ (kV doc pm : Value) (an : Option Addr) (cdv ct : Value) (us : List Value), us.length = ps.length → bindArgs (PySem.W.fnOf x qual (defArgs st) (defBody st) (defScope st) .none kV doc pm an cdv ct) ⟨us, []⟩ = pure (ps.zip us)) : Binds K fd ps [] := by
  obtain ⟨oc, od, kV, doc, pm, an, cdv, ct, osl, rfl, lk, hcd⟩ := F.ex
  exact .all (h kV doc pm an cdv ct)
theorem fun_mk {x qual : Str} {st : Stmt} {f : Addr} {oc : Value} {od an : Option Addr} {osl : Array (Option Value)} {kV doc pm cdv ct : Value} (l : K.lookup f = some ⟨oc, od, .func (PySem.W.fnOf x qual (defArgs st) (defBody st) (defScope st) .none kV doc pm an cdv ct), osl⟩)
    (c : PySem.W.codeIn K cdv qual = true) (k : PySem.W.keepIn K (.ref f) = true) : Fun K x qual st f (PySem.W.fnOf x qual (defArgs st) (defBody st) (defScope st) .none kV doc pm an cdv ct) := ⟨⟨oc, od, kV, doc, pm, an, cdv, ct, osl, rfl, l, c⟩, k⟩
end
theorem small1000 {n : Nat} (h : n ≤ 1000) : n < sizeLine := Nat.lt_of_le_of_lt h (by decide)

/-! ### expressions in short: the name that stands in the i-th slot -/
section
variable {X : Cx}
theorem pv (i : Nat) {x : Str} {pos : Pos} (hN : X.N[i]? = some x := by rfl) (hv : Vis X.env.scope x := by first | exact Or.inl rfl | exact Or.inr (Or.inl rfl) | exact Or.inr (Or.inr rfl)) (hd : (x == ("__debug__" : Str)) = false := by decide)
    (hcd : (x == ("__classdict__" : Str)) = false := by decide) : PE X (.Name x pos) (tVar i) := pe_var hN hv hd hcd
end

/-! ### tests -/
theorem ite2 {c A B : Prop} [Decidable c] (h1 : c → A) (h2 : ¬ c → B) : if c then A else B := by
  by_cases h : c
  · rw [if_pos h]
    exact h1 h
  · rw [if_neg h]
    exact h2 h
/-! ### heaps -/
/-- all that was tracked is as it was -/
def Same (H H' : Hp) : Prop := ∀ b o, H b = some o → H' b = some o
theorem Same.refl (H : Hp) : Same H H := fun _ _ h => h
theorem Same.trans {H H1 H2 : Hp} (a : Same H H1) (b : Same H1 H2) : Same H H2 := fun c o h => b c o (a c o h)
theorem Same.free {H H' : Hp} (e : Same H H') {l : Addr} (h : H' l = Option.none) : H l = Option.none := by
  cases q : H l with
  | none => rfl
  | some o =>
    rw [e l o q] at h
    cases h
theorem Same.seq {K : PySem.W.Frag} {H H' : Hp} {a : Addr} {xs : List V} (e : Same H H') (h : SqL K H a xs) : SqL K H' a xs := by
  rcases h with (h | ⟨o, h⟩) | h
  · exact .inl (.inl (e _ _ h))
  · exact .inl (.inr ⟨o, e _ _ h⟩)
  · exact .inr h

end L2

set_option Elab.async false
set_option linter.all false
set_option maxRecDepth 100000
set_option maxHeartbeats 4000000
namespace L2
open PySem PySem.Spec PyProof.Rows

/-! ### comprehensions -/
def closL (cells : List (Str × Addr)) : List (Str × NameKind) → List (Str × Addr) → List (Str × Addr)
  | [], cs => cs
  | (n, k) :: r, cs => if k == NameKind.free then closL cells r ((n, (cells.lookup n).getD 0) :: cs) else closL cells r cs
theorem closL_sub {cells : List (Str × Addr)} {x : Str} {c : Addr} : ∀ {names : List (Str × NameKind)} {cs : List (Str × Addr)}, (closL cells names cs).lookup x = some c →
    cs.lookup x = some c ∨ ((x, NameKind.free) ∈ names ∧ c = (cells.lookup x).getD 0)
  | [], cs, h => .inl h
  | (n, k) :: r, cs, h => by
    unfold closL at h
    by_cases hk : (k == NameKind.free) = true
    · rw [if_pos hk] at h
      rcases closL_sub h with h1 | ⟨h1, h2⟩
      · rw [List.lookup_cons] at h1
        by_cases hx : (x == n) = true
        · rw [hx] at h1
          have e : x = n := eq_of_beq hx
          have e2 : k = NameKind.free := eq_of_beq hk
          subst e e2
          exact .inr ⟨List.mem_cons_self, (Option.some.inj h1).symm⟩
        · have hx' : (x == n) = false := by simpa using hx
          rw [hx'] at h1
          exact .inl h1
      · exact .inr ⟨List.mem_cons_of_mem _ h1, h2⟩
    · rw [if_neg hk] at h
      rcases closL_sub h with h1 | ⟨h1, h2⟩
      · exact .inl h1
      · exact .inr ⟨List.mem_cons_of_mem _ h1, h2⟩
theorem closL_keep {cells : List (Str × Addr)} {x : Str} : ∀ {names : List (Str × NameKind)} {cs : List (Str × Addr)}, (∃ c, cs.lookup x = some c) → ∃ c, (closL cells names cs).lookup x = some c
  | [], cs, h => h
  | (n, k) :: r, cs, h => by
    unfold closL
    by_cases hk : (k == NameKind.free) = true
    · rw [if_pos hk]
      refine closL_keep ?_
      rw [List.lookup_cons]
      cases hx : x == n with
      | true => exact ⟨_, rfl⟩
      | false => exact h
    · rw [if_neg hk]
      exact closL_keep h
theorem closL_has {cells : List (Str × Addr)} {x : Str} : ∀ {names : List (Str × NameKind)} {cs : List (Str × Addr)}, (x, NameKind.free) ∈ names → ∃ c, (closL cells names cs).lookup x = some c
  | [], cs, h => by cases h
  | (n, k) :: r, cs, h => by
    unfold closL
    rcases List.mem_cons.mp h with e | h
    · have e1 : x = n := congrArg Prod.fst e
      have e2 : NameKind.free = k := congrArg Prod.snd e
      subst e1 e2
      rw [if_pos (by decide)]
      refine closL_keep ⟨(cells.lookup x).getD 0, ?_⟩
      rw [List.lookup_cons, beq_self_eq_true]
    · by_cases hk : (k == NameKind.free) = true
      · rw [if_pos hk]
        exact closL_has h
      · rw [if_neg hk]
        exact closL_has h
theorem relabel_free {env : Env} : ∀ {names : List (Str × NameKind)} {x : Str} {k' : NameKind}, (∀ y ∈ names, y.2 ≠ NameKind.cell) → k' ≠ .local → (k' = .cell ∨ k' = .free) →
    (names.map fun (n, k) => if (k == NameKind.free && env.scope.kind == .function && env.kindOf n == some .cell) then (n, NameKind.cell) else (n, k)).lookup x = some k' → (x, NameKind.free) ∈ names
  | [], _, _, _, _, _, h => by simp at h
  | (n, k) :: r, x, k', hc, hl, hk', h => by
    have ih := @relabel_free env r x k' (fun y hy => hc y (List.mem_cons_of_mem _ hy)) hl hk'
    have h0 : List.lookup x ((if (k == NameKind.free && env.scope.kind == .function && env.kindOf n == some .cell) = true then (n, NameKind.cell) else (n, k)) :: (r.map fun (n, k) => if (k == NameKind.free && env.scope.kind == .function && env.kindOf n == some .cell) then (n, NameKind.cell) else (n, k))) = some k' := h
    by_cases hcnd : (k == NameKind.free && env.scope.kind == .function && env.kindOf n == some .cell) = true
    · rw [if_pos hcnd, List.lookup_cons] at h0
      have e2 : k = NameKind.free := by
        have q := (Bool.and_eq_true_iff.mp (Bool.and_eq_true_iff.mp hcnd).1).1
        exact eq_of_beq q
      cases hx : x == n with
      | true =>
        have e : x = n := eq_of_beq hx
        subst e e2
        exact List.mem_cons_self
      | false =>
        rw [hx] at h0
        exact List.mem_cons_of_mem _ (ih h0)
    · rw [if_neg hcnd, List.lookup_cons] at h0
      cases hx : x == n with
      | true =>
        rw [hx] at h0
        have e : x = n := eq_of_beq hx
        have e3 : k = k' := Option.some.inj h0
        subst e e3
        rcases hk' with z | z
        · exact absurd z (hc _ List.mem_cons_self)
        · subst z
          exact List.mem_cons_self
      | false =>
        rw [hx] at h0
        exact List.mem_cons_of_mem _ (ih h0)

structure CompSc (sc scope : Scope) (N tgs : List Str) (fr : List Nat) : Prop where
  kind : scope.kind = .function
  nocell : ∀ y ∈ scope.names, y.2 ≠ NameKind.cell
  loc : ∀ y ∈ scope.names, y.2 = NameKind.local → scope.names.lookup y.1 = some NameKind.local
  free : ∀ y ∈ scope.names, y.2 = NameKind.free → sc.names.lookup y.1 = some NameKind.cell
  frs : ∀ j ∈ fr, (N[j]?.bind fun x => scope.names.lookup x) = some NameKind.free

def compN (N tgs : List Str) (fr : List Nat) : List Str := tgs ++ fr.map fun j => (N[j]?).getD ⟨#[]⟩
def compFr (fr : List Nat) (σ : St) : St := fr.map fun j => (σ[j]?).getD none
def compSt (n : Nat) (fr : List Nat) (σ : St) : St := List.replicate n none ++ compFr fr σ

def compCx (X : Cx) (Nc : List Str) (scope : Scope) (C : Addr) (s2 : Shared) (H2 : Hp) (fp : List Addr) : Cx :=
  { X with N := Nc, s₀ := s2, H₀ := H2, env := compEnvC scope (closL X.env.cells scope.names []) C X.env, outer := X.stack, ex := fp, fn := fun _ => false, pn := [], xe := fun _ _ => False }

def PTs (X : Cx) (ifs : List Expr) (t : TT) : Prop :=
  ∀ (pins : List (Addr × Obj)) (s : Shared) (σ : St) (H : Hp) (Q : Bool → Hp → Prop), Inv X pins σ H s → t σ H Q →
    wpAny (model X.prog X.w) X.A (forIn ifs true fun c r => if r = true then do let ok ← isTrue c X.env (eval c X.env); pure (ForInStep.yield ok) else pure (ForInStep.yield r)) (TP X pins σ Q) X.xe s
def tYes : TT := fun _ H Q => Q true H
theorem pts_nil {X : Cx} : PTs X [] tYes := fun _ _ _ H _ I h => wpAny_tests_nil ⟨H, I, h⟩
section
variable {prog : Program} {w : World} {A : Around} {R : Result → Shared → Prop} {s : Shared}
theorem compLoop_any {elt target iter : Expr} {ifs : List Expr} {scope : Scope} {pos : Pos} {it acc : Value} {env : Env} (I : Nat → Shared → Prop)
    (turn : ∀ n s, I n s → wpAny (model prog w) A (pyNext it) (fun r s₁ => match r with
      | none => R (.ok .next) s₁
      | some v => wpAny (model prog w) A (letOwnedTupleGo target it v) (fun _ s₁' => wpAny (model prog w) A (assign target env v) (fun _ s₂ =>
          wpAny (model prog w) A (forIn ifs true fun c r => if r = true then do let ok ← isTrue c env (eval c env); pure (ForInStep.yield ok) else pure (ForInStep.yield r)) (fun ok s₃ =>
            if ok = true then wpAny (model prog w) A (eval elt env) (fun x s₄ =>
              wpAny (model prog w) A (call (.builtin "list.append") [acc, x]) (fun _ s₅ => ∃ m, m < n ∧ I m s₅) (fun _ _ => False) s₄) (fun _ _ => False) s₃
            else ∃ m, m < n ∧ I m s₃) (fun _ _ => False) s₂) (fun _ _ => False) s₁') (fun _ _ => False) s₁) (fun _ _ => False) s)
    (n : Nat) (h : I n s) :
    codeAny (model prog w) A (.compLoop (.ListComp elt [⟨target, iter, ifs, 0⟩] scope pos) 0 it acc env) R s := by
  refine codeAny_loop rfl I (fun n s hI => ?_) n h
  show wpAny _ A ((compTurn (.ListComp elt [⟨target, iter, ifs, 0⟩] scope pos) 0 it acc env).onRaise (fun x => do noteFrame x env; theTreesLotGoes x)) _ _ s
  refine wpAny_noted ?_
  rw [compTurn_list]
  refine wpAny_bind (wpAny_standAt (wpAny_bind (wpAny_mono (turn n s hI) (fun r s₁ h₁ => ?_) fun _ _ h' => h'.elim)))
  cases r with
  | none => exact wpAny_pure h₁
  | some v =>
    refine wpAny_bind (wpAny_mono h₁ (fun _ s₁' h₁' => ?_) fun _ _ h' => h'.elim)
    refine wpAny_bind (wpAny_mono h₁' (fun _ s₂ h₂ => wpAny_bind (wpAny_mono h₂ (fun ok s₃ h₃ => ?_) fun _ _ h' => h'.elim)) fun _ _ h' => h'.elim)
    cases ok with
    | false => exact wpAny_pure ⟨rfl, h₃⟩
    | true =>
      exact wpAny_bind (wpAny_bind (wpAny_mono h₃ (fun x s₄ h₄ => wpAny_bind (wpAny_mono h₄ (fun _ s₅ h₅ => wpAny_pure (wpAny_pure ⟨rfl, h₅⟩)) fun _ _ h' => h'.elim)) fun _ _ h' => h'.elim))
end

/-- the comprehension's turns, from the heap H1 behind the iterator's making; D: the list that is built -/
def CompRun (n : Nat) (fr : List Nat) (J : It) (g : TG) (tt : TT) (te : TE) (σ : St) (D : Addr) (H1 : Hp) (Q : Hp → Prop) : Prop :=
  ∃ W : Nat → Nat → List V → Hp → Prop, (∃ m, W 0 m [] (upd H1 D (.lst []))) ∧ ∀ i m ys H', W i m ys H' →
    (J.stop i H' ∧ Q H') ∨ (J.go i H' ∧ ∀ x H2, J.yld i H' x H2 → g x (compSt n fr σ) H2 fun σ3 H3 => (∃ zs : St, zs.length = n ∧ σ3 = zs ++ compFr fr σ) ∧ tt σ3 H3 fun b H4 =>
      if b = true then te σ3 H4 fun y H5 => H5 D = some (.lst ys) ∧ ys.length < sizeLine ∧ ∃ m', m' < m ∧ W (i + 1) m' (ys ++ [y]) (upd H5 D (.lst (ys ++ [y])))
      else ∃ m', m' < m ∧ W (i + 1) m' ys H4)
def tComp (n : Nat) (fr : List Nat) (wi : TI) (g : TG) (tt : TT) (te : TE) : TE := fun σ H Q => wi σ H fun J H1 => ∀ D, H1 D = none → CompRun n fr J g tt te σ D H1 (Q (.ref D))
def tCompSet (n : Nat) (fr : List Nat) (wi : TI) (g : TG) (tt : TT) (te : TE) (i : Nat) : TS := fun D σ H => wi σ H fun J H1 => ∀ l, H1 l = none → CompRun n fr J g tt te σ l H1 (D.nx (σ.set i (some (.ref l))))

section
variable {X : Cx} {tg iter elt : Expr} {ifs : List Expr} {scope sc : Scope} {tgs : List Str} {fr : List Nat} {wi : TI} {g : TG} {tt : TT} {te : TE} {pos : Pos}

theorem comp_core {pins : List (Addr × Obj)} {σ : St} {H2 : Hp} {s2 : Shared} {it : Addr} {fp : List Addr} {tn : Nat → Heap → Prop} {J : It} {RR : Value → Addr → Result → Shared → Prop} {E : Value → Shared → Prop} {Qf : Hp → Prop}
    (hsc : X.env.scope = sc) (S : CompSc sc scope X.N tgs fr) (hc : X.calm = true)
    (hg : ∀ C s2 H2 fp, PG (compCx X (compN X.N tgs fr) scope C s2 H2 fp) tg g) (ht : ∀ C s2 H2 fp, PTs (compCx X (compN X.N tgs fr) scope C s2 H2 fp) ifs tt) (he : ∀ C s2 H2 fp, PE (compCx X (compN X.N tgs fr) scope C s2 H2 fp) elt te)
    (I2 : Inv X pins σ H2 s2) (T : Turn X.prog X.w X.K tg J fp it tn) (st2 : tn 0 s2.heap) (f2 : ∀ b ∈ fp, FpOk X pins H2 b)
    (run : CompRun tgs.length fr J g tt te σ s2.heap.objs.size H2 Qf)
    (hRR : ∀ (C : Addr) (H3 : Hp) (s4 : Shared), Inv X pins σ H3 s4 → FpOk X pins H3 C → (∃ m, s4.heap.Ns C m) → Qf H3 → RR (.ref s2.heap.objs.size) C (.ok .next) s4) :
    wpAny (model X.prog X.w) X.A (newList []) (fun acc s₃ => wpAny (model X.prog X.w) X.A (newFunctionEnv scope X.env.globals (closL X.env.cells scope.names []) [] X.env.qual none .none (some X.env)) (fun cenv s₄ =>
      codeAny (model X.prog X.w) X.A (.compStart (.ListComp elt [⟨tg, iter, ifs, 0⟩] scope pos) 0 (.ref it) acc { cenv with scope := relabel scope X.env }) (RR acc cenv.locals) s₄) E s₃) E s2 := by
  refine wpAny_newObj_type (wpAny_newFunctionEnv S.nocell (by intro y hy; simp at hy) (fun h₁ hns₁ hsb₁ => ?_) S.kind)
  dsimp only at hns₁ hsb₁ ⊢
  generalize hG2 : s2.heap.push { cls := .type "list", dict := none, data := .seq ([] : List Value).toArray } = G2 at hns₁ hsb₁ ⊢
  have hC : G2.objs.size = s2.heap.objs.size + 1 := by rw [← hG2, Heap.size_push]
  have hDC : s2.heap.objs.size ≠ G2.objs.size := by rw [hC]; exact Nat.ne_of_lt (Nat.lt_succ_self _)
  have hle : s2.heap.objs.size ≤ G2.objs.size := by rw [hC]; exact Nat.le_succ _
  have below : ∀ b, b < s2.heap.objs.size → b ≠ G2.objs.size ∧ b ≠ s2.heap.objs.size := fun b hb => ⟨Nat.ne_of_lt (Nat.lt_of_lt_of_le hb hle), Nat.ne_of_lt hb⟩
  have old : ∀ b o, s2.heap.get? b = some o → h₁.get? b = some o := fun b o e => hsb₁.extBut b o (below b (Heap.lt_size e)).1 (Heap.get?_push_of_some _ (hG2 ▸ Heap.get?_push_of_some _ e))
  have accO : h₁.get? s2.heap.objs.size = some { cls := .type "list", data := .seq ([] : List Value).toArray 0 } := hsb₁.extBut _ _ hDC (Heap.get?_push_of_some _ (hG2 ▸ Heap.get?_push_size _ rfl))
  have hfree0 : ∀ y ∈ scope.names, y.2 = NameKind.free → ∃ c, X.env.cells.lookup y.1 = some c := fun y hy e => I2.ok.has y.1 (.inl (by show X.env.scope.names.lookup y.1 = _; rw [hsc]; exact S.free y hy e))
  have subC : ∀ x c, (closL X.env.cells scope.names []).lookup x = some c → X.env.cells.lookup x = some c := fun x c e => by
    rcases closL_sub e with z | ⟨z1, z2⟩
    · simp at z
    · obtain ⟨c', e'⟩ := hfree0 _ z1 rfl
      rw [z2, e']
      rfl
  have cellLt : ∀ x c, X.env.cells.lookup x = some c → c < s2.heap.objs.size := fun x c e => by
    obtain ⟨v, q⟩ := I2.cell x c e
    exact q.lt
  have fpLt : ∀ b ∈ fp, b < s2.heap.objs.size := fun b hb => by
    obtain ⟨o, e, _⟩ := T.obj 0 _ st2 b hb
    exact Heap.lt_size e
  have ok3 : (compCx X (compN X.N tgs fr) scope G2.objs.size s2 H2 fp).Ok := by
    refine ⟨I2.ok.mod, S.kind, I2.ok.glob, I2.ok.blt, hle, fun x y c e1 e2 => I2.ok.inj x y c (subC x c e1) (subC y c e2), fun x hx => ?_, fun x c z _ => absurd z Bool.false_ne_true, I2.ok.hd, I2.ok.frames, .inl rfl,
      fun b hb => ⟨(below b (fpLt b hb)).1, fun x c e => (f2 b hb).2.2.2.2.1 x c (subC x c e)⟩, I2.bs, Nat.le_trans I2.ok.bsz I2.sz, fun b o e hb => ?_, fun b hb z => ?_, I2.stack, I2.stkFree⟩
    · rcases hx with hx | hx
      · exact closL_has (relabel_free (env := X.env) S.nocell (by decide) (.inl rfl) hx)
      · exact closL_has (relabel_free (env := X.env) S.nocell (by decide) (.inr rfl) hx)
    · rcases (f2 b hb).2.2.2.1 with z | z
      · exact I2.ok.noex b o e z
      · exact absurd (Nat.lt_of_lt_of_le (Heap.lt_size e) (Nat.le_trans I2.ok.bsz z)) (Nat.lt_irrefl _)
    · rcases List.mem_cons.mp (I2.stkSub b z) with z | z
      · exact (f2 b hb).2.1 z
      · exact (f2 b hb).2.2.1 z
  have I3 : Inv (compCx X (compN X.N tgs fr) scope G2.objs.size s2 H2 fp) [] (compSt tgs.length fr σ) (upd H2 s2.heap.objs.size (.lst [])) { s2 with heap := h₁, toks := s2.toks + ([] : List (Str × Value)).length } := by
    refine ⟨ok3, rfl, I2.bare, Un.laid old (Nat.le_refl _) I2.fresh, ⟨_, hns₁, fun i x v e1 e2 e3 => ?_⟩, fun x c e => ?_, ?_, fun x c e => ?_, fun p hp => absurd (show p ∈ ([] : List (Addr × Obj)) from hp) (by simp), I2.hok.laid old (Nat.le_refl _) ⟨Nat.zero_le _, [], 0, .nil, accO⟩, ?_⟩
    · -- a name of the comprehension that has a value at the start is one of the def's cells
      have hi : tgs.length ≤ i := by
        refine Nat.le_of_not_lt fun hlt => ?_
        unfold compSt at e2
        rw [List.getElem?_append_left (by simpa using hlt), List.getElem?_replicate, if_pos hlt] at e2
        cases e2
      have e2' : (compFr fr σ)[i - tgs.length]? = some (some v) := by
        unfold compSt at e2
        rw [List.getElem?_append_right (by simpa using hi)] at e2
        simpa using e2
      have e1' : (fr.map fun j => (X.N[j]?).getD ⟨#[]⟩)[i - tgs.length]? = some x := by
        have e1 : (compN X.N tgs fr)[i]? = some x := e1
        unfold compN at e1
        rw [List.getElem?_append_right hi] at e1
        exact e1
      unfold compFr at e2'
      rw [List.getElem?_map] at e1' e2'
      cases ej : fr[i - tgs.length]? with
      | none => rw [ej] at e1'; cases e1'
      | some j =>
        rw [ej] at e1' e2'
        have e1j : (X.N[j]?).getD ⟨#[]⟩ = x := Option.some.inj e1'
        have e2j : (σ[j]?).getD none = some v := Option.some.inj e2'
        have hfr := S.frs j (List.mem_of_getElem? ej)
        cases eN : X.N[j]? with
        | none => rw [eN] at hfr; cases hfr
        | some x' =>
          rw [eN] at hfr e1j
          have ex : x' = x := e1j
          subst ex
          have hfx : scope.names.lookup x' = some NameKind.free := hfr
          have hσ : σ[j]? = some (some v) := by
            cases eσ : σ[j]? with
            | none => rw [eσ] at e2j; cases e2j
            | some o => rw [eσ] at e2j; exact congrArg some e2j
          have hmem := PySem.mem_of_lookup hfx
          have hkc : X.env.scope.names.lookup x' = some NameKind.cell := by rw [hsc]; exact S.free _ hmem rfl
          obtain ⟨m, hn, hl⟩ := I2.loc
          obtain ⟨u, ru, lk⟩ := hl j x' v eN hσ (.inr (.inl hkc))
          refine ⟨u, ru, .inr ⟨?_, ?_⟩⟩
          · have e3 : (relabel scope X.env).names.lookup x' = some NameKind.local ∨ (relabel scope X.env).names.lookup x' = some NameKind.cell ∨ (relabel scope X.env).names.lookup x' = some NameKind.free := e3
            rcases e3 with z | z | z
            · exfalso
              -- a free name is not relabelled as a local
              have key : ∀ (names : List (Str × NameKind)), names.lookup x' = some NameKind.free → (names.map fun (n, k) => if (k == NameKind.free && X.env.scope.kind == .function && X.env.kindOf n == some .cell) then (n, NameKind.cell) else (n, k)).lookup x' ≠ some NameKind.local := by
                intro names
                induction names with
                | nil => intro h; simp at h
                | cons p r ih =>
                  obtain ⟨n, k⟩ := p
                  intro h h2
                  have h2 : List.lookup x' ((if (k == NameKind.free && X.env.scope.kind == .function && X.env.kindOf n == some .cell) = true then (n, NameKind.cell) else (n, k)) :: (r.map fun (n, k) => if (k == NameKind.free && X.env.scope.kind == .function && X.env.kindOf n == some .cell) then (n, NameKind.cell) else (n, k))) = some NameKind.local := h2
                  rw [List.lookup_cons] at h
                  cases hx : x' == n with
                  | true =>
                    rw [hx] at h
                    have ek : k = NameKind.free := Option.some.inj h
                    subst ek
                    split at h2
                    · rw [List.lookup_cons, hx] at h2; cases h2
                    · rw [List.lookup_cons, hx] at h2; cases h2
                  | false =>
                    rw [hx] at h
                    split at h2
                    · rw [List.lookup_cons, hx] at h2; exact ih h h2
                    · rw [List.lookup_cons, hx] at h2; exact ih h h2
              exact key scope.names hfx z
            · exact .inl z
            · exact .inr z
          · obtain ⟨c, ec⟩ := closL_has (cells := X.env.cells) (cs := []) hmem
            rcases lk with ⟨k1, _⟩ | ⟨_, c', ec', ic⟩
            · have k1 : X.env.scope.names.lookup x' = some NameKind.local := k1
              rw [hkc] at k1; cases k1
            · have q := subC _ _ ec
              rw [ec'] at q
              have q' : c' = c := Option.some.inj q
              subst q'
              exact ⟨_, ec, ic.keeps old⟩
    · obtain ⟨v, q⟩ := I2.cell x c (subC x c e)
      exact ⟨v, q.keeps old⟩
    · show upd H2 s2.heap.objs.size (.lst []) G2.objs.size = none
      rw [upd_ne hDC.symm]
      exact I2.hok.fresh hle
    · rw [upd_ne (Nat.ne_of_lt (cellLt x c (subC x c e)))]
      exact I2.freeC x c (subC x c e)
    · unfold compSt compFr
      show _ = (compN X.N tgs fr).length
      unfold compN
      simp
  obtain ⟨W, ⟨m0, w0⟩, turn⟩ := run
  have stat : ∀ {H' : Hp}, (∀ b ∈ fp, H' b = none) → ∀ b ∈ fp, FpOk (compCx X (compN X.N tgs fr) scope G2.objs.size s2 H2 fp) [] H' b := fun hn b hb =>
    ⟨hn b hb, (below b (fpLt b hb)).1, ok3.exfs b hb, .inl hb, (ok3.exf b hb).2, fun p hp => absurd (show p ∈ ([] : List (Addr × Obj)) from hp) (by simp)⟩
  have fr3 : ∀ b ∈ fp, upd H2 s2.heap.objs.size (.lst []) b = none := fun b hb => by rw [upd_ne (below b (fpLt b hb)).2]; exact (f2 b hb).1
  have st3 : tn 0 h₁ := T.keep 0 _ _ st2 fun b _ o e => old b o e
  have fin : ∀ {H3 : Hp} {s4 : Shared}, Inv (compCx X (compN X.N tgs fr) scope G2.objs.size s2 H2 fp) [] (compSt tgs.length fr σ) H3 s4 → Qf H3 → RR (.ref s2.heap.objs.size) G2.objs.size (.ok .next) s4 := fun {H3 s4} I4 q => by
    obtain ⟨m, hn, _⟩ := id I4.loc
    have ub : Un (frs X.stack) fp H2 H3 s2.heap s4.heap := I4.base
    refine hRR G2.objs.size H3 s4 (I2.call' (ch := fp) (s' := s4) I4.os ub I4.hok I4.bare fun b hb => ⟨(f2 b hb).2.2.2.1, (f2 b hb).2.1, (f2 b hb).2.2.2.2.1, (f2 b hb).2.2.2.2.2⟩) (I2.fpOk hle I4.free) ⟨m, hn⟩ q
  have loop : ∀ s₃ : Shared, s₃ = { s2 with heap := h₁, toks := s2.toks + ([] : List (Str × Value)).length } →
      codeAny (model X.prog X.w) X.A (.compLoop (.ListComp elt [⟨tg, iter, ifs, 0⟩] scope pos) 0 (.ref it) (.ref s2.heap.objs.size) (compEnvC scope (closL X.env.cells scope.names []) G2.objs.size X.env)) (RR (.ref s2.heap.objs.size) G2.objs.size) s₃ := by
    rintro s₃ rfl
    refine compLoop_any (fun n s' => ∃ i ys H', Inv (compCx X (compN X.N tgs fr) scope G2.objs.size s2 H2 fp) [] (compSt tgs.length fr σ) H' s' ∧ tn i s'.heap ∧ (∀ b ∈ fp, H' b = none) ∧ W i n ys H') ?_ m0 ⟨0, [], _, I3, st3, fr3, w0⟩
    rintro n s5 ⟨i, ys, H3, J3, sti, fri, w3⟩
    rcases turn i n ys H3 w3 with ⟨stop, q⟩ | ⟨go, step⟩
    · refine wpAny_mono (T.done (compCx X (compN X.N tgs fr) scope G2.objs.size s2 H2 fp) rfl rfl rfl hc i [] s5 _ H3 (fun _ _ => False) J3 (stat fri) sti stop) (fun r s6 ⟨hr, J4⟩ => ?_) (fun _ _ f => f)
      subst hr
      exact fin J4 q
    · refine wpAny_mono (T.item (compCx X (compN X.N tgs fr) scope G2.objs.size s2 H2 fp) rfl rfl rfl hc i [] s5 _ H3 (fun _ _ => False) J3 (stat fri) sti go) (fun r s6 ⟨u, hr, h6⟩ => ?_) (fun _ _ f => f)
      subst hr
      refine wpAny_mono h6 (fun _ s7 ⟨x, H7, J7, r7, y7, st7, fr7⟩ => ?_) (fun _ _ f => f)
      have J7' := J7.pinned (stat fr7) (T.obj _ _ st7)
      refine wpAny_mono (hg G2.objs.size s2 H2 fp _ s7 _ H7 x u _ J7' r7 (step x H7 y7)) (fun _ s8 ⟨σ8, H8, J8, ⟨zs, hz, e8⟩, q8⟩ => ?_) (fun _ _ f => f)
      have again : ∀ {H9 : Hp} {s9 : Shared} {ys' : List V}, Inv (compCx X (compN X.N tgs fr) scope G2.objs.size s2 H2 fp) ([] ++ pinsAt fp s7.heap) σ8 H9 s9 → (∃ m', m' < n ∧ W (i + 1) m' ys' H9) →
          ∃ m, m < n ∧ ∃ i ys H', Inv (compCx X (compN X.N tgs fr) scope G2.objs.size s2 H2 fp) [] (compSt tgs.length fr σ) H' s9 ∧ tn i s9.heap ∧ (∀ b ∈ fp, H' b = none) ∧ W i m ys H' := fun {H9 s9 ys'} J9 ⟨m', hm, w9⟩ => by
        refine ⟨m', hm, i + 1, ys', H9, J9.unpinned.weak ?_ ?_, T.keep _ _ _ st7 fun b hb o e => (J9.pin (b, o) (List.mem_append_right _ (List.mem_append_right _ (mem_pinsAt hb e)))).1, fun b hb => ?_, w9⟩
        · rw [e8]; unfold compSt; simp [hz]
        · intro k v ek
          rw [e8]
          unfold compSt at ek
          by_cases hk : k < tgs.length
          · rw [List.getElem?_append_left (by simpa using hk), List.getElem?_replicate, if_pos hk] at ek
            cases ek
          · rw [List.getElem?_append_right (by simpa using hk)] at ek
            rw [List.getElem?_append_right (by omega), hz]
            simpa using ek
        · obtain ⟨o, e, d⟩ := T.obj _ _ st7 b hb
          exact (J9.pin (b, o) (List.mem_append_right _ (List.mem_append_right _ (mem_pinsAt hb e)))).2.1
      refine wpAny_mono (ht G2.objs.size s2 H2 fp _ s8 σ8 H8 _ J8 q8) (fun ok s9 ⟨H9, J9, q9⟩ => ?_) (fun _ _ f => f)
      cases ok with
      | false =>
        rw [if_neg Bool.false_ne_true] at q9 ⊢
        exact again J9 q9
      | true =>
        rw [if_pos rfl] at q9 ⊢
        refine wpAny_mono (he G2.objs.size s2 H2 fp _ s9 σ8 H9 _ J9 q9) (fun y s10 ⟨v10, H10, J10, r10, hD, hlen, q10⟩ => ?_) (fun _ _ f => f)
        refine wpAny_mono (mt_append (X := compCx X (compN X.N tgs fr) scope G2.objs.size s2 H2 fp) _ s10 σ8 H10 (.ref s2.heap.objs.size) [v10] (.ref s2.heap.objs.size) [y] (fun _ H11 => H11 = upd H10 s2.heap.objs.size (.lst (ys ++ [v10]))) J10 rfl (.cons r10 .nil) ⟨_, ys, v10, rfl, rfl, hD, hlen, rfl⟩) (fun _ s11 ⟨_, H11, J11, _, e11⟩ => ?_) (fun _ _ f => f)
        subst e11
        exact again J11 q10
  exact codeAny_compStart_list (loop _ rfl) (T.self _ 0 _ _ _ st3 (loop _ rfl))

theorem pe_comp (hi : PI X tg iter wi) (sc : Scope) (hsc : X.env.scope = sc) (S : CompSc sc scope X.N tgs fr) (hc : X.calm = true) (hclos : closureFor scope X.env = pure (closL X.env.cells scope.names []))
    (hg : ∀ C s2 H2 fp, PG (compCx X (compN X.N tgs fr) scope C s2 H2 fp) tg g) (ht : ∀ C s2 H2 fp, PTs (compCx X (compN X.N tgs fr) scope C s2 H2 fp) ifs tt) (he : ∀ C s2 H2 fp, PE (compCx X (compN X.N tgs fr) scope C s2 H2 fp) elt te)
    (hs : ∀ x, foldedSetIterable iter X.env x = pure x := by intro _; rfl) : PE X (.ListComp elt [⟨tg, iter, ifs, 0⟩] scope pos) (tComp tgs.length fr wi g tt te) := by
  intro pins s σ H Q I h
  rw [eval_ListComp]
  refine wpAny_comprehension_free (use := none) rfl hs hclos S.kind S.loc (wpAny_mono (hi pins s σ H _ I h) (fun v s1 h1 => wpAny_mono h1 (fun itv s2 h2 => ?_) fun _ _ e => e) fun _ _ e => e)
  obtain ⟨it, fp, tn, J, H2, e, I2, T, st2, f2, R2⟩ := h2
  subst e
  refine comp_core (RR := fun acc C => compPost (model X.prog X.w) X.A X.xe none (EP X pins σ Q) acc C) hsc S hc hg ht he I2 T st2 f2 (R2 _ I2.fresh) ?_
  intro C H3 s4 I4 fC ⟨m, hn⟩ q
  refine ⟨m, hn, fun h' hs' => ⟨.ref s2.heap.objs.size, H3, ?_, rfl, q⟩⟩
  obtain ⟨hh, gg, dd, tt', oo⟩ := s4
  exact I4.turned (h' := h') (t' := tt') (it := C) (fun b o hb e => hs'.extBut b o hb e) fC.1 fC.2.1 fC.2.2.2.1 fC.2.2.2.2.1 fC.2.2.2.2.2

theorem ps_setComp {i : Nat} {y : Str} {py spos : Pos} (hN : X.N.Nodup) (hiy : X.N[i]? = some y) (hi : PI X tg iter wi) (sc : Scope) (hsc : X.env.scope = sc) (S : CompSc sc scope X.N tgs fr) (hc : X.calm = true)
    (hclos : closureFor scope X.env = pure (closL X.env.cells scope.names []))
    (hg : ∀ C s2 H2 fp, PG (compCx X (compN X.N tgs fr) scope C s2 H2 fp) tg g) (ht : ∀ C s2 H2 fp, PTs (compCx X (compN X.N tgs fr) scope C s2 H2 fp) ifs tt) (he : ∀ C s2 H2 fp, PE (compCx X (compN X.N tgs fr) scope C s2 H2 fp) elt te)
    (hy : X.env.scope.names.lookup y = some NameKind.local)
    (hsw : swapsWith (.ListComp elt [⟨tg, iter, ifs, 0⟩] scope pos) (some (.Name y py)) spos.line X.env = pure true)
    (hs : ∀ x, foldedSetIterable iter X.env x = pure x := by intro _; rfl) :
    PS X (.Assign [.Name y py] (.ListComp elt [⟨tg, iter, ifs, 0⟩] scope pos) spos) (tCompSet tgs.length fr wi g tt te i) := by
  intro pins s σ H D I h
  rw [exec_Assign_Name_used _ _ _ _ hsw]
  refine wpAny_bind (wpAny_standAt (wpAny_bind ?_))
  show wpAny _ X.A (do let _ ← comprehension (.ListComp elt [⟨tg, iter, ifs, 0⟩] scope pos) scope X.env _ (newList []) false (eval iter X.env) (some (assign (.Name y py) X.env))) _ _ s
  refine wpAny_bind (wpAny_mono (wpAny_comprehension_free (use := some (assign (.Name y py) X.env)) (Q := fun _ s' => SP X pins D .next s') rfl hs hclos S.kind S.loc
    (wpAny_mono (hi pins s σ H _ I h) (fun v s1 h1 => wpAny_mono h1 (fun itv s2 h2 => ?_) fun _ _ e => e) fun _ _ e => e)) (fun _ s' hq => wpAny_pure (wpAny_pure hq)) fun _ _ e => e)
  obtain ⟨it, fp, tn, J, H2, e, I2, T, st2, f2, R2⟩ := h2
  subst e
  refine comp_core (RR := fun acc C => compPost (model X.prog X.w) X.A X.xe (some (assign (.Name y py) X.env)) (fun _ s' => SP X pins D .next s') acc C) hsc S hc hg ht he I2 T st2 f2 (R2 _ I2.fresh) ?_
  intro C H3 s4 I4 fC ⟨m, hn⟩ q
  refine wpAny_assign_Name (store_ok2 (v := .ref s2.heap.objs.size) I4 hN hiy (.inl hy) rfl (fun s5 I5 ⟨a, hsb, ha⟩ => ?_) (.inr hy))
  have hLC : C ≠ a := by
    rcases ha with z | z
    · rw [z]; exact fC.2.1
    · exact fun z2 => fC.2.2.2.2.1 y a z z2.symm
  refine ⟨m, hn.sameBut hsb hLC, fun h' hs' => ⟨_, H3, ?_, q⟩⟩
  obtain ⟨hh, gg, dd, tt', oo⟩ := s5
  exact I5.turned (h' := h') (t' := tt') (it := C) (fun b o hb e => hs'.extBut b o hb e) fC.1 fC.2.1 fC.2.2.2.1 fC.2.2.2.2.1 fC.2.2.2.2.2
end
end L2

set_option Elab.async false
set_option linter.all false
set_option maxRecDepth 100000
set_option maxHeartbeats 4000000
namespace L2
open PySem PySem.Spec PyProof.Rows
open PySem.Builtin.Int (intBits)

/-! ### products of great numbers -/
section
variable {X : Cx}
end
/-! ### isinstance of a built-in class -/
def kitB (T C : String) : Option Bool := if (Value.type T == Value.type C) = true then some true else if PySem.W.kitMeta C = true then (fastBuiltinMro T).map (·.contains (Value.type C)) else none
theorem kitOne_B (K : PySem.W.Frag) (T C : String) : PySem.W.kitOne K (.type T) (.type C) = kitB T C := rfl
theorem kb_bool_bool : kitB "bool" "bool" = some true := by decide +kernel
section
variable {X : Cx}
/-- isinstance(x, C): x of the built-in type T -/
def rIsi (K : PySem.W.Frag) : List V → Hp → VK → Prop := fun xs H Q => ∃ x T C b, xs = [x, .ty C] ∧ TyOf K H x (.type T) ∧ kitB T C = some b ∧ Q (.bl b) H
theorem call_isi : CallR X (.builtin "isinstance") (rIsi X.K) := by
  intro pins s σ H xs us Q I r h
  obtain ⟨x, T, C, b, rfl, ty, e, q⟩ := h
  obtain ⟨u, w', rfl, rx, rc⟩ := vals2 r
  obtain rfl : w' = Value.type C := rc
  exact isinst_ok I rx ty ((kitOne_B X.K T C).trans e) fun tk => ⟨.bl b, H, I.tok _, rfl, q⟩
/-- the name of a built-in type -/
theorem pe_ty {x : Str} {T : String} {pos : Pos} (hg : Gl X x) (hm : X.mg x = none) (hv : bootBuiltins x = some (.type T)) (hn : x ≠ "__name__" := by decide) (hd : (x == ("__debug__" : Str)) = false := by decide) : PE X (.Name x pos) (tC (.ty T)) :=
  pe_bltn hg hm hv rfl hn hd
end

/-! ### data: what a value is, through the heap -/
mutual
def Rp (H : Hp) : PyData → V → Prop
  | .none, v => v = .non
  | .bool b, v => v = .bl b
  | .int i, v => v = .int i
  | .tuple ds, v => ∃ a xs, v = .ref a ∧ H a = some (.tup xs) ∧ RpAll H ds xs
  | .list ds, v => ∃ a xs, v = .ref a ∧ H a = some (.lst xs) ∧ RpAll H ds xs
  | .str x, v => v = .str x ∧ PyData.strOk x = true
  | .dict _, _ => False
def RpAll (H : Hp) : List PyData → List V → Prop
  | [], vs => vs = []
  | d :: ds, vs => ∃ x xs, vs = x :: xs ∧ Rp H d x ∧ RpAll H ds xs
end
mutual
theorem rp_can {H : Hp} : ∀ (d : PyData) (v : V), Rp H d v → d.canLay0 = true
  | .none, _, _ => rfl
  | .bool _, _, _ => rfl
  | .int _, _, _ => rfl
  | .tuple ds, _, h => by
    unfold Rp at h
    obtain ⟨a, xs, _, _, h⟩ := h
    exact rpAll_can ds xs h
  | .list ds, _, h => by
    unfold Rp at h
    obtain ⟨a, xs, _, _, h⟩ := h
    exact rpAll_can ds xs h
  | .str x, v, h => by
    unfold Rp at h
    exact h.2
  | .dict _, _, h => by unfold Rp at h; exact h.elim
theorem rpAll_can {H : Hp} : ∀ (ds : List PyData) (vs : List V), RpAll H ds vs → PyData.canLayAll0 ds = true
  | [], _, _ => rfl
  | d :: ds, vs, h => by
    unfold RpAll at h
    obtain ⟨x, xs, _, h1, h2⟩ := h
    show (d.canLay0 && PyData.canLayAll0 ds) = true
    rw [rp_can d x h1, rpAll_can ds xs h2]
    rfl
end
section
variable {X : Cx} {pins : List (Addr × Obj)} {σ : St} {H : Hp} {s : Shared}
mutual
theorem rp_reads (I : Inv X pins σ H s) : ∀ (d : PyData) (v : V) (u : Value), Rp H d v → RelV v u → ∃ as, Reads s.heap u d as
  | .none, v, u, h, r => by
    unfold Rp at h
    subst h
    cases r
    exact ⟨_, .none⟩
  | .bool b, v, u, h, r => by
    unfold Rp at h
    subst h
    cases r
    exact ⟨_, .bool b⟩
  | .int i, v, u, h, r => by
    unfold Rp at h
    subst h
    obtain ⟨t, rfl⟩ := r
    exact ⟨_, .int i t⟩
  | .tuple ds, v, u, h, r => by
    unfold Rp at h
    obtain ⟨a, xs, rfl, ha, h⟩ := h
    cases r
    obtain ⟨_, its, rv, p⟩ := I.hok a _ ha
    obtain ⟨o, h1, h2, n, h3⟩ := p
    obtain ⟨as, q⟩ := rpAll_reads I ds xs its h rv
    exact ⟨_, .tuple h1 h2 h3 (by simpa using q)⟩
  | .list ds, v, u, h, r => by
    unfold Rp at h
    obtain ⟨a, xs, rfl, ha, h⟩ := h
    cases r
    obtain ⟨_, its, n, rv, p⟩ := I.hok a _ ha
    obtain ⟨as, q⟩ := rpAll_reads I ds xs its h rv
    exact ⟨_, .list p rfl rfl (by simpa using q)⟩
  | .str x, v, u, h, r => by
    unfold Rp at h
    obtain ⟨rfl, _⟩ := h
    obtain ⟨t, rfl⟩ := r
    exact ⟨_, .str x t⟩
  | .dict _, _, _, h, _ => by unfold Rp at h; exact h.elim
theorem rpAll_reads (I : Inv X pins σ H s) : ∀ (ds : List PyData) (vs : List V) (us : List Value), RpAll H ds vs → Vals vs us → ∃ as, ReadsAll s.heap us ds as
  | [], vs, us, h, r => by
    unfold RpAll at h
    subst h
    cases r
    exact ⟨_, .nil⟩
  | d :: ds, vs, us, h, r => by
    unfold RpAll at h
    obtain ⟨x, xs, rfl, h1, h2⟩ := h
    cases r with
    | cons r1 r2 =>
      obtain ⟨as, q1⟩ := rp_reads I d x _ h1 r1
      obtain ⟨bs, q2⟩ := rpAll_reads I ds xs _ h2 r2
      exact ⟨_, .cons q1 q2⟩
end
end
section
variable {X : Cx} {k : Nat}
def rEqD (neg : Bool) : R2 := fun x y H Q => ∃ d e : PyData, Rp H d x ∧ Rp H e y ∧ d.depth ≤ 60 ∧ Q (.bl (if neg then !PyData.eqv d e else PyData.eqv d e)) H
theorem op_neD (hr : Room k X.A) : OpR X (compareOp .NotEq) (rEqD true) := by
  intro pins s σ H x y v u Q I rx ry h
  obtain ⟨d, e, h1, h2, hd, q⟩ := h
  obtain ⟨as, q1⟩ := rp_reads I d x v h1 rx
  obtain ⟨bs, q2⟩ := rp_reads I e y u h2 ry
  have hu := hr.units
  exact PySem.SeqAt.compareNe_reads q1 q2 (rp_can d x h1) (rp_can e y h2) (by omega) ⟨.bl (!PyData.eqv d e), H, I, rfl, q⟩
end
theorem rp_ints {H : Hp} : ∀ ns : List Int, RpAll H (ns.map PyData.int) (ns.map V.int)
  | [] => by unfold RpAll; rfl
  | n :: ns => by
    show RpAll H (PyData.int n :: ns.map PyData.int) (V.int n :: ns.map V.int)
    unfold RpAll
    exact ⟨_, _, rfl, by unfold Rp; rfl, rp_ints ns⟩

/-! ### more of heaps -/
theorem Same.new {H H' : Hp} {p : Addr} {o : HO} (e : Same H H') (h : H p = none) : Same H (upd H' p o) := fun b u q => by
  rw [upd_ne (ne_of_none q h)]
  exact e b u q
theorem Same.upd {H : Hp} {p : Addr} {o : HO} (h : H p = none) : Same H (upd H p o) := (Same.refl H).new h

/-! ### the law's head, with the numbers' sizes -/
theorem walk_ofB {l : PySem.W.OpenLaw} {n k : Nat} {q : Program} {loose : List Str} {XP : (Str → Option Value) → Heap → Prop} {YP : World → Heap → Prop} {d : DefRec} {K : Params → PySem.W.Frag} {CX : World → CXT} {sp : World → Sp} {x : Str}
    (hn : l.most = some n) (hn2 : n ≤ sizeLine) (hdf : d.params.defaults = []) (hr : Room k callerA)
    (hY : ∀ (w : World) (h : Heap), YP w h → (K w.params).In h)
    (F : ∀ (w : World) (mg : Str → Option Value) (fa : Addr) (h : Heap), (K w.params).In h → h.Ns mainGlobals mg → mg d.name = some (.ref fa) →
      ∃ fd : FuncData, (∀ (s : Shared) (u : Value), BindsTo s fd ⟨[u], []⟩ [(x, u)]) ∧
        ∀ base : Heap, (K w.params).In base → base.Ns mainGlobals mg → FnOk l.prog w (K w.params) mg base (CX w) k fa fd [x] (sp w))
    (hsp : ∀ (w : World) (H : Hp) (a : Addr) (ns : List Int), ns.length ≤ n → (∀ z ∈ ns, intBits z ≤ 2 ^ 20) → Only H → SqL (K w.params) H a (ns.map V.int) → sp w [.ref a] H (fun v _ => v = .bl true) fun _ _ _ => False)
    (hCX : ∀ (w : World) (H : Hp) (s : Shared) (e : Value) (s' : Shared), CX w [] H s (fun _ _ _ => False) e s' → False) :
    PySem.W.WalkO q loose XP YP l.row.toRowW d [] (fun f vs => PySem.call f vs) := by
  intro w s₀ s₁ mg mb G Y fa o pm cd doc dV kV ho hd hcd hD hmg hg args vals as hpre hlay hrd hwl hlo
  obtain rfl : dV = .none := PySem.W.Dflts.none hD hdf
  obtain rfl : kV = .none := PySem.W.Dflts.noKw hD
  obtain ⟨a, vs, ns, rfl, rfl, hobj, hints, hlen⟩ := Att.script_of hn hpre hwl
  have big : ∀ z ∈ ns, intBits z ≤ 2 ^ 20 := fun z hz => by
    have l1 := (PySem.W.layW_cons hlay).1
    have l2 := PySem.W.layableW_item l1 (.int z) (List.mem_map.mpr ⟨z, hz, rfl⟩)
    have l3 := (PySem.W.layableW_iff.mp l2).2.2
    simpa only [PySem.W.WData.weight, Builtin.Int.intBits] using l3
  have KX := hY w _ Y
  obtain ⟨fd, hb, hF⟩ := F w mg fa _ KX G.T.g hmg
  refine PySem.W.enter_call (codeAny_mono (law_call KX G.T.g G.T.b G.T.builtins G.T.nolimit hg hobj hints (Nat.le_trans hlen hn2) hr hF hb (fun H hO hS => hsp w H a ns hlen big hO hS) fun H e s' => hCX w H s₁ e s') fun r s' hq => ?_)
  obtain ⟨rfl, h2, h3, h4⟩ := hq
  exact ⟨.inl ⟨.bool true, .bool true, [], rfl, fun _ => rfl, .bool true, Att.post_true l _, fun _ => ⟨List.Pairwise.nil, fun _ hm => (nomatch hm)⟩⟩, h2, h3, h4⟩
end L2

set_option Elab.async false
set_option linter.all false
set_option maxRecDepth 100000
set_option maxHeartbeats 4000000
namespace L2
open PySem PySem.Spec PyProof.Rows
open PySem.Builtin.Int (intBits)

section
variable {X : Cx} {tg : Expr}
/-! ### an item of a list or a tuple -/
def rIxQ (K : PySem.W.Frag) : R2 := fun x y H Q => ∃ p xs i v, x = .ref p ∧ y = .int i ∧ (SqL K H p xs ∨ SqT K H p xs) ∧ atI xs i = some v ∧ Q v H
theorem ix_sq (K : PySem.W.Frag) (hK : X.K = K := by rfl) : IxR X (rIxQ K) := by
  subst hK
  intro value slice pins s σ H x y v u Q I rx ry h hs
  obtain ⟨p, xs, i, z, e1, e2, h | h, ea, q⟩ := h
  · exact ix_list value slice pins s σ H x y v u Q I rx ry ⟨p, xs, i, z, e1, e2, h, ea, q⟩ hs
  · exact ix_tup value slice pins s σ H x y v u Q I rx ry ⟨p, xs, i, z, e1, e2, h, ea, q⟩ hs
/-! ### rules of the layer with the text's part K told, for a comprehension's inside -/
def rLen (K : PySem.W.Frag) : List V → Hp → VK → Prop := fun xs H Q => ∃ p ys, xs = [.ref p] ∧ (SqL K H p ys ∨ SqT K H p ys) ∧ Q (.int ys.length) H
theorem call_lenK (K : PySem.W.Frag) (hK : X.K = K := by rfl) : CallR X (.builtin "len") (rLen K) := by
  subst hK
  exact call_len_seq
theorem call_isiK (K : PySem.W.Frag) (hK : X.K = K := by rfl) : CallR X (.builtin "isinstance") (rIsi K) := by
  subst hK
  exact call_isi
theorem op_inK (K : PySem.W.Frag) (hK : X.K = K := by rfl) : OpR X (compareOp .In) (rIn K false) := by
  subst hK
  exact op_in_seq
theorem op_notInK (K : PySem.W.Frag) (hK : X.K = K := by rfl) : OpR X (compareOp .NotIn) (rIn K true) := by
  subst hK
  exact op_notIn_seq
theorem sl_listK (K : PySem.W.Frag) (hK : X.K = K := by rfl) : SlR X (rSlL K) := by
  subst hK
  exact sl_list
theorem pg_tupK (K : PySem.W.Frag) {es : List Expr} {kk : Nat} {t : TGs} {n : Nat} {pos : Pos} (hc : X.calm = true) (h : PGs X es t) (hK : X.K = K := by rfl)
    (hn : (assignEach es X.env).length = n := by rfl) (hst : (assignEach es X.env).findIdx? (·.1) = none := by rfl) : PG X (.Tuple es kk pos) (gTup K n t) := by
  subst hK
  exact pg_tup hc h hn hst
/-! ### a walk over a list or a tuple -/
def iSq (K : PySem.W.Frag) (tl : TE) : TI := fun σ H R => tl σ H fun x H1 => ∃ a, x = .ref a ∧ (((∃ xs, SqL K H1 a xs) ∧ R (Itl K a) H1) ∨ ((∃ xs, SqT K H1 a xs) ∧ R (Itt K a) H1))
theorem pi_sq {l : Expr} {tl : TE} (hl : PE X l tl) : PI X tg l (iSq X.K tl) := by
  intro pins s σ H R I h
  refine thn (hl pins s σ H _ I h) fun v s1 ⟨x, H1, I1, r1, q1⟩ => ?_
  obtain ⟨a, e, q1⟩ := q1
  subst e
  cases r1
  rcases q1 with ⟨⟨xs, hq⟩, q⟩ | ⟨⟨xs, hq⟩, q⟩
  · obtain ⟨its, rv, p, hz⟩ := I1.list hq
    refine wpAny_pyIter_list p.isList ?_
    refine ⟨s1.heap.objs.size, [s1.heap.objs.size], _, _, H1, rfl, I1.kept (t' := s1.toks) fun b o e => Heap.get?_push_of_some _ e, turn_list a _, ⟨_, Heap.get?_push_size _ rfl, rfl, rfl⟩, fun b hb => ?_, q⟩
    have e : b = s1.heap.objs.size := by simpa using hb
    subst e
    exact I1.fpOk (Nat.le_refl _) (I1.hok.fresh (Nat.le_refl _))
  · obtain ⟨its, rv, p, hz⟩ := I1.tuple hq
    refine wpAny_pyIter_tuple (show s1.heap.IsTuple a its.toArray from p) ?_
    refine ⟨s1.heap.objs.size, [s1.heap.objs.size], _, _, H1, rfl, I1.kept (t' := s1.toks) fun b o e => Heap.get?_push_of_some _ e, turn_tuple a _, ⟨_, Heap.get?_push_size _ rfl, rfl, rfl⟩, fun b hb => ?_, q⟩
    have e : b = s1.heap.objs.size := by simpa using hb
    subst e
    exact I1.fpOk (Nat.le_refl _) (I1.hok.fresh (Nat.le_refl _))
end

/-! ### the turns of a comprehension: the forms one uses -/
theorem comp_range {fr : List Nat} {te : TE} {σ : St} {D : Addr} {H1 : Hp} {Q : Hp → Prop} {lo : Int} {cnt : Nat} (Pv : Nat → List V → Hp → Prop) (h0 : Pv 0 [] (upd H1 D (.lst [])))
    (hs : ∀ i ys H, i < cnt → Pv i ys H → ∀ Qe : VK, (∀ y H5, H5 D = some (.lst ys) → ys.length < sizeLine → Pv (i + 1) (ys ++ [y]) (upd H5 D (.lst (ys ++ [y]))) → Qe y H5) → te (some (.int (lo + i)) :: compFr fr σ) H Qe)
    (hd : ∀ ys H, Pv cnt ys H → Q H) : CompRun 1 fr (Itr lo cnt) (gName 0) tYes te σ D H1 Q := by
  refine ⟨fun i m ys H => m = cnt - i ∧ i ≤ cnt ∧ Pv i ys H, ⟨cnt, by simp, Nat.zero_le _, h0⟩, ?_⟩
  rintro i m ys H' ⟨rfl, hi, p⟩
  by_cases hlt : i < cnt
  · refine .inr ⟨hlt, fun x H2 y => ?_⟩
    obtain ⟨e, y⟩ := y
    subst e y
    refine ⟨⟨[some (.int (lo + i))], rfl, rfl⟩, ?_⟩
    simp only [tYes, ↓reduceIte]
    exact hs i ys _ hlt p _ fun y H5 hD hz pv => ⟨hD, hz, cnt - (i + 1), by omega, rfl, hlt, pv⟩
  · have e : i = cnt := by omega
    subst e
    exact .inl ⟨Nat.le_refl _, hd ys H' p⟩
theorem comp_list {K : PySem.W.Frag} {a : Addr} {xs : List V} {fr : List Nat} {te : TE} {σ : St} {D : Addr} {H1 : Hp} {Q : Hp → Prop} (Pv : Nat → List V → Hp → Prop) (h0 : Pv 0 [] (upd H1 D (.lst [])))
    (hl : ∀ i ys H, i ≤ xs.length → Pv i ys H → SqL K H a xs)
    (hs : ∀ i x ys H, xs[i]? = some x → Pv i ys H → ∀ Qe : VK, (∀ y H5, H5 D = some (.lst ys) → ys.length < sizeLine → Pv (i + 1) (ys ++ [y]) (upd H5 D (.lst (ys ++ [y]))) → Qe y H5) → te (some x :: compFr fr σ) H Qe)
    (hd : ∀ ys H, Pv xs.length ys H → Q H) : CompRun 1 fr (Itl K a) (gName 0) tYes te σ D H1 Q := by
  refine ⟨fun i m ys H => m = xs.length - i ∧ i ≤ xs.length ∧ Pv i ys H, ⟨xs.length, by simp, Nat.zero_le _, h0⟩, ?_⟩
  rintro i m ys H' ⟨rfl, hi, p⟩
  have q := hl i ys H' hi p
  by_cases hlt : i < xs.length
  · refine .inr ⟨⟨xs, xs[i], q, by simp [hlt]⟩, fun x H2 y => ?_⟩
    obtain ⟨e, y⟩ := y
    subst e
    refine ⟨⟨[some x], rfl, rfl⟩, ?_⟩
    simp only [tYes, ↓reduceIte]
    exact hs i x ys _ (y xs q) p _ fun y H5 hD hz pv => ⟨hD, hz, xs.length - (i + 1), by omega, rfl, hlt, pv⟩
  · have e : i = xs.length := by omega
    subst e
    exact .inl ⟨⟨xs, q, Nat.le_refl _⟩, hd ys H' p⟩
theorem comp_tup {K : PySem.W.Frag} {a : Addr} {xs : List V} {fr : List Nat} {te : TE} {σ : St} {D : Addr} {H1 : Hp} {Q : Hp → Prop} (Pv : Nat → List V → Hp → Prop) (h0 : Pv 0 [] (upd H1 D (.lst [])))
    (hl : ∀ i ys H, i ≤ xs.length → Pv i ys H → SqT K H a xs)
    (hs : ∀ i x ys H, xs[i]? = some x → Pv i ys H → ∀ Qe : VK, (∀ y H5, H5 D = some (.lst ys) → ys.length < sizeLine → Pv (i + 1) (ys ++ [y]) (upd H5 D (.lst (ys ++ [y]))) → Qe y H5) → te (some x :: compFr fr σ) H Qe)
    (hd : ∀ ys H, Pv xs.length ys H → Q H) : CompRun 1 fr (Itt K a) (gName 0) tYes te σ D H1 Q := by
  refine ⟨fun i m ys H => m = xs.length - i ∧ i ≤ xs.length ∧ Pv i ys H, ⟨xs.length, by simp, Nat.zero_le _, h0⟩, ?_⟩
  rintro i m ys H' ⟨rfl, hi, p⟩
  have q := hl i ys H' hi p
  by_cases hlt : i < xs.length
  · refine .inr ⟨⟨xs, xs[i], q, by simp [hlt]⟩, fun x H2 y => ?_⟩
    obtain ⟨e, y⟩ := y
    subst e
    refine ⟨⟨[some x], rfl, rfl⟩, ?_⟩
    simp only [tYes, ↓reduceIte]
    exact hs i x ys _ (y xs q) p _ fun y H5 hD hz pv => ⟨hD, hz, xs.length - (i + 1), by omega, rfl, hlt, pv⟩
  · have e : i = xs.length := by omega
    subst e
    exact .inl ⟨⟨xs, q, Nat.le_refl _⟩, hd ys H' p⟩

/-! ### the script's cells -/
def cellI (ns : List Int) (k : Int) : Int := (ns[k.toNat]?).getD 0
theorem atI_int {ns : List Int} {k : Int} (h0 : 0 ≤ k) (h : k < ns.length) : atI (ns.map V.int) k = some (.int (cellI ns k)) := by
  obtain ⟨j, rfl⟩ : ∃ j : Nat, k = j := ⟨k.toNat, by omega⟩
  have hj : j < ns.length := by omega
  refine atI_nat ?_
  unfold cellI
  rw [List.getElem?_map, Int.toNat_natCast, List.getElem?_eq_getElem hj]
  rfl
theorem cellI_out {ns : List Int} {k : Int} (h0 : 0 ≤ k) (h : ¬ k < ns.length) : cellI ns k = 0 := by
  unfold cellI
  rw [List.getElem?_eq_none (by omega)]
  rfl
theorem SqT.same {K : PySem.W.Frag} {H H' : Hp} {a : Addr} {xs : List V} (e : Same H H') (h : SqT K H a xs) : SqT K H' a xs := by
  rcases h with (h | ⟨o, h⟩) | h
  · exact .inl (.inl (e _ _ h))
  · exact .inl (.inr ⟨o, e _ _ h⟩)
  · exact .inr h
theorem ite_t {c : Bool} {A B : Prop} (hc : c = true) (h : A) : if c = true then A else B := by rw [if_pos hc]; exact h
theorem ite_f {c : Bool} {A B : Prop} (hc : c = false) (h : B) : if c = true then A else B := by rw [if_neg (by rw [hc]; exact Bool.false_ne_true)]; exact h
theorem lenOk {xs : List V} (h : xs.length ≤ 1000 := by simp) : xs.length ≤ sizeLine := Nat.le_of_lt (small1000 h)
theorem small63 {n : Nat} (h : n ≤ 1000) : n ≤ sizeLine := Nat.le_of_lt (small1000 h)
end L2

set_option Elab.async false
set_option linter.all false
set_option maxRecDepth 100000
set_option maxHeartbeats 4000000
namespace L2
open PySem PySem.Spec PyProof.Rows
open PySem.Builtin.Int (intBits)

/-! ### tuples of ints, pairs -/
def dT (ws : List Int) : PyData := .tuple (ws.map PyData.int)
def dL (ws : List Int) : PyData := .list (ws.map PyData.int)
def dP (d e : PyData) : PyData := .tuple [d, e]
def dO : Option Int → PyData
  | none => .none
  | some i => .int i
def vO : Option Int → V
  | none => .non
  | some i => .int i
theorem rp_int {H : Hp} (i : Int) : Rp H (.int i) (.int i) := by unfold Rp; rfl
theorem rp_dT {H : Hp} {t : Addr} {ws : List Int} (h : H t = some (.tup (ws.map V.int))) : Rp H (dT ws) (.ref t) := by
  unfold dT Rp
  exact ⟨t, _, rfl, h, rp_ints ws⟩
theorem rp_dP {H : Hp} {p : Addr} {d e : PyData} {x y : V} (h : H p = some (.tup [x, y])) (hd : Rp H d x) (he : Rp H e y) : Rp H (dP d e) (.ref p) := by
  unfold dP Rp
  refine ⟨p, _, rfl, h, ?_⟩
  unfold RpAll
  refine ⟨x, _, rfl, hd, ?_⟩
  unfold RpAll
  refine ⟨y, _, rfl, he, ?_⟩
  unfold RpAll
  rfl
theorem depthAll_ints : ∀ ws : List Int, PyData.depthAll (ws.map PyData.int) = 0
  | [] => rfl
  | w :: ws => by
    show max (PyData.depth (.int w)) (PyData.depthAll (ws.map PyData.int)) = 0
    rw [depthAll_ints ws]
    rfl
theorem depth_dT (ws : List Int) : (dT ws).depth = 1 := by
  show PyData.depthAll (ws.map PyData.int) + 1 = 1
  rw [depthAll_ints]
theorem depth_dP (d e : PyData) : (dP d e).depth = max d.depth e.depth + 1 := by
  show max d.depth (max e.depth 0) + 1 = _
  rw [Nat.max_zero]
theorem eqvAll_ints : ∀ xs ys : List Int, PyData.eqvAll (xs.map PyData.int) (ys.map PyData.int) = decide (xs = ys)
  | [], [] => rfl
  | x :: xs, y :: ys => by
    show (PyData.eqv (.int x) (.int y) && PyData.eqvAll (xs.map PyData.int) (ys.map PyData.int)) = _
    rw [eqvAll_ints xs ys]
    show ((x == y) && decide (xs = ys)) = _
    by_cases h1 : x = y <;> by_cases h2 : xs = ys <;> simp [h1, h2]
  | [], _ :: _ => rfl
  | _ :: _, [] => rfl
end L2

set_option Elab.async false
set_option linter.all false
set_option maxRecDepth 100000
set_option maxHeartbeats 4000000
namespace L2
open PySem PySem.Spec PyProof.Rows
open PySem.Builtin.Int (intBits)

section
variable {X : Cx} {pins : List (Addr × Obj)} {σ : St} {H : Hp} {s : Shared} {h' : Heap}
/-- records of ours (at ch) have turned, a new object is laid at T -/
theorem Inv.turnLaid {ch : List Addr} {T : Addr} {o : HO} {t' : Nat} (I : Inv X pins σ H s) (hch : ∀ b ∈ ch, FpOk X pins H b) (k : ∀ b ob, b ∉ ch → s.heap.get? b = some ob → h'.get? b = some ob)
    (hT : s.heap.objs.size ≤ T) (new : ObjOk X.prog X.w (upd H T o) h' T o) : Inv X pins σ (upd H T o) { s with heap := h', toks := t' } := by
  have hn : H T = none := I.hok.fresh hT
  have off : ∀ b u, H b = some u → b ∉ ch := fun b u e hb => by
    have z := (hch b hb).1
    rw [e] at z
    cases z
  refine I.call (g' := s.gens) (d' := s.drawn) (t' := t') (ch := ch) ⟨fun b ob e _ _ hc => k b ob hc e, fun b ob e _ _ hc => ⟨ob.slots, k b ob hc e⟩, fun b ob e n hc => ?_, fun b ob e hc => ⟨ob, k b ob hc e⟩, fun b xs e => ?_, fun b ob u e => ?_, fun b ps e => ⟨#[], ?_⟩⟩ (fun b u e => ?_) I.bare
    (fun b hb => ⟨(hch b hb).2.2.2.1, (hch b hb).2.1, (hch b hb).2.2.2.2.1, (hch b hb).2.2.2.2.2⟩)
  · rw [upd_ne (Nat.ne_of_lt (Nat.lt_of_lt_of_le (Heap.lt_size e) hT))]
    exact n
  · rw [upd_ne (ne_of_none e hn)]
    exact e
  · rw [upd_ne (ne_of_none e hn)]
    exact e
  · rw [upd_ne (ne_of_none e hn), e]
    simp
  · by_cases hb : b = T
    · subst hb
      rw [upd_same] at e
      cases e
      exact new
    · rw [upd_ne hb] at e
      refine (I.hok b u e).stay (fun c v hc q => k c v ?_ q) (fun c q => ?_) fun c xs q => ?_
      · rcases hc with rfl | hc
        · exact off _ _ e
        · exact off _ _ hc
      · rw [upd_ne (ne_of_none q hn)]
        exact q
      · rw [upd_ne (ne_of_none q hn)]
        exact q
/-- records of ours (at ch) have turned -/
theorem Inv.turnMany {ch : List Addr} {t' : Nat} (I : Inv X pins σ H s) (hch : ∀ b ∈ ch, FpOk X pins H b) (k : ∀ b ob, b ∉ ch → s.heap.get? b = some ob → h'.get? b = some ob) : Inv X pins σ H { s with heap := h', toks := t' } := by
  have off : ∀ b u, H b = some u → b ∉ ch := fun b u e hb => by
    have z := (hch b hb).1
    rw [e] at z
    cases z
  refine I.call (g' := s.gens) (d' := s.drawn) (t' := t') (ch := ch) ⟨fun b ob e _ _ hc => k b ob hc e, fun b ob e _ _ hc => ⟨ob.slots, k b ob hc e⟩, fun b ob e n hc => n, fun b ob e hc => ⟨ob, k b ob hc e⟩, fun b xs e => e, fun b ob u e => e, fun b ps e => ⟨#[], by rw [e]; simp⟩⟩ (fun b u e => ?_) I.bare
    (fun b hb => ⟨(hch b hb).2.2.2.1, (hch b hb).2.1, (hch b hb).2.2.2.2.1, (hch b hb).2.2.2.2.2⟩)
  refine (I.hok b u e).stay (fun c v hc q => k c v ?_ q) (fun c q => q) fun c xs q => q
  rcases hc with rfl | hc
  · exact off _ _ e
  · exact off _ _ hc
end

/-! ### zip of two lists, unpacked -/
def Itz (K : PySem.W.Frag) (l1 l2 : Addr) : It :=
  ⟨fun i H => ∃ xs ys x y, SqL K H l1 xs ∧ SqL K H l2 ys ∧ xs[i]? = some x ∧ ys[i]? = some y,
   fun i H v H' => ∃ T x y, v = .ref T ∧ H T = none ∧ H' = upd H T (.tup [x, y]) ∧ (∀ xs, SqL K H l1 xs → xs[i]? = some x) ∧ ∀ ys, SqL K H l2 ys → ys[i]? = some y,
   fun i H => ∃ xs ys, SqL K H l1 xs ∧ SqL K H l2 ys ∧ (xs.length ≤ i ∨ ys.length ≤ i)⟩
section
variable {X : Cx}
def iZip (K : PySem.W.Frag) (ta : TA) : TI := fun σ H R => ta σ H fun vs H1 => ∃ a b, vs = [.ref a, .ref b] ∧ (∃ xs, SqL K H1 a xs) ∧ (∃ ys, SqL K H1 b ys) ∧ R (Itz K a b) H1
end

/-! ### enumerate of a list, unpacked -/
def Ite (K : PySem.W.Frag) (l : Addr) : It :=
  ⟨fun i H => ∃ xs x, SqL K H l xs ∧ xs[i]? = some x,
   fun i H v H' => ∃ T x, v = .ref T ∧ H T = none ∧ H' = upd H T (.tup [.int i, x]) ∧ ∀ xs, SqL K H l xs → xs[i]? = some x,
   fun i H => ∃ xs, SqL K H l xs ∧ xs.length ≤ i⟩
section
variable {X : Cx}
def iEnum (K : PySem.W.Frag) (ta : TA) : TI := fun σ H R => ta σ H fun vs H1 => ∃ a, vs = [.ref a] ∧ (∃ xs, SqL K H1 a xs) ∧ R (Ite K a) H1
end
end L2

set_option Elab.async false
set_option linter.all false
set_option maxRecDepth 100000
set_option maxHeartbeats 4000000
namespace L2
open PySem PySem.Spec PyProof.Rows
open PySem.Builtin.Int (intBits)
section
variable {X : Cx}
/-! ### the least, the greatest of a list of ints -/
theorem call_maxL (hc : X.calm = true) : CallR X (.builtin "max") (fun xs H Q => ∃ (p : Addr) (ns : List Int), xs = [.ref p] ∧ SqL X.K H p (ns.map V.int) ∧ 0 < ns.length ∧ ∀ m : Int, m ∈ ns → (∀ a ∈ ns, a ≤ m) → Q (.int m) H) := by
  intro pins s σ H vs us Q I r q
  obtain ⟨p, ns, rfl, hq, hne, q⟩ := q
  obtain ⟨u, rfl, rx⟩ := vals1 r
  cases rx
  obtain ⟨its, rv, pl, hz⟩ := I.list hq
  have hi := intsAre_of rv
  obtain ⟨ys, ey⟩ := hi.allInts.items
  have hns : ns = ys.toList.map (·.1) := by
    have e1 := hi.numsOf
    have e2 := nums_intItems ys
    rw [← ey] at e2
    exact e1.symm.trans e2
  have hsz : 0 < ys.size := by
    rw [hns, List.length_map, Array.length_toList] at hne
    exact hne
  have hl := pl.isList
  rw [ey] at hl
  refine max_intList (I.ok.hd hc) hl hsz fun v g' tk hv hk => ?_
  obtain ⟨t, rfl⟩ := intItems_at hv
  obtain ⟨b1, b2⟩ := argBest_gt (numAt ys) (ys.size - 1)
  refine ⟨.int _, H, I.kept hk, ⟨t, rfl⟩, q _ ?_ fun a ha => ?_⟩
  · rw [hns, numAt_eq]
    exact getD_mem (by rw [List.length_map, Array.length_toList]; omega)
  · rw [hns] at ha
    obtain ⟨j, hj, rfl⟩ := mem_getD ha
    rw [List.length_map, Array.length_toList] at hj
    rw [← numAt_eq]
    exact b2 j (by omega)
end
/-! ### the place of an int in a list of ints -/
section
variable {X : Cx}
def rIndex (K : PySem.W.Frag) : V → List V → Hp → VK → Prop := fun x vs H Q => ∃ (l : Addr) (ns : List Int) (y : Int) (j : Nat), x = .ref l ∧ vs = [.int y] ∧ SqL K H l (ns.map V.int) ∧ ns[j]? = some y ∧ (∀ m, m < j → ns[m]? ≠ some y) ∧ Q (.int (j : Nat)) H
theorem all_flat_ints : ∀ ns : List Int, (ns.map V.int).all flatV = true
  | [] => rfl
  | n :: ns => by
    show (flatV (V.int n) && (ns.map V.int).all flatV) = true
    rw [all_flat_ints ns]
    rfl
theorem mt_index : MtM X "list.index" (rIndex X.K) := by
  intro pins s σ H x vs v us Q I rx rv h
  obtain ⟨l, ns, y, j, rfl, rfl, hq, hj, hno, q⟩ := h
  cases rx
  obtain ⟨u, rfl, ru⟩ := rv.one
  obtain ⟨its, r, pl, hz⟩ := I.list hq
  obtain ⟨⟨oc, od, odt, osl⟩, n, e, hc, hd, hs⟩ := pl
  obtain rfl : oc = .type "list" := hc
  obtain rfl : odt = .seq its.toArray n := hs
  have hlen := r.length
  rw [List.length_map] at hlen
  have hjn : j < ns.length := (List.getElem?_eq_some_iff.mp hj).1
  have hat : ∀ m (hm : m < its.toArray.size), eqU (.int y) its.toArray[m] = decide (ns[m]? = some y) := by
    intro m hm
    have hm' : m < ns.length := by
      rw [List.size_toArray] at hm
      omega
    have e1 : (ns.map V.int)[m]? = some (V.int ns[m]) := by rw [List.getElem?_map, List.getElem?_eq_getElem hm']; rfl
    obtain ⟨w, ew, rw'⟩ := r.get e1
    have e2 : its.toArray[m] = w := by
      have := (List.getElem?_eq_some_iff.mp ew).2
      simpa using this
    rw [e2, eqU_of rw' rfl, List.getElem?_eq_getElem hm']
    show (ns[m] == y) = _
    by_cases z : ns[m] = y <;> simp [z]
  have h63 := line63
  refine call_meets F.slot_list_index ⟨_, e, rfl⟩ F.entry_list_index (F.args_list_index_2 _ _) (PySem.SeqAt.list_indexAt l its.toArray n od osl u (eqU (.int y)) j (by rw [List.size_toArray]; omega) ?_ ?_ ?_) ⟨e, fun z hz' => ?_, ?_⟩
  · rw [List.length_map] at hz
    omega
  · rw [hat j (by rw [List.size_toArray]; omega), hj]
    simp
  · intro m hm hmj
    rw [hat m hm]
    exact decide_eq_false (hno m hmj)
  · exact mem_eqAt ru rfl r (all_flat_ints ns) z (by simpa using hz')
  · exact ⟨.int (j : Nat), H, I.tok _, ⟨_, rfl⟩, q⟩
end
/-! ### a def with defaults -/
structure FunD (K : PySem.W.Frag) (x qual : Str) (st : Stmt) (f : Addr) (fd : FuncData) : Prop where
  ex : ∃ (oc : Value) (od : Option Addr) (dV kV doc pm : Value) (an : Option Addr) (cdv ct : Value) (osl : Array (Option Value)),
    fd = PySem.W.fnOf x qual (defArgs st) (defBody st) (defScope st) dV kV doc pm an cdv ct ∧ K.lookup f = some ⟨oc, od, .func fd, osl⟩ ∧ PySem.W.codeIn K cdv qual = true
section
variable {P : Program} {w : World} {K : PySem.W.Frag} {mg : Str → Option Value} {base : Heap}
theorem FunD.ok {x qual : Str} {st : Stmt} {f : Addr} {fd : FuncData} {N ps : List Str} {k : Nat} {sp : Sp} (F : FunD K x qual st f fd) (S : FnScope N ps (defScope st)) (len : ∀ vs H Q E, sp vs H Q E → vs.length = ps.length)
    (hbody : ∀ (cdv : Value) (A : Around) (outer : List Env) (s : Shared) (H : Hp) (vs : List V) (Q : VK) (E : XK), Room k (A.deeper (envOfC qual (defScope st) s.heap.objs.size f cdv)) → sp vs H Q E →
      ∃ t, PSs (cxOf CX0 P w K mg base N qual (defScope st) f cdv A outer s H E).nox (defBody st) t ∧ t { nx := fun _ H' => Q .non H', rt := Q } (start N vs) H) : FnOk P w K mg base CX0 (k + 1) f fd ps sp := by
  obtain ⟨oc, od, dV, kV, doc, pm, an, cdv, ct, osl, rfl, lk, hcd⟩ := F.ex
  refine fn_of lk hcd S len fun A outer s H vs Q E hr hsp => ?_
  obtain ⟨t, h, q⟩ := hbody cdv A outer s H vs Q E hr hsp
  exact ⟨t, h.nox, q⟩
end
end L2

set_option Elab.async false
set_option linter.all false
set_option maxRecDepth 100000
set_option maxHeartbeats 4000000
namespace L2
open PySem PySem.Spec PyProof.Rows
open PySem.Builtin.Int (intBits)
/-! ### for over a zip, by what holds between two turns -/
end L2

set_option Elab.async false
set_option linter.all false
set_option maxRecDepth 100000
set_option maxHeartbeats 4000000
namespace L2
open PySem PySem.Spec PyProof.Rows
open PySem.Builtin.Int (intBits)
/-! ### and, or, if whose ways meet: the second part is told by its value; an if by what holds behind it -/
section
variable {X : Cx} {a b c : Expr} {rest : List Expr} {ta tb : TE} {tA tB' : TT} {t u : TS} {pos : Pos}
def tAndX (ta tb : TE) : TE := fun σ H Q => ta σ H fun x H1 => ∃ c d : Bool, x = .bl c ∧ (c = true → ∀ Q' : VK, Q' (.bl d) H1 → tb σ H1 Q') ∧ Q (.bl (c && d)) H1
def tOrX (ta tb : TE) : TE := fun σ H Q => ta σ H fun x H1 => ∃ c d : Bool, x = .bl c ∧ (c = false → ∀ Q' : VK, Q' (.bl d) H1 → tb σ H1 Q') ∧ Q (.bl (c || d)) H1
theorem pe_andX (ha : PE X a ta) (hb : PE X (.BoolOp .And (b :: rest) pos) tb) : PE X (.BoolOp .And (a :: b :: rest) pos) (tAndX ta tb) := by
  intro pins s σ H Q I h
  refine BoolOp_and (thn (ha pins s σ H _ I h) fun v s1 ⟨x, H1, I1, r1, q1⟩ => ?_)
  obtain ⟨c, d, rfl, q0, q1⟩ := q1
  cases r1
  refine wpAny_truthy_bool ?_
  cases c with
  | true => exact hb pins s1 σ H1 Q I1 (q0 rfl Q q1)
  | false => exact ⟨.bl false, H1, I1, rfl, q1⟩
theorem pe_orX (ha : PE X a ta) (hb : PE X (.BoolOp .Or (b :: rest) pos) tb) : PE X (.BoolOp .Or (a :: b :: rest) pos) (tOrX ta tb) := by
  intro pins s σ H Q I h
  refine BoolOp_or (thn (ha pins s σ H _ I h) fun v s1 ⟨x, H1, I1, r1, q1⟩ => ?_)
  obtain ⟨c, d, rfl, q0, q1⟩ := q1
  cases r1
  refine wpAny_truthy_bool ?_
  cases c with
  | false => exact hb pins s1 σ H1 Q I1 (q0 rfl Q q1)
  | true => exact ⟨.bl true, H1, I1, rfl, q1⟩
def tAndT (t u : TT) : TT := fun σ H Q => t σ H fun c H1 => ∃ d : Bool, (c = true → ∀ Q' : Bool → Hp → Prop, Q' d H1 → u σ H1 Q') ∧ Q (c && d) H1
def tOrT (t u : TT) : TT := fun σ H Q => t σ H fun c H1 => ∃ d : Bool, (c = false → ∀ Q' : Bool → Hp → Prop, Q' d H1 → u σ H1 Q') ∧ Q (c || d) H1
theorem pw_andX (ha : PT X a tA) (hb : PW X (.BoolOp .And (b :: rest) pos) tB') : PW X (.BoolOp .And (a :: b :: rest) pos) (tAndT tA tB') := by
  intro wh pins s σ H Q I h
  refine isTrue_and (thn (ha pins s σ H _ I h) fun c s1 ⟨H1, I1, d, q0, q1⟩ => ?_)
  cases c with
  | true => exact hb wh pins s1 σ H1 Q I1 (q0 rfl Q q1)
  | false => exact ⟨H1, I1, q1⟩
theorem pw_orX (ha : PT X a tA) (hb : PW X (.BoolOp .Or (b :: rest) pos) tB') : PW X (.BoolOp .Or (a :: b :: rest) pos) (tOrT tA tB') := by
  intro wh pins s σ H Q I h
  refine isTrue_or (thn (ha pins s σ H _ I h) fun c s1 ⟨H1, I1, d, q0, q1⟩ => ?_)
  cases c with
  | true => exact ⟨H1, I1, q1⟩
  | false => exact hb wh pins s1 σ H1 Q I1 (q0 rfl Q q1)
theorem SP.mono {pins : List (Addr × Obj)} {D D' : Ends} {f : Flow} {s' : Shared} (h : SP X pins D f s') (hn : ∀ σ H, D.nx σ H → D'.nx σ H) (hr : ∀ v H, D.rt v H → D'.rt v H) (hb : ∀ σ H, D.bk σ H → D'.bk σ H) (hc : ∀ σ H, D.ct σ H → D'.ct σ H) : SP X pins D' f s' := by
  cases f with
  | next => obtain ⟨σ', H', I, q⟩ := h; exact ⟨σ', H', I, hn _ _ q⟩
  | brk => obtain ⟨σ', H', I, q⟩ := h; exact ⟨σ', H', I, hb _ _ q⟩
  | cont => obtain ⟨σ', H', I, q⟩ := h; exact ⟨σ', H', I, hc _ _ q⟩
  | ret v => obtain ⟨x, σ', H', I, r, q⟩ := h; exact ⟨x, σ', H', I, r, hr _ _ q⟩
def tIfJ (c : TT) (t u : TS) : TS := fun D σ H => c σ H fun b H1 => ∃ N : St → Hp → Prop, (b = true → t { D with nx := N } σ H1) ∧ (b = false → u { D with nx := N } σ H1) ∧ ∀ σ' H', N σ' H' → D.nx σ' H'
theorem ps_ifJ {c : Expr} {a b : List Stmt} {tc : TT} (hc : PT X c tc) (ha : PSs X a t) (hb : PSs X b u) : PS X (.If c a b pos) (tIfJ tc t u) := by
  intro pins s σ H D I h
  refine wpAny_If (thn (hc pins s σ H _ I h) fun d s1 ⟨H1, I1, N, q1, q2, q3⟩ => ?_)
  cases d with
  | true => exact thn (ha pins s1 σ H1 _ I1 (q1 rfl)) fun f s2 q => q.mono q3 (fun _ _ z => z) (fun _ _ z => z) fun _ _ z => z
  | false => exact thn (hb pins s1 σ H1 _ I1 (q2 rfl)) fun f s2 q => q.mono q3 (fun _ _ z => z) (fun _ _ z => z) fun _ _ z => z
end
end L2

set_option Elab.async false
set_option linter.all false
set_option maxRecDepth 100000
set_option maxHeartbeats 4000000
namespace L2
open PySem PySem.Spec PyProof.Rows
open PySem.Builtin.Int (intBits)
/-! ### iterators over a list (false) or a tuple (true) -/
section
variable {P : Program} {w : World} {A : Around} {E : Value → Shared → Prop} {s : Shared}
/-- a tuple's iterator tells the next one -/
theorem nextT_item {I T : Addr} {k : Nat} {vs : Array Value} {v : Value} {Q : Value → Shared → Prop} (hI : s.heap.IsTupleIter I T k) (hT : s.heap.IsTuple T vs) (hv : vs[k]? = some v)
    (q : ∀ h', h'.IsTupleIter I T (k + 1) → Heap.SameBut I s.heap h' → Q v { s with heap := h' }) : wpAny (model P w) A (Builtin.SmallTypes.nextOf (.ref I)) Q E s := by
  obtain ⟨oI, eI, cI, dI⟩ := id hI
  obtain ⟨oT, eT, _, nT, dT'⟩ := hT
  unfold Builtin.SmallTypes.nextOf
  refine wpAny_bind (wpAny_callSpecial?_slot (name := Str.ofString "__next__") hI.typeIs F.slot_tuple_iterator_next (wpAny_call_entry F.slot_tuple_iterator_next hI.typeIs F.entry_tuple_iterator_next ?_ (F.args_tuple_iterator_next_1 _)))
  show wpAny _ _ (field (.ref I) 0 >>= _) _ _ s
  refine wpAny_bind (wpAny_field eI dI (x := .ref T) rfl ?_)
  show wpAny _ _ (if (Value.ref T == Value.none) = true then _ else _) _ _ s
  rw [if_neg (show ¬ ((Value.ref T == Value.none) = true) from Bool.false_ne_true)]
  show wpAny _ _ (field (.ref I) 1 >>= _) _ _ s
  refine wpAny_bind (wpAny_field eI dI (x := .int k 0) rfl ?_)
  show wpAny _ _ (seqItems? (.ref T) >>= _) _ _ s
  refine wpAny_bind (wpAny_seqItems eT dT' ?_)
  simp only [Int.toNat_natCast, hv]
  refine wpAny_bind (wpAny_setField eI dI (by simp) (wpAny_pure ⟨v, rfl, wpAny_pure (q _ ⟨_, Heap.get?_update_self _ eI (Obj.isFreed_of_fields (Obj.data_mapFields dI _)), (Obj.cls_mapFields ..).trans cI, ?_⟩ (Heap.SameBut.update ..))⟩))
  rw [Obj.data_mapFields dI]
  simp [rawInt]
theorem nextT_end {I T : Addr} {k : Nat} {vs : Array Value} {Q : Value → Shared → Prop} (no : A.handled = none) (hI : s.heap.IsTupleIter I T k) (hT : s.heap.IsTuple T vs) (hv : vs[k]? = none)
    (q : ∀ h' e, Heap.ExtBut I s.heap h' → (∃ o, h'.get? e = some o ∧ o.cls = .type "StopIteration") → E (.ref e) { s with heap := h' }) : wpAny (model P w) A (Builtin.SmallTypes.nextOf (.ref I)) Q E s := by
  obtain ⟨oI, eI, cI, dI⟩ := id hI
  obtain ⟨oT, eT, _, nT, dT'⟩ := hT
  unfold Builtin.SmallTypes.nextOf
  refine wpAny_bind (wpAny_callSpecial?_slot (name := Str.ofString "__next__") hI.typeIs F.slot_tuple_iterator_next (wpAny_call_entry F.slot_tuple_iterator_next hI.typeIs F.entry_tuple_iterator_next ?_ (F.args_tuple_iterator_next_1 _)))
  show wpAny _ _ (field (.ref I) 0 >>= _) _ _ s
  refine wpAny_bind (wpAny_field eI dI (x := .ref T) rfl ?_)
  show wpAny _ _ (if (Value.ref T == Value.none) = true then _ else _) _ _ s
  rw [if_neg (show ¬ ((Value.ref T == Value.none) = true) from Bool.false_ne_true)]
  show wpAny _ _ (field (.ref I) 1 >>= _) _ _ s
  refine wpAny_bind (wpAny_field eI dI (x := .int k 0) rfl ?_)
  show wpAny _ _ (seqItems? (.ref T) >>= _) _ _ s
  refine wpAny_bind (wpAny_seqItems eT dT' ?_)
  simp only [Int.toNat_natCast, hv]
  refine wpAny_bind (wpAny_rule (wpAny_bind (wpAny_setField eI dI (by simp) ?_)))
  show wpAny _ _ (newExc (.type "StopIteration") [] >>= fun _ => _) _ _ _
  refine wpAny_bind ?_
  simp only [newExc, newTuple]
  refine wpAny_bind (wpAny_newObj_type (wpAny_bind (m := firstArgMember _ _) (wpAny_of_eq (a := Value.none) (by first | rfl | (simp only [firstArgMember]; rfl)) (wpAny_newObj_type ?_ (by size_fits)))) (by size_fits))
  simp only [raiseNew]
  refine wpAny_bind (wpAny_handled ?_)
  first | rw [show A.in1.handled = none from no] | rw [no]
  refine wpAny_bind (wpAny_pure (wpAny_throw (q _ _ (((Heap.SameBut.update ..).extBut.push _).push _) ⟨_, Heap.get?_push_size _ rfl, rfl⟩)))
end
theorem drawsT {P : Program} {w : World} {A : Around} (no : A.handled = none) (I T : Addr) (ne : T ≠ I) (vs : Array Value) : Draws P w A I [I, T] vs.size (fun i v => vs[i]? = some v) (fun i h => h.IsTupleIter I T i ∧ h.IsTuple T vs) where
  live := fun _ _ st => let ⟨o, e, _⟩ := st.1; ⟨o, e⟩
  frame := fun _ _ _ st k => ⟨st.1.at fun o e => k I (by simp) o e, let ⟨o, e, r⟩ := st.2; ⟨o, k T (by simp) o e, r⟩⟩
  item := fun i s Q E hi st q => nextT_item st.1 st.2 (v := vs[i]) (by simp [hi]) fun h' st' sb => q _ h' s.toks (by simp [hi]) ⟨st', st.2.extBut sb.extBut ne⟩ sb
  done := fun s Q E st q => nextT_end no st.1 st.2 (by simp) q
def IsIt : Bool → Heap → Addr → Addr → Nat → Prop
  | true, h, I, T, i => h.IsTupleIter I T i
  | false, h, I, T, i => h.IsListIter I T i
def IsSq : Bool → Heap → Addr → Array Value → Prop
  | true, h, T, vs => h.IsTuple T vs
  | false, h, T, vs => h.IsList T vs
def itNm : Bool → String
  | true => "tuple_iterator"
  | false => "list_iterator"
def Sq : Bool → PySem.W.Frag → Hp → Addr → List V → Prop
  | true, K, H, a, xs => SqT K H a xs
  | false, K, H, a, xs => SqL K H a xs
theorem draws_it {P : Program} {w : World} {A : Around} (no : A.handled = none) (b : Bool) (I T : Addr) (ne : T ≠ I) (vs : Array Value) : Draws P w A I [I, T] vs.size (fun i v => vs[i]? = some v) (fun i h => IsIt b h I T i ∧ IsSq b h T vs) := by
  cases b
  · exact Draws.list no I T ne vs
  · exact drawsT no I T ne vs
theorem IsIt.data {b : Bool} {h : Heap} {I T : Addr} {i : Nat} (x : IsIt b h I T i) : ∃ o, h.get? I = some o ∧ o.cls = .type (itNm b) ∧ o.data = .fields #[.ref T, .int i 0] := by cases b <;> exact x
theorem IsIt.of {b : Bool} {h : Heap} {I T : Addr} {i : Nat} (x : ∃ o, h.get? I = some o ∧ o.cls = .type (itNm b) ∧ o.data = .fields #[.ref T, .int i 0]) : IsIt b h I T i := by cases b <;> exact x
theorem IsIt.at' {b : Bool} {h h' : Heap} {I T : Addr} {i : Nat} (x : IsIt b h I T i) (k : ∀ o, h.get? I = some o → h'.get? I = some o) : IsIt b h' I T i := by
  obtain ⟨o, e, r⟩ := x.data
  exact .of ⟨o, k _ e, r⟩
theorem IsSq.at' {b : Bool} {h h' : Heap} {T : Addr} {vs : Array Value} (x : IsSq b h T vs) (k : ∀ o, h.get? T = some o → h'.get? T = some o) : IsSq b h' T vs := by
  cases b <;> exact let ⟨o, e, r⟩ := x; ⟨o, k _ e, r⟩
theorem IsSq.lt {b : Bool} {h : Heap} {T : Addr} {vs : Array Value} (x : IsSq b h T vs) : T < h.objs.size := by
  cases b <;> exact let ⟨_, e, _⟩ := x; Heap.lt_size e
theorem IsIt.lt {b : Bool} {h : Heap} {I T : Addr} {i : Nat} (x : IsIt b h I T i) : I < h.objs.size := by
  obtain ⟨_, e, _⟩ := x.data
  exact Heap.lt_size e
theorem IsIt.ne {b c : Bool} {h : Heap} {I T : Addr} {i : Nat} {vs : Array Value} (x : IsIt b h I T i) (y : IsSq c h T vs) : T ≠ I := by
  rintro rfl
  obtain ⟨o, e, k, _⟩ := x.data
  cases c <;> (obtain ⟨o', e', k', _⟩ := y; rw [e] at e'; cases e'; rw [k] at k'; cases b <;> simp [itNm] at k')
section
variable {X : Cx} {pins : List (Addr × Obj)} {σ : St} {H : Hp} {s : Shared}
theorem Inv.sq {b : Bool} {a : Addr} {xs : List V} (I : Inv X pins σ H s) (q : Sq b X.K H a xs) : ∃ us, Vals xs us ∧ IsSq b s.heap a us.toArray := by
  cases b
  · obtain ⟨us, r, p, _⟩ := I.list q
    exact ⟨us, r, p.isList⟩
  · obtain ⟨us, r, p, _⟩ := I.tuple q
    exact ⟨us, r, p⟩
theorem Inv.sq_inj {b : Bool} {a : Addr} {xs ys : List V} (I : Inv X pins σ H s) (q : Sq b X.K H a xs) (r : Sq b X.K H a ys) : xs = ys := by
  cases b
  · exact I.list_inj q r
  · exact I.tuple_inj q r
end
end L2

set_option Elab.async false
set_option linter.all false
set_option maxRecDepth 100000
set_option maxHeartbeats 4000000
namespace L2
open PySem PySem.Spec PyProof.Rows
open PySem.Builtin.Int (intBits)
open AutoSeq1 (wpAny_loadPart')
/-! ### zip and enumerate of lists and tuples, each by two draws -/
structure Far (z TI TO i1 i2 l1 l2 : Nat) : Prop where
  a : TI ≠ z
  b : TO ≠ z
  c : i1 ≠ z
  d : i2 ≠ z
  e : TI ≠ TO
  f : TI ≠ i1
  g : TI ≠ i2
  h : TO ≠ i1
  i : TO ≠ i2
  j : i1 ≠ i2
  k1 : l1 ≠ z ∧ l1 ≠ TO ∧ l1 ≠ i1 ∧ l1 ≠ i2
  k2 : l2 ≠ z ∧ l2 ≠ TO ∧ l2 ≠ i1 ∧ l2 ≠ i2
section
variable {P : Program} {w : World} {A : Around} {E : Value → Shared → Prop} {s : Shared}
abbrev zh1 (b1 : Bool) (h : Heap) (l1 : Addr) : Heap := h.push { cls := .type (itNm b1), data := .fields #[.ref l1, .int 0 0] }
abbrev zh2 (b1 b2 : Bool) (h : Heap) (l1 l2 : Addr) : Heap := (zh1 b1 h l1).push { cls := .type (itNm b2), data := .fields #[.ref l2, .int 0 0] }
abbrev zh3 (b1 b2 : Bool) (h : Heap) (l1 l2 : Addr) : Heap := (zh2 b1 b2 h l1 l2).push { cls := .type "tuple", data := .seq #[.ref h.objs.size, .ref (zh1 b1 h l1).objs.size] }
abbrev zh4 (b1 b2 : Bool) (h : Heap) (l1 l2 : Addr) : Heap := (zh3 b1 b2 h l1 l2).push { cls := .type "tuple", data := .seq #[.none, .none] }
abbrev zh5 (b1 b2 : Bool) (h : Heap) (l1 l2 : Addr) : Heap := (zh4 b1 b2 h l1 l2).push { cls := .type "zip", data := .fields #[.none, .bool false, .bool false, .ref (zh2 b1 b2 h l1 l2).objs.size, .ref (zh3 b1 b2 h l1 l2).objs.size] }
end
end L2

set_option Elab.async false
set_option linter.all false
set_option maxRecDepth 100000
set_option maxHeartbeats 4000000
namespace L2
open PySem PySem.Spec PyProof.Rows
open PySem.Builtin.Int (intBits)
open AutoSeq1 (wpAny_loadPart')
section
variable {P : Program} {w : World} {A : Around} {E : Value → Shared → Prop} {s : Shared}
end
/-! ### zip, unpacked -/
def Itzx (K : PySem.W.Frag) (b1 b2 : Bool) (l1 l2 : Addr) : It :=
  ⟨fun i H => ∃ xs ys x y, Sq b1 K H l1 xs ∧ Sq b2 K H l2 ys ∧ xs[i]? = some x ∧ ys[i]? = some y,
   fun i H v H' => ∃ T x y, v = .ref T ∧ H T = none ∧ H' = upd H T (.tup [x, y]) ∧ (∀ xs, Sq b1 K H l1 xs → xs[i]? = some x) ∧ ∀ ys, Sq b2 K H l2 ys → ys[i]? = some y,
   fun i H => ∃ xs ys, Sq b1 K H l1 xs ∧ Sq b2 K H l2 ys ∧ (xs.length = i ∨ (i < xs.length ∧ ys.length = i))⟩
section
variable {X : Cx}
def iZipx (K : PySem.W.Frag) (ta : TA) : TI := fun σ H R => ta σ H fun vs H1 => ∃ (b1 b2 : Bool) (a b : Addr), vs = [.ref a, .ref b] ∧ (∃ xs, Sq b1 K H1 a xs) ∧ (∃ ys, Sq b2 K H1 b ys) ∧ R (Itzx K b1 b2 a b) H1
end
/-! ### enumerate, unpacked -/
def Itex (K : PySem.W.Frag) (b : Bool) (l : Addr) : It :=
  ⟨fun i H => ∃ xs x, Sq b K H l xs ∧ xs[i]? = some x,
   fun i H v H' => ∃ T x, v = .ref T ∧ H T = none ∧ H' = upd H T (.tup [.int i, x]) ∧ ∀ xs, Sq b K H l xs → xs[i]? = some x,
   fun i H => ∃ xs, Sq b K H l xs ∧ xs.length = i⟩
theorem turn_enumx {P : Program} {w : World} {K : PySem.W.Frag} {elts : List Expr} {kk : Nat} {pos : Pos} {b : Bool} {e it l : Addr} (hne : e ≠ it) (hel : e ≠ l) :
    Turn P w K (.Tuple elts kk pos) (Itex K b l) [e, it] e (fun i h => (∃ old, IsEnum h e it i old) ∧ IsIt b h it l i) where
  mem := List.mem_cons_self
  obj := fun i h ⟨⟨old, he⟩, h1⟩ c hc => by
    obtain ⟨o1, e1, c1, d1⟩ := h1.data
    simp only [List.mem_cons, List.not_mem_nil, or_false] at hc
    rcases hc with rfl | rfl
    · exact ⟨_, he, fun v q => by cases q⟩
    · exact ⟨_, e1, fun v q => by rw [d1] at q; cases q⟩
  keep := fun i h h' ⟨⟨old, he⟩, h1⟩ hk => ⟨⟨old, hk e (by simp) _ he⟩, h1.at' fun o q => hk it (by simp) o q⟩
  item := by
    intro X hP hw hK hc i pins s σ H E I hfp ⟨⟨old, he⟩, h1⟩ ⟨xs, x, q1, ex⟩
    subst hP hw hK
    obtain ⟨its1, r1, p1⟩ := I.sq q1
    obtain ⟨u1, eu1, ru1⟩ := r1.get ex
    have lt1 : i < its1.toArray.size := by
      have := (List.getElem?_eq_some_iff.mp eu1).1
      simpa using this
    refine wpAny_pyNext_enum_itemD (draws_it (A := X.A.in1) (I.ok.hd hc) b it l (h1.ne p1) its1.toArray) he ⟨h1, p1⟩ lt1 hne (by simp [hne, hel]) fun u h' tk eu a1 a2 a3 a4 hk => ⟨_, rfl, ?_⟩
    have e2 : u = u1 := Option.some.inj (eu.symm.trans (by simpa using eu1))
    subst e2
    refine wpAny_letOwnedTupleGo_enum a1 fun h'' hz'' hs'' => ?_
    have hzlt : e < s.heap.objs.size := Heap.lt_size he
    have hTp : h''.get? s.heap.objs.size = some { cls := .type "tuple", data := .seq #[.int i tk, u] } := hs''.extBut _ _ (Nat.ne_of_gt hzlt) a3
    refine ⟨.ref s.heap.objs.size, upd H s.heap.objs.size (.tup [.int i, x]), I.turnLaid (t' := tk + 1) (ch := [e, it]) hfp (fun c o hc ec => ?_) (Nat.le_refl _) ?_, rfl, ⟨_, x, rfl, I.fresh, rfl, fun xs' q => ?_⟩, ⟨⟨u, ?_⟩, ?_⟩, fun c hc => ?_⟩
    · simp only [List.mem_cons, List.not_mem_nil, or_false, not_or] at hc
      exact hs''.extBut _ _ hc.1 (hk c o hc.1 hc.2 ec)
    · exact ⟨⟨Nat.le_trans (by decide : 2 ≤ 1000) (small63 (Nat.le_refl _)), _, hTp, rfl⟩, [.int i tk, u], .cons ⟨_, rfl⟩ (.cons ru1 .nil), ⟨_, hTp, rfl, 0, rfl⟩⟩
    · rw [I.sq_inj q q1]
      exact ex
    · have z := hz''
      rw [show ((i : Int) + 1) = ((i + 1 : Nat) : Int) by omega] at z
      exact z
    · exact a2.1.at' fun o eo => hs''.extBut _ _ (Ne.symm hne) eo
    · rw [upd_ne]
      · exact (hfp c hc).1
      · simp only [List.mem_cons, List.not_mem_nil, or_false] at hc
        rcases hc with rfl | rfl
        · exact Nat.ne_of_lt hzlt
        · exact Nat.ne_of_lt h1.lt
  done := by
    intro X hP hw hK hc i pins s σ H E I hfp ⟨⟨old, he⟩, h1⟩ ⟨xs, q1, hl⟩
    subst hP hw hK
    obtain ⟨its1, r1, p1⟩ := I.sq q1
    have n1 := r1.length
    have n2 : i = its1.toArray.size := by simp only [List.size_toArray]; omega
    subst n2
    refine wpAny_pyNext_enum_endD (draws_it (A := X.A.in1) (I.ok.hd hc) b it l (h1.ne p1) its1.toArray) he ⟨h1, p1⟩ fun h' hk => ⟨rfl, I.turnMany (t' := s.toks) (ch := [e, it]) hfp fun c o hc ec => ?_⟩
    simp only [List.mem_cons, List.not_mem_nil, or_false, not_or] at hc
    exact hk c o hc.2 ec
  self := fun A i s Q E ⟨⟨old, he⟩, _⟩ hQ => wpAny_pyIter_enum he hQ
theorem enumT_meets (l : Addr) (items : Array Value) (n : Nat) (dct : Option Addr) (sl : Array (Option Value)) :
    Meets (Builtin.«enumerate.__new__» ⟨[.type "enumerate", .ref l], []⟩) (fun _ R s => s.heap.get? l = some { cls := .type "tuple", dict := dct, data := .seq items n, slots := sl } ∧
      R (.ok (.ret (.ref (zh1 true s.heap l).objs.size))) { s with heap := (zh1 true s.heap l).push { cls := .type "enumerate", data := .fields #[.none, .bool false, .ref s.heap.objs.size, rawInt 0, .none, .none] } }) :=
  .of_wp fun prog w A R s h => by
    obtain ⟨hp, g, d, tk, os⟩ := s
    obtain ⟨hl, h⟩ := h
    have hsub := sub_enumerate
    have hT : Heap.IsTuple (Shared.heap ⟨hp, g, d, tk, os⟩) l items := ⟨_, hl, rfl, n, rfl⟩
    wp_walk using wpAny_loadPart' hl
    refine wpAny_stack_any fun st => wpAny_pure ?_
    split
    · rename_i c _ _ _ _ _
      cases (c == Value.type "enumerate")
      · wp_walk using wpAny_loadPart' hl, wpAny_pyIter_tuple hT
        exact ⟨_, rfl, h⟩
      · wp_walk using wpAny_loadPart' hl, wpAny_pyIter_tuple hT
        exact ⟨_, rfl, h⟩
    · wp_walk using wpAny_loadPart' hl, wpAny_pyIter_tuple hT
      exact ⟨_, rfl, h⟩
theorem enumT_call {P : Program} {w : World} {A : Around} {E : Value → Shared → Prop} {s : Shared} {l : Addr} {items : Array Value} {Q : Value → Shared → Prop} (hT : s.heap.IsTuple l items)
    (h : ∀ h', IsEnum h' (s.heap.objs.size + 1) s.heap.objs.size 0 .none → h'.IsTupleIter s.heap.objs.size l 0 → (∀ b o, s.heap.get? b = some o → h'.get? b = some o) → Q (.ref (s.heap.objs.size + 1)) { s with heap := h' }) :
    wpAny (model P w) A (call (.type "enumerate") [.ref l]) Q E s := by
  obtain ⟨⟨c, dct, dt, sl⟩, hl, hc, n, hd⟩ := hT
  have hc' : c = .type "tuple" := hc
  have hd' : dt = .seq items n := hd
  subst hc' hd'
  refine callType_new F.called_enumerate (by decide) (F.typeCall_enumerate_1 _) (F.newCall_enumerate_1 _) (fun obj => F.args_object_init_2 obj _) F.entry_enumerate_new (enumT_meets l items n dct sl) ⟨hl, ?_⟩
  have hz : (zh1 true s.heap l).objs.size = s.heap.objs.size + 1 := Heap.size_push ..
  show _ ∧ _
  rw [hz]
  have he := Heap.get?_push_size (zh1 true s.heap l) (o := { cls := .type "enumerate", data := .fields #[.none, .bool false, .ref s.heap.objs.size, rawInt 0, .none, .none] }) rfl
  rw [hz] at he
  exact ⟨⟨_, he, rfl⟩, h _ he ⟨_, Heap.get?_push_of_some _ (Heap.get?_push_size _ rfl), rfl, rfl⟩ fun b o x => Heap.get?_push_of_some _ (Heap.get?_push_of_some _ x)⟩
section
variable {X : Cx}
def iEnumx (K : PySem.W.Frag) (ta : TA) : TI := fun σ H R => ta σ H fun vs H1 => ∃ (b : Bool) (a : Addr), vs = [.ref a] ∧ (∃ xs, Sq b K H1 a xs) ∧ R (Itex K b a) H1
theorem pi_enumx {elts : List Expr} {kk : Nat} {tpos : Pos} {a : Expr} {ta : TA} {p pos : Pos} (hg : Gl X "enumerate") (hm : X.mg "enumerate" = none) (ha : PA X [a] ta) (hs : starEach [a] X.env = [(false, eval a X.env)] := by rfl) :
    PI X (.Tuple elts kk tpos) (.Call (.Name "enumerate" p) [a] [] pos) (iEnumx X.K ta) := by
  intro pins s σ H R I h
  refine Call_ (ld_blt I hg hm boot_enumerate (PyProof.Rows.callWith_type1 (thn (ha pos pins s σ H _ I h) fun us s1 ⟨vs, H1, I1, r1, q1⟩ => ?_) hs rfl))
  obtain ⟨b, l1, e, ⟨xs, hx⟩, q⟩ := q1
  subst e
  obtain ⟨u1, rfl, ru1⟩ := vals1 r1
  cases ru1
  obtain ⟨its1, rr1, p1⟩ := I1.sq hx
  have lt1 := p1.lt
  have fin : ∀ h', IsEnum h' (s1.heap.objs.size + 1) s1.heap.objs.size 0 .none → IsIt b h' s1.heap.objs.size l1 0 → (∀ b o, s1.heap.get? b = some o → h'.get? b = some o) →
      wpAny (model X.prog X.w) X.A (pyIter (.ref (s1.heap.objs.size + 1))) (PIE X pins σ (.Tuple elts kk tpos) R) X.xe { s1 with heap := h' } := fun h' a1 a2 hk => by
    refine wpAny_pyIter_enum a1 ?_
    have I2 : Inv X pins σ H1 { s1 with heap := h' } := I1.kept (t' := s1.toks) hk
    refine ⟨s1.heap.objs.size + 1, [s1.heap.objs.size + 1, s1.heap.objs.size], _, _, H1, rfl, I2, turn_enumx (Nat.ne_of_gt (Nat.lt_succ_self _)) (Nat.ne_of_gt (Nat.lt_succ_of_lt lt1)), ⟨⟨_, a1⟩, a2⟩, fun c hc => ?_, q⟩
    have hle : s1.heap.objs.size ≤ c := by
      simp only [List.mem_cons, List.not_mem_nil, or_false] at hc
      rcases hc with rfl | rfl <;> omega
    exact I1.fpOk hle (I1.hok.fresh hle)
  cases b with
  | false => exact call_enumerate_list p1 fun h' a1 a2 a3 hk => fin h' a1 a2 hk
  | true => exact enumT_call p1 fun h' a1 a2 hk => fin h' a1 a2 hk
end
end L2

set_option Elab.async false
set_option linter.all false
set_option maxRecDepth 100000
set_option maxHeartbeats 4000000
namespace L2
open PySem PySem.Spec PyProof.Rows
open PySem.Builtin.Int (intBits)
/-! ### loops and comprehensions over zip and enumerate, by what holds between two turns -/
theorem for_enumx {K : PySem.W.Frag} {b : Bool} {c : Addr} {xs : List V} {g : TG} {tb : TS} {D : Ends} {σ : St} {H : Hp} (Pv : Nat → St → Hp → Prop) (h0 : Pv 0 σ H) (hl : ∀ i σ H, i ≤ xs.length → Pv i σ H → Sq b K H c xs)
    (hs : ∀ i x T σ H, xs[i]? = some x → Pv i σ H → H T = none → g (.ref T) σ (upd H T (.tup [.int i, x])) fun σ2 H2 => tb { D with nx := Pv (i + 1), ct := Pv (i + 1), bk := D.nx } σ2 H2) (hd : ∀ σ H, Pv xs.length σ H → D.nx σ H) :
    ∃ W : Nat → Nat → St → Hp → Prop, (∃ m, W 0 m σ H) ∧ ∀ i m σ H, W i m σ H →
      ((Itex K b c).stop i H ∧ D.nx σ H) ∨ ((Itex K b c).go i H ∧ ∃ N : St → Hp → Prop, (∀ σ' H', N σ' H' → ∃ m', m' < m ∧ W (i + 1) m' σ' H') ∧ ∀ x H', (Itex K b c).yld i H x H' → g x σ H' fun σ2 H2 => tb { D with nx := N, ct := N, bk := D.nx } σ2 H2) := by
  refine ⟨fun i m σ H => m = xs.length - i ∧ i ≤ xs.length ∧ Pv i σ H, ⟨xs.length, by simp, Nat.zero_le _, h0⟩, ?_⟩
  rintro i m σ H ⟨rfl, hi, p⟩
  have q1 := hl i σ H hi p
  by_cases hlt : i < xs.length
  · refine .inr ⟨⟨xs, xs[i], q1, by simp [hlt]⟩, Pv (i + 1), fun σ' H' p' => ⟨xs.length - (i + 1), by omega, rfl, hlt, p'⟩, fun v H' y => ?_⟩
    obtain ⟨T, x, rfl, hT, rfl, e1⟩ := y
    exact hs i x T σ H (e1 xs q1) p hT
  · have e : i = xs.length := by omega
    subst e
    exact .inl ⟨⟨xs, q1, rfl⟩, hd σ H p⟩
/-- two names, each stored -/
abbrev gTwo (K : PySem.W.Frag) : TG := gTup K 2 (gCons (gName 0) (gCons (gName 1) gNil))
end L2

set_option Elab.async false
set_option linter.all false
set_option maxRecDepth 100000
set_option maxHeartbeats 4000000
namespace L2
open PySem PySem.Spec PyProof.Rows
open PySem.Builtin.Int (intBits)
/-! ### and, or whose ways meet in a predicate N: the second part may lay objects -/
section
variable {X : Cx} {a b : Expr} {rest : List Expr} {ta tb : TE} {tA tB' : TT} {pos : Pos}
def tAndY (ta tb : TE) : TE := fun σ H Q => ta σ H fun x H1 => ∃ (c : Bool) (N : Bool → Hp → Prop), x = .bl c ∧ (c = false → N false H1) ∧ (c = true → tb σ H1 fun y H2 => ∃ d : Bool, y = .bl d ∧ N d H2) ∧ ∀ d H2, N d H2 → Q (.bl d) H2
def tOrY (ta tb : TE) : TE := fun σ H Q => ta σ H fun x H1 => ∃ (c : Bool) (N : Bool → Hp → Prop), x = .bl c ∧ (c = true → N true H1) ∧ (c = false → tb σ H1 fun y H2 => ∃ d : Bool, y = .bl d ∧ N d H2) ∧ ∀ d H2, N d H2 → Q (.bl d) H2
theorem pe_andY (ha : PE X a ta) (hb : PE X (.BoolOp .And (b :: rest) pos) tb) : PE X (.BoolOp .And (a :: b :: rest) pos) (tAndY ta tb) := by
  intro pins s σ H Q I h
  refine BoolOp_and (thn (ha pins s σ H _ I h) fun v s1 ⟨x, H1, I1, r1, q1⟩ => ?_)
  obtain ⟨c, N, rfl, q0, q1, q2⟩ := q1
  cases r1
  refine wpAny_truthy_bool ?_
  cases c with
  | true => exact thn (hb pins s1 σ H1 _ I1 (q1 rfl)) fun v s2 ⟨y, H2, I2, r2, d, e, n⟩ => ⟨y, H2, I2, r2, by rw [e]; exact q2 d H2 n⟩
  | false => exact ⟨.bl false, H1, I1, rfl, q2 _ _ (q0 rfl)⟩
def tAndU (t u : TT) : TT := fun σ H Q => t σ H fun c H1 => ∃ N : Bool → Hp → Prop, (c = false → N false H1) ∧ (c = true → u σ H1 N) ∧ ∀ d H2, N d H2 → Q d H2
def tOrU (t u : TT) : TT := fun σ H Q => t σ H fun c H1 => ∃ N : Bool → Hp → Prop, (c = true → N true H1) ∧ (c = false → u σ H1 N) ∧ ∀ d H2, N d H2 → Q d H2
theorem pw_andY (ha : PT X a tA) (hb : PW X (.BoolOp .And (b :: rest) pos) tB') : PW X (.BoolOp .And (a :: b :: rest) pos) (tAndU tA tB') := by
  intro wh pins s σ H Q I h
  refine isTrue_and (thn (ha pins s σ H _ I h) fun c s1 ⟨H1, I1, N, q0, q1, q2⟩ => ?_)
  cases c with
  | true => exact thn (hb wh pins s1 σ H1 _ I1 (q1 rfl)) fun d s2 ⟨H2, I2, n⟩ => ⟨H2, I2, q2 d H2 n⟩
  | false => exact ⟨H1, I1, q2 _ _ (q0 rfl)⟩
theorem pw_orY (ha : PT X a tA) (hb : PW X (.BoolOp .Or (b :: rest) pos) tB') : PW X (.BoolOp .Or (a :: b :: rest) pos) (tOrU tA tB') := by
  intro wh pins s σ H Q I h
  refine isTrue_or (thn (ha pins s σ H _ I h) fun c s1 ⟨H1, I1, N, q0, q1, q2⟩ => ?_)
  cases c with
  | true => exact ⟨H1, I1, q2 _ _ (q0 rfl)⟩
  | false => exact thn (hb wh pins s1 σ H1 _ I1 (q1 rfl)) fun d s2 ⟨H2, I2, n⟩ => ⟨H2, I2, q2 d H2 n⟩
end
end L2

set_option Elab.async false
set_option linter.all false
set_option maxRecDepth 100000
set_option maxHeartbeats 4000000
namespace L2
open PySem PySem.Spec PyProof.Rows
open PySem.Builtin.Int (intBits)
/-! ### list(reversed(xs)) -/
section
variable {P : Program} {w : World} {A : Around} {E : Value → Shared → Prop} {s : Shared}
end
section
variable {X : Cx}
def tListRev (K : PySem.W.Frag) (ta : TA) : TE := fun σ H Q => ta σ H fun vs H1 => ∃ l xs, vs = [.ref l] ∧ SqL K H1 l xs ∧ ∀ d, H1 d = none → Q (.ref d) (upd H1 d (.lst xs.reverse))
end
end L2

set_option Elab.async false
set_option linter.all false
set_option maxRecDepth 100000
set_option maxHeartbeats 4000000
namespace L2
open PySem PySem.Spec PyProof.Rows
open PySem.Builtin.Int (intBits)
/-! ### a // b, b of at most nine thousand bits -/
section
variable {X : Cx}
def CDivB (i j : Int) : Prop := 0 < j ∧ intBits j ≤ 8999
/-! ### the sum of a list of ints -/
end
/-! ### for over range(a, b, c), c from 1 on -/
section
variable {X : Cx} {tg : Expr}
def ItS (lo c : Int) (n : Nat) : It := ⟨fun i _ => i < n, fun i H x H' => H' = H ∧ x = .int (lo + i * c), fun i _ => n ≤ i⟩
/-- how many -/
def stepN (a b c : Int) : Nat := if a < b then ((b - a - 1) / c + 1).toNat else 0
def iRng3 (ta : TA) : TI := fun σ H R => ta σ H fun vs H1 => ∃ i j c : Int, vs = [.int i, .int j, .int c] ∧ (-(2 ^ 60) ≤ i ∧ i < 2 ^ 60 ∧ -(2 ^ 60) ≤ j ∧ j < 2 ^ 60) ∧ (0 < c ∧ c < 2 ^ 30) ∧ R (ItS i c (stepN i j c)) H1
end
end L2

set_option Elab.async false
set_option linter.all false
set_option maxRecDepth 100000
set_option maxHeartbeats 4000000
namespace L2
open PySem PySem.Spec PyProof.Rows
/-! ### exceptions: how they lie, how they pass a def, how they are raised -/
theorem ObjOk.here {P : Program} {w : World} {H : Hp} {h : Heap} {a : Addr} {o : HO} (x : ObjOk P w H h a o) : ∃ ob, h.get? a = some ob := by
  cases o with
  | lst xs => obtain ⟨_, _, _, _, e⟩ := x; exact ⟨_, e⟩
  | tup xs => obtain ⟨_, _, _, o, e, _⟩ := x; exact ⟨_, e⟩
  | dK kvs => obtain ⟨_, _, _, _, o, _, _, e, _⟩ := x; exact ⟨_, e⟩
  | dT kvs => obtain ⟨_, _, _, _, o, _, _, e, _⟩ := x; exact ⟨_, e⟩
  | set S n => obtain ⟨o, _, _, _, e, _⟩ := x; exact ⟨_, e⟩
  | ins C dx fs => obtain ⟨_, _, _, e, _⟩ := x; exact ⟨_, e⟩
  | own y => exact x
  | xd fs => obtain ⟨mA, ⟨od, es, ep, e, c⟩, r⟩ := x; exact ⟨_, e⟩
  | rng lo hi => obtain ⟨t, u, v, e⟩ := x; exact ⟨_, e⟩
  | frz ob u => exact ⟨_, x.1⟩
  | tbl ps => exact ⟨_, (show h.get? a = some _ from x)⟩
  | met f y => exact ⟨_, (show h.get? a = some _ from x)⟩
  | ext φ => exact x.2.1
theorem HOk.off {P : Program} {w : World} {H : Hp} {h : Heap} {a : Addr} (ok : HOk P w H h) (e : h.get? a = none) : H a = none := by
  cases q : H a with
  | none => rfl
  | some u =>
    obtain ⟨ob, z⟩ := (ok a u q).here
    rw [e] at z
    cases z

/-- the exception at a, of the class cls -/
def isExc (a : Addr) (cls : Value) (h : Heap) : Prop := ∃ o vs, h.get? a = some o ∧ o.cls = cls ∧ o.data = .fields vs
def isRec (a : Addr) (h : Heap) : Prop := ∃ o vs, h.get? a = some o ∧ o.data = .fields vs
/-- its traceback's first entry stands at T, no frame holds it -/
def TrAt (h : Heap) (a T : Addr) : Prop := ∃ oe vs oT ts a0, h.get? a = some oe ∧ oe.data = .fields vs ∧ vs[0]? = some a0 ∧ vs[1]? = some (.ref T) ∧ T ≠ a ∧ h.get? T = some oT ∧ oT.data = .fields ts ∧ ts[3]? = some .none
/-- an exception flies: fr the frames, H and h as they were ahead of it, H' and h' now -/
structure Fly (P : Program) (w : World) (fr : List Addr) (H : Hp) (h : Heap) (H' : Hp) (h' : Heap) (a T : Addr) (cls : Value) : Prop where
  un : Un fr [] H H' h h'
  ok : HOk P w H' h'
  exc : H' a = some (.ext (isExc a cls))
  off : H' T = none
  new : h.get? T = none
  tr : TrAt h' a T
/-- how an exception lies behind a call -/
def CX1 (P : Program) (w : World) : CXT := fun outer H s E e s' => ∃ (a T : Addr) (cls : Value) (H' : Hp), e = .ref a ∧ s'.os = s.os ∧ AllBare s'.gens ∧ Fly P w (frs outer) H s.heap H' s'.heap a T cls ∧ E cls none H'

section
variable {X : Cx} {pins : List (Addr × Obj)} {σ : St} {H : Hp} {s : Shared}
theorem Fly.cls {P : Program} {w : World} {fr : List Addr} {H H' : Hp} {h h' : Heap} {a T : Addr} {cls : Value} (F : Fly P w fr H h H' h' a T cls) : isExc a cls h' := (F.ok a _ F.exc).1
end
section
variable {P : Program} {w : World} {K : PySem.W.Frag} {mg : Str → Option Value} {base : Heap} {N : List Str} {qual : Str} {scope : Scope} {f : Addr} {cd : Value} {A : Around} {outer : List Env} {s₀ : Shared} {H₀ : Hp} {E : XK}
/-- which wishes about exceptions a context takes -/
def PassR (X : Cx) (R : St → XK → Prop) : Prop := ∀ (pins : List (Addr × Obj)) (σ : St) (H : Hp) (s : Shared) (e : Value) (s' : Shared) (E : XK), R σ E → Inv X pins σ H s → CX1 X.prog X.w X.stack H s E e s' → X.xe e s'
/-- a def's body lets pass what its own wish takes -/
def RD (E : XK) : St → XK → Prop := fun _ E1 => ∀ c d H, E1 c d H → E c d H
/-- a new exception, made in a context, reaches its wish -/
def RaiseR (X : Cx) (E : XK) : Prop := ∀ (pins : List (Addr × Obj)) (σ : St) (H : Hp) (s : Shared) (h' : Heap) (e : Addr) (cls : Value) (vs : List Value), Inv X pins σ H s → Heap.MadeExcOf s.heap h' e cls vs →
  (∀ H2, Same H H2 → E cls none H2) → X.xe (.ref e) { s with heap := h' }
end
end L2

set_option Elab.async false
set_option linter.all false
set_option maxRecDepth 100000
set_option maxHeartbeats 4000000
namespace L2
open PySem PySem.Spec PyProof.Rows
/-- an own class right or farther under ValueError, made as that one is -/
def ExcC (K : PySem.W.Frag) (C : Addr) : Prop := PySem.W.excIn K C [.type "ValueError", .type "Exception", .type "BaseException", .type "object"] "ValueError.__new__" = true
section
variable {X : Cx} {x : Str} {C : Addr} {p np cpos pos : Pos} {e : Expr} {es : List Expr} {t : TA} {E : XK}
/-- raise C(..) -/
def tRaise (C : Addr) (t : TA) (E : XK) : TS := fun _ σ H => t σ H fun vs H1 => vs.length ≤ sizeLine ∧ ∀ H2, Same H1 H2 → E (.ref C) none H2
/-! ### a call that may raise -/
variable {k : Nat} {f : Addr} {fd : FuncData} {ps : List Str} {sp : Sp} {dvs : List V} {ds : List Value} {R : St → XK → Prop}
def tCallE (sp : Sp) (dvs : List V) (R : St → XK → Prop) (t : TA) : TE := fun σ H Q => t σ H fun vs H1 => ∃ E, R σ E ∧ sp (vs ++ dvs) H1 Q E
end
section
variable {P : Program} {w : World} {K : PySem.W.Frag} {mg : Str → Option Value} {base : Heap} {x qual : Str} {st : Stmt} {f : Addr} {fd : FuncData} {N ps : List Str} {k : Nat} {sp : Sp}
end
end L2

set_option Elab.async false
set_option linter.all false
set_option maxRecDepth 100000
set_option maxHeartbeats 4000000
namespace L2
open PySem PySem.Spec PyProof.Rows
open PySem.W (Looks)
/-! ### try .. except (classes that are not it): ..  except C as n: .. -/
/-- a tuple of names of own classes, none of them a class of what is of the class C -/
inductive NotIts (X : Cx) (C : Addr) : List Expr → List Addr → Prop
  | nil : NotIts X C [] []
  | cons {x : Str} {p : Pos} {c : Addr} {es : List Expr} {cs : List Addr} (hg : Gl X x) (hm : X.mg x = some (.ref c)) (hd : (x == ("__debug__" : Str)) = false)
      (hb : PySem.W.subIn X.K (.ref c) (.type "BaseException") = some true) (hn : PySem.W.subIn X.K (.ref C) (.ref c) = some false) (he : ∀ env : Env, starEach (.Name x p :: es) env = (false, eval (.Name x p) env) :: starEach es env) (r : NotIts X C es cs) : NotIts X C (.Name x p :: es) (c :: cs)
section
variable {X : Cx} {pins : List (Addr × Obj)} {σ : St} {H : Hp} {s : Shared} {C : Addr}
theorem NotIts.len {es : List Expr} {cs : List Addr} (r : NotIts X C es cs) : cs.length = es.length := by
  induction r with
  | nil => rfl
  | cons _ _ _ _ _ _ _ ih => simp [ih]
def rIsiX (K : PySem.W.Frag) : List V → Hp → VK → Prop := fun xs H Q => ∃ (a : Addr) (t c : Value) (v : V), xs = [.ref a, v] ∧ H a = some (.ext (isExc a t)) ∧ (∀ u, RelV v u → u = c) ∧ PySem.W.kitOne K t c = some true ∧ Q (.bl true) H
end
/-! ### the rule -/
abbrev Cx.at (X : Cx) (A : Around) : Cx := { X with A := A, calm := false, xe := fun _ _ => False }
abbrev Cx.in_ (X : Cx) (pn : List (Addr × Obj)) (W : Value → Shared → Prop) : Cx := { X with pn := pn, xe := W }
section
variable {X : Cx} {pins : List (Addr × Obj)} {σ : St} {H : Hp} {s : Shared}
theorem Inv.at (I : Inv X pins σ H s) {A : Around} (hA : A.frames = X.A.frames) : Inv (X.at A) pins σ H s :=
  ⟨⟨I.ok.mod, I.ok.kind, I.ok.glob, I.ok.blt, I.ok.above, I.ok.inj, I.ok.has, I.ok.cab, fun z => (nomatch z), hA.trans I.ok.frames, I.ok.stk, I.ok.exf, I.ok.bs, I.ok.bsz, I.ok.noex, I.ok.exfs, I.ok.funs, I.ok.frf⟩, I.os, I.bare, I.base, I.loc, I.cell, I.free, I.freeC, I.pin, I.hok, I.len⟩
theorem Inv.in_ {W : Value → Shared → Prop} (I : Inv X pins σ H s) : Inv (X.in_ (X.pn ++ pins) W) [] σ H s :=
  ⟨⟨I.ok.mod, I.ok.kind, I.ok.glob, I.ok.blt, I.ok.above, I.ok.inj, I.ok.has, I.ok.cab, I.ok.hd, I.ok.frames, I.ok.stk, I.ok.exf, I.ok.bs, I.ok.bsz, I.ok.noex, I.ok.exfs, I.ok.funs, I.ok.frf⟩, I.os, I.bare, I.base, I.loc, I.cell, I.free, I.freeC,
    fun p hp => I.pin p (by rwa [List.append_nil] at hp), I.hok, I.len⟩
theorem Fly.kept {P : Program} {w : World} {fr : List Addr} {H H' : Hp} {h h' h2 : Heap} {a T : Addr} {cls : Value} (F : Fly P w fr H h H' h' a T cls) (k : ∀ b o, h'.get? b = some o → h2.get? b = some o) : Fly P w fr H h H' h2 a T cls := by
  obtain ⟨oe, vs, oT, ts, a0, e1, d1, h0, h1, nT, e2, d2, h3⟩ := F.tr
  exact ⟨F.un.trans (Un.kept k), F.ok.kept k, F.exc, F.off, F.new, oe, vs, oT, ts, a0, k _ _ e1, d1, h0, h1, nT, k _ _ e2, d2, h3⟩
/-- what the handlers take: the class C -/
def RT (tu : TS) (C : Addr) (i : Nat) (D : Ends) : St → XK → Prop := fun σ1 E => ∀ cls H', E cls none H' → cls = .ref C ∧ ∀ a, H' a = some (.ext (isExc a (.ref C))) →
  tu { nx := fun σ' H4 => D.nx (σ'.set i none) H4, rt := fun _ _ => False } (σ1.set i (some (.ref a))) H'
def tTry (tb : (St → XK → Prop) → TS) (tu : TS) (C : Addr) (i : Nat) : TS := fun D σ H => tb (RT tu C i D) D σ H
theorem NotIts.all {C : Addr} {es : List Expr} {cs : List Addr} (r : NotIts X C es cs) : ∀ c ∈ cs, PySem.W.subIn X.K (.ref c) (.type "BaseException") = some true ∧ PySem.W.subIn X.K (.ref C) (.ref c) = some false := by
  induction r with
  | nil => exact fun _ z => nomatch z
  | cons _ _ _ hb hn _ _ ih =>
    intro c hc
    rcases List.mem_cons.mp hc with e | hc
    · rw [e]
      exact ⟨hb, hn⟩
    · exact ih c hc
end
end L2

set_option Elab.async false
set_option linter.all false
set_option maxRecDepth 100000
set_option maxHeartbeats 4000000
namespace L2
open PySem PySem.Spec PyProof.Rows
section
variable {X : Cx}
/-! ### b is True, b is False -/
end
end L2

set_option Elab.async false
set_option linter.all false
set_option maxRecDepth 100000
set_option maxHeartbeats 400000
namespace L2
open PySem PySem.Spec PyProof.Rows
/-! ### max(xs, default=d) -/
/-- m is the greatest of the first j + 1 numbers -/
def TopTo (val : Nat → Int) (j : Nat) (m : Int) : Prop := (∃ i, i ≤ j ∧ m = val i) ∧ ∀ i, i ≤ j → val i ≤ m
theorem TopTo.up {val : Nat → Int} {j : Nat} {m : Int} (h : TopTo val j m) (b : m < val (j + 1)) : TopTo val (j + 1) (val (j + 1)) := by
  refine ⟨⟨j + 1, Nat.le_refl _, rfl⟩, fun i hi => ?_⟩
  rcases Nat.lt_or_ge j i with z | z
  · have e : i = j + 1 := by omega
    rw [e]
    omega
  · have := h.2 i z
    omega
theorem TopTo.same {val : Nat → Int} {j : Nat} {m : Int} (h : TopTo val j m) (b : ¬ m < val (j + 1)) : TopTo val (j + 1) m := by
  obtain ⟨⟨i0, z0, e0⟩, h2⟩ := h
  refine ⟨⟨i0, by omega, e0⟩, fun i hi => ?_⟩
  rcases Nat.lt_or_ge j i with z | z
  · have e : i = j + 1 := by omega
    rw [e]
    omega
  · exact h2 i z
section
variable {prog : Program} {w : World} {A : Around} {R : Result → Shared → Prop} {I S : Addr} {fp wr : List Addr} {n : Nat} {P : Nat → Value → Prop} {St : Nat → Heap → Prop} {val : Nat → Int}
end
end L2

set_option Elab.async false
set_option linter.all false
set_option maxRecDepth 100000
set_option maxHeartbeats 400000
namespace L2
open PySem PySem.Spec PyProof.Rows
section
variable {prog : Program} {w : World} {A : Around} {E : Value → Shared → Prop} {s : Shared} {l : Addr}
end
section
variable {X : Cx} {p pos kpos : Pos} {e d : Expr} {t : TA} {td : TE} {x : Str}
/-- what max(xs, default=d) tells -/
def tMaxD (K : PySem.W.Frag) (t : TA) (td : TE) : TE := fun σ H Q => t σ H fun vs H1 => tCons td tNil σ H1 fun ys H2 => ∃ (a : Addr) (ns : List Int) (dv : Int), vs = [.ref a] ∧ ys = [.int dv] ∧ SqL K H2 a (ns.map V.int) ∧
  ∀ m : Int, (ns = [] → m = dv) → (ns ≠ [] → m ∈ ns ∧ ∀ b ∈ ns, b ≤ m) → Q (.int m) H2
end
end L2

set_option Elab.async false
set_option linter.all false
set_option maxRecDepth 100000
set_option maxHeartbeats 400000
namespace L2
open PySem PySem.Spec PyProof.Rows PySem.SeqAt
/-- x < y tells b, and nothing changes -/
def LtAt (A : Around) (s : Shared) (x y : Value) (b : Bool) : Prop := ∀ (prog : Program) (w : World) (E : Value → Shared → Prop) (Q : Value → Shared → Prop), Q (.bool b) s → wpAny (model prog w) A (richCompare .Lt x y) Q E s
theorem tup_lt (l b : Addr) (xs ys : Array Value) (n n2 : Nat) (dd dd2 : Option Addr) (sl sl2 : Array (Option Value)) (e : Nat → Bool) (r : Bool) :
    Meets (Builtin.«tuple.__lt__» ⟨[.ref l, .ref b], []⟩)
      (fun A R s => s.heap.get? l = some { cls := .type "tuple", dict := dd, data := .seq xs n, slots := sl } ∧ s.heap.get? b = some { cls := .type "tuple", dict := dd2, data := .seq ys n2, slots := sl2 } ∧
        (∀ j (h1 : j < xs.size) (h2 : j < ys.size), EqAt A.in1 s xs[j] ys[j] (e j)) ∧ (∀ j (h1 : j < xs.size) (h2 : j < ys.size), (∀ i, i < j → e i = true) → e j = false → LtAt A.in1 s xs[j] ys[j] r) ∧
        ((∀ j, j < min xs.size ys.size → e j = true) → r = decide (xs.size < ys.size)) ∧ R (.ok (.ret (.bool r))) s) :=
  .of_wp fun prog w A R s h => by
    obtain ⟨hp, g, d, tk, os⟩ := s
    obtain ⟨hl, hb, he, hf, hz, h⟩ := h
    have f2 := AutoSeq1.sub_tuple_tuple
    have hZ : (xs.toList.zip ys.toList).length = min xs.size ys.size := by simp
    wp_walk using wpAny_loadPart' hl, wpAny_loadPart' hb, wpAny_forIn_list _ (fun rest b s' => b.1 = none ∧ s' = ⟨hp, g, d, tk, os⟩ ∧ ∃ i, rest = (xs.toList.zip ys.toList).drop i ∧ ∀ k, k < i → k < min xs.size ys.size → e k = true) _
    case turn =>
      rintro ⟨y, x⟩ rest b s' ⟨hb', rfl, i, hq, hR⟩
      have hlt : i < (xs.toList.zip ys.toList).length := by
        apply Classical.byContradiction
        intro z
        rw [List.drop_of_length_le (by omega)] at hq
        cases hq
      have h1 : i < xs.size := by omega
      have h2 : i < ys.size := by omega
      rw [List.drop_eq_getElem_cons hlt] at hq
      injection hq with hyx hrest
      have hy : y = xs[i] := by simpa using congrArg Prod.fst hyx
      have hx : x = ys[i] := by simpa using congrArg Prod.snd hyx
      subst hy hx
      refine wpAny_bind (he i h1 h2 prog w _ _ ?_)
      cases hy : e i with
      | true =>
        wp_walk
        refine ⟨rfl, rfl, i + 1, hrest, fun k hk hk2 => ?_⟩
        by_cases z : k = i
        · rw [z]
          exact hy
        · exact hR k (by omega) hk2
      | false =>
        have hl2 := hf i h1 h2 (fun k hk => hR k hk (by omega)) hy prog w
        wp_walk using hl2 _ _
        exact ⟨_, rfl, h⟩
    case fin =>
      rintro ⟨b1, b2⟩ s' ⟨hb', rfl, i, hq, hR⟩
      simp only at hb'
      subst hb'
      have hge : min xs.size ys.size ≤ i := by
        apply Classical.byContradiction
        intro z
        rw [List.drop_eq_getElem_cons (by omega)] at hq
        cases hq
      have hr := hz fun j hj => hR j (by omega) hj
      wp_walk
      refine ⟨_, rfl, ?_⟩
      rw [hr] at h
      simpa [Builtin.Tuple.tupleCompareSizes] using h
    case h =>
      exact ⟨rfl, rfl, 0, rfl, fun k hk => absurd hk (Nat.not_lt_zero k)⟩
/-! ### the order of nested tuples of ints -/
mutual
def ltv : PyData → PyData → Bool
  | .int a, .int b => decide (a < b)
  | .tuple xs, .tuple ys => ltvAll xs ys
  | _, _ => false
def ltvAll : List PyData → List PyData → Bool
  | [], [] => false
  | [], _ :: _ => true
  | _ :: _, [] => false
  | x :: xs, y :: ys => if PyData.eqv x y then ltvAll xs ys else ltv x y
end
mutual
def Cmpb : PyData → PyData → Prop
  | .int _, .int _ => True
  | .tuple xs, .tuple ys => CmpbAll xs ys
  | _, _ => False
def CmpbAll : List PyData → List PyData → Prop
  | x :: xs, y :: ys => Cmpb x y ∧ CmpbAll xs ys
  | _, _ => True
end
theorem ltv_sizes : ∀ (xs ys : List PyData), (∀ j, j < min xs.length ys.length → pairEq xs ys j = true) → ltvAll xs ys = decide (xs.length < ys.length)
  | [], [], _ => rfl
  | [], y :: ys, _ => by simp [ltvAll]
  | x :: xs, [], _ => by simp [ltvAll]
  | x :: xs, y :: ys, h => by
    have h0 : PyData.eqv x y = true := h 0 (by simp only [List.length_cons]; omega)
    have ih := ltv_sizes xs ys fun j hj => h (j + 1) (by simp only [List.length_cons]; omega)
    rw [ltvAll, if_pos h0, ih]
    simp
mutual
theorem lt_reads : ∀ (da db : PyData) (A : Around) (s : Shared) (a b : Value) (as bs : List Addr), Reads s.heap a da as → Reads s.heap b db bs → da.canLay0 = true → db.canLay0 = true → Cmpb da db →
    A.units + min da.depth db.depth < cLine → LtAt A s a b (ltv da db)
  | .int x, db, A, s, _, _, _, _, ra, rb, _, _, hc, hu => by
    cases db with
    | int y =>
      cases ra with
      | int _ t =>
        cases rb with
        | int _ u =>
          intro prog w E Q h
          exact richCompare_gives (op := .Lt) (typeIs_int s _ t) (typeIs_int s _ u) F.slot_int_lt F.entry_int_lt (F.args_int_lt_2 _ _) (gives_int_lt _ _ t u) (fun z => nomatch z) h
    | none => exact hc.elim
    | bool _ => exact hc.elim
    | str _ => exact hc.elim
    | list _ => exact hc.elim
    | tuple _ => exact hc.elim
    | dict _ => exact hc.elim
  | .tuple xs, db, A, s, _, _, _, _, ra, rb, ha, hb, hc, hu => by
    cases db with
    | tuple ys =>
      cases ra with
      | @tuple l o vs n _ as₁ h1 h2 h3 h4 =>
        cases rb with
        | @tuple l' o' vs' n' _ bs₁ k1 k2 k3 k4 =>
          obtain ⟨oc, od, odt, osl⟩ := o
          obtain ⟨oc', od', odt', osl'⟩ := o'
          simp only at h2 h3 k2 k3
          subst h2 h3 k2 k3
          have n1 : vs.size = xs.length := by simpa using ReadsAll.length _ _ _ h4
          have n2 : vs'.size = ys.length := by simpa using ReadsAll.length _ _ _ k4
          intro prog w E Q h
          refine richCompare_meets_room (op := .Lt) ⟨_, h1, rfl⟩ ⟨_, k1, rfl⟩ F.slot_tuple_lt F.entry_tuple_lt (F.args_tuple_lt_2 _ _) (tup_lt l l' vs vs' n n' od od' osl osl' (pairEq xs ys) (ltvAll xs ys)) ⟨h1, k1, fun j j1 j2 => ?_, fun j j1 j2 f1 f2 => ?_, fun f => ?_, (fun z => nomatch z), h⟩ (room_here hu)
          · have := eqAt_readsAll xs ys A.in1 s vs.toList vs'.toList _ _ h4 k4 ha hb (room_in hu) j (by simpa using j1) (by simpa using j2)
            simpa using this
          · have := lt_readsAll xs ys A.in1 s vs.toList vs'.toList _ _ h4 k4 ha hb hc (room_in hu) j (by simpa using j1) (by simpa using j2) f1 f2
            simpa using this
          · rw [n1, n2] at f ⊢
            exact ltv_sizes xs ys f
    | none => exact hc.elim
    | bool _ => exact hc.elim
    | str _ => exact hc.elim
    | list _ => exact hc.elim
    | int _ => exact hc.elim
    | dict _ => exact hc.elim
  | .none, _, _, _, _, _, _, _, _, _, _, _, hc, _ => hc.elim
  | .bool _, _, _, _, _, _, _, _, _, _, _, _, hc, _ => hc.elim
  | .str _, _, _, _, _, _, _, _, _, _, _, _, hc, _ => hc.elim
  | .list _, _, _, _, _, _, _, _, _, _, _, _, hc, _ => hc.elim
  | .dict _, _, _, _, _, _, _, _, _, _, _, _, hc, _ => hc.elim
theorem lt_readsAll : ∀ (xs ys : List PyData) (A : Around) (s : Shared) (vs ws : List Value) (as bs : List Addr), ReadsAll s.heap vs xs as → ReadsAll s.heap ws ys bs → PyData.canLayAll0 xs = true → PyData.canLayAll0 ys = true → CmpbAll xs ys →
    A.units + min (PyData.depthAll xs) (PyData.depthAll ys) < cLine → ∀ j (h1 : j < vs.length) (h2 : j < ws.length), (∀ i, i < j → pairEq xs ys i = true) → pairEq xs ys j = false → LtAt A s vs[j] ws[j] (ltvAll xs ys)
  | [], _, _, _, _, _, _, _, ra, _, _, _, _, _, j, h1, _, _, _ => by cases ra; exact absurd h1 (Nat.not_lt_zero _)
  | _ :: _, [], _, _, _, _, _, _, _, rb, _, _, _, _, j, _, h2, _, _ => by cases rb; exact absurd h2 (Nat.not_lt_zero _)
  | x :: xs, y :: ys, A, s, _, _, _, _, ra, rb, ca, cb, hc, hu, j, h1, h2, f1, f2 => by
    cases ra with
    | cons r1 r2 =>
      cases rb with
      | cons q1 q2 =>
        have ca1 : x.canLay0 = true ∧ PyData.canLayAll0 xs = true := by simpa [PyData.canLayAll0] using ca
        have cb1 : y.canLay0 = true ∧ PyData.canLayAll0 ys = true := by simpa [PyData.canLayAll0] using cb
        have hd : A.units + min x.depth y.depth < cLine ∧ A.units + min (PyData.depthAll xs) (PyData.depthAll ys) < cLine := by
          simp only [PyData.depthAll] at hu
          omega
        cases j with
        | zero =>
          have e : ltvAll (x :: xs) (y :: ys) = ltv x y := by
            have f3 : PyData.eqv x y = false := f2
            rw [ltvAll, f3]
            rfl
          rw [e]
          exact lt_reads x y A s _ _ _ _ r1 q1 ca1.1 cb1.1 hc.1 hd.1
        | succ j =>
          have e : ltvAll (x :: xs) (y :: ys) = ltvAll xs ys := by
            have f3 : PyData.eqv x y = true := f1 0 (Nat.succ_pos _)
            rw [ltvAll, f3]
            rfl
          rw [e]
          exact lt_readsAll xs ys A s _ _ _ _ r2 q2 ca1.2 cb1.2 hc.2 hd.2 j (Nat.lt_of_succ_lt_succ h1) (Nat.lt_of_succ_lt_succ h2) (fun i hi => f1 (i + 1) (Nat.succ_lt_succ hi)) f2
end
section
variable {X : Cx} {k : Nat}
def rLtD : R2 := fun x y H Q => ∃ d e : PyData, Rp H d x ∧ Rp H e y ∧ Cmpb d e ∧ d.depth ≤ 60 ∧ Q (.bl (ltv d e)) H
end
end L2

set_option Elab.async false
set_option linter.all false
set_option maxRecDepth 100000
set_option maxHeartbeats 400000
namespace L2
open PySem PySem.Spec PyProof.Rows
section
variable {X : Cx}
/-- t + u of two tuples, also of an empty t; u is a tracked one and not empty -/
def rCatE (K : PySem.W.Frag) : R2 := fun x y H Q => ∃ a b xs ys, x = .ref a ∧ y = .ref b ∧ SqT K H a xs ∧ H b = some (.tup ys) ∧ ys ≠ [] ∧ xs.length + ys.length ≤ sizeLine ∧
  ∀ p H', Same H H' → H' p = some (.tup (xs ++ ys)) → Q (.ref p) H'
end
end L2

set_option Elab.async false
set_option linter.all false
set_option maxRecDepth 100000
set_option maxHeartbeats 400000
namespace L2
open PySem PySem.Spec PyProof.Rows
/-! ### reversed(t) of a tuple -/
def RvIt (h : Heap) (a t : Addr) (i : Int) : Prop := ∃ o, h.get? a = some o ∧ o.cls = .type "reversed" ∧ o.data = .fields #[.ref t, rawInt i]
section
variable {prog : Program} {w : World} {A : Around} {E : Value → Shared → Prop} {s : Shared}
theorem RvIt.ty {a t : Addr} {i : Int} (x : RvIt s.heap a t i) : s.TypeIs (.ref a) "reversed" := let ⟨o, ho, hc, _⟩ := x; ⟨o, ho, hc⟩
theorem RvIt.at {h h' : Heap} {a t : Addr} {i : Int} (x : RvIt h a t i) (e : ∀ o, h.get? a = some o → h'.get? a = some o) : RvIt h' a t i := let ⟨o, ho, r⟩ := x; ⟨o, e _ ho, r⟩
end
end L2

set_option Elab.async false
set_option linter.all false
set_option maxRecDepth 100000
set_option maxHeartbeats 400000
namespace L2
open PySem PySem.Spec PyProof.Rows
def rvdObj (t : Addr) (i : Int) : Obj := { cls := .type "reversed", data := .fields #[.ref t, rawInt i] }
section
variable {prog : Program} {w : World} {A : Around} {E : Value → Shared → Prop} {s : Shared}
end
/-- the items of a tuple, from the last to the first -/
def Itv (K : PySem.W.Frag) (a : Addr) (xs : List V) : It :=
  ⟨fun i H => SqT K H a xs ∧ i < xs.length, fun i H x H' => H' = H ∧ xs.reverse[i]? = some x, fun i H => SqT K H a xs ∧ xs.length ≤ i⟩
def iRev (K : PySem.W.Frag) (ta : TA) : TI := fun σ H R => ta σ H fun vs H1 => ∃ t xs, vs = [.ref t] ∧ SqT K H1 t xs ∧ R (Itv K t xs) H1
section
variable {X : Cx} {tg : Expr}
end
end L2

set_option Elab.async false
set_option linter.all false
set_option maxRecDepth 100000
set_option maxHeartbeats 400000
namespace L2
open PySem PySem.Spec PyProof.Rows
section
variable {P : Program} {w : World} {A : Around} {E : Value → Shared → Prop} {s : Shared}
end
section
variable {X : Cx}
def tTupRev (K : PySem.W.Frag) (ta : TA) : TE := fun σ H Q => ta σ H fun vs H1 => ∃ l xs, vs = [.ref l] ∧ SqL K H1 l xs ∧ ∀ d, H1 d = none → Q (.ref d) (upd H1 d (.tup xs.reverse))
end
end L2

set_option Elab.async false
set_option linter.all false
set_option maxRecDepth 100000
set_option maxHeartbeats 4000000
namespace L2
open PySem PySem.Spec PyProof.Rows
/-! ### any(xs), all(xs) of a list of truths -/
section
variable {X : Cx}
end
end L2

set_option Elab.async false
set_option linter.all false
set_option maxRecDepth 100000
set_option maxHeartbeats 4000000
namespace L2
open PySem PySem.Spec PyProof.Rows
/-! ### a, b = a list of that length -/
section
variable {prog : Program} {w : World} {A : Around} {E : Value → Shared → Prop} {I : Addr} {fp wr : List Addr} {St : Nat → Heap → Prop} {items : Array Value}
end
section
variable {X : Cx} {pos : Pos}
def gLst (K : PySem.W.Frag) (n : Nat) (t : TGs) : TG := fun v σ H Q => ∃ a xs, v = .ref a ∧ SqL K H a xs ∧ xs.length = n ∧ t xs σ H Q
end
end L2

set_option Elab.async false
set_option linter.all false
set_option maxRecDepth 100000
set_option maxHeartbeats 4000000
namespace L2
open PySem PySem.Spec PyProof.Rows
open PySem.W (Looks)
/-! ### try, and one handler for a class above the raised ones -/
section
variable {prog : Program} {w : World} {A : Around} {E : Value → Shared → Prop} {K : PySem.W.Frag} {x C : Addr} {h : Heap} {g : Array GenState} {d : Drawn} {t : Nat} {os : OsState}
/-- what the kept part says of an own exception class -/
structure ExcK (K : PySem.W.Frag) (C : Addr) : Prop where
  ga : PySem.W.findIn K (.ref C) "__getattribute__" = some (some (.builtin "BaseException.__getattribute__"))
  gt : PySem.W.findIn K (.ref C) "__getattr__" = some none
  cl : PySem.W.findIn K (.ref C) "__class__" = some (some (.builtin "object.__class__"))
  gs : PySem.W.specialIn K (.builtin "object.__class__") "__get__" = some (some (.builtin "getset_descriptor.__get__"))
  tk : PySem.W.takesIn K (.builtin "object.__class__") = some true
  ob : PySem.W.mroIn K C (.type "object") = some true
  be : PySem.W.subIn K (.ref C) (.type "BaseException") = some true
end
section
variable {X : Cx}
def rIsiE (K : PySem.W.Frag) : List V → Hp → VK → Prop := fun xs H Q => ∃ (a C : Addr) (c : Value) (v : V) (b : Bool), xs = [.ref a, v] ∧ H a = some (.ext (isExc a (.ref C))) ∧ (∀ u, RelV v u → u = c) ∧ ExcK K C ∧ PySem.W.kitOne K (.ref C) c = some b ∧ Q (.bl b) H
end
end L2

set_option Elab.async false
set_option linter.all false
set_option maxRecDepth 100000
set_option maxHeartbeats 4000000
namespace L2
open PySem PySem.Spec PyProof.Rows
open PySem.W (Looks)
section
variable {X : Cx}
/-- what the one handler takes: classes under Y -/
def RT1 (K : PySem.W.Frag) (tu : TS) (Y : Addr) (i : Nat) (D : Ends) : St → XK → Prop := fun σ1 E => ∀ cls H', E cls none H' → ∃ C, cls = .ref C ∧ PySem.W.subIn K (.ref C) (.ref Y) = some true ∧ ∀ a, H' a = some (.ext (isExc a (.ref C))) →
  tu { nx := fun σ' H4 => D.nx (σ'.set i none) H4, rt := fun _ _ => False } (σ1.set i (some (.ref a))) H'
def tTry1 (K : PySem.W.Frag) (tb : (St → XK → Prop) → TS) (tu : TS) (Y : Addr) (i : Nat) : TS := fun D σ H => tb (RT1 K tu Y i D) D σ H
end
end L2

set_option Elab.async false
set_option linter.all false
set_option maxRecDepth 100000
set_option maxHeartbeats 4000000
namespace L2
open PySem PySem.Spec PyProof.Rows
open PySem.Builtin.Int (intBits)
section
variable {X : Cx}
/-! ### n.bit_length(), a << n -/
def CShl (i j : Int) : Prop := 0 ≤ j ∧ ((intBits i : Nat) : Int) + j ≤ 2 ^ 27
end
end L2

set_option Elab.async false
set_option linter.all false
set_option maxRecDepth 100000
set_option maxHeartbeats 4000000
namespace L2
open PySem PySem.Spec PyProof.Rows
open PySem.Builtin.Int (intBits)
/-! ### the least, the greatest of a tuple of ints -/
section
variable {prog : Program} {w : World} {A : Around} {E : Value → Shared → Prop} {s : Shared} {l : Addr} {xs : Array (Int × Tok)}
end
section
variable {X : Cx}
end
/-! ### slices and sums of tuples -/
section
variable {X : Cx}
/-- t + u of two tuples, either may be empty -/
def rCatA (K : PySem.W.Frag) : R2 := fun x y H Q => ∃ a b xs ys, x = .ref a ∧ y = .ref b ∧ H a = some (.tup xs) ∧ H b = some (.tup ys) ∧ xs.length + ys.length ≤ sizeLine ∧
  ∀ p H', Same H H' → H' p = some (.tup (xs ++ ys)) → Q (.ref p) H'
end
/-! ### the object of a class that has no __init__ of its own -/
structure MkN (K : PySem.W.Frag) (C : Addr) : Prop where
  makes : PySem.W.makesIn K C = true
  init : PySem.W.findIn K (.ref C) "__init__" = some (some (.builtin "object.__init__"))
  kp : PySem.W.keepIn K (.ref C) = true
def tMakeN (C : Addr) : TE := fun σ H Q => ∀ x dx, H x = none → H dx = none → dx ≠ x → Q (.ref x) (upd (upd H dx (.own x)) x (.ins C dx []))
section
variable {X : Cx} {C : Addr} {x : Str} {p pos : Pos}
end
end L2

set_option Elab.async false
set_option linter.all false
set_option maxRecDepth 100000
set_option maxHeartbeats 4000000
namespace L2
open PySem PySem.Spec PyProof.Rows
open PySem.Builtin.Int (intBits)
/-! ### isinstance of a caught one, several classes at once -/
section
variable {K : PySem.W.Frag} {x C : Addr}
end
section
variable {X : Cx}
def rIsiT (K : PySem.W.Frag) : List V → Hp → VK → Prop := fun xs H Q => ∃ (a C tp : Addr) (as : List Addr) (b : Bool), xs = [.ref a, .ref tp] ∧ H a = some (.ext (isExc a (.ref C))) ∧ H tp = some (.tup (as.map V.ref)) ∧ ExcK K C ∧ ExcC K C ∧
  PySem.W.kitAny K (.ref C) (as.map Value.ref) = some b ∧ Q (.bl b) H
end
/-! ### the place of an int in a tuple of ints -/
section
variable {X : Cx}
def rIndexT (K : PySem.W.Frag) : V → List V → Hp → VK → Prop := fun x vs H Q => ∃ (l : Addr) (ns : List Int) (y : Int) (j : Nat), x = .ref l ∧ vs = [.int y] ∧ SqT K H l (ns.map V.int) ∧ ns[j]? = some y ∧ (∀ m, m < j → ns[m]? ≠ some y) ∧ Q (.int (j : Nat)) H
end
section
variable {X : Cx}
end
end L2

set_option Elab.async false
set_option linter.all false
set_option maxRecDepth 100000
set_option maxHeartbeats 4000000
namespace L2
open PySem PySem.Spec PyProof.Rows
open PySem.Builtin.Int (intBits)
/-! ### range(a, b, -1) -/
section
variable {X : Cx} {tg : Expr}
def iRngD (ta : TA) : TI := fun σ H R => ta σ H fun vs H1 => ∃ i j : Int, vs = [.int i, .int j, .int (-1)] ∧ (-(2 ^ 60) ≤ i ∧ i < 2 ^ 60 ∧ -(2 ^ 60) ≤ j ∧ j < 2 ^ 60) ∧ R (ItS i (-1) (i - j).toNat) H1
end
end L2

set_option Elab.async false
set_option linter.all false
set_option maxRecDepth 100000
namespace L2
open PySem PySem.Spec PyProof.Rows
/-! ### lists of pairs as tables -/
section
variable {κ : Type} [DecidableEq κ]
def valV (kvs : List (κ × V)) (k : κ) : Option V := (kvs.find? fun kv => decide (kv.1 = k)).map (·.2)
/-- in its place, or at the end -/
def putK (kvs : List (κ × V)) (k : κ) (v : V) : List (κ × V) :=
  if (kvs.any fun kv => decide (kv.1 = k)) = true then kvs.map (fun kv => if kv.1 = k then (kv.1, v) else kv) else kvs ++ [(k, v)]
def dropK (kvs : List (κ × V)) (k : κ) : List (κ × V) := kvs.filter fun kv => decide (kv.1 ≠ k)

theorem valV_pos {p : κ × V} {r : List (κ × V)} {k : κ} (e : p.1 = k) : valV (p :: r) k = some p.2 := by simp [valV, List.find?_cons, e]
theorem valV_neg {p : κ × V} {r : List (κ × V)} {k : κ} (e : ¬ p.1 = k) : valV (p :: r) k = valV r k := by simp [valV, List.find?_cons, e]
theorem valV_any (k : κ) : ∀ kvs : List (κ × V), (kvs.any fun kv => decide (kv.1 = k)) = (valV kvs k).isSome
  | [] => rfl
  | p :: r => by
    rw [List.any_cons]
    by_cases e : p.1 = k
    · simp only [valV_pos e, decide_eq_true e, Bool.true_or, Option.isSome_some]
    · rw [valV_neg e, decide_eq_false e, Bool.false_or]; exact valV_any k r
theorem length_putK (kvs : List (κ × V)) (k : κ) (v : V) : (putK kvs k v).length ≤ kvs.length + 1 := by
  unfold putK
  split
  · rw [List.length_map]; omega
  · rw [List.length_append, List.length_cons, List.length_nil]; omega
theorem putK_new {kvs : List (κ × V)} {k : κ} (v : V) (h : valV kvs k = none) : putK kvs k v = kvs ++ [(k, v)] := by
  unfold putK
  rw [valV_any, h]
  exact if_neg (by decide)

theorem RelO.isSome_eq {o : Option V} {u : Option Value} (r : RelO o u) : o.isSome = u.isSome := by
  cases o with
  | none => cases u with
    | none => rfl
    | some _ => exact (show False from r).elim
  | some _ => cases u with
    | none => exact (show False from r).elim
    | some _ => rfl
theorem RelO.getD {o : Option V} {u : Option Value} {d : V} {d' : Value} (r : RelO o u) (rd : RelV d d') : RelV (o.getD d) (u.getD d') := by
  cases o with
  | none => cases u with
    | none => exact rd
    | some _ => exact (show False from r).elim
  | some _ => cases u with
    | none => exact (show False from r).elim
    | some _ => exact r

/-- raw tables of the same keys -/
theorem KV.val {kvs : List (κ × V)} {vs : List (κ × Value)} (r : KV kvs vs) (k : κ) : RelO (valV kvs k) (valueAt vs k) := by
  unfold KV at r
  induction r with
  | nil => exact True.intro
  | @cons p q ps qs h t ih =>
    obtain ⟨h1, h2⟩ := h
    by_cases e : p.1 = k
    · have e' : q.1 = k := h1.symm.trans e
      have b : valueAt (q :: qs) k = some q.2 := by simp [valueAt, List.find?_cons, e']
      rw [valV_pos e, b]; exact h2
    · have e' : ¬ q.1 = k := fun z => e (h1.trans z)
      have b : valueAt (q :: qs) k = valueAt qs k := by simp [valueAt, List.find?_cons, e']
      rw [valV_neg e, b]; exact ih
theorem KV.any {kvs : List (κ × V)} {vs : List (κ × Value)} (r : KV kvs vs) (k : κ) : (kvs.any fun kv => decide (kv.1 = k)) = vs.any fun kv => decide (kv.1 = k) := by
  unfold KV at r
  induction r with
  | nil => rfl
  | cons h t ih => rw [List.any_cons, List.any_cons, ih, h.1]
theorem KV.repl {kvs : List (κ × V)} {vs : List (κ × Value)} (r : KV kvs vs) (k : κ) {y : V} {u : Value} (ry : RelV y u) :
    KV (kvs.map fun kv => if kv.1 = k then (kv.1, y) else kv) (vs.map fun kv => if kv.1 = k then (kv.1, u) else kv) := by
  unfold KV at r ⊢
  induction r with
  | nil => exact .nil
  | @cons p q ps qs h t ih =>
    rw [List.map_cons, List.map_cons]
    refine .cons ?_ ih
    obtain ⟨h1, h2⟩ := h
    by_cases e : p.1 = k
    · rw [if_pos e, if_pos (h1.symm.trans e)]; exact ⟨h1, ry⟩
    · rw [if_neg e, if_neg (fun z => e (h1.trans z))]; exact ⟨h1, h2⟩
theorem KV.put {kvs : List (κ × V)} {vs : List (κ × Value)} (r : KV kvs vs) (k : κ) {y : V} {u : Value} (ry : RelV y u) : KV (putK kvs k y) (stored vs k u) := by
  unfold putK stored
  rw [r.any k]
  by_cases e : (vs.any fun kv => decide (kv.1 = k)) = true
  · rw [if_pos e, if_pos e]; exact r.repl k ry
  · rw [if_neg e, if_neg e]; exact Paired.snoc r ⟨rfl, ry⟩
theorem KV.drop {kvs : List (κ × V)} {vs : List (κ × Value)} (r : KV kvs vs) (k : κ) : KV (dropK kvs k) (without vs k) := by
  unfold KV at r ⊢
  unfold dropK without
  induction r with
  | nil => exact .nil
  | @cons p q ps qs h t ih =>
    obtain ⟨h1, h2⟩ := h
    rw [List.filter_cons, List.filter_cons]
    by_cases e : p.1 = k
    · have a : ¬ decide (p.1 ≠ k) = true := by simp [e]
      have b : ¬ decide (q.1 ≠ k) = true := by simp [h1.symm.trans e]
      rw [if_neg a, if_neg b]; exact ih
    · have e' : ¬ q.1 = k := fun z => e (h1.trans z)
      have a : decide (p.1 ≠ k) = true := by simp [e]
      have b : decide (q.1 ≠ k) = true := by simp [e']
      rw [if_pos a, if_pos b]; exact .cons ⟨h1, h2⟩ ih
theorem KV.keys {kvs : List (κ × V)} {vs : List (κ × Value)} (r : KV kvs vs) : kvs.map (·.1) = vs.map (·.1) := by
  unfold KV at r
  induction r with
  | nil => rfl
  | cons h t ih => rw [List.map_cons, List.map_cons, ih, h.1]
theorem KV.length {kvs : List (κ × V)} {vs : List (κ × Value)} (r : KV kvs vs) : kvs.length = vs.length := Paired.length r
theorem dropK_le (kvs : List (κ × V)) (k : κ) : (dropK kvs k).length ≤ kvs.length := List.length_filter_le _ _
end


/-! ### a tracked dict, its keys ints and texts or tuples of these -/
theorem kV_is {P : Program} {w : World} {k : Key} {u : Value} (r : RelV (kV k) u) : (mixKind P w).is k u = true := by
  cases k with
  | inl i => obtain ⟨t, e⟩ := (show ∃ t, u = Value.int i t from r); subst e; exact mixKind_int P w i t
  | inr x => obtain ⟨t, e⟩ := (show ∃ t, u = Value.str x t from r); subst e; exact mixKind_str P w x t
/-- raw entries of a dict with tuple keys -/
abbrev KT (H : Hp) : List ((List Int × Int) × V) → List ((List Int × Int) × Addr × Value) → Prop := Paired fun p q => p.1 = q.1 ∧ StH H q.2.1 p.1 ∧ RelV p.2 q.2.2
theorem KT.val {H : Hp} {kvs : List ((List Int × Int) × V)} {xs : List ((List Int × Int) × Addr × Value)} (r : KT H kvs xs) (k : (List Int × Int)) : RelO (valV kvs k) ((atKey xs k).map (·.2)) := by
  induction r with
  | nil => exact True.intro
  | @cons p q ps qs h t ih =>
    obtain ⟨h1, _, h2⟩ := h
    by_cases e : p.1 = k
    · have e' : q.1 = k := h1.symm.trans e
      have b : atKey (q :: qs) k = some q.2 := by simp [atKey, List.find?_cons, e']
      rw [valV_pos e, b]; exact h2
    · have e' : ¬ q.1 = k := fun z => e (h1.trans z)
      have b : atKey (q :: qs) k = atKey qs k := by simp [atKey, List.find?_cons, e']
      rw [valV_neg e, b]; exact ih
theorem KT.repl {H : Hp} {kvs : List ((List Int × Int) × V)} {xs : List ((List Int × Int) × Addr × Value)} (r : KT H kvs xs) (k : (List Int × Int)) {y : V} {u : Value} (ry : RelV y u) :
    KT H (kvs.map fun kv => if kv.1 = k then (kv.1, y) else kv) (xs.map (putAt k u)) := by
  induction r with
  | nil => exact .nil
  | @cons p q ps qs h t ih =>
    rw [List.map_cons, List.map_cons]
    refine .cons ?_ ih
    obtain ⟨h1, h2, h3⟩ := h
    unfold putAt
    by_cases e : p.1 = k
    · rw [if_pos e, if_pos (h1.symm.trans e)]; exact ⟨h1, h2, ry⟩
    · rw [if_neg e, if_neg (fun z => e (h1.trans z))]; exact ⟨h1, h2, h3⟩
theorem KT.put {H : Hp} {kvs : List ((List Int × Int) × V)} {xs : List ((List Int × Int) × Addr × Value)} (r : KT H kvs xs) (k : (List Int × Int)) {b : Addr} {y : V} {u : Value} (hb : StH H b k) (ry : RelV y u) :
    KT H (putK kvs k y) (storedH xs k b u) := by
  have e : (kvs.any fun kv => decide (kv.1 = k)) = (atKey xs k).isSome := by
    rw [valV_any, (r.val k).isSome_eq, Option.isSome_map]
  unfold putK storedH
  rw [e]
  by_cases q : (atKey xs k).isSome = true
  · rw [if_pos q, if_pos q]; exact r.repl k ry
  · rw [if_neg q, if_neg q]; exact Paired.snoc r ⟨rfl, hb, ry⟩
theorem KT.keeps {H H' : Hp} {kvs : List ((List Int × Int) × V)} {xs : List ((List Int × Int) × Addr × Value)} (r : KT H kvs xs) (ht : ∀ b ys, H b = some (.tup ys) → H' b = some (.tup ys)) : KT H' kvs xs :=
  Paired.mapP r fun _ _ z => ⟨z.1, z.2.1.up ht, z.2.2⟩

section
variable {P : Program} {w : World} {H : Hp} {h : Heap} {a : Addr}
theorem rd_of {u : HO} (ok : HOk P w H h) (e : Rd H a u) : ObjOk P w H h a u := e.ok ok
theorem dk_rd {kvs : List (Key × V)} (ok : HOk P w H h) (e : Rd H a (.dK kvs)) : kvs.length ≤ sizeLine ∧ (a == sysModules) = false ∧ ∃ vs, KV kvs vs ∧ h.DictOf (mixKind P w) a vs :=
  show ObjOk P w H h a (.dK kvs) from rd_of ok e
theorem dk_of {kvs : List (Key × V)} (ok : HOk P w H h) (e : H a = some (.dK kvs)) : kvs.length ≤ sizeLine ∧ (a == sysModules) = false ∧ ∃ vs, KV kvs vs ∧ h.DictOf (mixKind P w) a vs := dk_rd ok (.inl e)
/-- a tracked tuple of ints and texts is a key -/
theorem ints_are {P : Program} {w : World} : ∀ {ks : List Int} {us : List Value}, Vals (ks.map V.int) us → ItemsAre (intKind P w) ks us
  | [], us, r => by
    cases r
    exact .nil
  | k :: ks, us, r => by
    cases r with
    | cons h t =>
      obtain ⟨tk, rfl⟩ := h
      exact .cons (by simp [intKind, Value.isInt]) (ints_are t)
theorem stand_room {P : Program} {w : World} {A : Around} (hu : A.units + 20 < cLine) : (standKind P w).room A.in1 := by
  first | (show A.units + 1 + 8 < cLine; omega) | (show A.units + 8 < cLine; omega)
theorem key_of {ks : List Int × Int} (ok : HOk P w H h) (e : StH H a ks) : (standKind P w).is h ks a := by
  obtain ⟨u, e1, e2⟩ := e
  obtain ⟨_, its, r, o, h1, h2, n, h3⟩ := (show ObjOk P w H h a (.tup [.ref u, .int ks.2]) from ok a _ e1)
  obtain ⟨_, its2, r2, o2, g1, g2, m, g3⟩ := (show ObjOk P w H h u (.tup (ks.1.map V.int)) from ok u _ e2)
  cases r with
  | cons r1 rr =>
    cases rr with
    | cons r3 rr =>
      cases rr
      cases (show _ = Value.ref u from r1)
      obtain ⟨t, rfl⟩ := r3
      exact ⟨o, n, u, t, h1, h2, h3, o2, its2.toArray, m, g1, g2, g3, by simpa using ints_are r2⟩
theorem dt_rd {kvs : List ((List Int × Int) × V)} (ok : HOk P w H h) (e : Rd H a (.dT kvs)) : kvs.length ≤ sizeLine ∧ (a == sysModules) = false ∧
    ∃ xs, KT H kvs xs ∧ h.DictOfH (standKind P w) a xs := by
  obtain ⟨z, y, xs, r, o, es, ep, h1, h2, h3, h4, h5⟩ := (show ObjOk P w H h a (.dT kvs) from rd_of ok e)
  refine ⟨z, y, xs, r, o, es, ep, h1, h2, h3, h4, fun x hx => ?_, h5⟩
  have all : ∀ {l : List ((List Int × Int) × V)} {m : List ((List Int × Int) × Addr × Value)}, KT H l m → ∀ x ∈ m, (standKind P w).is h x.1 x.2.1 := by
    intro l m q
    induction q with
    | nil => intro x hx; exact nomatch hx
    | @cons p q ps qs hq t ih =>
      intro x hx
      rcases List.mem_cons.mp hx with e | hx
      · subst e
        exact key_of ok (by rw [← hq.1]; exact hq.2.1)
      · exact ih x hx
  exact all r x hx
theorem dt_of {kvs : List ((List Int × Int) × V)} (ok : HOk P w H h) (e : H a = some (.dT kvs)) : kvs.length ≤ sizeLine ∧ (a == sysModules) = false ∧
    ∃ xs, KT H kvs xs ∧ h.DictOfH (standKind P w) a xs := dt_rd ok (.inl e)
end

/-- what the dict at a holds at the key y -/
def DGet (H : Hp) (a : Addr) (y : V) (r : Option V) : Prop :=
  (∃ kvs k, Rd H a (.dK kvs) ∧ y = kV k ∧ r = valV kvs k) ∨ ∃ kvs k b, Rd H a (.dT kvs) ∧ y = .ref b ∧ StH H b k ∧ r = valV kvs k
/-- the heap behind a[y] = v -/
def DPut (H : Hp) (a : Addr) (y v : V) (H' : Hp) : Prop :=
  (∃ kvs k, H a = some (.dK kvs) ∧ y = kV k ∧ kvs.length < sizeLine ∧ H' = upd H a (.dK (putK kvs k v))) ∨
  ∃ kvs k b, H a = some (.dT kvs) ∧ y = .ref b ∧ StH H b k ∧ kvs.length < sizeLine ∧ H' = upd H a (.dT (putK kvs k v))
theorem DGet.k {H : Hp} {a : Addr} {kvs : List (Key × V)} {k : Key} (e : H a = some (.dK kvs)) : DGet H a (kV k) (valV kvs k) := .inl ⟨kvs, k, .inl e, rfl, rfl⟩
theorem DGet.t {H : Hp} {a b : Addr} {kvs : List ((List Int × Int) × V)} {k : (List Int × Int)} (e : H a = some (.dT kvs)) (eb : StH H b k) : DGet H a (.ref b) (valV kvs k) := .inr ⟨kvs, k, b, .inl e, rfl, eb, rfl⟩
theorem DPut.k {H : Hp} {a : Addr} {kvs : List (Key × V)} {k : Key} {v : V} (e : H a = some (.dK kvs)) (hl : kvs.length < sizeLine) : DPut H a (kV k) v (upd H a (.dK (putK kvs k v))) := .inl ⟨kvs, k, e, rfl, hl, rfl⟩
theorem DPut.t {H : Hp} {a b : Addr} {kvs : List ((List Int × Int) × V)} {k : (List Int × Int)} {v : V} (e : H a = some (.dT kvs)) (eb : StH H b k) (hl : kvs.length < sizeLine) :
    DPut H a (.ref b) v (upd H a (.dT (putK kvs k v))) := .inr ⟨kvs, k, b, e, rfl, eb, hl, rfl⟩


section
variable {X : Cx} {pins : List (Addr × Obj)} {σ : St} {H : Hp} {s : Shared} {a : Addr} {y v : V} {u r : Value} {o : Option V} {A : Around} {E : Value → Shared → Prop}

theorem Inv.big (I : Inv X pins σ H s) : sysModules < s.heap.objs.size := by
  have h : mainGlobals < s.heap.objs.size := (I.mod.glob.keeps I.bk).lt
  exact Nat.lt_trans (by decide) h

/-- d[y], there -/
theorem d_getItem {Q : Value → Shared → Prop} (hu : A.units + 20 < cLine) (I : Inv X pins σ H s) (g : DGet H a y (some v)) (ry : RelV y u) (h : ∀ w' s', Inv X pins σ H s' → RelV v w' → Q w' s') :
    wpAny (model X.prog X.w) A (getItem (.ref a) u) Q E s := by
  rcases g with ⟨kvs, k, e, ey, l⟩ | ⟨kvs, k, b, e, ey, eb, l⟩
  · subst ey
    obtain ⟨z, hd, vs, rel, dd⟩ := dk_rd I.hok e
    obtain ⟨w', hw, rw'⟩ := RelO.some_of (v := v) (o := valueAt vs k) (by rw [l]; exact rel.val k)
    exact wpAny_getItem_of (kV_is ry) dd.mapOf hw (h w' _ (I.tok _) rw')
  · subst ey
    cases (show u = Value.ref b from ry)
    obtain ⟨z, hd, xs, rel, dd⟩ := dt_rd I.hok e
    obtain ⟨w', hw, rw'⟩ := RelO.some_of (v := v) (o := (atKey xs k).map (·.2)) (by rw [l]; exact rel.val k)
    obtain ⟨p, hp, hp2⟩ := Option.map_eq_some_iff.mp hw
    refine wpAny_getItem_heap (stand_room hu) (key_of I.hok eb) dd hp ?_
    rw [hp2]
    exact h w' _ (I.tok _) rw'
/-- y in d -/
theorem d_in {Q : Value → Shared → Prop} (hu : A.units + 20 < cLine) (I : Inv X pins σ H s) (g : DGet H a y o) (ry : RelV y u) (h : ∀ s', Inv X pins σ H s' → Q (.bool o.isSome) s') :
    wpAny (model X.prog X.w) A (compareOp .In u (.ref a)) Q E s := by
  rcases g with ⟨kvs, k, e, ey, l⟩ | ⟨kvs, k, b, e, ey, eb, l⟩
  · subst ey
    obtain ⟨z, hd, vs, rel, dd⟩ := dk_rd I.hok e
    refine wpAny_in_of (kV_is ry) hd dd.mapOf ?_
    rw [← (rel.val k).isSome_eq, ← l]
    exact h _ (I.tok _)
  · subst ey
    cases (show u = Value.ref b from ry)
    obtain ⟨z, hd, xs, rel, dd⟩ := dt_rd I.hok e
    refine wpAny_in_heap (stand_room hu) (key_of I.hok eb) hd dd ?_
    have q := (rel.val k).isSome_eq
    rw [Option.isSome_map] at q
    rw [← q, ← l]
    exact h _ (I.tok _)
theorem d_notIn {Q : Value → Shared → Prop} (hu : A.units + 20 < cLine) (I : Inv X pins σ H s) (g : DGet H a y o) (ry : RelV y u) (h : ∀ s', Inv X pins σ H s' → Q (.bool (!o.isSome)) s') :
    wpAny (model X.prog X.w) A (compareOp .NotIn u (.ref a)) Q E s := by
  rcases g with ⟨kvs, k, e, ey, l⟩ | ⟨kvs, k, b, e, ey, eb, l⟩
  · subst ey
    obtain ⟨z, hd, vs, rel, dd⟩ := dk_rd I.hok e
    refine wpAny_notIn_of (kV_is ry) hd dd.mapOf ?_
    rw [← (rel.val k).isSome_eq, ← l]
    exact h _ (I.tok _)
  · subst ey
    cases (show u = Value.ref b from ry)
    obtain ⟨z, hd, xs, rel, dd⟩ := dt_rd I.hok e
    refine wpAny_notIn_heap (stand_room hu) (key_of I.hok eb) hd dd ?_
    have q := (rel.val k).isSome_eq
    rw [Option.isSome_map] at q
    rw [← q, ← l]
    exact h _ (I.tok _)
/-- a dict's object is replaced -/
theorem d_write {h' : Heap} {t' : Nat} {ob : HO} (I : Inv X pins σ H s) (mu : Mut (H a)) (hs : Heap.SameBut a s.heap h') (he : ∃ q, h'.get? a = some q) (new : ObjOk X.prog X.w (upd H a ob) h' a ob) :
    Inv X pins σ (upd H a ob) { s with heap := h', toks := t' } :=
  I.write (x := a) (e := a) mu (.inl rfl) (fun b q hb z => (hs.2 b hb).trans z) he new
theorem dk_new {P : Program} {w : World} {H' : Hp} {h' : Heap} {kvs : List (Key × V)} {vs : List (Key × Value)} (z : kvs.length ≤ sizeLine) (hd : (a == sysModules) = false) (rel : KV kvs vs) (dd : h'.DictOf (mixKind P w) a vs) :
    ObjOk P w H' h' a (.dK kvs) := ⟨z, hd, vs, rel, dd⟩
/-- d[y] = v -/
theorem d_setItem {H' : Hp} {Q : Unit → Shared → Prop} (hu : A.units + 20 < cLine) (I : Inv X pins σ H s) (g : DPut H a y v H') (ry : RelV y u) (rv : RelV v r) (h : ∀ s', Inv X pins σ H' s' → Q () s') :
    wpAny (model X.prog X.w) A (setItem (.ref a) u r) Q E s := by
  rcases g with ⟨kvs, k, e, ey, l, eH⟩ | ⟨kvs, k, b, e, ey, eb, l, eH⟩
  · subst ey eH
    obtain ⟨z, hd, vs, rel, dd⟩ := dk_of I.hok e
    have hz : vs.length ≤ sizeLine := by rw [← rel.length]; exact z
    have hl : (putK kvs k v).length ≤ sizeLine := by have := length_putK kvs k v; omega
    refine wpAny_setItem_pairs (hsz := hz) (kV_is ry) dd fun h' dd' hs => h _ ?_
    have he : ∃ q, h'.get? a = some q := let ⟨q, _, _, hq, _⟩ := dd'; ⟨q, hq⟩
    exact d_write I (by rw [e]; exact True.intro) hs he (dk_new hl hd (rel.put k rv) dd')
  · subst ey eH
    cases (show u = Value.ref b from ry)
    obtain ⟨z, hd, xs, rel, dd⟩ := dt_of I.hok e
    have hz : xs.length ≤ sizeLine := by rw [← Paired.length rel]; exact z
    have hl : (putK kvs k v).length ≤ sizeLine := by have := length_putK kvs k v; omega
    refine wpAny_setItem_heap (hsz := hz) (stand_room hu) (key_of I.hok eb) dd fun h' dd' hs => h _ ?_
    obtain ⟨q, es, ep, hq, h2, h3, h4, _, h5⟩ := dd'
    refine d_write I (by rw [e]; exact True.intro) hs ⟨q, hq⟩ ⟨hl, hd, _, (rel.put k eb rv).keeps fun c ys ec => ?_, q, es, ep, hq, h2, h3, h4, h5⟩
    rw [upd_ne (ne_of ec e (fun z => nomatch z))]
    exact ec
end

section
variable {X : Cx} {pins : List (Addr × Obj)} {σ : St} {H : Hp} {s : Shared} {a : Addr} {kvs : List (Key × V)} {k : Key} {u : Value} {A : Around} {E : Value → Shared → Prop}
end


/-! ### readings and rules -/
/-- the element of a subscription, not a slice -/
def NoSl (i : Expr) : Prop := ∀ ov iv, subscripted i false ov iv = operate [ov, iv] (getItem ov iv)
theorem subD_of {prog : Program} {w : World} {A : Around} {E : Value → Shared → Prop} {s : Shared} {env : Env} {value slice : Expr} {pos : Pos} {T id : String} {Q : Value → Shared → Prop}
    (hl : typeLookup (.type T) "__getitem__" = pure (some (.builtin id))) (hs : NoSl slice)
    (h : wpAny (model prog w) A (eval value env) (fun o s₁ => wpAny (model prog w) A (eval slice env) (fun i s₂ => s₂.TypeIs o T ∧ wpAny (model prog w) A (getItem o i) Q E s₂) E s₁) E s) :
    wpAny (model prog w) A (eval (.Subscript value slice pos) env) Q E s := by
  refine Subscript_ (wpAny_mono h (fun o s₁ h₁ => wpAny_mono h₁ (fun i s₂ h₂ => ?_) fun _ _ x => x) fun _ _ x => x)
  obtain ⟨hT, h₂⟩ := h₂
  unfold subscriptTail
  refine wpAny_bind ?_
  rw [getitemInPython_of_ne hT.not_modules]
  refine wpAny_bind (wpAny_specialOf hT hl ?_)
  have fin : wpAny (model prog w) A (subscripted slice false o i) (fun r s₃ => wpAny (model prog w) A (letTemporaryGo value o r >>= fun _ => pure r) Q E s₃) E s₂ := by
    rw [hs o i]
    exact wpAny_operating (wpAny_mono h₂ (fun r s₃ h₃ => wpAny_bind (wpAny_letTemporaryGo (wpAny_pure h₃))) fun _ _ x => x)
  first
    | exact wpAny_pure (wpAny_bind fin)
    | exact wpAny_bind (wpAny_pure (wpAny_bind fin))
    | exact wpAny_bind fin

theorem dict_typeIs {X : Cx} {pins : List (Addr × Obj)} {σ : St} {H : Hp} {s : Shared} {a : Addr} {y : V} {o : Option V} (I : Inv X pins σ H s) (g : DGet H a y o) : s.TypeIs (.ref a) "dict" := by
  rcases g with ⟨kvs, k, e, _, _⟩ | ⟨kvs, k, b, e, _, _, _⟩
  · obtain ⟨_, _, vs, _, dd⟩ := dk_rd I.hok e
    exact dd.typeIs
  · obtain ⟨_, _, xs, _, dd⟩ := dt_rd I.hok e
    exact dd.typeIs
/-- d[y] -/
def tDGet (td ty : TE) : TE := fun σ H Q => td σ H fun x H1 => ty σ H1 fun y H2 => ∃ a v, x = .ref a ∧ DGet H2 a y (some v) ∧ Q v H2
/-- y in d, y not in d -/
def tDIn (ty td : TE) : TE := fun σ H Q => ty σ H fun y H1 => td σ H1 fun x H2 => ∃ a o, x = .ref a ∧ DGet H2 a y o ∧ Q (.bl o.isSome) H2
def tDNotIn (ty td : TE) : TE := fun σ H Q => ty σ H fun y H1 => td σ H1 fun x H2 => ∃ a o, x = .ref a ∧ DGet H2 a y o ∧ Q (.bl (!o.isSome)) H2
/-- d[y] = v -/
def sDPut (td ty tv : TE) : TS := fun D σ H => tv σ H fun v H1 => td σ H1 fun x H2 => ty σ H2 fun y H3 => ∃ a H4, x = .ref a ∧ DPut H3 a y v H4 ∧ D.nx σ H4
/-- d[y] op= v -/
def sDAug (td ty tv : TE) (rd : V → V → Hp → VK → Prop) : TS := fun D σ H => td σ H fun x H1 => ty σ H1 fun y H2 => ∃ a v, x = .ref a ∧ DGet H2 a y (some v) ∧
  tv σ H2 fun y2 H3 => rd v y2 H3 fun z H4 => ∃ H5, DPut H4 a y z H5 ∧ D.nx σ H5
/-- del d[y] -/
def sDDel (td ty : TE) : TS := fun D σ H => td σ H fun x H1 => ty σ H1 fun y H2 => ∃ a kvs k, x = .ref a ∧ H2 a = some (.dK kvs) ∧ y = kV k ∧ (valV kvs k).isSome = true ∧ D.nx σ (upd H2 a (.dK (dropK kvs k)))

section
variable {X : Cx} {o i e value : Expr} {pos pos' tpos : Pos} {td ty tv : TE}
theorem pe_dget (hu : X.A.units + 20 < cLine) (ho : PE X o td) (hi : PE X i ty) (hs : NoSl i) : PE X (.Subscript o i pos) (tDGet td ty) := by
  intro pins s σ H Q I h
  refine subD_of PySem.F.slot_dict_getitem.lookup hs (thn (ho pins s σ H _ I h) fun u s1 ⟨x, H1, I1, rx, q1⟩ => thn (hi pins s1 σ H1 _ I1 q1) fun iv s2 ⟨y, H2, I2, ry, a, v, ex, g, q2⟩ => ?_)
  subst ex
  obtain rfl : u = Value.ref a := rx
  exact ⟨dict_typeIs I2 g, d_getItem hu I2 g ry fun w' s3 I3 rw' => ⟨v, H2, I3, rw', q2⟩⟩
theorem pc_din (hu : X.A.units + 20 < cLine) (hi : PE X i ty) (ho : PE X o td) : PC X .In i o (tDIn ty td) := by
  intro pins s σ H Q I h
  refine thn (hi pins s σ H _ I h) fun iv s1 ⟨y, H1, I1, ry, q1⟩ => thn (ho pins s1 σ H1 _ I1 q1) fun u s2 ⟨x, H2, I2, rx, a, ov, ex, g, q2⟩ => ?_
  subst ex
  obtain rfl : u = Value.ref a := rx
  exact d_in hu I2 g ry fun s3 I3 => ⟨.bl ov.isSome, H2, I3, rfl, q2⟩
theorem pc_dnotin (hu : X.A.units + 20 < cLine) (hi : PE X i ty) (ho : PE X o td) : PC X .NotIn i o (tDNotIn ty td) := by
  intro pins s σ H Q I h
  refine thn (hi pins s σ H _ I h) fun iv s1 ⟨y, H1, I1, ry, q1⟩ => thn (ho pins s1 σ H1 _ I1 q1) fun u s2 ⟨x, H2, I2, rx, a, ov, ex, g, q2⟩ => ?_
  subst ex
  obtain rfl : u = Value.ref a := rx
  exact d_notIn hu I2 g ry fun s3 I3 => ⟨.bl (!ov.isSome), H2, I3, rfl, q2⟩
theorem ps_dput (hu : X.A.units + 20 < cLine) (ho : PE X o td) (hi : PE X i ty) (hv : PE X value tv) (hs : swapsWith value (some (.Subscript o i pos')) pos.line X.env = pure false) :
    PS X (.Assign [.Subscript o i pos'] value pos) (sDPut td ty tv) := by
  intro pins s σ H D I h
  refine wpAny_Assign_Subscript (thn (hv pins s σ H _ I h) fun r s1 ⟨v, H1, I1, rv, q1⟩ => thn (ho pins s1 σ H1 _ I1 q1) fun u s2 ⟨x, H2, I2, rx, q2⟩ => thn (hi pins s2 σ H2 _ I2 q2) fun iv s3 ⟨y, H3, I3, ry, a, H4, ex, g, q3⟩ => ?_) hs
  subst ex
  obtain rfl : u = Value.ref a := rx
  exact d_setItem hu I3 g ry rv fun s4 I4 => ⟨σ, H4, I4, q3⟩
end


/-! ### displays -/
theorem dt_empty {P : Program} {w : World} {H : Hp} (h : Heap) (hb : sysModules < h.objs.size) : ObjOk P w H (h.push { cls := .type "dict", data := .dict #[] }) h.objs.size (.dT []) :=
  ⟨Nat.zero_le _, beq_eq_false_iff_ne.mpr (Ne.symm (Nat.ne_of_lt hb)), [], .nil, _, #[], 0, Heap.get?_push_size _ rfl, ⟨rfl, rfl, rfl⟩, rfl, rfl, List.nodup_nil⟩
/-- {}, to be a dict of the kind that is wanted -/
def tDNewK : TE := fun _ H Q => ∀ p, H p = none → Q (.ref p) (upd H p (.dK []))
def tDNewT : TE := fun _ H Q => ∀ p, H p = none → Q (.ref p) (upd H p (.dT []))
section
variable {X : Cx} {pos : Pos}
theorem pe_dnewT : PE X (.Dict [] [] pos) tDNewT := fun pins s σ H Q I h =>
  wpAny_Dict_empty ⟨.ref s.heap.objs.size, _, I.laid (a := s.heap.objs.size) (o := .dT []) (t' := s.toks) (fun _ _ q => Heap.get?_push_of_some _ q) (Nat.le_refl _) (dt_empty s.heap I.big), rfl, h _ (I.hok.fresh (Nat.le_refl _))⟩
end

/-- the pairs of a display, from the left -/
def tPairs : List (TE × TE) → St → Hp → (List (V × V) → Hp → Prop) → Prop
  | [], _, H, Q => Q [] H
  | (tk, tv) :: r, σ, H, Q => tk σ H fun x H1 => tv σ H1 fun y H2 => tPairs r σ H2 fun ps H3 => Q ((x, y) :: ps) H3
abbrev VV : List (V × V) → List (Value × Value) → Prop := Paired fun p q => RelV p.1 q.1 ∧ RelV p.2 q.2
def PPs (X : Cx) (pos : Pos) (keys : List (Option Expr)) (values : List Expr) (trs : List (TE × TE)) : Prop :=
  ∀ (pins : List (Addr × Obj)) (s : Shared) (σ : St) (H : Hp) (Q : List (V × V) → Hp → Prop), Inv X pins σ H s → tPairs trs σ H Q →
    wpAny (model X.prog X.w) X.A (evalPairs (pairTrees keys values X.env pos)) (fun vs s' => ∃ ps H', Inv X pins σ H' s' ∧ VV ps vs ∧ Q ps H') X.xe s
def mergeK (kvs more : List (Key × V)) : List (Key × V) := more.foldl (fun acc kv => putK acc kv.1 kv.2) kvs
/-- {k: v, ..} with keys ints and texts; the new dict stands empty while the pairs are made -/
def tDisp (trs : List (TE × TE)) : TE := fun σ H Q => ∀ p, H p = none → tPairs trs σ (upd H p (.dK [])) fun ps H2 => H2 p = some (.dK []) ∧ ∃ kvs : List (Key × V), ps = kvs.map (fun kv => (kV kv.1, kv.2)) ∧ kvs.length ≤ 15 ∧ Q (.ref p) (upd H2 p (.dK (mergeK [] kvs)))
/-! ### methods -/
/-- a method call o.m(e) of a built-in, with one argument: what must be seen of the text -/
structure M1 (X : Cx) (o : Expr) (m : Str) (apos : Pos) (e : Expr) (cpos : Pos) : Prop where
  base : attributeBase o m X.env (eval o X.env) = eval o X.env
  few : ((backTo cpos (starEach [e] X.env)).all (fun x => !x.1) && (backToKw cpos (keywordEach [] X.env)).all (fun x => x.1.isSome)
    && decide (([e] : List Expr).length + ([] : List Keyword).length + (if ([] : List Keyword).isEmpty then 0 else 1) < 30)) = true
  line : (apos.endLine == cpos.line) = true
  trees : backTo cpos (starEach [e] X.env) = [(false, eval e X.env)]
structure M2 (X : Cx) (o : Expr) (m : Str) (apos : Pos) (e f : Expr) (cpos : Pos) : Prop where
  base : attributeBase o m X.env (eval o X.env) = eval o X.env
  few : ((backTo cpos (starEach [e, f] X.env)).all (fun x => !x.1) && (backToKw cpos (keywordEach [] X.env)).all (fun x => x.1.isSome)
    && decide (([e, f] : List Expr).length + ([] : List Keyword).length + (if ([] : List Keyword).isEmpty then 0 else 1) < 30)) = true
  line : (apos.endLine == cpos.line) = true
  trees : backTo cpos (starEach [e, f] X.env) = [(false, eval e X.env), (false, eval f X.env)]

/-- a is a dict, whatever its keys -/
def IsD (H : Hp) (a : Addr) : Prop := (∃ kvs, Rd H a (.dK kvs)) ∨ ∃ kvs, Rd H a (.dT kvs)
theorem isD_at {X : Cx} {pins : List (Addr × Obj)} {σ : St} {H : Hp} {s : Shared} {a : Addr} (I : Inv X pins σ H s) (d : IsD H a) :
    s.TypeIs (.ref a) "dict" ∧ (∀ b, Value.ref a = .ref b → ∃ ob, s.heap.get? b = some ob ∧ ob.dict = none) ∧ (a == sysModules) = false := by
  rcases d with ⟨kvs, e⟩ | ⟨kvs, e⟩
  · obtain ⟨_, hd, vs, _, dd⟩ := dk_rd I.hok e
    refine ⟨dd.typeIs, fun b q => ?_, hd⟩
    cases q
    obtain ⟨ob, _, _, h1, h2, _⟩ := dd
    exact ⟨ob, h1, h2.2.1⟩
  · obtain ⟨_, hd, xs, _, dd⟩ := dt_rd I.hok e
    refine ⟨dd.typeIs, fun b q => ?_, hd⟩
    cases q
    obtain ⟨ob, _, _, h1, h2, _⟩ := dd
    exact ⟨ob, h1, h2.2.1⟩

section
variable {X : Cx} {pins : List (Addr × Obj)} {σ : St} {H : Hp} {s : Shared} {a : Addr} {y d : V} {u r : Value} {o : Option V} {A : Around} {E : Value → Shared → Prop}
/-- d.get(y, x) -/
theorem d_get2 {Q : Value → Shared → Prop} (hu : A.units + 20 < cLine) (I : Inv X pins σ H s) (g : DGet H a y o) (ry : RelV y u) (rd : RelV d r) (h : ∀ w' s', Inv X pins σ H s' → RelV (o.getD d) w' → Q w' s') :
    wpAny (model X.prog X.w) A (call (.builtin "dict.get") [.ref a, u, r]) Q E s := by
  rcases g with ⟨kvs, k, e, ey, l⟩ | ⟨kvs, k, b, e, ey, eb, l⟩
  · subst ey
    obtain ⟨z, hd, vs, rel, dd⟩ := dk_rd I.hok e
    refine call_meetsIn PySem.F.slot_dict_get dd.typeIs PySem.F.entry_dict_get (PySem.F.args_dict_get_3 _ _ _) (meets_dict_get_default (mixKind X.prog X.w) a (kV_is ry) hd r) ⟨_, dd.mapOf, h _ _ (I.tok _) ?_⟩
    rw [l]
    exact (rel.val k).getD rd
  · subst ey
    cases (show u = Value.ref b from ry)
    obtain ⟨z, hd, xs, rel, dd⟩ := dt_rd I.hok e
    refine call_meetsIn PySem.F.slot_dict_get dd.typeIs PySem.F.entry_dict_get (PySem.F.args_dict_get_3 _ _ _) (meetsH_dict_get_default (standKind X.prog X.w) a b hd r) ⟨stand_room hu, k, xs, key_of I.hok eb, dd, h _ _ (I.tok _) ?_⟩
    rw [l]
    exact (rel.val k).getD rd
end

def tDGet1 (td ty : TE) : TE := fun σ H Q => td σ H fun x H1 => ∃ a, x = .ref a ∧ IsD H1 a ∧ ty σ H1 fun y H2 => ∃ o, DGet H2 a y o ∧ Q (o.getD .non) H2
def tDGet2 (td ty tx : TE) : TE := fun σ H Q => td σ H fun x H1 => ∃ a, x = .ref a ∧ IsD H1 a ∧ ty σ H1 fun y H2 => tx σ H2 fun z H3 => ∃ o, DGet H3 a y o ∧ Q (o.getD z) H3
/-- d.pop(k): there; d.pop(k, x): there or not -/
def tDPop1 (td ty : TE) : TE := fun σ H Q => td σ H fun x H1 => ∃ a, x = .ref a ∧ IsD H1 a ∧ ty σ H1 fun y H2 => ∃ kvs k v, H2 a = some (.dK kvs) ∧ y = kV k ∧ valV kvs k = some v ∧ Q v (upd H2 a (.dK (dropK kvs k)))
def tDPop2 (td ty tx : TE) : TE := fun σ H Q => td σ H fun x H1 => ∃ a, x = .ref a ∧ IsD H1 a ∧ ty σ H1 fun y H2 => tx σ H2 fun z H3 => ∃ kvs k, H3 a = some (.dK kvs) ∧ y = kV k ∧
  (∀ v, valV kvs k = some v → Q v (upd H3 a (.dK (dropK kvs k)))) ∧ (valV kvs k = none → Q z H3)
section
variable {X : Cx} {o e f : Expr} {apos cpos : Pos} {td ty tx : TE}
theorem pe_dget2 (hu : X.A.units + 20 < cLine) (ho : PE X o td) (he : PE X e ty) (hf : PE X f tx) (m : M2 X o "get" apos e f cpos) : PE X (.Call (.Attribute o "get" apos) [e, f] [] cpos) (tDGet2 td ty tx) := by
  intro pins s σ H Q I h
  refine wpAny_Call_method m.base m.few m.line PySem.F.plainAttrs_dict PySem.F.slot_dict_get PySem.F.type_dict_get (thn (ho pins s σ H _ I h) fun u s1 ⟨x, H1, I1, rx, a, ex, d, q1⟩ => ?_)
  subst ex
  obtain rfl : u = Value.ref a := rx
  obtain ⟨t1, t2, _⟩ := isD_at I1 d
  refine ⟨t1, t2, ?_⟩
  rw [m.trees]
  refine Calls.callWith_builtin rfl (Calls.evalArgs_plain (Calls.spliced_cons (thn (he pins s1 σ H1 _ I1 q1) fun iv s2 ⟨y, H2, I2, ry, q2⟩ =>
    Calls.spliced_cons (thn (hf pins s2 σ H2 _ I2 q2) fun fv s3 ⟨z, H3, I3, rz, ov, g, q3⟩ => Calls.spliced_nil ?_))))
  exact d_get2 hu I3 g ry rz fun w' s4 I4 rw' => ⟨_, H3, I4, rw', q3⟩
end

/-! ### dict(d): a copy -/
section
variable {X : Cx} {pins : List (Addr × Obj)} {σ : St} {H : Hp} {s : Shared} {a : Addr} {kvs : List (Key × V)} {A : Around} {E : Value → Shared → Prop}
end


section
variable {X : Cx} {pins : List (Addr × Obj)} {σ : St} {H : Hp} {s : Shared} {a : Addr} {y : V} {u : Value} {A : Around} {E : Value → Shared → Prop}
end
end L2

namespace L2
open PySem PySem.Spec PyProof.Rows
/-! ### a dict's pairs: keys that differ -/
section
variable {κ : Type} [DecidableEq κ]
end
end L2

set_option Elab.async false
set_option linter.all false
set_option maxRecDepth 100000
set_option maxHeartbeats 4000000
namespace L2
open PySem PySem.Spec PyProof.Rows
open PySem.Builtin.Int (intBits)
/-! ### d.items(), by the entries themselves (whatever the keys are) -/
section
variable {P : Program} {w : World} {A : Around} {E : Value → Shared → Prop} {s : Shared}
end
end L2

set_option Elab.async false
set_option linter.all false
set_option maxRecDepth 100000
set_option maxHeartbeats 4000000
namespace L2
open PySem PySem.Spec PyProof.Rows
open PySem.Builtin.Int (intBits)
/-! ### texts: sep.join(xs), which type a text has -/
section
variable {X : Cx}
/-- sep.join(xs), xs a list of texts -/
def rJoin (K : PySem.W.Frag) : V → List V → Hp → VK → Prop := fun x xs H Q => ∃ (sep : Str) (a : Addr) (zs : List Str), x = .str sep ∧ xs = [.ref a] ∧ SqL K H a (zs.map V.str) ∧ zs.length ≤ 500 ∧ (∀ z ∈ zs, z.length ≤ 30000) ∧ sep.length ≤ 500 ∧ Q (.str (Txt.join sep zs)) H
/-- isinstance(x, c), x an own instance that is one -/
def rIsiO (K : PySem.W.Frag) : List V → Hp → VK → Prop := fun xs H Q => ∃ (a C dx : Addr) (fs : List (Str × V)) (c : Value) (v : V), xs = [.ref a, v] ∧ H a = some (.ins C dx fs) ∧ (∀ u, RelV v u → u = c) ∧ PySem.W.kitOne K (.ref C) c = some true ∧ Q (.bl true) H
/-- a + b of lists, also of ones that are only read -/
def rCatS (K : PySem.W.Frag) : R2 := fun x y H Q => ∃ a b xs ys, x = .ref a ∧ y = .ref b ∧ SqL K H a xs ∧ SqL K H b ys ∧ xs.length + ys.length ≤ sizeLine ∧ ∀ p, H p = none → Q (.ref p) (upd H p (.lst (xs ++ ys)))
end
end L2

set_option Elab.async false
set_option linter.all false
set_option maxRecDepth 100000
set_option maxHeartbeats 4000000
namespace L2
open PySem PySem.Spec PyProof.Rows
theorem ent_upd : entryFor table "dict.update.loop" = some Builtin.«dict.update.loop» := entryFor_of_tree (by kernel_rfl)
theorem pl_upd : plainId "dict.update.loop" = true := by decide +kernel
section
variable {P : Program} {w : World} {A : Around} {R : Result → Shared → Prop} {K : Type} [DecidableEq K] {knd : HeapKind P w K}
def storeAll (ps : Nat → K × Addr × Value) (xs : List (K × Addr × Value)) (i k : Nat) : List (K × Addr × Value) := (List.range' i k).foldl (fun xs j => storedH xs (ps j).1 (ps j).2.1 (ps j).2.2) xs
theorem storedH_len {xs : List (K × Addr × Value)} {k : K} {a : Addr} {v : Value} : (storedH xs k a v).length ≤ xs.length + 1 := by
  cases h : atKey xs k with
  | none =>
    rw [storedH_new h, List.length_append]
    exact Nat.le_refl _
  | some p =>
    unfold storedH
    simp [h]
/-- dict(xs) of a list of pairs, from the i-th on -/
theorem upd_go {l I d : Addr} {items : Array Value} {ps : Nat → K × Addr × Value} {h0 : Heap} (no : A.in1.handled = none) (hu : knd.room A.in1) (hlI : l ≠ I) (hdI : d ≠ I) (hdl : d ≠ l)
    (hit : ∀ j v, items[j]? = some v → ∃ t o n, v = .ref t ∧ t ≠ I ∧ t ≠ d ∧ h0.get? t = some o ∧ o.cls = .type "tuple" ∧ o.data = .seq #[.ref (ps j).2.1, (ps j).2.2] n)
    (hks : ∀ j, j < items.size → ∀ h : Heap, (∀ b o, b ≠ I → b ≠ d → h0.get? b = some o → h.get? b = some o) → knd.is h (ps j).1 (ps j).2.1) (hxs : ∀ (h h' : Heap) (j : Nat) xs, h.IsListIter I l j → h.DictOfH knd d xs → (∀ b o, b ≠ I → h.get? b = some o → h'.get? b = some o) → h'.DictOfH knd d xs) :
    ∀ (k i : Nat) (s : Shared) (xs : List (K × Addr × Value)) (tk : Tok), items.size = i + k → (s.heap.IsListIter I l i ∧ s.heap.IsList l items) → s.heap.DictOfH knd d xs → (∀ b o, b ≠ I → b ≠ d → h0.get? b = some o → s.heap.get? b = some o) → xs.length + k ≤ sizeLine →
      (∀ h' tk', h'.DictOfH knd d (storeAll ps xs i k) → (∀ b o, b ≠ I → b ≠ d → s.heap.get? b = some o → h'.get? b = some o) → R (.ok (.ret .none)) { s with heap := h', toks := tk' }) →
      codeAny (model P w) A (.builtin "dict.update.loop" ⟨[.ref d, .ref I, .int i tk, .none], []⟩) R s := by
  have W := Walks.list (prog := P) (w := w) (A := A.in1) no I l hlI items
  intro k
  induction k with
  | zero =>
    intro i s xs tk hk hst hm hf hz hR
    refine codeAny_builtin ent_upd ?_
    rw [Around.under_plainId pl_upd _]
    show wpAny (model P w) A.in1 (pyNext (.ref I) >>= _) _ _ s
    have ei : i = items.size := by omega
    refine wpAny_bind (W.done s _ _ (ei ▸ hst) fun h1 tk1 k1 => ?_)
    show wpAny (model P w) A.in1 (Builtin.Dict.addKeywords d [] >>= _) _ _ _
    refine wpAny_bind ?_
    unfold Builtin.Dict.addKeywords
    refine wpAny_pure (wpAny_pure ?_)
    have k1' : ∀ b o, b ≠ I → s.heap.get? b = some o → h1.get? b = some o := fun b o hb e => k1 b o (by simpa using hb) e
    exact hR h1 tk1 (hxs _ _ _ _ hst.1 hm k1') fun b o hb _ e => k1' b o hb e
  | succ k ih =>
    intro i s xs tk hk hst hm hf hz hR
    refine codeAny_builtin ent_upd ?_
    rw [Around.under_plainId pl_upd _]
    show wpAny (model P w) A.in1 (pyNext (.ref I) >>= _) _ _ s
    refine wpAny_bind (W.item i s _ _ (by omega) hst fun v h1 tk1 hP st1 k1 => ?_)
    have k1' : ∀ b o, b ≠ I → s.heap.get? b = some o → h1.get? b = some o := fun b o hb e => k1 b o (by simpa using hb) e
    obtain ⟨t, o, n, rfl, htI, htd, ht, hc, hd⟩ := hit i _ hP
    have ht1 := k1' _ _ htI (hf _ _ htI htd ht)
    have hm1 := hxs _ _ _ _ hst.1 hm k1'
    have hf1 : ∀ b o, b ≠ I → b ≠ d → h0.get? b = some o → h1.get? b = some o := fun b o hb hb' e => k1' b o hb (hf b o hb hb' e)
    refine wpAny_bind ?_
    refine wpAny_holding ?_
    refine wpAny_bind (wpAny_tryCatch ?_)
    unfold Builtin.Dict.pairItems
    refine wpAny_bind (wpAny_typeOf (T := "tuple") (s := { s with heap := h1, toks := tk1 }) ⟨o, ht1, hc⟩ ?_)
    rw [if_pos (by decide)]
    refine wpAny_bind (wpAny_seqItems (s := { s with heap := h1, toks := tk1 }) ht1 hd ?_)
    refine wpAny_pure ?_
    show wpAny (model P w) A.in1 (holding [.ref (ps i).2.1, (ps i).2.2] (dictSet d (.ref (ps i).2.1) (ps i).2.2)) _ _ _
    refine wpAny_holding ?_
    refine wpAny_dictSet_heap (s := { s with heap := h1, toks := tk1 }) hu (hks i (by omega) h1 hf1) hm1 (fun h2 hm2 hs2 => ?_) (by omega)
    have k2 : ∀ b o, b ≠ d → h1.get? b = some o → h2.get? b = some o := fun b o hb e => (hs2.2 b hb).trans e
    refine wpAny_pure ⟨plainId_quiet pl_upd _, ?_⟩
    have hl2 : (storedH xs (ps i).1 (ps i).2.1 (ps i).2.2).length ≤ xs.length + 1 := storedH_len
    refine ih (i + 1) _ (storedH xs (ps i).1 (ps i).2.1 (ps i).2.2) _ (by omega) ⟨?_, ?_⟩ hm2 (fun b o hb hb' e => k2 b o hb' (hf1 b o hb hb' e)) (by omega) fun h' tk' hm' hk' => ?_
    · exact st1.1.at fun o e => k2 _ _ hdI.symm e
    · exact st1.2.at fun o e => k2 _ _ hdl.symm e
    · exact hR h' tk' hm' fun b o hb hb' e => hk' b o hb hb' (k2 b o hb' (k1' b o hb e))
end
end L2

set_option Elab.async false
set_option linter.all false
set_option maxRecDepth 100000
set_option maxHeartbeats 4000000
namespace L2
open PySem PySem.Spec PyProof.Rows
theorem dmro : mroOf (.type "dict") = pure [.type "dict", .type "object"] := by rw [mroOf_type]; kernel_rfl
theorem dlook_new : typeLookup (.type "dict") "__new__" = pure (some (.builtin "dict.__new__")) := by rw [typeLookup_type, builtinLookup_eq_fast]; kernel_rfl
theorem called_dictT : TypeCalled "dict" "dict.__new__" "dict.__init__" :=
  ⟨by decide +kernel, by decide +kernel, ⟨_, _, dmro⟩, madeBy_type dmro dlook_new (by decide +kernel), by decide +kernel, by rw [isSubtype_type]; kernel_rfl, PySem.F.slot_dict_init⟩
theorem typeCall_dict1 (a : Value) : checkTypeCall "dict" ⟨[a], []⟩ = pure () := by kernel_rfl
theorem newCall_dict1 (a : Value) : checkBuiltinCall "dict.__new__" ⟨[.type "dict", a], []⟩ = pure () := by kernel_rfl
theorem entry_dict_new1 : entryFor table "dict.__new__" = some Builtin.«dict.__new__» := entryFor_of_tree (by kernel_rfl)
theorem plain_dict_new1 : plainId "dict.__new__" = true := by decide +kernel
theorem sub_dict_self1 : isSubtype (.type "dict") (.type "dict") = pure true := by rw [isSubtype_type]; kernel_rfl
theorem args_dict_init2 (a b : Value) : argsOk "dict.__init__" ⟨[a, b], []⟩ := by
  unfold argsOk
  kernel_rfl
theorem list_no_keys : typeLookup (.type "list") (Str.ofString "keys") = pure none := by rw [typeLookup_type, builtinLookup_eq_fast]; kernel_rfl
section
variable {prog : Program} {w : World} {A : Around} {E : Value → Shared → Prop} {s : Shared}
theorem code_dict_new1 (a : Value) {Q₁ : Value → Shared → Prop}
    (h : Q₁ (.ref s.heap.objs.size) { s with heap := s.heap.push { cls := .type "dict", data := .dict #[] } }) :
    codeAny (model prog w) A (.call (.builtin "dict.__new__") ⟨[.type "dict", a], []⟩) (wants Q₁ E) s := by
  refine codeAny_of_tree ?_
  show wpAny _ A.in1 (do checkBuiltinCall "dict.__new__" ⟨[.type "dict", a], []⟩; again (.builtin "dict.__new__" ⟨[.type "dict", a], []⟩)) _ _ s
  refine wpAny_bind (wpAny_of_eq (newCall_dict1 a) (wpAny_pure ⟨plainId_quiet plain_dict_new1 _, codeAny_builtin entry_dict_new1 ?_⟩))
  rw [Around.under_plainId plain_dict_new1 _]
  have hsub := sub_dict_self1
  have hm := dmro
  obtain ⟨hp, g, d, tk, os⟩ := s
  unfold Builtin.«dict.__new__»
  dsimp only
  wp_walk
  exact h
theorem no_keys {l : Addr} {xs : Array Value} {k : Nat} {sl : Array (Option Value)} {Q : Option Value → Shared → Prop} (hx : s.heap.get? l = some { cls := .type "list", dict := none, data := .seq xs k, slots := sl })
    (hA : A.handled = none) (h : ∀ h' tk, (∀ b o, s.heap.get? b = some o → h'.get? b = some o) → Q none { s with heap := h', toks := tk }) : wpAny (model prog w) A (getAttr? (.ref l) (Str.ofString "keys")) Q E s := by
  obtain ⟨hp, g, d, tk, os⟩ := s
  have hT : ∀ tk', (⟨hp, g, d, tk', os⟩ : Shared).TypeIs (.ref l) "list" := fun _ => ⟨_, hx, rfl⟩
  have f3 := PySem.F.slot_list_getattribute.lookup
  have f4 := PySem.F.slot_list_getattribute.bind (.ref l)
  have f5 := am_list_getattr_none
  have f6 := list_no_keys
  have f1 := sub_AttributeError
  unfold getAttr? getAttrBy?
  repeat (any_goals (first | assumption | exact hT _ | ((with_reducible show wpAny _ _ (call (Value.builtin "list.__getattribute__") _ _) _ _ _); refine call_meets PySem.F.slot_list_getattribute (hT _) am_entry_list_getattribute (PySem.F.args_list_getattribute_2 _ _) (meets_getattribute_miss_list _ _ _ _ _ _ f6 (by decide)) ⟨hx, hA, fun h' tk' e hx' => ?_⟩) | wp_step))
  obtain ⟨t', u', he⟩ := hx'.there
  show wpAny _ _ (getattributeRaised _ _ _ _ _ _ _) _ _ _
  unfold getattributeRaised
  repeat (any_goals (first | assumption | wp_step))
  exact h h' tk' hx'.keeps
end
end L2

set_option Elab.async false
set_option linter.all false
set_option maxRecDepth 100000
set_option maxHeartbeats 4000000
namespace L2
open PySem PySem.Spec PyProof.Rows
section
variable {P : Program} {w : World} {A : Around} {E : Value → Shared → Prop} {s : Shared} {R : Result → Shared → Prop}
/-- dict.__init__(d, xs), xs a list: what is done first -/
theorem dinit_pairs {d l : Addr} {xs : Array Value} {k : Nat} {sl : Array (Option Value)} {Q : PySem.Fin → Shared → Prop} (hA : A.handled = none) (hd : s.TypeIs (.ref d) "dict") (hl : s.heap.get? l = some { cls := .type "list", dict := none, data := .seq xs k, slots := sl })
    (h : ∀ (h' : Heap) (tk : Nat), (∀ b o, s.heap.get? b = some o → h'.get? b = some o) → Q (.again (.builtin "dict.update.loop" ⟨[.ref d, .ref h'.objs.size, .int 0 0, .none], []⟩)) { s with heap := h'.push { cls := .type "list_iterator", data := .fields #[.ref l, .int 0 0] }, toks := tk }) :
    wpAny (model P w) A (Builtin.«dict.__init__» ⟨[.ref d, .ref l], []⟩) Q E s := by
  unfold Builtin.«dict.__init__» Builtin.Dict.selfAndRest
  refine wpAny_bind (wpAny_bind (wpAny_notOrdered_dict hd ?_))
  refine wpAny_bind ?_
  show wpAny _ _ (pure d) _ _ _
  refine wpAny_pure (wpAny_pure ?_)
  show wpAny _ _ (Builtin.Dict.updateFrom "dict.__init__" d (.ref l) [] .none) _ _ _
  unfold Builtin.Dict.updateFrom
  refine wpAny_bind (wpAny_typeOf (T := "list") ⟨_, hl, rfl⟩ ?_)
  rw [if_pos (by decide)]
  refine wpAny_bind (no_keys hl hA fun h1 tk1 k1 => ?_)
  rw [if_pos (show (none : Option Value).isNone = true from rfl)]
  refine wpAny_bind (wpAny_rule ?_)
  refine wpAny_bind (wpAny_pyIter_list (s := { s with heap := h1, toks := tk1 }) (items := xs) ⟨_, k1 _ _ hl, rfl, k, rfl⟩ ?_)
  exact wpAny_pure (h h1 tk1 k1)
/-- dict(xs), xs a list of pairs whose keys lie in the heap -/
theorem call_dictP {K : Type} [DecidableEq K] {knd : HeapKind P w K} {l : Addr} {xs : Array Value} {k : Nat} {sl : Array (Option Value)} {ps : Nat → K × Addr × Value} {Q : Value → Shared → Prop} (hA : A.handled = none) (hu : knd.room A.in1.in1) (hz : xs.size ≤ sizeLine)
    (hl : s.heap.get? l = some { cls := .type "list", dict := none, data := .seq xs k, slots := sl })
    (hit : ∀ j v, xs[j]? = some v → ∃ t o n, v = .ref t ∧ s.heap.get? t = some o ∧ o.cls = .type "tuple" ∧ o.data = .seq #[.ref (ps j).2.1, (ps j).2.2] n)
    (hks : ∀ j, j < xs.size → ∀ h : Heap, (∀ b o, s.heap.get? b = some o → h.get? b = some o) → knd.is h (ps j).1 (ps j).2.1)
    (hxs : ∀ d I (h h' : Heap) (j : Nat) xs, h.IsListIter I l j → h.DictOfH knd d xs → (∀ b o, b ≠ I → h.get? b = some o → h'.get? b = some o) → h'.DictOfH knd d xs)
    (hem : ∀ (h : Heap) d, h.get? d = some { cls := .type "dict", data := .dict #[] } → h.DictOfH knd d [])
    (q : ∀ h' tk, h'.DictOfH knd s.heap.objs.size (storeAll ps [] 0 xs.size) → (∀ b o, s.heap.get? b = some o → h'.get? b = some o) → Q (.ref s.heap.objs.size) { s with heap := h', toks := tk }) :
    wpAny (model P w) A (call (.type "dict") [.ref l]) Q E s := by
  refine callType_codes (Q₁ := fun obj s₁ => obj = .ref s.heap.objs.size ∧ s₁ = { s with heap := s.heap.push { cls := .type "dict", data := .dict #[] } }) called_dictT (typeCall_dict1 _) PySem.F.entry_dict_init (code_dict_new1 _ ⟨rfl, rfl⟩) fun obj s1 k1 => ?_
  obtain ⟨rfl, rfl⟩ := k1
  have hD : (s.heap.push { cls := .type "dict", data := .dict #[] }).get? s.heap.objs.size = some { cls := .type "dict", data := .dict #[] } := Heap.get?_push_size _ rfl
  refine ⟨⟨_, hD, rfl⟩, args_dict_init2 _ _, ?_⟩
  refine dinit_pairs (s := { s with heap := s.heap.push { cls := .type "dict", data := .dict #[] } }) hA ⟨_, hD, rfl⟩ (Heap.get?_push_of_some _ hl) fun h1 tk1 k1 => ?_
  refine ⟨plainId_quiet pl_upd _, ?_⟩
  have ks : ∀ b o, s.heap.get? b = some o → h1.get? b = some o := fun b o e => k1 b o (Heap.get?_push_of_some _ e)
  have hDl : s.heap.objs.size < h1.objs.size := Heap.lt_size (k1 _ _ hD)
  have hnew : ∀ b o, s.heap.get? b = some o → b ≠ s.heap.objs.size ∧ b ≠ h1.objs.size := fun b o e => ⟨Nat.ne_of_lt (Heap.lt_size e), Nat.ne_of_lt (Heap.lt_size (ks b o e))⟩
  have kp : ∀ b o, h1.get? b = some o → (h1.push { cls := .type "list_iterator", data := .fields #[.ref l, .int 0 0] }).get? b = some o := fun b o e => Heap.get?_push_of_some _ e
  have hI : (h1.push { cls := .type "list_iterator", data := .fields #[.ref l, .int 0 0] }).get? h1.objs.size = some { cls := .type "list_iterator", data := .fields #[.ref l, .int 0 0] } := Heap.get?_push_size _ rfl
  obtain ⟨nl1, nl2⟩ := hnew _ _ hl
  refine upd_go (knd := knd) (A := A.in1) (l := l) (I := h1.objs.size) (d := s.heap.objs.size) (items := xs) (ps := ps) (h0 := s.heap) hA hu nl2 (Nat.ne_of_lt hDl) nl1.symm ?_ ?_ (hxs _ _) xs.size 0 _ [] 0 (by omega) ⟨⟨_, hI, rfl, rfl⟩, ⟨_, kp _ _ (ks _ _ hl), rfl, k, rfl⟩⟩ (hem _ _ (kp _ _ (k1 _ _ hD))) (fun b o _ _ e => kp _ _ (ks b o e)) (by simpa using hz) fun h' tk' hm' hk' => ?_
  · intro j v hv
    obtain ⟨t, o, n, rfl, ht, hc, hd⟩ := hit j v hv
    exact ⟨t, o, n, rfl, (hnew _ _ ht).2, (hnew _ _ ht).1, ht, hc, hd⟩
  · intro j hj h2 hf
    exact hks j hj h2 fun b o e => hf b o (hnew _ _ e).2 (hnew _ _ e).1 e
  · exact ⟨rfl, q h' tk' hm' fun b o e => hk' b o (hnew _ _ e).2 (hnew _ _ e).1 (kp _ _ (ks b o e))⟩
end
end L2

set_option Elab.async false
set_option linter.all false
set_option maxRecDepth 100000
set_option maxHeartbeats 4000000
namespace L2
open PySem PySem.Spec PyProof.Rows
theorem IsStand.frame {prog : Program} {w : World} {h h' : Heap} {k : List Int × Int} {a I l : Addr} {j : Nat} (x : IsStand prog w h k a) (hI : h.IsListIter I l j) (hk : ∀ b o, b ≠ I → h.get? b = some o → h'.get? b = some o) : IsStand prog w h' k a := by
  obtain ⟨o, n, u, t, ho, hc, hd, o2, its, n2, ho2, hc2, hd2, hi⟩ := x
  obtain ⟨oi, hoi, hci, _⟩ := hI
  have n1 : a ≠ I := by
    rintro rfl
    rw [hoi] at ho
    cases ho
    rw [hci] at hc
    exact absurd hc (by decide)
  have n2' : u ≠ I := by
    rintro rfl
    rw [hoi] at ho2
    cases ho2
    rw [hci] at hc2
    exact absurd hc2 (by decide)
  exact ⟨o, n, u, t, hk _ _ n1 ho, hc, hd, o2, its, n2, hk _ _ n2' ho2, hc2, hd2, hi⟩
theorem IsStand.ext {prog : Program} {w : World} {h h' : Heap} {k : List Int × Int} {a : Addr} (x : IsStand prog w h k a) (hk : ∀ b o, h.get? b = some o → h'.get? b = some o) : IsStand prog w h' k a := by
  obtain ⟨o, n, u, t, ho, hc, hd, o2, its, n2, ho2, hc2, hd2, hi⟩ := x
  exact ⟨o, n, u, t, hk _ _ ho, hc, hd, o2, its, n2, hk _ _ ho2, hc2, hd2, hi⟩
theorem dict_frame {prog : Program} {w : World} {d I l : Addr} {h h' : Heap} {j : Nat} {xs : List ((List Int × Int) × Addr × Value)} (hI : h.IsListIter I l j) (hm : h.DictOfH (standKind prog w) d xs) (hk : ∀ b o, b ≠ I → h.get? b = some o → h'.get? b = some o) : h'.DictOfH (standKind prog w) d xs := by
  obtain ⟨o, es, ep, ho, hc, hd, he, his, hn⟩ := hm
  have n1 : d ≠ I := by
    rintro rfl
    obtain ⟨oi, hoi, hci, hdi⟩ := hI
    rw [hoi] at ho
    cases ho
    rw [hdi] at hd
    exact nomatch hd
  exact ⟨o, es, ep, hk _ _ n1 ho, hc, hd, he, fun x hx => IsStand.frame (his x hx) hI hk, hn⟩
/-- the dict of pairs, from the left -/
def putAll (kvs : List ((List Int × Int) × V)) (ps : List ((List Int × Int) × V)) : List ((List Int × Int) × V) := ps.foldl (fun acc p => putK acc p.1 p.2) kvs
theorem putAll_len : ∀ (ps kvs : List ((List Int × Int) × V)), (putAll kvs ps).length ≤ kvs.length + ps.length
  | [], kvs => Nat.le_refl _
  | p :: ps, kvs => by
    have h1 := putAll_len ps (putK kvs p.1 p.2)
    have h2 := length_putK kvs p.1 p.2
    show (putAll (putK kvs p.1 p.2) ps).length ≤ _
    rw [List.length_cons]
    omega
theorem kt_all {H : Hp} {ps : List ((List Int × Int) × V)} {f : Nat → (List Int × Int) × Addr × Value} (hf : ∀ (j : Nat) q, ps[j]? = some q → (f j).1 = q.1 ∧ StH H (f j).2.1 q.1 ∧ RelV q.2 (f j).2.2) :
    ∀ (k i : Nat) (kvs : List ((List Int × Int) × V)) (xs : List ((List Int × Int) × Addr × Value)), i + k = ps.length → KT H kvs xs → KT H (putAll kvs (ps.drop i)) (storeAll f xs i k)
  | 0, i, kvs, xs, e, r => by
    rw [List.drop_of_length_le (by omega)]
    exact r
  | k + 1, i, kvs, xs, e, r => by
    have hi : i < ps.length := by omega
    obtain ⟨e1, e2, e3⟩ := hf i ps[i] (List.getElem?_eq_getElem hi)
    rw [List.drop_eq_getElem_cons hi]
    show KT H (putAll (putK kvs ps[i].1 ps[i].2) (ps.drop (i + 1))) (storeAll f (storedH xs (f i).1 (f i).2.1 (f i).2.2) (i + 1) k)
    rw [e1]
    exact kt_all hf k (i + 1) _ _ (by omega) (r.put _ e2 e3)
section
variable {X : Cx}
/-- dict(xs), xs a list of pairs of a standing and a value -/
def rDictP (K : PySem.W.Frag) : List V → Hp → VK → Prop := fun xs H Q => ∃ (p : Addr) (us : List V) (ps : List ((List Int × Int) × V)), xs = [.ref p] ∧ SqL K H p us ∧ us.length = ps.length ∧
  (∀ (j : Nat) u q, us[j]? = some u → ps[j]? = some q → ∃ t b, u = .ref t ∧ H t = some (.tup [.ref b, q.2]) ∧ StH H b q.1) ∧ ∀ d, H d = none → Q (.ref d) (upd H d (.dT (putAll [] ps)))
theorem call_dictT (K : PySem.W.Frag) (hu : X.A.units + 24 < cLine) (hc : X.calm = true) (hK : X.K = K := by rfl) : CallR X (.type "dict") (rDictP K) := by
  subst hK
  intro pins s σ H xs us0 Q I r h
  obtain ⟨p, us, ps, rfl, hq, hlen, hps, q⟩ := h
  obtain ⟨u0, rfl, ru⟩ := Vals.one r
  cases ru
  obtain ⟨its, rv, pl, hz⟩ := I.list hq
  obtain ⟨⟨ocls, od, odata, osl⟩, n, e, hcl, hdict, hdata⟩ := pl
  simp only at hcl hdict hdata
  subst hcl hdict hdata
  have hl2 := Vals.length rv
  have ex : ∀ j : Nat, ∃ x : (List Int × Int) × Addr × Value, ∀ q, ps[j]? = some q → (x.1 = q.1 ∧ StH H x.2.1 q.1 ∧ RelV q.2 x.2.2) ∧ ∀ v, its[j]? = some v → ∃ t o n, v = .ref t ∧ s.heap.get? t = some o ∧ o.cls = .type "tuple" ∧ o.data = .seq #[.ref x.2.1, x.2.2] n := by
    intro j
    cases hj : ps[j]? with
    | none => exact ⟨(([], 0), 0, .none), fun q z => nomatch z⟩
    | some q =>
      have hjl := (List.getElem?_eq_some_iff.mp hj).1
      have hju : us[j]? = some us[j] := List.getElem?_eq_getElem (by omega)
      obtain ⟨t, b, eu, ht, hb⟩ := hps j _ q hju hj
      obtain ⟨_, its2, r2, o, h1, h2, m, h3⟩ := I.hok t _ ht
      obtain ⟨v1, v2, rfl, rv1, rv2⟩ := Vals.two r2
      cases rv1
      refine ⟨(q.1, b, v2), fun q' z => ?_⟩
      cases z
      refine ⟨⟨rfl, hb, rv2⟩, fun v hv => ?_⟩
      obtain ⟨w', ew, rw'⟩ := rv.get hju
      rw [ew] at hv
      cases hv
      rw [eu] at rw'
      cases rw'
      exact ⟨t, o, m, rfl, h1, h2, h3⟩
  obtain ⟨f, hf⟩ := Classical.axiomOfChoice ex
  have hA := I.ok.hd hc
  refine call_dictP (knd := standKind X.prog X.w) (ps := f) hA (stand_room (A := X.A.in1) (by show X.A.units + 1 + 20 < cLine; omega)) (by rw [List.size_toArray]; omega) e ?_ ?_ (fun d I' h h' j xs hI hm hk => dict_frame hI hm hk) ?_ fun h' tk hm hk => ?_
  · intro j v hv
    rw [List.getElem?_toArray] at hv
    have hjl := (List.getElem?_eq_some_iff.mp hv).1
    exact (hf j _ (List.getElem?_eq_getElem (show j < ps.length by omega))).2 v hv
  · intro j hj h2 hk2
    rw [List.size_toArray] at hj
    obtain ⟨⟨e1, e2, _⟩, _⟩ := hf j _ (List.getElem?_eq_getElem (show j < ps.length by omega))
    rw [e1]
    exact IsStand.ext (key_of I.hok e2) hk2
  · intro h2 d hd
    exact ⟨_, #[], 0, hd, ⟨rfl, rfl, rfl⟩, rfl, rfl, (fun x hx => nomatch hx), List.nodup_nil⟩
  · have hfr : H s.heap.objs.size = none := I.hok.fresh (Nat.le_refl _)
    rw [List.size_toArray] at hm
    have kt : KT H (putAll [] (ps.drop 0)) (storeAll f [] 0 its.length) := kt_all (fun j q z => (hf j q z).1) its.length 0 [] [] (by omega) .nil
    rw [List.drop_zero] at kt
    obtain ⟨o, es, ep, ho, hex, hd, he, _, hn⟩ := hm
    have hlp : (putAll [] ps).length ≤ sizeLine := by
      have z1 := putAll_len ps []
      rw [List.length_nil] at z1
      omega
    have objok : ObjOk X.prog X.w (upd H s.heap.objs.size (.dT (putAll [] ps))) h' s.heap.objs.size (.dT (putAll [] ps)) :=
      ⟨hlp, beq_eq_false_iff_ne.mpr (Ne.symm (Nat.ne_of_lt I.big)), _, kt.keeps (fun b ys eb => by rw [upd_ne (ne_of_none eb hfr)]; exact eb), o, es, ep, ho, hex, hd, he, hn⟩
    exact ⟨.ref s.heap.objs.size, _, I.laid (t' := tk) hk (Nat.le_refl _) objok, rfl, q _ hfr⟩
end
end L2

set_option Elab.async false
set_option linter.all false
set_option maxRecDepth 100000
set_option maxHeartbeats 4000000
namespace L2
open PySem PySem.Spec PyProof.Rows
/-! ### x in xs by what they are through the heap -/
section
variable {X : Cx} {pins : List (Addr × Obj)} {σ : St} {H : Hp} {s : Shared} {k : Nat}
theorem rp_readsP (I : Inv X pins σ H s) {d : PyData} {v : V} {u : Value} (h : Rp H d v) (r : RelV v u) : ∃ as, Reads s.heap u d as := rp_reads I d v u h r
/-- whether a value reads as something that is like d -/
noncomputable def likeD (h : Heap) (d : PyData) (w : Value) : Bool := open Classical in if z : ∃ e as, Reads h w e as ∧ e.canLay0 = true then PyData.eqv z.choose d else false
theorem likeD_at {h : Heap} {d e : PyData} {w : Value} {as : List Addr} (r : Reads h w e as) (hc : e.canLay0 = true) : likeD h d w = PyData.eqv e d := by
  have z : ∃ e as, Reads h w e as ∧ e.canLay0 = true := ⟨e, as, r, hc⟩
  unfold likeD
  rw [dif_pos z]
  obtain ⟨bs, r', hc'⟩ := z.choose_spec
  rw [(PySem.SeqAt.Reads.unique e _ w as bs hc r r')]
theorem any_like (I : Inv X pins σ H s) {d : PyData} : ∀ {ds : List PyData} {vs : List V} {us : List Value}, RpAll H ds vs → Vals vs us → us.any (likeD s.heap d) = ds.any fun e => PyData.eqv e d
  | [], vs, us, h, r => by
    unfold RpAll at h
    subst h
    cases r
    rfl
  | e :: ds, vs, us, h, r => by
    unfold RpAll at h
    obtain ⟨x, xs, rfl, h1, h2⟩ := h
    cases r with
    | cons r1 r2 =>
      obtain ⟨as, q⟩ := rp_readsP I h1 r1
      rw [List.any_cons, List.any_cons, likeD_at q (rp_can e x h1), any_like I h2 r2]
theorem mem_like (I : Inv X pins σ H s) {A : Around} {d : PyData} {x : V} {v : Value} (hx : Rp H d x) (rx : RelV x v) (hu : A.units + d.depth < cLine) : ∀ {ds : List PyData} {vs : List V} {us : List Value}, RpAll H ds vs → Vals vs us → ∀ w ∈ us, SeqAt.EqAt A s w v (likeD s.heap d w)
  | [], vs, us, h, r, w, hw => by
    unfold RpAll at h
    subst h
    cases r
    cases hw
  | e :: ds, vs, us, h, r, w, hw => by
    unfold RpAll at h
    obtain ⟨y, ys, rfl, h1, h2⟩ := h
    cases r with
    | cons r1 r2 =>
      rcases List.mem_cons.mp hw with z | z
      · subst z
        obtain ⟨as, q⟩ := rp_readsP I h1 r1
        obtain ⟨bs, q2⟩ := rp_readsP I hx rx
        rw [likeD_at q (rp_can e y h1)]
        exact PySem.SeqAt.eqAt_reads e d A s _ _ _ _ q q2 (rp_can e y h1) (rp_can d x hx) (by omega)
      · exact mem_like I hx rx hu h2 r2 w z
end
section
variable {X : Cx} {k : Nat}
def rInD (K : PySem.W.Frag) (neg : Bool) : R2 := fun x y H Q => ∃ (p : Addr) (us : List V) (d : PyData) (ds : List PyData), y = .ref p ∧ SqL K H p us ∧ Rp H d x ∧ RpAll H ds us ∧ d.depth ≤ 50 ∧ Q (.bl (if neg then !(ds.any fun e => PyData.eqv e d) else ds.any fun e => PyData.eqv e d)) H
theorem op_notInD (K : PySem.W.Frag) (hr : Room k X.A) (hK : X.K = K := by rfl) : OpR X (compareOp .NotIn) (rInD K true) := by
  subst hK
  intro pins s σ H x y v u Q I rx ry h
  obtain ⟨p, us, d, ds, rfl, hq, hx, hall, hd, q⟩ := h
  cases ry
  obtain ⟨its, r, pl, hz⟩ := I.list hq
  have hu := hr.units
  refine SeqAt.notIn_listAt (likeD s.heap d) pl.isList (fun w hw => mem_like I hx rx (by show X.A.units + 1 + d.depth < cLine; omega) hall r w (by simpa using hw)) ⟨.bl _, H, I, rfl, ?_⟩
  rw [show its.toArray.any (likeD s.heap d) = its.any (likeD s.heap d) by simp, any_like I hall r]
  exact q
end
end L2

set_option Elab.async false
set_option linter.all false
set_option maxRecDepth 100000
set_option maxHeartbeats 4000000
namespace L2
open PySem PySem.Spec PyProof.Rows
/-- three names out of a tuple -/
abbrev gThree (K : PySem.W.Frag) : TG := gTup K 3 (gCons (gName 0) (gCons (gName 1) (gCons (gName 2) gNil)))
theorem comp_list3 {K : PySem.W.Frag} {a : Addr} {xs : List V} {fr : List Nat} {tt : TT} {te : TE} {σ : St} {D : Addr} {H1 : Hp} {Q : Hp → Prop} (Pv : Nat → List V → Hp → Prop) (h0 : Pv 0 [] (upd H1 D (.lst [])))
    (hl : ∀ i zs H, i ≤ xs.length → Pv i zs H → SqL K H a xs)
    (hs : ∀ i x zs H, xs[i]? = some x → Pv i zs H → ∃ T y z z2, x = .ref T ∧ SqT K H T [y, z, z2] ∧ tt (some y :: some z :: some z2 :: compFr fr σ) H fun b H4 =>
      if b = true then te (some y :: some z :: some z2 :: compFr fr σ) H4 fun v H5 => H5 D = some (.lst zs) ∧ zs.length < sizeLine ∧ Pv (i + 1) (zs ++ [v]) (upd H5 D (.lst (zs ++ [v]))) else Pv (i + 1) zs H4)
    (mt : ∀ σ H Q Q', (∀ b H', Q b H' → Q' b H') → tt σ H Q → tt σ H Q') (me : ∀ σ H Q Q', (∀ v H', Q v H' → Q' v H') → te σ H Q → te σ H Q')
    (hd : ∀ zs H, Pv xs.length zs H → Q H) : CompRun 3 fr (Itl K a) (gThree K) tt te σ D H1 Q := by
  refine ⟨fun i m zs H => m = xs.length - i ∧ i ≤ xs.length ∧ Pv i zs H, ⟨xs.length, by simp, Nat.zero_le _, h0⟩, ?_⟩
  rintro i m zs H' ⟨rfl, hi, p⟩
  have q1 := hl i zs H' hi p
  by_cases hlt : i < xs.length
  · refine .inr ⟨⟨xs, xs[i], q1, by simp [hlt]⟩, fun v H2 y => ?_⟩
    obtain ⟨e, y⟩ := y
    subst e
    obtain ⟨T, y1, z1, w1, rfl, hT, ht⟩ := hs i v zs _ (y xs q1) p
    refine ⟨T, _, rfl, hT, rfl, _, _, rfl, z1, _, rfl, w1, _, rfl, rfl, ⟨[some y1, some z1, some w1], rfl, rfl⟩, ?_⟩
    refine mt _ _ _ _ ?_ ht
    intro b H4 q
    cases b with
    | false => exact ⟨xs.length - (i + 1), by omega, rfl, hlt, q⟩
    | true => exact me _ _ _ _ (fun v H5 ⟨r1, r2, r3⟩ => ⟨r1, r2, xs.length - (i + 1), by omega, rfl, hlt, r3⟩) q
  · have e : i = xs.length := by omega
    subst e
    exact .inl ⟨⟨xs, q1, Nat.le_refl _⟩, hd zs H' p⟩
theorem hu20 {k : Nat} {A : Around} (hr : Room k A) : A.units + 20 < cLine := by have := hr.units; omega
theorem hu24 {k : Nat} {A : Around} (hr : Room k A) : A.units + 24 < cLine := by have := hr.units; omega
end L2

set_option Elab.async false
set_option linter.all false
set_option maxRecDepth 100000
set_option maxHeartbeats 4000000
namespace L2
open PySem PySem.Spec PyProof.Rows
open PySem.Builtin.Int (intBits)
section
variable {X : Cx}
/-- what an expression tells, joined by a predicate -/
theorem pe_N {e : Expr} {t : TE} (h : PE X e t) : PE X e (fun σ H Q => ∃ N : VK, t σ H N ∧ ∀ v H', N v H' → Q v H') := by
  intro pins s σ H Q I z
  obtain ⟨N, z, m⟩ := z
  refine thn (h pins s σ H N I z) fun v s1 z1 => ?_
  obtain ⟨x, H1, I1, r1, q1⟩ := z1
  exact ⟨x, H1, I1, r1, m _ _ q1⟩
end
end L2

set_option Elab.async false
set_option linter.all false
set_option maxRecDepth 100000
set_option maxHeartbeats 4000000
namespace L2
open PySem PySem.Spec PyProof.Rows
open PySem.Builtin.Int (intBits)
/-! ### a dict that is known to the object, and not any more -/
def isDct : HO → Prop
  | .dK _ => True
  | .dT _ => True
  | _ => False
section
variable {X : Cx} {pins : List (Addr × Obj)} {σ : St} {H : Hp} {s : Shared} {d : Addr}
theorem Inv.swap {v u : HO} (I : Inv X pins σ H s) (e : H d = some v) (n1 : ∀ xs, v ≠ .tup xs) (n2 : ∀ ps, v ≠ .tbl ps) (n3 : ∀ y, v ≠ .own y) (n4 : ∀ o u, X.H₀ d ≠ some (.frz o u)) (ok : ObjOk X.prog X.w (upd H d u) s.heap d u) : Inv X pins σ (upd H d u) s := by
  have ht : ∀ b xs, H b = some (.tup xs) → (upd H d u) b = some (.tup xs) := fun b xs z => by
    rw [upd_ne (fun y => by rw [y, e] at z; exact n1 _ (Option.some.inj z))]
    exact z
  have hn : ∀ b, H b = none → (upd H d u) b = none := fun b z => by
    rw [upd_ne (fun y => by rw [y, e] at z; cases z)]
    exact z
  refine ⟨I.ok, I.os, I.bare, ⟨I.base.keep, I.base.slot, fun b o q n hx => hn b (I.base.free b o q n hx), I.base.there, fun b xs q => ht b xs (I.base.tups b xs q), fun b o x q => ?_, fun b ps q => ?_⟩, I.loc, I.cell, hn _ I.free, fun x c z => hn c (I.freeC x c z), fun p hp => ?_, fun b o q => ?_, I.len⟩
  · have hb : b ≠ d := fun y => by
      rw [y] at q
      exact n4 o x q
    rw [upd_ne hb]
    exact I.base.frzs b o x q
  · obtain ⟨m, z⟩ := I.base.tbls b ps q
    refine ⟨m, ?_⟩
    rw [upd_ne (fun y => by rw [y, e] at z; exact n2 _ (Option.some.inj z))]
    exact z
  · obtain ⟨a, b, c⟩ := I.pin p hp
    exact ⟨a, hn _ b, c⟩
  · by_cases hb : b = d
    · subst hb
      rw [upd_same] at q
      cases q
      exact ok
    · rw [upd_ne hb] at q
      refine (I.hok b o q).stay (fun _ _ _ z => z) (fun c z => ?_) ht
      rw [upd_ne (fun y => by rw [y, e] at z; exact n3 _ (Option.some.inj z))]
      exact z
theorem Inv.nofz {v : HO} (I : Inv X pins σ H s) (e : H d = some v) (hv : isDct v) : ∀ o u, X.H₀ d ≠ some (.frz o u) := fun o u z => by
  have y := I.base.frzs d o u z
  rw [e] at y
  cases y
  exact hv
theorem Inv.frz {v : HO} (I : Inv X pins σ H s) (e : H d = some v) (hv : isDct v) : ∃ o, s.heap.get? d = some o ∧ Inv X pins σ (upd H d (.frz o v)) s := by
  have hok := I.hok d v e
  obtain ⟨o, ho⟩ : ∃ o, s.heap.get? d = some o := by
    cases v with
    | dK kvs => obtain ⟨_, _, _, _, o, _, _, z, _⟩ := hok; exact ⟨o, z⟩
    | dT kvs => obtain ⟨_, _, _, _, o, _, _, z, _⟩ := hok; exact ⟨o, z⟩
    | _ => exact hv.elim
  have n1 : ∀ xs, v ≠ .tup xs := fun xs z => by rw [z] at hv; exact hv
  have n2 : ∀ ps, v ≠ .tbl ps := fun ps z => by rw [z] at hv; exact hv
  have n3 : ∀ y, v ≠ .own y := fun y z => by rw [z] at hv; exact hv
  refine ⟨o, ho, I.swap e n1 n2 n3 (I.nofz e hv) ⟨ho, hok.stay (fun _ _ _ z => z) (fun c z => ?_) (fun b xs z => ?_)⟩⟩
  · rw [upd_ne (fun y => by rw [y, e] at z; exact n3 _ (Option.some.inj z))]
    exact z
  · rw [upd_ne (fun y => by rw [y, e] at z; exact n1 _ (Option.some.inj z))]
    exact z
theorem Inv.thaw {v : HO} {o : Obj} (I : Inv X pins σ H s) (e : H d = some (.frz o v)) (n4 : ∀ o u, X.H₀ d ≠ some (.frz o u)) : Inv X pins σ (upd H d v) s := by
  refine I.swap e (fun _ z => nomatch z) (fun _ z => nomatch z) (fun _ z => nomatch z) n4 ((I.hok d _ e).2.stay (fun _ _ _ z => z) (fun c z => ?_) (fun b xs z => ?_))
  · rw [upd_ne (fun y => by rw [y, e] at z; cases z)]
    exact z
  · rw [upd_ne (fun y => by rw [y, e] at z; cases z)]
    exact z
end
/-- a statement while which a dict is known, and behind which it is no more -/
def sThaw (t : TS) : TS := fun D σ H => ∃ d u, isDct u ∧ H d = some u ∧ t { D with nx := fun σ' H' => ∃ o, H' d = some (.frz o u) ∧ D.nx σ' (upd H' d u) } σ H
def tThaw (t : TE) : TE := fun σ H Q => ∃ d u, isDct u ∧ H d = some u ∧ t σ H fun v H' => ∃ o, H' d = some (.frz o u) ∧ Q v (upd H' d u)
section
variable {X : Cx}
theorem pe_thaw {e : Expr} {t : TE} (h : PE X e t) : PE X e (tThaw t) := by
  intro pins s σ H Q I z
  obtain ⟨d, u, hu, e0, z⟩ := z
  have n4 := I.nofz e0 hu
  refine thn (h pins s σ H _ I z) fun v s1 q => ?_
  obtain ⟨x, H', I', r, o, e', q'⟩ := q
  exact ⟨x, _, I'.thaw e' n4, r, q'⟩
end
end L2

set_option Elab.async false
set_option linter.all false
set_option maxRecDepth 100000
set_option maxHeartbeats 4000000
namespace L2
open PySem PySem.Spec PyProof.Rows
open PySem.Builtin.Int (intBits)
/-! ### for x, y in d.items() -/
section
variable {P : Program} {w : World} {A : Around} {E : Value → Shared → Prop} {s : Shared}
end
/-- the pair at place i -/
def itD : HO → Hp → Nat → V → V → Prop
  | .dT kvs, H, i, x, y => ∃ k b, kvs[i]? = some (k, y) ∧ x = .ref b ∧ StH H b k
  | .dK kvs, _, i, x, y => ∃ k, kvs[i]? = some (k, y) ∧ x = kV k
  | _, _, _, _, _ => False
def lenD : HO → Nat
  | .dT kvs => kvs.length
  | .dK kvs => kvs.length
  | _ => 0
def Iti (d : Addr) (o : Obj) (u : HO) : It :=
  ⟨fun i H => H d = some (.frz o u) ∧ i < lenD u, fun i H v H' => ∃ T x y, v = .ref T ∧ H T = none ∧ H' = upd H T (.tup [x, y]) ∧ itD u H i x y, fun i H => H d = some (.frz o u) ∧ lenD u ≤ i⟩
theorem mix_rel {P : Program} {w : World} {k : Key} {u : Value} (h : (mixKind P w).is k u = true) : RelV (kV k) u := by
  have h' : keyIs k u = true := h
  cases k with
  | inl i =>
    cases u <;> simp [keyIs, Value.isInt] at h'
    subst h'
    exact ⟨_, rfl⟩
  | inr x =>
    cases u <;> simp [keyIs, Value.isStrOf] at h'
    subst h'
    exact ⟨_, rfl⟩
theorem paired_get {α β : Type} {F : α → β → Prop} : ∀ {xs : List α} {ys : List β} {i : Nat}, Paired F xs ys → i < xs.length → ∃ x y, xs[i]? = some x ∧ ys[i]? = some y ∧ F x y
  | _, _, i, .nil, h => absurd h (by simp)
  | _, _, 0, .cons r _, _ => ⟨_, _, rfl, rfl, r⟩
  | _, _, i + 1, .cons _ t, h => by
    obtain ⟨x, y, e1, e2, e3⟩ := paired_get (i := i) t (by simpa using h)
    exact ⟨x, y, by simpa using e1, by simpa using e2, e3⟩
theorem paired_len {α β : Type} {F : α → β → Prop} : ∀ {xs : List α} {ys : List β}, Paired F xs ys → xs.length = ys.length
  | _, _, .nil => rfl
  | _, _, .cons _ t => by rw [List.length_cons, List.length_cons, paired_len t]
theorem pairs_get {P : Program} {w : World} {K : Type} [DecidableEq K] {knd : PySem.KeyKind P w K} : ∀ {es : List DictEntry} {vs : List (K × Value)} {i : Nat} {kv : K × Value}, Pairs knd es vs → vs[i]? = some kv → ∃ e, es[i]? = some e ∧ knd.is kv.1 e.key = true ∧ e.val = kv.2
  | _, _, i, kv, .nil, h => by simp at h
  | _, _, 0, kv, .cons h1 h2 _, h => by
    cases (show some _ = some _ from h)
    exact ⟨_, rfl, h1, h2⟩
  | _, _, i + 1, kv, .cons _ _ t, h => by
    obtain ⟨e, e1, e2⟩ := pairs_get t (i := i) (by simpa using h)
    exact ⟨e, by simpa using e1, e2⟩
theorem pairs_len {P : Program} {w : World} {K : Type} [DecidableEq K] {knd : PySem.KeyKind P w K} : ∀ {es : List DictEntry} {vs : List (K × Value)}, Pairs knd es vs → es.length = vs.length
  | _, _, .nil => rfl
  | _, _, .cons _ _ t => by rw [List.length_cons, List.length_cons, pairs_len t]
/-- a dict's entries, by what is known of it -/
theorem ent_at {P : Program} {w : World} {H : Hp} {h : Heap} {d : Addr} {o : Obj} {u : HO} {es : Array DictEntry} {ep : Nat} (ok : ObjOk P w H h d u) (hu : isDct u) (ho : h.get? d = some o) (hd : o.data = .dict es ep) :
    es.size = lenD u ∧ ∀ i, i < lenD u → ∃ e x y, es[i]? = some e ∧ RelV x e.key ∧ RelV y e.val ∧ itD u H i x y := by
  cases u with
  | dT kvs =>
    obtain ⟨_, _, xs, r, o', es', ep', h1, h2, h3, h4, h5⟩ := ok
    rw [ho] at h1
    cases h1
    rw [hd] at h3
    cases h3
    have hl := paired_len r
    refine ⟨?_, fun i hi => ?_⟩
    · show es.size = kvs.length
      rw [← Array.length_toList, h4, List.length_map, hl]
    · obtain ⟨p, q, e1, e2, e3, e4, e5⟩ := paired_get r hi
      refine ⟨entryOfKey (standKind P w) q, .ref q.2.1, p.2, ?_, rfl, e5, p.1, q.2.1, e1, rfl, e4⟩
      rw [← Array.getElem?_toList, h4, List.getElem?_map, e2]
      rfl
  | dK kvs =>
    obtain ⟨_, _, vs, r, o', es', ep', h1, h2, h3, h4, h5, h6⟩ := ok
    rw [ho] at h1
    cases h1
    rw [hd] at h3
    cases h3
    have hl : kvs.length = vs.length := r.length
    refine ⟨?_, fun i hi => ?_⟩
    · show es.size = kvs.length
      rw [← Array.length_toList, pairs_len h5, hl]
    · obtain ⟨p, q, e1, e2, e3⟩ := paired_get r hi
      obtain ⟨e, f1, f2, f3⟩ := pairs_get h5 e2
      refine ⟨e, kV p.1, p.2, by rw [← Array.getElem?_toList]; exact f1, ?_, ?_, p.1, e1, rfl⟩
      · rw [e3.1]
        exact mix_rel f2
      · rw [f3]
        exact e3.2
  | _ => exact hu.elim
section
variable {X : Cx}
def iItems (td : TE) : TI := fun σ H R => td σ H fun x H1 => ∃ d u, x = .ref d ∧ isDct u ∧ H1 d = some u ∧ ∀ o, R (Iti d o u) (upd H1 d (.frz o u))
end
end L2

set_option Elab.async false
set_option linter.all false
set_option maxRecDepth 100000
set_option maxHeartbeats 4000000
namespace L2
open PySem PySem.Spec PyProof.Rows
open PySem.Builtin.Int (intBits)
/-! ### loops and comprehensions over d.items(), by what holds between two turns; the dict is known while they go -/
end L2

set_option Elab.async false
set_option linter.all false
set_option maxRecDepth 100000
set_option maxHeartbeats 4000000
namespace L2
open PySem PySem.Spec PyProof.Rows
open PySem.Builtin.Int (intBits)
/-! ### d.setdefault(k, x) at a key that lies in the heap; whether a dict is empty -/
section
variable {prog : Program} {w : World} {K : Type} [DecidableEq K] {knd : HeapKind prog w K} {A : Around} {E : Value → Shared → Prop} {s : Shared} {d a : Addr} {k : K} {xs : List (K × Addr × Value)}
end
section
variable {X : Cx} {pins : List (Addr × Obj)} {σ : St} {H : Hp} {s : Shared} {a b : Addr} {kvs : List ((List Int × Int) × V)} {k : List Int × Int} {z : V} {r : Value} {A : Around} {E : Value → Shared → Prop}
end
/-- d.setdefault(y, x): what is there, or x put there -/
def tDSdf (td ty tx : TE) : TE := fun σ H Q => td σ H fun x H1 => ∃ a, x = .ref a ∧ IsD H1 a ∧ ty σ H1 fun y H2 => tx σ H2 fun z H3 => ∃ kvs k b, y = .ref b ∧ StH H3 b k ∧ H3 a = some (.dT kvs) ∧ kvs.length < sizeLine ∧
  (∀ v, valV kvs k = some v → Q v H3) ∧ (valV kvs k = none → Q z (upd H3 a (.dT (putK kvs k z))))
section
variable {X : Cx} {o e f : Expr} {apos cpos : Pos} {td ty tx : TE}
end
end L2

set_option Elab.async false
set_option linter.all false
set_option maxRecDepth 100000
set_option maxHeartbeats 4000000
namespace L2
open PySem PySem.Spec PyProof.Rows PySem.SeqAt
/-- x > y tells b, and nothing changes -/
def GtAt (A : Around) (s : Shared) (x y : Value) (b : Bool) : Prop := ∀ (prog : Program) (w : World) (E : Value → Shared → Prop) (Q : Value → Shared → Prop), Q (.bool b) s → wpAny (model prog w) A (richCompare .Gt x y) Q E s
theorem tup_gt (l b : Addr) (xs ys : Array Value) (n n2 : Nat) (dd dd2 : Option Addr) (sl sl2 : Array (Option Value)) (e : Nat → Bool) (r : Bool) :
    Meets (Builtin.«tuple.__gt__» ⟨[.ref l, .ref b], []⟩)
      (fun A R s => s.heap.get? l = some { cls := .type "tuple", dict := dd, data := .seq xs n, slots := sl } ∧ s.heap.get? b = some { cls := .type "tuple", dict := dd2, data := .seq ys n2, slots := sl2 } ∧
        (∀ j (h1 : j < xs.size) (h2 : j < ys.size), EqAt A.in1 s xs[j] ys[j] (e j)) ∧ (∀ j (h1 : j < xs.size) (h2 : j < ys.size), (∀ i, i < j → e i = true) → e j = false → GtAt A.in1 s xs[j] ys[j] r) ∧
        ((∀ j, j < min xs.size ys.size → e j = true) → r = decide (xs.size > ys.size)) ∧ R (.ok (.ret (.bool r))) s) :=
  .of_wp fun prog w A R s h => by
    obtain ⟨hp, g, d, tk, os⟩ := s
    obtain ⟨hl, hb, he, hf, hz, h⟩ := h
    have f2 := AutoSeq1.sub_tuple_tuple
    have hZ : (xs.toList.zip ys.toList).length = min xs.size ys.size := by simp
    wp_walk using wpAny_loadPart' hl, wpAny_loadPart' hb, wpAny_forIn_list _ (fun rest b s' => b.1 = none ∧ s' = ⟨hp, g, d, tk, os⟩ ∧ ∃ i, rest = (xs.toList.zip ys.toList).drop i ∧ ∀ k, k < i → k < min xs.size ys.size → e k = true) _
    case turn =>
      rintro ⟨y, x⟩ rest b s' ⟨hb', rfl, i, hq, hR⟩
      have hlt : i < (xs.toList.zip ys.toList).length := by
        apply Classical.byContradiction
        intro z
        rw [List.drop_of_length_le (by omega)] at hq
        cases hq
      have h1 : i < xs.size := by omega
      have h2 : i < ys.size := by omega
      rw [List.drop_eq_getElem_cons hlt] at hq
      injection hq with hyx hrest
      have hy : y = xs[i] := by simpa using congrArg Prod.fst hyx
      have hx : x = ys[i] := by simpa using congrArg Prod.snd hyx
      subst hy hx
      refine wpAny_bind (he i h1 h2 prog w _ _ ?_)
      cases hy : e i with
      | true =>
        wp_walk
        refine ⟨rfl, rfl, i + 1, hrest, fun k hk hk2 => ?_⟩
        by_cases z : k = i
        · rw [z]
          exact hy
        · exact hR k (by omega) hk2
      | false =>
        have hl2 := hf i h1 h2 (fun k hk => hR k hk (by omega)) hy prog w
        wp_walk using hl2 _ _
        exact ⟨_, rfl, h⟩
    case fin =>
      rintro ⟨b1, b2⟩ s' ⟨hb', rfl, i, hq, hR⟩
      simp only at hb'
      subst hb'
      have hge : min xs.size ys.size ≤ i := by
        apply Classical.byContradiction
        intro z
        rw [List.drop_eq_getElem_cons (by omega)] at hq
        cases hq
      have hr := hz fun j hj => hR j (by omega) hj
      wp_walk
      refine ⟨_, rfl, ?_⟩
      rw [hr] at h
      simpa [Builtin.Tuple.tupleCompareSizes] using h
    case h =>
      exact ⟨rfl, rfl, 0, rfl, fun k hk => absurd hk (Nat.not_lt_zero k)⟩
/-! ### the order of nested tuples of ints, from above -/
mutual
def gtv : PyData → PyData → Bool
  | .int a, .int b => decide (a > b)
  | .tuple xs, .tuple ys => gtvAll xs ys
  | _, _ => false
def gtvAll : List PyData → List PyData → Bool
  | [], [] => false
  | [], _ :: _ => false
  | _ :: _, [] => true
  | x :: xs, y :: ys => if PyData.eqv x y then gtvAll xs ys else gtv x y
end
theorem gtv_sizes : ∀ (xs ys : List PyData), (∀ j, j < min xs.length ys.length → pairEq xs ys j = true) → gtvAll xs ys = decide (xs.length > ys.length)
  | [], [], _ => rfl
  | [], y :: ys, _ => by simp [gtvAll]
  | x :: xs, [], _ => by simp [gtvAll]
  | x :: xs, y :: ys, h => by
    have h0 : PyData.eqv x y = true := h 0 (by simp only [List.length_cons]; omega)
    have ih := gtv_sizes xs ys fun j hj => h (j + 1) (by simp only [List.length_cons]; omega)
    rw [gtvAll, if_pos h0, ih]
    simp
mutual
theorem gt_reads : ∀ (da db : PyData) (A : Around) (s : Shared) (a b : Value) (as bs : List Addr), Reads s.heap a da as → Reads s.heap b db bs → da.canLay0 = true → db.canLay0 = true → Cmpb da db →
    A.units + min da.depth db.depth < cLine → GtAt A s a b (gtv da db)
  | .int x, db, A, s, _, _, _, _, ra, rb, _, _, hc, hu => by
    cases db with
    | int y =>
      cases ra with
      | int _ t =>
        cases rb with
        | int _ u =>
          intro prog w E Q h
          exact richCompare_gives (op := .Gt) (typeIs_int s _ t) (typeIs_int s _ u) F.slot_int_gt F.entry_int_gt (F.args_int_gt_2 _ _) (gives_int_gt _ _ t u) (fun z => nomatch z) h
    | none => exact hc.elim
    | bool _ => exact hc.elim
    | str _ => exact hc.elim
    | list _ => exact hc.elim
    | tuple _ => exact hc.elim
    | dict _ => exact hc.elim
  | .tuple xs, db, A, s, _, _, _, _, ra, rb, ha, hb, hc, hu => by
    cases db with
    | tuple ys =>
      cases ra with
      | @tuple l o vs n _ as₁ h1 h2 h3 h4 =>
        cases rb with
        | @tuple l' o' vs' n' _ bs₁ k1 k2 k3 k4 =>
          obtain ⟨oc, od, odt, osl⟩ := o
          obtain ⟨oc', od', odt', osl'⟩ := o'
          simp only at h2 h3 k2 k3
          subst h2 h3 k2 k3
          have n1 : vs.size = xs.length := by simpa using ReadsAll.length _ _ _ h4
          have n2 : vs'.size = ys.length := by simpa using ReadsAll.length _ _ _ k4
          intro prog w E Q h
          refine richCompare_meets_room (op := .Gt) ⟨_, h1, rfl⟩ ⟨_, k1, rfl⟩ F.slot_tuple_gt F.entry_tuple_gt (F.args_tuple_gt_2 _ _) (tup_gt l l' vs vs' n n' od od' osl osl' (pairEq xs ys) (gtvAll xs ys)) ⟨h1, k1, fun j j1 j2 => ?_, fun j j1 j2 f1 f2 => ?_, fun f => ?_, (fun z => nomatch z), h⟩ (room_here hu)
          · have := eqAt_readsAll xs ys A.in1 s vs.toList vs'.toList _ _ h4 k4 ha hb (room_in hu) j (by simpa using j1) (by simpa using j2)
            simpa using this
          · have := gt_readsAll xs ys A.in1 s vs.toList vs'.toList _ _ h4 k4 ha hb hc (room_in hu) j (by simpa using j1) (by simpa using j2) f1 f2
            simpa using this
          · rw [n1, n2] at f ⊢
            exact gtv_sizes xs ys f
    | none => exact hc.elim
    | bool _ => exact hc.elim
    | str _ => exact hc.elim
    | list _ => exact hc.elim
    | int _ => exact hc.elim
    | dict _ => exact hc.elim
  | .none, _, _, _, _, _, _, _, _, _, _, _, hc, _ => hc.elim
  | .bool _, _, _, _, _, _, _, _, _, _, _, _, hc, _ => hc.elim
  | .str _, _, _, _, _, _, _, _, _, _, _, _, hc, _ => hc.elim
  | .list _, _, _, _, _, _, _, _, _, _, _, _, hc, _ => hc.elim
  | .dict _, _, _, _, _, _, _, _, _, _, _, _, hc, _ => hc.elim
theorem gt_readsAll : ∀ (xs ys : List PyData) (A : Around) (s : Shared) (vs ws : List Value) (as bs : List Addr), ReadsAll s.heap vs xs as → ReadsAll s.heap ws ys bs → PyData.canLayAll0 xs = true → PyData.canLayAll0 ys = true → CmpbAll xs ys →
    A.units + min (PyData.depthAll xs) (PyData.depthAll ys) < cLine → ∀ j (h1 : j < vs.length) (h2 : j < ws.length), (∀ i, i < j → pairEq xs ys i = true) → pairEq xs ys j = false → GtAt A s vs[j] ws[j] (gtvAll xs ys)
  | [], _, _, _, _, _, _, _, ra, _, _, _, _, _, j, h1, _, _, _ => by cases ra; exact absurd h1 (Nat.not_lt_zero _)
  | _ :: _, [], _, _, _, _, _, _, _, rb, _, _, _, _, j, _, h2, _, _ => by cases rb; exact absurd h2 (Nat.not_lt_zero _)
  | x :: xs, y :: ys, A, s, _, _, _, _, ra, rb, ca, cb, hc, hu, j, h1, h2, f1, f2 => by
    cases ra with
    | cons r1 r2 =>
      cases rb with
      | cons q1 q2 =>
        have ca1 : x.canLay0 = true ∧ PyData.canLayAll0 xs = true := by simpa [PyData.canLayAll0] using ca
        have cb1 : y.canLay0 = true ∧ PyData.canLayAll0 ys = true := by simpa [PyData.canLayAll0] using cb
        have hd : A.units + min x.depth y.depth < cLine ∧ A.units + min (PyData.depthAll xs) (PyData.depthAll ys) < cLine := by
          simp only [PyData.depthAll] at hu
          omega
        cases j with
        | zero =>
          have e : gtvAll (x :: xs) (y :: ys) = gtv x y := by
            have f3 : PyData.eqv x y = false := f2
            rw [gtvAll, f3]
            rfl
          rw [e]
          exact gt_reads x y A s _ _ _ _ r1 q1 ca1.1 cb1.1 hc.1 hd.1
        | succ j =>
          have e : gtvAll (x :: xs) (y :: ys) = gtvAll xs ys := by
            have f3 : PyData.eqv x y = true := f1 0 (Nat.succ_pos _)
            rw [gtvAll, f3]
            rfl
          rw [e]
          exact gt_readsAll xs ys A s _ _ _ _ r2 q2 ca1.2 cb1.2 hc.2 hd.2 j (Nat.lt_of_succ_lt_succ h1) (Nat.lt_of_succ_lt_succ h2) (fun i hi => f1 (i + 1) (Nat.succ_lt_succ hi)) f2
end
section
variable {X : Cx} {k : Nat}
def rGtD : R2 := fun x y H Q => ∃ d e : PyData, Rp H d x ∧ Rp H e y ∧ Cmpb d e ∧ d.depth ≤ 60 ∧ Q (.bl (gtv d e)) H
end
end L2

set_option Elab.async false
set_option linter.all false
set_option maxRecDepth 100000
set_option maxHeartbeats 4000000
namespace L2
open PySem PySem.Spec PyProof.Rows PySem.SeqAt
/-! ### min and max of a list of data, of two data -/
section
variable {prog : Program} {w : World} {A : Around} {R : Result → Shared → Prop} {I S : Addr} {fp wr : List Addr} {St : Nat → Heap → Prop} {its : Array Value} {bt : Nat → Nat → Bool} {Good : Heap → Prop}
end

section
variable {prog : Program} {w : World} {A : Around} {R : Result → Shared → Prop} {I S : Addr} {fp wr : List Addr} {St : Nat → Heap → Prop} {its : Array Value} {bt : Nat → Nat → Bool} {Good : Heap → Prop}
end
end L2

set_option Elab.async false
set_option linter.all false
set_option maxRecDepth 100000
set_option maxHeartbeats 4000000
namespace L2
open PySem PySem.Spec PyProof.Rows PySem.SeqAt
/-! ### min(xs), max(xs), min(x, y), max(x, y) of data -/
section
variable {X : Cx} {k : Nat}
def bestMin (ds : List PyData) : Nat := argBest (fun i j => ltv (ds.getD i .none) (ds.getD j .none)) (ds.length - 1)
def rMin1 (K : PySem.W.Frag) : List V → Hp → VK → Prop := fun xs H Q => ∃ (p : Addr) (us : List V) (ds : List PyData), xs = [.ref p] ∧ SqL K H p us ∧ RpAll H ds us ∧ 0 < us.length ∧ (∀ d ∈ ds, ∀ e ∈ ds, Cmpb d e) ∧ (∀ d ∈ ds, d.depth ≤ 50) ∧ ∀ v, us[bestMin ds]? = some v → Q v H
def rMin2 : List V → Hp → VK → Prop := fun xs H Q => ∃ (x y : V) (d e : PyData), xs = [x, y] ∧ Rp H d x ∧ Rp H e y ∧ (∀ a ∈ [d, e], ∀ b ∈ [d, e], Cmpb a b) ∧ d.depth ≤ 50 ∧ e.depth ≤ 50 ∧ Q (if ltv e d = true then y else x) H
end

section
variable {X : Cx} {k : Nat}
def bestMax (ds : List PyData) : Nat := argBest (fun i j => gtv (ds.getD i .none) (ds.getD j .none)) (ds.length - 1)
def rMax1 (K : PySem.W.Frag) : List V → Hp → VK → Prop := fun xs H Q => ∃ (p : Addr) (us : List V) (ds : List PyData), xs = [.ref p] ∧ SqL K H p us ∧ RpAll H ds us ∧ 0 < us.length ∧ (∀ d ∈ ds, ∀ e ∈ ds, Cmpb d e) ∧ (∀ d ∈ ds, d.depth ≤ 50) ∧ ∀ v, us[bestMax ds]? = some v → Q v H
def rMax2 : List V → Hp → VK → Prop := fun xs H Q => ∃ (x y : V) (d e : PyData), xs = [x, y] ∧ Rp H d x ∧ Rp H e y ∧ (∀ a ∈ [d, e], ∀ b ∈ [d, e], Cmpb a b) ∧ d.depth ≤ 50 ∧ e.depth ≤ 50 ∧ Q (if gtv e d = true then y else x) H
end
end L2

set_option Elab.async false
set_option linter.all false
set_option maxRecDepth 100000
set_option maxHeartbeats 4000000
namespace L2
open PySem PySem.Spec PyProof.Rows
/-! ### how many keys a dict has, where they lie in the heap -/
section
variable {prog : Program} {w : World} {K : Type} [DecidableEq K] {knd : HeapKind prog w K} {A : Around} {E : Value → Shared → Prop} {s : Shared} {d : Addr} {xs : List (K × Addr × Value)}
theorem meetsH_len (knd : HeapKind prog w K) (hd : (d == sysModules) = false) :
    MeetsIn prog w (Builtin.«dict.__len__» ⟨[.ref d], []⟩) (fun _ R s => ∃ xs, s.heap.DictOfH knd d xs ∧ R (.ok (.ret (.int xs.length s.toks))) { s with toks := s.toks + 1 }) :=
  .of_wp fun A R s ⟨xs, hm, h⟩ => by
    obtain ⟨o, es, ep, ho, hc, hdat, he, his, hn⟩ := hm
    show wpAny _ _ (dictSize d >>= _) _ _ s
    unfold dictSize
    refine wpAny_bind (wpAny_bind (wpAny_dictEntries ho hdat (wpAny_pure ?_)))
    show wpAny _ _ (Builtin.Dict.pendingCount d >>= _) _ _ s
    refine wpAny_bind (wpAny_pendingCount_other hd ?_)
    refine wpAny_ret_mkInt ?_
    have e : es.size = xs.length := size_of_entries he
    rw [Nat.add_zero, e]
    exact h
theorem lenH_body {Q : Value → Shared → Prop} (hd : (d == sysModules) = false) (hm : s.heap.DictOfH knd d xs) (hfit : (xs.length : Int) < 2 ^ 63)
    (h : Q (.int xs.length (s.toks + 1)) { s with toks := s.toks + 1 + 1 }) : wpAny (model prog w) A (Builtin.«len» ⟨[.ref d], []⟩) (fun fin s' => ∃ r, fin = .done (.ret r) ∧ Q r s') E s := by
  unfold Builtin.«len»
  refine wpAny_bind (m := oneArg "len" _) (wpAny_pure ?_)
  refine wpAny_bind (m := callSpecial? (.ref d) (Str.ofString "__len__")) (wpAny_callSpecial?_slot (name := Str.ofString "__len__") hm.typeIs F.slot_dict_len
    (call_meetsIn F.slot_dict_len hm.typeIs F.entry_dict_len (F.args_dict_len_1 _) (meetsH_len knd hd) ⟨xs, hm, ?_⟩))
  show wpAny _ _ _ _ _ { s with toks := s.toks + 1 }
  refine wpAny_bind (wpAny_holding (wpAny_pure ?_))
  refine wpAny_bind (wpAny_letGo ?_)
  show wpAny _ _ (if ((xs.length : Nat) : Int) < 0 then _ else _) _ _ _
  rw [if_neg (by omega)]
  show wpAny _ _ (if ((xs.length : Nat) : Int) ≥ 2 ^ 63 then _ else _) _ _ _
  rw [if_neg (by omega)]
  exact wpAny_bind (wpAny_mkInt (wpAny_pure ⟨_, rfl, h⟩))
theorem lenH {Q : Value → Shared → Prop} (hd : (d == sysModules) = false) (hm : s.heap.DictOfH knd d xs) (hfit : (xs.length : Int) < 2 ^ 63)
    (h : Q (.int xs.length (s.toks + 1)) { s with toks := s.toks + 1 + 1 }) : wpAny (model prog w) A (call (.builtin "len") [.ref d]) Q E s :=
  Calls.call_function_entry kind_len plain_len entry_len (args_len1 _) (lenH_body hd hm hfit h)
end
section
variable {X : Cx}
theorem call_lenT : CallR X (.builtin "len") (fun xs H Q => ∃ d kvs, xs = [.ref d] ∧ H d = some (.dT kvs) ∧ Q (.int kvs.length) H) := by
  intro pins s σ H xs us Q I r h
  obtain ⟨d, kvs, rfl, hd, q⟩ := h
  obtain ⟨u, rfl, rx⟩ := vals1 r
  cases rx
  obtain ⟨z0, hs, vs, rel, dd⟩ := dt_of I.hok hd
  have hl := Paired.length rel
  have h24 : sizeLine < 2 ^ 30 := by decide
  refine lenH hs dd (by omega) ⟨.int kvs.length, H, I.tok _, ⟨_, by rw [hl]⟩, q⟩
end
end L2

set_option Elab.async false
set_option linter.all false
set_option maxRecDepth 100000
set_option maxHeartbeats 4000000
namespace L2
open PySem PySem.Spec PyProof.Rows
open PySem.Builtin.Int (intBits)
/-! ### for x in d, [.. for x in d]: the keys, by the entries themselves -/
section
variable {P : Program} {w : World} {A : Around} {E : Value → Shared → Prop} {s : Shared}
theorem dk_iter {d : Addr} {o : Obj} {es : Array DictEntry} {ep : Nat} {Q : Value → Shared → Prop} (hs : (d == sysModules) = false) (ho : s.heap.get? d = some o) (hx : o.ExactDict) (hdd : o.data = .dict es ep)
    (h : Q (.ref s.heap.objs.size) { s with heap := s.heap.push { cls := .type "dict_keyiterator", data := .fields #[.ref d, .int 0 0, .int es.size 0, .int ep 0] } }) : wpAny (model P w) A (pyIter (.ref d)) Q E s := by
  have hT : s.TypeIs (.ref d) "dict" := ⟨o, ho, hx.1⟩
  refine wpAny_pyIter_slot hT F.slot_dict_iter (wpAny_call_entry F.slot_dict_iter hT F.entry_dict_iter ?_ (F.args_dict_iter_1 _))
  unfold Builtin.«dict.__iter__» Builtin.Dict.dictSlotNone Builtin.Dict.showsAll
  refine wpAny_bind (wpAny_bind (wpAny_notOrdered_dict hT (wpAny_of_eq (a := Value.ref d) rfl ?_)))
  show wpAny _ _ ((if (d == sysModules) = true then _ else _) >>= _) _ _ s
  rw [hs, if_neg Bool.false_ne_true]
  refine wpAny_bind (wpAny_pure (wpAny_bind (wpAny_dictEntries ho hdd (wpAny_bind (wpAny_dictEpoch ho hdd ?_)))))
  exact wpAny_bind (wpAny_newObj_type (wpAny_pure ⟨_, rfl, "dict_keyiterator", _, ⟨_, Heap.get?_push_size _ rfl, rfl⟩, F.slot_dict_keyiterator_next.lookup, h⟩))
theorem dk_next {it d : Addr} {i ep : Nat} {es : Array DictEntry} {od : Obj} {Q : Option Value → Shared → Prop} (hit : s.heap.IsKeyIter it d i es.size ep) (hod : s.heap.get? d = some od) (hdd : od.data = .dict es ep) {en : DictEntry} (he : es[i]? = some en)
    (hQ : ∀ h', h'.IsKeyIter it d (i + 1) es.size ep → Heap.SameBut it s.heap h' → Q (some en.key) { s with heap := h' }) : wpAny (model P w) A (pyNext (.ref it)) Q E s := by
  obtain ⟨o, ho, hc, hd⟩ := id hit
  have hT := hit.typeIs
  have own : Builtin.Dict_items.ownsTuple "dict_keyiterator" = false := by decide
  unfold pyNext
  refine wpAny_bind (wpAny_attempt (wpAny_callSpecial?_slot (name := Str.ofString "__next__") hT F.slot_dict_keyiterator_next (wpAny_call_entry F.slot_dict_keyiterator_next hT F.entry_dict_keyiterator_next ?_ (F.args_dict_keyiterator_next_1 _))))
  refine wpAny_bind (wpAny_pure (wpAny_bind (wpAny_bind (wpAny_bind (wpAny_typeNameOfWhole_keyiter hT (wpAny_pure (wpAny_bind (wpAny_fieldsOf ho hd ?_))))))))
  simp only [own, Bool.false_eq_true, if_false]; show wpAny _ _ (if (Value.ref d == Value.none) = true then _ else _) _ _ s
  rw [if_neg (show ¬ (Value.ref d == Value.none) = true from Bool.false_ne_true)]; refine wpAny_bind (wpAny_pure (wpAny_bind (wpAny_dictEntries hod hdd ?_)))
  rw [if_neg (show ¬ ((es.size : Int) != (es.size : Int)) = true by simp)]; refine wpAny_bind (wpAny_pure (wpAny_bind (wpAny_dictEpoch hod hdd ?_)))
  rw [if_neg (show ¬ ((ep : Int) != (ep : Int)) = true by simp)]; refine wpAny_pure ?_
  simp only [show ¬ ((i : Int) < 0) by omega, if_false, Int.toNat_natCast, he]
  refine wpAny_bind (wpAny_bind (wpAny_typeNameOfWhole_keyiter hT (wpAny_pure (wpAny_bind (wpAny_isOneOf_keyiter hT ?_)))))
  show wpAny _ _ (setField (.ref it) 1 (rawInt ((i : Int) + 1)) >>= _) _ _ s
  refine wpAny_bind (wpAny_setField ho hd (by simp) ?_)
  have st2 : (s.heap.update it (Obj.mapFields (·.setIfInBounds 1 (rawInt ((i : Int) + 1))))).IsKeyIter it d (i + 1) es.size ep :=
    ⟨_, Heap.get?_update_self _ ho (Obj.isFreed_of_fields (Obj.data_mapFields hd _)), (Obj.cls_mapFields ..).trans hc, by rw [Obj.data_mapFields hd]; simp [rawInt]⟩
  refine wpAny_bind (wpAny_holding (wpAny_bind (wpAny_isOneOf_keyiter (s := { s with heap := s.heap.update it (Obj.mapFields (·.setIfInBounds 1 (rawInt ((i : Int) + 1)))) }) st2.typeIs ?_)))
  show wpAny _ _ (pure en.key) _ _ _
  exact wpAny_pure (wpAny_pure ⟨_, rfl, wpAny_pure (hQ _ st2 (Heap.SameBut.update ..))⟩)
theorem dk_end {it d : Addr} {i ep : Nat} {es : Array DictEntry} {od : Obj} {Q : Option Value → Shared → Prop} (hh : A.handled = none) (hit : s.heap.IsKeyIter it d i es.size ep) (hod : s.heap.get? d = some od) (hdd : od.data = .dict es ep) (he : es[i]? = none)
    (hQ : ∀ h', Heap.ExtBut it s.heap h' → Q none { s with heap := h' }) : wpAny (model P w) A (pyNext (.ref it)) Q E s := by
  obtain ⟨o, ho, hc, hd⟩ := id hit
  have hT := hit.typeIs
  have own : Builtin.Dict_items.ownsTuple "dict_keyiterator" = false := by decide
  unfold pyNext
  refine wpAny_bind (wpAny_attempt (wpAny_callSpecial?_slot (name := Str.ofString "__next__") hT F.slot_dict_keyiterator_next (wpAny_call_entry F.slot_dict_keyiterator_next hT F.entry_dict_keyiterator_next ?_ (F.args_dict_keyiterator_next_1 _))))
  refine wpAny_bind (wpAny_pure (wpAny_bind (wpAny_bind (wpAny_bind (wpAny_typeNameOfWhole_keyiter hT (wpAny_pure (wpAny_bind (wpAny_fieldsOf ho hd ?_))))))))
  simp only [own, Bool.false_eq_true, if_false]; show wpAny _ _ (if (Value.ref d == Value.none) = true then _ else _) _ _ s
  rw [if_neg (show ¬ (Value.ref d == Value.none) = true from Bool.false_ne_true)]; refine wpAny_bind (wpAny_pure (wpAny_bind (wpAny_dictEntries hod hdd ?_)))
  rw [if_neg (show ¬ ((es.size : Int) != (es.size : Int)) = true by simp)]; refine wpAny_bind (wpAny_pure (wpAny_bind (wpAny_dictEpoch hod hdd ?_)))
  rw [if_neg (show ¬ ((ep : Int) != (ep : Int)) = true by simp)]; refine wpAny_pure ?_
  simp only [show ¬ ((i : Int) < 0) by omega, if_false, Int.toNat_natCast, he]
  refine wpAny_bind (wpAny_bind (wpAny_typeNameOfWhole_keyiter hT (wpAny_pure ?_)))
  show wpAny _ _ (setField (.ref it) 0 Value.none >>= _) _ _ s
  refine wpAny_bind (wpAny_setField ho hd (by simp) ?_)
  generalize hg : Heap.update s.heap it (Obj.mapFields (·.setIfInBounds 0 Value.none)) = h2
  have eb : Heap.ExtBut it s.heap h2 := by
    rw [← hg]
    exact fun b ob hb e => (Heap.get?_update_other _ _ (Ne.symm hb)).trans e
  show wpAny (model P w) _ (newExc (.type "StopIteration") [] >>= _) _ _ { s with heap := h2 }
  refine wpAny_bind ?_; simp only [newExc, newTuple]
  refine wpAny_bind (wpAny_newObj_type (T := "tuple") ?_ (by size_fits))
  refine wpAny_bind (m := firstArgMember _ _) (wpAny_of_eq (a := Value.none) (by first | rfl | simp only [firstArgMember]) ?_)
  refine wpAny_newObj_type (T := "StopIteration") ?_ (by size_fits)
  simp only [raiseNew]; refine wpAny_bind (wpAny_handled ?_)
  first | rw [show A.in1.handled = Option.none from hh] | rw [hh]
  refine wpAny_bind (wpAny_pure (wpAny_throw ?_)); refine wpAny_bind (wpAny_isInstance (T := "StopIteration") (b := true) ⟨_, Heap.get?_push_size _ rfl, rfl⟩ isSubtype_stop ?_)
  exact wpAny_pure (hQ _ ((eb.push _).push _))
end
def Itk (d : Addr) (o : Obj) (u : HO) : It :=
  ⟨fun i H => H d = some (.frz o u) ∧ i < lenD u, fun i H v H' => H' = H ∧ ∃ y, itD u H i v y, fun i H => H d = some (.frz o u) ∧ lenD u ≤ i⟩
theorem turn_keys {P : Program} {w : World} {K : PySem.W.Frag} {tg : Expr} {it d : Addr} {o : Obj} {u : HO} {es : Array DictEntry} {ep : Nat} (hu : isDct u) (hd : o.data = .dict es ep) :
    Turn P w K tg (Itk d o u) [it] it (fun i h => h.IsKeyIter it d i es.size ep) where
  mem := by simp
  obj := fun i h st b hb => by
    have e : b = it := by simpa using hb
    subst e
    obtain ⟨ob, e1, _, e3⟩ := st
    exact ⟨ob, e1, fun v z => by rw [e3] at z; cases z⟩
  keep := fun i h h' st k => st.at fun ob e => k it (by simp) ob e
  item := by
    intro X hP hw hK hc i pins s σ H E I hf st ⟨hg1, hg2⟩
    subst hP hw hK
    obtain ⟨ho, hok⟩ := I.hok d _ hg1
    obtain ⟨hsz, hat⟩ := ent_at hok hu ho hd
    obtain ⟨e, x, y, e1, rx, ry, hi⟩ := hat i hg2
    refine dk_next st ho hd e1 fun h' st' sb => ?_
    obtain ⟨ob, e2, c2, d2⟩ := id st'
    exact ⟨_, rfl, go_of (s := { s with heap := h' }) e2 c2 d2 (by decide) ⟨x, H, I.turnMany (t' := s.toks) (ch := [it]) hf (fun c ob hc e => (sb.2 c (by simpa using hc)).trans e), rx, ⟨rfl, y, hi⟩, st', fun b hb => (hf b hb).1⟩⟩
  done := by
    intro X hP hw hK hc i pins s σ H E I hf st ⟨hg1, hg2⟩
    subst hP hw hK
    obtain ⟨ho, hok⟩ := I.hok d _ hg1
    obtain ⟨hsz, hat⟩ := ent_at hok hu ho hd
    exact dk_end (I.ok.hd hc) st ho hd (Array.getElem?_eq_none (by omega)) fun h' eb => ⟨rfl, I.turnMany (t' := s.toks) (ch := [it]) hf fun c ob hc e => eb c ob (by simpa using hc) e⟩
  self := fun A i s Q E st hQ => wpAny_pyIter_keyiter st hQ
section
variable {X : Cx}
def iKeys (td : TE) : TI := fun σ H R => td σ H fun x H1 => ∃ d u, x = .ref d ∧ isDct u ∧ H1 d = some u ∧ ∀ o, R (Itk d o u) (upd H1 d (.frz o u))
theorem pi_keys {tg e : Expr} {td : TE} (he : PE X e td) : PI X tg e (iKeys td) := by
  intro pins s σ H R I h
  refine thn (he pins s σ H _ I h) fun v s1 ⟨x, H1, I1, r1, d, u, ex, hu, hd, q⟩ => ?_
  subst ex
  obtain rfl : v = Value.ref d := r1
  obtain ⟨o, ho, I2⟩ := I1.frz hd hu
  obtain ⟨es, ep, hx, hdd, hsys⟩ : ∃ es ep, o.ExactDict ∧ o.data = .dict es ep ∧ (d == sysModules) = false := by
    have hok := I1.hok d u hd
    cases u with
    | dT kvs =>
      obtain ⟨_, y, xs, r, o', es', ep', h1, h2, h3, _⟩ := hok
      rw [ho] at h1
      cases h1
      exact ⟨es', ep', h2, h3, y⟩
    | dK kvs =>
      obtain ⟨_, y, vs, r, o', es', ep', h1, h2, h3, _⟩ := hok
      rw [ho] at h1
      cases h1
      exact ⟨es', ep', h2, h3, y⟩
    | _ => exact hu.elim
  refine dk_iter hsys ho hx hdd ?_
  refine ⟨_, [_], _, Itk d o u, upd H1 d (.frz o u), rfl, I2.kept (t' := s1.toks) (fun b ob z => Heap.get?_push_of_some _ z), turn_keys (es := es) (ep := ep) hu hdd, ⟨_, Heap.get?_push_size _ rfl, rfl, rfl⟩, fun c hc => ?_, q o⟩
  have hle : s1.heap.objs.size ≤ c := by
    have : c = s1.heap.objs.size := by simpa using hc
    rw [this]
    exact Nat.le_refl _
  exact I2.fpOk hle (I2.hok.fresh hle)
end
/-- a comprehension over a dict's keys -/
theorem comp_keys {o : Obj} {u : HO} {d : Addr} {fr : List Nat} {te : TE} {σ : St} {D : Addr} {H1 : Hp} {Q : Hp → Prop} (Pv : Nat → List V → Hp → Prop) (h0 : Pv 0 [] (upd H1 D (.lst [])))
    (hl : ∀ i zs H, i ≤ lenD u → Pv i zs H → H d = some (.frz o u))
    (hs : ∀ i x y zs H, i < lenD u → itD u H i x y → Pv i zs H → ∀ Qe : VK, (∀ v H5, H5 D = some (.lst zs) → zs.length < sizeLine → Pv (i + 1) (zs ++ [v]) (upd H5 D (.lst (zs ++ [v]))) → Qe v H5) → te (some x :: compFr fr σ) H Qe)
    (hd : ∀ zs H, Pv (lenD u) zs H → Q H) : CompRun 1 fr (Itk d o u) (gName 0) tYes te σ D H1 Q := by
  refine ⟨fun i m zs H => m = lenD u - i ∧ i ≤ lenD u ∧ Pv i zs H, ⟨lenD u, by simp, Nat.zero_le _, h0⟩, ?_⟩
  rintro i m zs H' ⟨rfl, hi, p⟩
  have q1 := hl i zs H' hi p
  by_cases hlt : i < lenD u
  · refine .inr ⟨⟨q1, hlt⟩, fun v H2 y => ?_⟩
    obtain ⟨e, z, e1⟩ := y
    subst e
    refine ⟨⟨[some v], rfl, rfl⟩, ?_⟩
    simp only [tYes, ↓reduceIte]
    exact hs i v z zs _ hlt e1 p _ fun y H5 hD hz pv => ⟨hD, hz, lenD u - (i + 1), by omega, rfl, hlt, pv⟩
  · have e : i = lenD u := by omega
    subst e
    exact .inl ⟨⟨q1, Nat.le_refl _⟩, hd zs H' p⟩
end L2

set_option Elab.async false
set_option linter.all false
set_option maxRecDepth 100000
set_option maxHeartbeats 4000000

namespace Law
open PySem L2 PyProof.Rows
open PySem.Builtin.Int (intBits)
def top (i : Nat) : Stmt := PySem.Challenge.pw_roundcall_k38_papers_for_any_waits.main.body.getD i (.Pass ⟨0, 0, 0, 0⟩)
abbrev s_beginning : Stmt := top 5
abbrev s_may_lose : Stmt := top 6
abbrev s_is_listener : Stmt := top 7
abbrev s_refuse_wrong_turn : Stmt := top 8
abbrev s_left_behind : Stmt := top 9
abbrev s_quiet_behind : Stmt := top 10
abbrev s_after : Stmt := top 11
abbrev s_all_behind : Stmt := top 12
abbrev s_lets_kept : Stmt := top 14
abbrev s_may_answer : Stmt := top 15
abbrev s_goes_down : Stmt := top 16
abbrev s_lets_broken : Stmt := top 17
abbrev s_law_cell : Stmt := top 19
abbrev s_law_behind : Stmt := top 20
abbrev s_law_next : Stmt := top 21
abbrev s_law_longest : Stmt := top 22
abbrev s_law_plan : Stmt := top 23
abbrev s_law_lets_kept : Stmt := top 24
abbrev s_law_kept_asked : Stmt := top 25
abbrev s_law_lets_broken : Stmt := top 26
abbrev s_law_broken_asked : Stmt := top 27
abbrev s_law : Stmt := top 28
theorem sc_beginning : FnScope (["hall"] : List Str) ["hall"] (defScope s_beginning) := ⟨rfl, rfl, rfl, by decide +kernel, rfl, by decide +kernel, by decide +kernel⟩
theorem sc_may_lose : FnScope (["hall", "standing"] : List Str) ["hall", "standing"] (defScope s_may_lose) := ⟨rfl, rfl, rfl, by decide +kernel, rfl, by decide +kernel, by decide +kernel⟩
theorem sc_is_listener : FnScope (["hall", "who"] : List Str) ["hall", "who"] (defScope s_is_listener) := ⟨rfl, rfl, rfl, by decide +kernel, rfl, by decide +kernel, by decide +kernel⟩
theorem sc_refuse_wrong_turn : FnScope (["hall", "standing", "who", "lost"] : List Str) ["hall", "standing", "who", "lost"] (defScope s_refuse_wrong_turn) := ⟨rfl, rfl, rfl, by decide +kernel, rfl, by decide +kernel, by decide +kernel⟩
theorem sc_left_behind : FnScope (["hall", "standing", "who", "lost", "left"] : List Str) ["hall", "standing", "who", "lost"] (defScope s_left_behind) := ⟨rfl, rfl, rfl, by decide +kernel, rfl, by decide +kernel, by decide +kernel⟩
def cx_left_behind_0 : Scope := { kind := .function, names := [(PySem.Str.ofString ".0", NameKind.local), (PySem.Str.ofString "turns", NameKind.local)], isGenerator := false, isCoroutine := false, more := [] }
theorem cs_left_behind_0 : CompSc (defScope s_left_behind) cx_left_behind_0 (["hall", "standing", "who", "lost", "left"] : List Str) (["turns"] : List Str) [] := ⟨rfl, by decide +kernel, by decide +kernel, by decide +kernel, by decide +kernel⟩
theorem nd_left_behind_0 : (compN (["hall", "standing", "who", "lost", "left"] : List Str) (["turns"] : List Str) []).Nodup := by decide +kernel
theorem sc_quiet_behind : FnScope (["hall", "standing", "lost"] : List Str) ["hall", "standing", "lost"] (defScope s_quiet_behind) := ⟨rfl, rfl, rfl, by decide +kernel, rfl, by decide +kernel, by decide +kernel⟩
theorem sc_after : FnScope (["hall", "standing", "who", "lost", "left"] : List Str) ["hall", "standing", "who", "lost"] (defScope s_after) := ⟨rfl, rfl, rfl, by decide +kernel, rfl, by decide +kernel, by decide +kernel⟩
theorem sc_all_behind : FnScope (["hall", "standing", "who", "behind"] : List Str) ["hall", "standing", "who"] (defScope s_all_behind) := ⟨rfl, rfl, rfl, by decide +kernel, rfl, by decide +kernel, by decide +kernel⟩
theorem sc_lets_kept : FnScope (["hall", "paper", "listed", "standing", "who", "behind"] : List Str) ["hall", "paper"] (defScope s_lets_kept) := ⟨rfl, rfl, rfl, by decide +kernel, rfl, by decide +kernel, by decide +kernel⟩
theorem sc_may_answer : FnScope (["hall", "standing", "answers"] : List Str) ["hall", "standing", "answers"] (defScope s_may_answer) := ⟨rfl, rfl, rfl, by decide +kernel, rfl, by decide +kernel, by decide +kernel⟩
theorem sc_goes_down : FnScope (["hall", "listed", "standing", "answers", "who", "lost", "behind"] : List Str) ["hall", "listed", "standing", "answers"] (defScope s_goes_down) := ⟨rfl, rfl, rfl, by decide +kernel, rfl, by decide +kernel, by decide +kernel⟩
theorem sc_lets_broken : FnScope (["hall", "paper", "listed", "standing", "rank", "answers"] : List Str) ["hall", "paper"] (defScope s_lets_broken) := ⟨rfl, rfl, rfl, by decide +kernel, rfl, by decide +kernel, by decide +kernel⟩
def cx_lets_broken_0 : Scope := { kind := .function, names := [(PySem.Str.ofString ".0", NameKind.local), (PySem.Str.ofString "standing", NameKind.local), (PySem.Str.ofString "rank", NameKind.local), (PySem.Str.ofString "answers", NameKind.local)], isGenerator := false, isCoroutine := false, more := [] }
theorem cs_lets_broken_0 : CompSc (defScope s_lets_broken) cx_lets_broken_0 (["hall", "paper", "listed", "standing", "rank", "answers"] : List Str) (["standing", "rank", "answers"] : List Str) [] := ⟨rfl, by decide +kernel, by decide +kernel, by decide +kernel, by decide +kernel⟩
theorem nd_lets_broken_0 : (compN (["hall", "paper", "listed", "standing", "rank", "answers"] : List Str) (["standing", "rank", "answers"] : List Str) []).Nodup := by decide +kernel
theorem sc_law_cell : FnScope (["script", "k"] : List Str) ["script", "k"] (defScope s_law_cell) := ⟨rfl, rfl, rfl, by decide +kernel, rfl, by decide +kernel, by decide +kernel⟩
theorem sc_law_behind : FnScope (["hall", "standing", "who", "lost", "left", "k"] : List Str) ["hall", "standing", "who", "lost"] (defScope s_law_behind) := ⟨rfl, rfl, rfl, by decide +kernel, rfl, by decide +kernel, by decide +kernel⟩
theorem sc_law_next : FnScope (["hall", "standing", "who", "found"] : List Str) ["hall", "standing", "who"] (defScope s_law_next) := ⟨rfl, rfl, rfl, by decide +kernel, rfl, by decide +kernel, by decide +kernel⟩
theorem sc_law_longest : FnScope (["hall", "standing", "waited"] : List Str) ["hall", "standing"] (defScope s_law_longest) := ⟨rfl, rfl, rfl, by decide +kernel, rfl, by decide +kernel, by decide +kernel⟩
def cx_law_longest_0 : Scope := { kind := .function, names := [(PySem.Str.ofString ".0", NameKind.local), (PySem.Str.ofString "k", NameKind.local), (PySem.Str.ofString "hall", NameKind.free), (PySem.Str.ofString "standing", NameKind.free)], isGenerator := false, isCoroutine := false, more := [] }
theorem cs_law_longest_0 : CompSc (defScope s_law_longest) cx_law_longest_0 (["hall", "standing", "waited"] : List Str) (["k"] : List Str) [0, 1] := ⟨rfl, by decide +kernel, by decide +kernel, by decide +kernel, by decide +kernel⟩
theorem nd_law_longest_0 : (compN (["hall", "standing", "waited"] : List Str) (["k"] : List Str) [0, 1]).Nodup := by decide +kernel
theorem sc_law_plan : FnScope (["hall", "calls", "row", "standing", "behind"] : List Str) ["hall"] (defScope s_law_plan) := ⟨rfl, rfl, rfl, by decide +kernel, rfl, by decide +kernel, by decide +kernel⟩
def cx_law_plan_0 : Scope := { kind := .function, names := [(PySem.Str.ofString ".0", NameKind.local), (PySem.Str.ofString "standing", NameKind.local), (PySem.Str.ofString "calls", NameKind.free)], isGenerator := false, isCoroutine := false, more := [] }
theorem cs_law_plan_0 : CompSc (defScope s_law_plan) cx_law_plan_0 (["hall", "calls", "row", "standing", "behind"] : List Str) (["standing"] : List Str) [1] := ⟨rfl, by decide +kernel, by decide +kernel, by decide +kernel, by decide +kernel⟩
theorem nd_law_plan_0 : (compN (["hall", "calls", "row", "standing", "behind"] : List Str) (["standing"] : List Str) [1]).Nodup := by decide +kernel
theorem sc_law_lets_kept : FnScope (["hall", "paper", "there", "standing", "who", "behind"] : List Str) ["hall", "paper"] (defScope s_law_lets_kept) := ⟨rfl, rfl, rfl, by decide +kernel, rfl, by decide +kernel, by decide +kernel⟩
theorem sc_law_kept_asked : FnScope (["script", "cells", "many", "waits", "k", "cell", "wait", "calm", "hall", "paper", "at", "found"] : List Str) ["script"] (defScope s_law_kept_asked) := ⟨rfl, rfl, rfl, by decide +kernel, rfl, by decide +kernel, by decide +kernel⟩
def cx_law_kept_asked_0 : Scope := { kind := .function, names := [(PySem.Str.ofString ".0", NameKind.local), (PySem.Str.ofString "wait", NameKind.local), (PySem.Str.ofString "many", NameKind.free)], isGenerator := false, isCoroutine := false, more := [] }
theorem cs_law_kept_asked_0 : CompSc (defScope s_law_kept_asked) cx_law_kept_asked_0 (["script", "cells", "many", "waits", "k", "cell", "wait", "calm", "hall", "paper", "at", "found"] : List Str) (["wait"] : List Str) [2] := ⟨rfl, by decide +kernel, by decide +kernel, by decide +kernel, by decide +kernel⟩
theorem nd_law_kept_asked_0 : (compN (["script", "cells", "many", "waits", "k", "cell", "wait", "calm", "hall", "paper", "at", "found"] : List Str) (["wait"] : List Str) [2]).Nodup := by decide +kernel
theorem sc_law_lets_broken : FnScope (["hall", "paper", "there", "standing", "rank", "answers", "who", "behind"] : List Str) ["hall", "paper"] (defScope s_law_lets_broken) := ⟨rfl, rfl, rfl, by decide +kernel, rfl, by decide +kernel, by decide +kernel⟩
theorem sc_law_broken_asked : FnScope (["script", "wait", "waits", "k", "calm", "hall", "none", "paper", "who", "behind", "found"] : List Str) ["script"] (defScope s_law_broken_asked) := ⟨rfl, rfl, rfl, by decide +kernel, rfl, by decide +kernel, by decide +kernel⟩
def cx_law_broken_asked_0 : Scope := { kind := .function, names := [(PySem.Str.ofString ".0", NameKind.local), (PySem.Str.ofString "cell", NameKind.local)], isGenerator := false, isCoroutine := false, more := [] }
theorem cs_law_broken_asked_0 : CompSc (defScope s_law_broken_asked) cx_law_broken_asked_0 (["script", "wait", "waits", "k", "calm", "hall", "none", "paper", "who", "behind", "found"] : List Str) (["cell"] : List Str) [] := ⟨rfl, by decide +kernel, by decide +kernel, by decide +kernel, by decide +kernel⟩
theorem nd_law_broken_asked_0 : (compN (["script", "wait", "waits", "k", "calm", "hall", "none", "paper", "who", "behind", "found"] : List Str) (["cell"] : List Str) []).Nodup := by decide +kernel
def cx_law_broken_asked_1 : Scope := { kind := .function, names := [(PySem.Str.ofString ".0", NameKind.local), (PySem.Str.ofString "k", NameKind.local)], isGenerator := false, isCoroutine := false, more := [] }
theorem cs_law_broken_asked_1 : CompSc (defScope s_law_broken_asked) cx_law_broken_asked_1 (["script", "wait", "waits", "k", "calm", "hall", "none", "paper", "who", "behind", "found"] : List Str) (["k"] : List Str) [] := ⟨rfl, by decide +kernel, by decide +kernel, by decide +kernel, by decide +kernel⟩
theorem nd_law_broken_asked_1 : (compN (["script", "wait", "waits", "k", "calm", "hall", "none", "paper", "who", "behind", "found"] : List Str) (["k"] : List Str) []).Nodup := by decide +kernel
def cx_law_broken_asked_2 : Scope := { kind := .function, names := [(PySem.Str.ofString ".0", NameKind.local), (PySem.Str.ofString "entry", NameKind.local)], isGenerator := false, isCoroutine := false, more := [] }
theorem cs_law_broken_asked_2 : CompSc (defScope s_law_broken_asked) cx_law_broken_asked_2 (["script", "wait", "waits", "k", "calm", "hall", "none", "paper", "who", "behind", "found"] : List Str) (["entry"] : List Str) [] := ⟨rfl, by decide +kernel, by decide +kernel, by decide +kernel, by decide +kernel⟩
theorem nd_law_broken_asked_2 : (compN (["script", "wait", "waits", "k", "calm", "hall", "none", "paper", "who", "behind", "found"] : List Str) (["entry"] : List Str) []).Nodup := by decide +kernel
theorem sc_law : FnScope (["script"] : List Str) ["script"] (defScope s_law) := ⟨rfl, rfl, rfl, by decide +kernel, rfl, by decide +kernel, by decide +kernel⟩
structure Txt (K : PySem.W.Frag) (mg : Str → Option Value) (f_beginning f_may_lose f_is_listener f_refuse_wrong_turn f_left_behind f_quiet_behind f_after f_all_behind f_lets_kept f_may_answer f_goes_down f_lets_broken f_law_cell f_law_behind f_law_next f_law_longest f_law_plan f_law_lets_kept f_law_kept_asked f_law_lets_broken f_law_broken_asked f_law : Addr) : Prop where
  m_beginning : mg "beginning" = some (.ref f_beginning)
  k_beginning : PySem.W.keepIn K (.ref f_beginning) = true
  m_may_lose : mg "may_lose" = some (.ref f_may_lose)
  k_may_lose : PySem.W.keepIn K (.ref f_may_lose) = true
  m_is_listener : mg "is_listener" = some (.ref f_is_listener)
  k_is_listener : PySem.W.keepIn K (.ref f_is_listener) = true
  m_refuse_wrong_turn : mg "refuse_wrong_turn" = some (.ref f_refuse_wrong_turn)
  k_refuse_wrong_turn : PySem.W.keepIn K (.ref f_refuse_wrong_turn) = true
  m_left_behind : mg "left_behind" = some (.ref f_left_behind)
  k_left_behind : PySem.W.keepIn K (.ref f_left_behind) = true
  m_quiet_behind : mg "quiet_behind" = some (.ref f_quiet_behind)
  k_quiet_behind : PySem.W.keepIn K (.ref f_quiet_behind) = true
  m_after : mg "after" = some (.ref f_after)
  k_after : PySem.W.keepIn K (.ref f_after) = true
  m_all_behind : mg "all_behind" = some (.ref f_all_behind)
  k_all_behind : PySem.W.keepIn K (.ref f_all_behind) = true
  m_lets_kept : mg "lets_kept" = some (.ref f_lets_kept)
  k_lets_kept : PySem.W.keepIn K (.ref f_lets_kept) = true
  m_may_answer : mg "may_answer" = some (.ref f_may_answer)
  k_may_answer : PySem.W.keepIn K (.ref f_may_answer) = true
  m_goes_down : mg "goes_down" = some (.ref f_goes_down)
  k_goes_down : PySem.W.keepIn K (.ref f_goes_down) = true
  m_lets_broken : mg "lets_broken" = some (.ref f_lets_broken)
  k_lets_broken : PySem.W.keepIn K (.ref f_lets_broken) = true
  m_law_cell : mg "_law_cell" = some (.ref f_law_cell)
  k_law_cell : PySem.W.keepIn K (.ref f_law_cell) = true
  m_law_behind : mg "_law_behind" = some (.ref f_law_behind)
  k_law_behind : PySem.W.keepIn K (.ref f_law_behind) = true
  m_law_next : mg "_law_next" = some (.ref f_law_next)
  k_law_next : PySem.W.keepIn K (.ref f_law_next) = true
  m_law_longest : mg "_law_longest" = some (.ref f_law_longest)
  k_law_longest : PySem.W.keepIn K (.ref f_law_longest) = true
  m_law_plan : mg "_law_plan" = some (.ref f_law_plan)
  k_law_plan : PySem.W.keepIn K (.ref f_law_plan) = true
  m_law_lets_kept : mg "_law_lets_kept" = some (.ref f_law_lets_kept)
  k_law_lets_kept : PySem.W.keepIn K (.ref f_law_lets_kept) = true
  m_law_kept_asked : mg "_law_kept_asked" = some (.ref f_law_kept_asked)
  k_law_kept_asked : PySem.W.keepIn K (.ref f_law_kept_asked) = true
  m_law_lets_broken : mg "_law_lets_broken" = some (.ref f_law_lets_broken)
  k_law_lets_broken : PySem.W.keepIn K (.ref f_law_lets_broken) = true
  m_law_broken_asked : mg "_law_broken_asked" = some (.ref f_law_broken_asked)
  k_law_broken_asked : PySem.W.keepIn K (.ref f_law_broken_asked) = true
  m_law : mg "law" = some (.ref f_law)
  k_law : PySem.W.keepIn K (.ref f_law) = true
  n_len : mg "len" = none
  n_max : mg "max" = none
  n_tuple : mg "tuple" = none
  n_dict : mg "dict" = none
  n_enumerate : mg "enumerate" = none
  n_range : mg "range" = none
  n_list : mg "list" = none
  n_isinstance : mg "isinstance" = none
  n_bool : mg "bool" = none
  n_int : mg "int" = none

/-! ### halls and standings in the heap -/
def HallAt (H : Hp) (a : Addr) (ws : List Int) (calm : Option Int) : Prop := ∃ t, H a = some (.tup [.ref t, vO calm]) ∧ H t = some (.tup (ws.map V.int))
def StAt (H : Hp) (b : Addr) (ls : List Int) (q : Int) : Prop := ∃ u, H b = some (.tup [.ref u, .int q]) ∧ H u = some (.tup (ls.map V.int))
theorem HallAt.same {H H' : Hp} {a : Addr} {ws : List Int} {calm : Option Int} (s : Same H H') (h : HallAt H a ws calm) : HallAt H' a ws calm := by
  obtain ⟨t, h1, h2⟩ := h
  exact ⟨t, s _ _ h1, s _ _ h2⟩
theorem StAt.same {H H' : Hp} {a : Addr} {ls : List Int} {q : Int} (s : Same H H') (h : StAt H a ls q) : StAt H' a ls q := by
  obtain ⟨t, h1, h2⟩ := h
  exact ⟨t, s _ _ h1, s _ _ h2⟩
theorem vO_non (c : Option Int) : decide (vO c = V.non) = decide (c = none) := by cases c <;> simp [vO]
def leftB (ws ls : List Int) (who : Nat) (lost : Bool) : List Int := if lost = true then ls.map (fun x => x - 1) else (ls.map (fun x => x - 1)).set who (ws.getD who 0)
def quietB (calm : Option Int) (q : Int) (lost : Bool) : Int := if lost = true then calm.getD 0 else max (q - 1) 0
/-- the road may do so -/
def MayB (calm : Option Int) (q : Int) (lost : Bool) : Prop := lost = true → calm ≠ none ∧ q = 0
theorem leftB_length (ws ls : List Int) (who : Nat) (lost : Bool) : (leftB ws ls who lost).length = ls.length := by
  unfold leftB
  split <;> simp
theorem inV_ints (x : Int) : ∀ ns : List Int, inV (.int x) (ns.map V.int) = decide (x ∈ ns)
  | [] => rfl
  | n :: ns => by
    show (eqV (V.int n) (V.int x) || inV (.int x) (ns.map V.int)) = _
    rw [inV_ints x ns]
    show ((n == x) || decide (x ∈ ns)) = _
    by_cases h : n = x
    · simp [h]
    · have h' : ¬ x = n := fun e => h e.symm
      simp [h, h']
theorem flat_ints : ∀ ns : List Int, (ns.map V.int).all flatV = true
  | [] => rfl
  | n :: ns => by
    show (flatV (V.int n) && (ns.map V.int).all flatV) = true
    rw [flat_ints ns]
    rfl
theorem getD_at {ws : List Int} {k : Nat} (h : k < ws.length) : atI (ws.map V.int) (k : Int) = some (.int (ws.getD k 0)) := by
  refine atI_nat ?_
  rw [List.getElem?_map, List.getElem?_eq_getElem h, List.getD_eq_getElem?_getD, List.getElem?_eq_getElem h]
  rfl
theorem ixN_nat {n k : Nat} (h : k < n) : ixN n (k : Int) = some k := by
  unfold ixN
  rw [if_pos (by omega), if_pos (by omega)]
  simp

theorem emod_range (x : Int) {m : Int} (h : 0 < m) : 0 ≤ x % m ∧ x % m < m := ⟨Int.emod_nonneg x (by omega), Int.emod_lt_of_pos x h⟩
theorem pos60 : (0 : Int) < 10 ^ (60 : Int).toNat := by decide +kernel
def cutI (xs : List Int) (lo hi : Option Int) : List Int := (xs.drop (HT.sIx xs.length 0 lo)).take (HT.sIx xs.length xs.length hi - HT.sIx xs.length 0 lo)
theorem cutV_ints (xs : List Int) (lo hi : Option Int) : cutV (xs.map V.int) lo hi = (cutI xs lo hi).map V.int := by
  unfold cutV cutI
  rw [List.length_map, List.map_take, List.map_drop]
theorem cutV_to {xs : List V} {c : Int} (h0 : 0 ≤ c) (h : c ≤ xs.length) : cutV xs none (some c) = xs.take c.toNat := by
  obtain ⟨n, rfl⟩ : ∃ n : Nat, c = n := ⟨c.toNat, by omega⟩
  unfold cutV
  rw [HT.sIx_none, HT.sIx_nat]
  have e : min n xs.length = n := by omega
  rw [e]
  simp
theorem cutV_from {xs : List V} {c : Int} (h0 : 0 ≤ c) (h : c ≤ xs.length) : cutV xs (some c) none = xs.drop c.toNat := by
  obtain ⟨n, rfl⟩ : ∃ n : Nat, c = n := ⟨c.toNat, by omega⟩
  unfold cutV
  rw [HT.sIx_none, HT.sIx_nat]
  have e : min n xs.length = n := by omega
  rw [e, Int.toNat_natCast, List.take_of_length_le]
  rw [List.length_drop]
  omega
theorem first_at : ∀ {l : List Int} {m : Int}, m ∈ l → ∃ j : Nat, l[j]? = some m ∧ ∀ i, i < j → l[i]? ≠ some m
  | x :: l, m, h => by
    by_cases e : x = m
    · exact ⟨0, by simp [e], (fun i hi => absurd hi (Nat.not_lt_zero i))⟩
    · rcases List.mem_cons.mp h with h | h
      · exact absurd h.symm e
      · obtain ⟨j, hj, hn⟩ := first_at h
        refine ⟨j + 1, by simpa using hj, fun i hi => ?_⟩
        cases i with
        | zero => simpa using e
        | succ i => simpa using hn i (by omega)
def vN : Option Nat → V
  | none => .non
  | some k => .int (k : Nat)
/-! ### a round of calls that goes on for ever: the ways from a call to the next one -/
def rd (xs : List Int) (j : Nat) : Option Int := xs[j % xs.length]?
def GapAt (xs : List Int) (w : Int) (p g : Nat) : Prop := 0 < g ∧ rd xs p = some w ∧ rd xs (p + g) = some w ∧ ∀ s, 0 < s → s < g → rd xs (p + s) ≠ some w
def MaxGap (xs : List Int) (w : Int) (m : Nat) : Prop := (∃ p, GapAt xs w p m) ∧ ∀ p g, GapAt xs w p g → g ≤ m
def LongOk (xs : List Int) (w : Int) : Option Nat → Prop
  | none => w ∉ xs
  | some m => MaxGap xs w m
theorem rd_mem {xs : List Int} {w : Int} {j : Nat} (h : rd xs j = some w) : w ∈ xs := List.mem_of_getElem? h
theorem LongOk.eq {xs ys : List Int} {w : Int} {r r' : Option Nat} (hm : w ∈ xs ↔ w ∈ ys) (hg : ∀ g, (∃ p, GapAt xs w p g) ↔ ∃ p, GapAt ys w p g) (h : LongOk xs w r) (h' : LongOk ys w r') : r = r' := by
  cases r with
  | none =>
    cases r' with
    | none => rfl
    | some m =>
      obtain ⟨⟨p, hp⟩, _⟩ := h'
      exact absurd (hm.mpr (rd_mem hp.2.1)) h
  | some m =>
    cases r' with
    | none =>
      obtain ⟨⟨p, hp⟩, _⟩ := h
      exact absurd (hm.mp (rd_mem hp.2.1)) h'
    | some m' =>
      obtain ⟨h1, h2⟩ := h
      obtain ⟨h1', h2'⟩ := h'
      obtain ⟨p, hp⟩ := (hg m).mp h1
      obtain ⟨p', hp'⟩ := (hg m').mpr h1'
      have a := h2' p m hp
      have b := h2 p' m' hp'
      congr 1
      omega
theorem rd_mod (xs : List Int) (j s : Nat) : rd xs (j % xs.length + s) = rd xs (j + s) := by
  unfold rd
  rw [Nat.mod_add_mod]
theorem rd_lt {xs : List Int} {j : Nat} (h : j < xs.length) : rd xs j = xs[j]? := by
  unfold rd
  rw [Nat.mod_eq_of_lt h]
theorem gap_mod {xs : List Int} {w : Int} {p g : Nat} (h : GapAt xs w p g) : GapAt xs w (p % xs.length) g := by
  obtain ⟨h0, h1, h2, h3⟩ := h
  refine ⟨h0, ?_, by rw [rd_mod]; exact h2, fun s a b => by rw [rd_mod]; exact h3 s a b⟩
  have e := rd_mod xs p 0
  rw [Nat.add_zero, Nat.add_zero] at e
  rw [e]
  exact h1
theorem gap_uniq {xs : List Int} {w : Int} {p g g' : Nat} (h : GapAt xs w p g) (h' : GapAt xs w p g') : g = g' := by
  rcases Nat.lt_trichotomy g g' with a | a | a
  · exact absurd h.2.2.1 (h'.2.2.2 g h.1 a)
  · exact a
  · exact absurd h'.2.2.1 (h.2.2.2 g' h'.1 a)
/-- the places of a call, rising -/
def plc (xs : List Int) (w : Int) (i : Nat) : List Nat := (List.range i).filter fun k => decide (xs[k]? = some w)
def gapL (ps : List Nat) (i : Nat) : List Int := (List.range i).map fun j => (ps.getD (j + 1) 0 : Int) - (ps.getD j 0 : Int)
def StepsTo (xs : List Int) (w : Int) (i : Nat) : Option Nat → Prop
  | none => ∀ p, p < i → xs[p]? ≠ some w
  | some m => (∃ p, GapAt xs w p m) ∧ ∀ p, p < i → ∀ g, GapAt xs w p g → g ≤ m
theorem StepsTo.skip {xs : List Int} {w : Int} {i : Nat} {r : Option Nat} (hi : i < xs.length) (hn : xs[i]? ≠ some w) (h : StepsTo xs w i r) : StepsTo xs w (i + 1) r := by
  cases r with
  | none =>
    intro p hp
    by_cases e : p = i
    · subst e
      exact hn
    · exact h p (by omega)
  | some m =>
    refine ⟨h.1, fun p hp g hg => ?_⟩
    by_cases e : p = i
    · subst e
      have z := hg.2.1
      rw [rd_lt hi] at z
      exact absurd z hn
    · exact h.2 p (by omega) g hg
def stepR : Option Nat → Nat → Nat
  | none, g => g
  | some m, g => if m < g then g else m
theorem StepsTo.take {xs : List Int} {w : Int} {i g : Nat} {r : Option Nat} (hg : GapAt xs w i g) (h : StepsTo xs w i r) : StepsTo xs w (i + 1) (some (stepR r g)) := by
  have hi0 := hg.2.1
  cases r with
  | none =>
    refine ⟨⟨i, hg⟩, fun p hp g' hg' => ?_⟩
    by_cases e : p = i
    · subst e
      exact Nat.le_of_eq (gap_uniq hg' hg)
    · have z := hg'.2.1
      rcases Nat.lt_or_ge p xs.length with hl | hl
      · rw [rd_lt hl] at z
        exact absurd z (h p (by omega))
      · have hn : 0 < xs.length := by
          cases xs with
          | nil => unfold rd at z; simp at z
          | cons => simp
        have z2 := gap_mod hg'
        have hlt := Nat.mod_lt p hn
        have z3 := z2.2.1
        rw [rd_lt hlt] at z3
        exact absurd z3 (h _ (by omega))
  | some m =>
    show (∃ p, GapAt xs w p (if m < g then g else m)) ∧ ∀ p, p < i + 1 → ∀ g', GapAt xs w p g' → g' ≤ (if m < g then g else m)
    by_cases hmg : m < g
    · rw [if_pos hmg]
      refine ⟨⟨i, hg⟩, fun p hp g' hg' => ?_⟩
      by_cases e : p = i
      · subst e
        exact Nat.le_of_eq (gap_uniq hg' hg)
      · have := h.2 p (by omega) g' hg'
        omega
    · rw [if_neg hmg]
      refine ⟨h.1, fun p hp g' hg' => ?_⟩
      by_cases e : p = i
      · subst e
        have := gap_uniq hg' hg
        omega
      · exact h.2 p (by omega) g' hg'

def Tups (H H' : Hp) : Prop := ∀ b xs, H b = some (.tup xs) → H' b = some (.tup xs)
theorem Tups.of {H H' : Hp} (s : Same H H') : Tups H H' := fun b xs e => s b _ e
theorem Tups.trans {H H1 H2 : Hp} (a : Tups H H1) (b : Tups H1 H2) : Tups H H2 := fun c xs e => b c xs (a c xs e)
theorem Tups.lst {H : Hp} {D : Addr} {zs : List V} {o : HO} (h : H D = some (.lst zs)) : Tups H (upd H D o) := fun b xs e => by
  rw [upd_ne (ne_of e h (by intro z; cases z))]
  exact e
def RowAt (H : Hp) (r : List Int) (v : V) : Prop := ∃ p, v = .ref p ∧ H p = some (.tup (r.map V.int))
def StV (H : Hp) (z : List Int × Int) (v : V) : Prop := ∃ p u, v = .ref p ∧ H p = some (.tup [.ref u, .int z.2]) ∧ H u = some (.tup (z.1.map V.int))
theorem RowAt.up {H H' : Hp} {r : List Int} {v : V} (t : Tups H H') (h : RowAt H r v) : RowAt H' r v := by
  obtain ⟨p, e, h1⟩ := h
  exact ⟨p, e, t _ _ h1⟩
theorem StV.up {H H' : Hp} {z : List Int × Int} {v : V} (t : Tups H H') (h : StV H z v) : StV H' z v := by
  obtain ⟨p, u, e, h1, h2⟩ := h
  exact ⟨p, u, e, t _ _ h1, t _ _ h2⟩
def AllAt {α : Type} (P : α → V → Prop) (rs : List α) (vs : List V) : Prop := vs.length = rs.length ∧ ∀ (i : Nat) (r : α) (v : V), rs[i]? = some r → vs[i]? = some v → P r v
theorem AllAt.nil {α : Type} {P : α → V → Prop} : AllAt P [] [] := ⟨rfl, fun i r v e => by cases e⟩
theorem AllAt.imp {α : Type} {P P' : α → V → Prop} {rs : List α} {vs : List V} (f : ∀ r v, P r v → P' r v) (h : AllAt P rs vs) : AllAt P' rs vs := ⟨h.1, fun i r v e1 e2 => f _ _ (h.2 i r v e1 e2)⟩
theorem AllAt.append {α : Type} {P : α → V → Prop} {rs ss : List α} {vs us : List V} (h : AllAt P rs vs) (g : AllAt P ss us) : AllAt P (rs ++ ss) (vs ++ us) := by
  refine ⟨by rw [List.length_append, List.length_append, h.1, g.1], fun i r v e1 e2 => ?_⟩
  rcases Nat.lt_or_ge i rs.length with z | z
  · rw [List.getElem?_append_left z] at e1
    rw [List.getElem?_append_left (by rw [h.1]; exact z)] at e2
    exact h.2 i r v e1 e2
  · rw [List.getElem?_append_right z] at e1
    rw [List.getElem?_append_right (by rw [h.1]; exact z), h.1] at e2
    exact g.2 _ r v e1 e2
theorem AllAt.one {α : Type} {P : α → V → Prop} {r : α} {v : V} (h : P r v) : AllAt P [r] [v] := by
  refine ⟨rfl, fun i r' v' e1 e2 => ?_⟩
  cases i with
  | zero => cases e1; cases e2; exact h
  | succ i => cases e1
theorem AllAt.get {α : Type} {P : α → V → Prop} {rs : List α} {vs : List V} (h : AllAt P rs vs) {i : Nat} {v : V} (e : vs[i]? = some v) : ∃ r, rs[i]? = some r ∧ P r v := by
  have hi := (List.getElem?_eq_some_iff.mp e).1
  have hi2 : i < rs.length := by
    rw [← h.1]
    exact hi
  have h2 : rs[i]? = some rs[i] := List.getElem?_eq_getElem hi2
  exact ⟨_, h2, h.2 i _ v h2 e⟩
def qv : Option Int → Int
  | none => 1
  | some c => c + 1
def prodI (q : Int) (ws : List Int) : Int := ws.foldl (· * ·) q
def lngR (r : List Int) (w : Int) : List (List Int) := (List.range w.toNat).map fun t => r ++ [1 + ((t : Nat) : Int)]
def stepRows (rows : List (List Int)) (w : Int) : List (List Int) := rows.flatMap fun r => lngR r w
def rowsOf (ws : List Int) : List (List Int) := ws.foldl stepRows [[]]
def stsOf (r : List Int) (q : Int) : List (List Int × Int) := (List.range q.toNat).map fun k => (r, 0 + ((k : Nat) : Int))
def standL (ws : List Int) (q : Int) : List (List Int × Int) := (rowsOf ws).flatMap fun r => stsOf r q
/-- the order of rows -/
def LtI (r s : List Int) : Prop := ltvAll (r.map PyData.int) (s.map PyData.int) = true
def dS (z : List Int × Int) : PyData := dP (dT z.1) (.int z.2)
theorem rpAll_of {H : Hp} : ∀ {zs : List (List Int × Int)} {us : List V}, AllAt (StV H) zs us → RpAll H (zs.map dS) us
  | [], us, h => by
    have e : us = [] := List.length_eq_zero_iff.mp h.1
    subst e
    show RpAll H [] []
    unfold RpAll
    rfl
  | z :: zs, us, h => by
    cases us with
    | nil =>
      have := h.1
      simp at this
    | cons u us =>
      show RpAll H (dS z :: zs.map dS) (u :: us)
      unfold RpAll
      refine ⟨u, us, rfl, ?_, rpAll_of ⟨by simpa using h.1, fun i r v e1 e2 => h.2 (i + 1) r v e1 e2⟩⟩
      obtain ⟨p, q, rfl, h1, h2⟩ := h.2 0 z u rfl rfl
      exact rp_dP h1 (rp_dT h2) (rp_int _)
theorem rp_list {H : Hp} {a : Addr} {zs : List (List Int × Int)} {us : List V} (h : H a = some (.lst us)) (g : AllAt (StV H) zs us) : Rp H (.list (zs.map dS)) (.ref a) := by
  unfold Rp
  exact ⟨a, us, rfl, h, rpAll_of g⟩
theorem depth_dS (z : List Int × Int) : (dS z).depth = 2 := by
  unfold dS
  rw [depth_dP, depth_dT]
  rfl
theorem depthAll_dS : ∀ zs : List (List Int × Int), PyData.depthAll (zs.map dS) ≤ 2
  | [] => by decide
  | z :: zs => by
    have ih := depthAll_dS zs
    show max (dS z).depth (PyData.depthAll (zs.map dS)) ≤ 2
    rw [depth_dS]
    omega
theorem depth_lS (zs : List (List Int × Int)) : (PyData.list (zs.map dS)).depth ≤ 60 := by
  have := depthAll_dS zs
  show PyData.depthAll (zs.map dS) + 1 ≤ 60
  omega
theorem AllAt.drop {α : Type} {P : α → V → Prop} {rs : List α} {vs : List V} (h : AllAt P rs vs) (n : Nat) : AllAt P (rs.drop n) (vs.drop n) := by
  refine ⟨by rw [List.length_drop, List.length_drop, h.1], fun i r v e1 e2 => ?_⟩
  rw [List.getElem?_drop] at e1 e2
  exact h.2 _ r v e1 e2
/-! ### walks -/
def StO (H : Hp) (v : V) : Option (List Int × Int) → Prop
  | none => v = .non
  | some r => ∃ b, v = .ref b ∧ StAt H b r.1 r.2
def WalkAt (H : Hp) (p : Addr) (r : Nat × Option (List Int × Int)) : Prop := ∃ v, H p = some (.tup [.int (r.1 : Nat), v]) ∧ StO H v r.2
theorem StO.same {H H' : Hp} {v : V} {r : Option (List Int × Int)} (s : Same H H') (h : StO H v r) : StO H' v r := by
  cases r with
  | none => exact h
  | some r =>
    obtain ⟨b, e, h⟩ := h
    exact ⟨b, e, h.same s⟩
theorem WalkAt.same {H H' : Hp} {p : Addr} {r : Nat × Option (List Int × Int)} (s : Same H H') (h : WalkAt H p r) : WalkAt H' p r := by
  obtain ⟨v, e, h⟩ := h
  exact ⟨v, s _ _ e, h.same s⟩
def dSt : Option (List Int × Int) → PyData
  | none => .none
  | some r => dP (dT r.1) (.int r.2)
def QuietOk (calm : Option Int) : Int → List Bool → Prop
  | _, [] => True
  | q, l :: r => MayB calm q l ∧ QuietOk calm (quietB calm q l) r
def walkB (ws : List Int) (calm : Option Int) : List Int → Int → List (Nat × Bool) → Nat × Option (List Int × Int)
  | ls, q, [] => (0, some (ls, q))
  | ls, q, (k, l) :: r => if (0 : Int) ∈ leftB ws ls k l then (0, none) else ((walkB ws calm (leftB ws ls k l) (quietB calm q l) r).1 + 1, (walkB ws calm (leftB ws ls k l) (quietB calm q l) r).2)
/-! ### what is settled of a hall -/
theorem StAt.up {H H' : Hp} {b : Addr} {ls : List Int} {q : Int} (t : Tups H H') (h : StAt H b ls q) : StAt H' b ls q := by
  obtain ⟨u, h1, h2⟩ := h
  exact ⟨u, t _ _ h1, t _ _ h2⟩
theorem HallAt.up {H H' : Hp} {a : Addr} {ws : List Int} {calm : Option Int} (s : Tups H H') (h : HallAt H a ws calm) : HallAt H' a ws calm := by
  obtain ⟨t, h1, h2⟩ := h
  exact ⟨t, s _ _ h1, s _ _ h2⟩
theorem StO.up {H H' : Hp} {v : V} {r : Option (List Int × Int)} (s : Tups H H') (h : StO H v r) : StO H' v r := by
  cases r with
  | none => exact h
  | some r =>
    obtain ⟨b, e, h⟩ := h
    exact ⟨b, e, h.up s⟩
def aft (ws ls : List Int) (cm : Option Int) (q : Int) (who : Nat) (lost : Bool) : Option (List Int × Int) := if (0 : Int) ∈ leftB ws ls who lost then none else some (leftB ws ls who lost, quietB cm q lost)
def mayL (cm : Option Int) (q : Int) : Bool := !decide (cm = none) && decide (q = 0)
def behL (ws ls : List Int) (cm : Option Int) (q : Int) (who : Nat) : List (Option (List Int × Int)) := aft ws ls cm q who false :: if mayL cm q = true then [aft ws ls cm q who true] else []
def BehV (H : Hp) (r : Option (List Int × Int)) (v : V) : Prop := StO H v r
theorem BehV.up {H H' : Hp} {v : V} {r : Option (List Int × Int)} (s : Tups H H') (h : BehV H r v) : BehV H' r v := StO.up s h
theorem AllAt.cons {α : Type} {P : α → V → Prop} {r : α} {v : V} {rs : List α} {vs : List V} (h : P r v) (g : AllAt P rs vs) : AllAt P (r :: rs) (v :: vs) := (AllAt.one h).append g
/-- a standing lies there -/
def SV (H : Hp) (v : V) : Prop := ∃ b k, v = .ref b ∧ StH H b k
theorem SV.up {H H' : Hp} {v : V} (t : Tups H H') (h : SV H v) : SV H' v := by
  obtain ⟨b, k, e, h1⟩ := h
  exact ⟨b, k, e, h1.up t⟩
/-- the calls that are left: a listener's number, what is behind -/
def CallsOk (H : Hp) (cs : List (Key × V)) : Prop := ∀ e ∈ cs, (∃ i : Int, e.1 = .inl i) ∧ ∃ (l : Addr) (us : List V), e.2 = .ref l ∧ H l = some (.lst us) ∧ us.length ≤ 2 ∧ ∀ u ∈ us, SV H u
def CallD (H : Hp) (v : V) : Prop := ∃ (c : Addr) (cs : List (Key × V)), v = .ref c ∧ H c = some (.dK cs) ∧ cs.length ≤ 8 ∧ CallsOk H cs
/-- lists and tuples stay -/
def LT (H H' : Hp) : Prop := (∀ b xs, H b = some (.lst xs) → H' b = some (.lst xs)) ∧ Tups H H'
theorem LT.of {H H' : Hp} (s : Same H H') : LT H H' := ⟨fun b xs e => s b _ e, Tups.of s⟩
theorem LT.dT {H : Hp} {D : Addr} {kvs : List ((List Int × Int) × V)} {o : HO} (h : H D = some (.dT kvs)) : LT H (upd H D o) :=
  ⟨fun b xs e => by rw [upd_ne (ne_of e h (by intro z; cases z))]; exact e, fun b xs e => by rw [upd_ne (ne_of e h (by intro z; cases z))]; exact e⟩
theorem LT.dK {H : Hp} {D : Addr} {kvs : List (Key × V)} {o : HO} (h : H D = some (.dK kvs)) : LT H (upd H D o) :=
  ⟨fun b xs e => by rw [upd_ne (ne_of e h (by intro z; cases z))]; exact e, fun b xs e => by rw [upd_ne (ne_of e h (by intro z; cases z))]; exact e⟩
theorem LT.trans {H H1 H2 : Hp} (a : LT H H1) (b : LT H1 H2) : LT H H2 := ⟨fun c xs e => b.1 c xs (a.1 c xs e), a.2.trans b.2⟩
theorem CallsOk.up {H H' : Hp} {cs : List (Key × V)} (t : LT H H') (h : CallsOk H cs) : CallsOk H' cs := fun e he => by
  obtain ⟨h1, l, us, h2, h3, h4, h5⟩ := h e he
  exact ⟨h1, l, us, h2, t.1 _ _ h3, h4, fun u hu => (h5 u hu).up t.2⟩
theorem CallD.up {H H' : Hp} {v : V} (t : LT H H') (k : ∀ c cs, H c = some (.dK cs) → H' c = some (.dK cs)) (h : CallD H v) : CallD H' v := by
  obtain ⟨c, cs, e, h1, h2, h3⟩ := h
  exact ⟨c, cs, e, k _ _ h1, h2, h3.up t⟩
theorem CallD.same {H H' : Hp} {v : V} (s : Same H H') (h : CallD H v) : CallD H' v := h.up (LT.of s) fun c cs e => s _ _ e
def PendOk (H : Hp) (kvs : List ((List Int × Int) × V)) : Prop := ∀ kv ∈ kvs, CallD H kv.2
theorem valV_mem {κ : Type} [DecidableEq κ] {kvs : List (κ × V)} {k : κ} {v : V} (h : valV kvs k = some v) : (k, v) ∈ kvs := by
  unfold valV at h
  obtain ⟨p, hp, rfl⟩ := Option.map_eq_some_iff.mp h
  have h1 := List.find?_some hp
  have h2 := List.mem_of_find?_eq_some hp
  have h3 : p.1 = k := by simpa using h1
  rw [← h3]
  exact h2
/-- a way: a standing of the hall, a call -/
def WayV (kvs : List ((List Int × Int) × V)) (H : Hp) (u : V) : Prop := ∃ (t b : Addr) (i : Int) (k : List Int × Int), u = .ref t ∧ H t = some (.tup [.ref b, .int i]) ∧ StH H b k ∧ ∃ v, valV kvs k = some v
theorem WayV.up {kvs : List ((List Int × Int) × V)} {H H' : Hp} {u : V} (t : Tups H H') (h : WayV kvs H u) : WayV kvs H' u := by
  obtain ⟨a, b, i, k, e, h1, h2, h3⟩ := h
  exact ⟨a, b, i, k, e, t _ _ h1, h2.up t, h3⟩
def WaysOk (H0 : Hp) (kvs : List ((List Int × Int) × V)) (n : Nat) (H : Hp) (wv : List ((List Int × Int) × V)) : Prop := ∀ kv ∈ wv, ∃ (l : Addr) (us : List V), kv.2 = .ref l ∧ H0 l = none ∧ H l = some (.lst us) ∧ us.length ≤ n ∧ ∀ u ∈ us, WayV kvs H u
theorem WaysOk.up {H0 H H' : Hp} {kvs wv : List ((List Int × Int) × V)} {n m : Nat} (t : LT H H') (hn : n ≤ m) (h : WaysOk H0 kvs n H wv) : WaysOk H0 kvs m H' wv := fun kv hkv => by
  obtain ⟨l, us, e, h0, h1, h2, h3⟩ := h kv hkv
  exact ⟨l, us, e, h0, t.1 _ _ h1, by omega, fun u hu => (h3 u hu).up t.2⟩
/-- all stays but the dicts of calls -/
def ChgP (kvs : List ((List Int × Int) × V)) (H H' : Hp) : Prop := ∀ b o, H b = some o → (∀ kv ∈ kvs, kv.2 ≠ .ref b) → H' b = some o
theorem ChgP.of {kvs : List ((List Int × Int) × V)} {H H' : Hp} (s : Same H H') : ChgP kvs H H' := fun b o e _ => s b o e
theorem ChgP.trans {kvs : List ((List Int × Int) × V)} {H H1 H2 : Hp} (a : ChgP kvs H H1) (b : ChgP kvs H1 H2) : ChgP kvs H H2 := fun c o e n => b c o (a c o e n) n
theorem ChgP.new {kvs : List ((List Int × Int) × V)} {H H' : Hp} {p : Addr} {o : HO} (a : ChgP kvs H H') (h : H p = none) : ChgP kvs H (upd H' p o) := fun b u e n => by
  rw [upd_ne (ne_of_none e h)]
  exact a b u e n
theorem ChgP.keep {kvs : List ((List Int × Int) × V)} {H H' : Hp} {b : Addr} {o : HO} (a : ChgP kvs H H') (p : PendOk H kvs) (e : H b = some o) (n : ∀ cs, o ≠ .dK cs) : H' b = some o := a b o e fun kv hkv z => by
  obtain ⟨c, cs, e1, e2, _⟩ := p kv hkv
  rw [z] at e1
  cases e1
  rw [e] at e2
  exact n cs (Option.some.inj e2)
theorem ChgP.lt {kvs : List ((List Int × Int) × V)} {H H' : Hp} (a : ChgP kvs H H') (p : PendOk H kvs) : LT H H' := ⟨fun b xs e => a.keep p e (fun cs z => nomatch z), fun b xs e => a.keep p e (fun cs z => nomatch z)⟩
theorem ChgP.pop {kvs : List ((List Int × Int) × V)} {H : Hp} {c : Addr} {o : HO} {kv : (List Int × Int) × V} (h : kv ∈ kvs) (e : kv.2 = .ref c) : ChgP kvs H (upd H c o) := fun b u eb n => by
  rw [upd_ne (fun z => n kv h (by rw [e, z]))]
  exact eb
def szC (H : Hp) : V → Nat
  | .ref c => match H c with
    | some (.dK cs) => cs.length
    | _ => 0
  | _ => 0
/-- how many calls are left -/
def leftC (H : Hp) (kvs : List ((List Int × Int) × V)) : Nat := (kvs.map fun kv => szC H kv.2).sum
theorem drop_mem {cs : List (Key × V)} {k : Key} {e : Key × V} (h : e ∈ dropK cs k) : e ∈ cs := (List.mem_filter.mp h).1
theorem PendOk.pop {H : Hp} {c : Addr} {cs : List (Key × V)} {k : Key} {kvs : List ((List Int × Int) × V)} (p : PendOk H kvs) (hc : H c = some (.dK cs)) : PendOk (upd H c (.dK (dropK cs k))) kvs := fun kv hkv => by
  obtain ⟨d, ds, e, h1, h2, h3⟩ := p kv hkv
  have t : LT H (upd H c (.dK (dropK cs k))) := LT.dK hc
  by_cases z : d = c
  · subst z
    rw [hc] at h1
    cases h1
    refine ⟨d, dropK cs k, e, upd_same, Nat.le_trans (dropK_le cs k) h2, fun x hx => ?_⟩
    obtain ⟨g1, l, us, g2, g3, g4, g5⟩ := h3 x (drop_mem hx)
    exact ⟨g1, l, us, g2, t.1 _ _ g3, g4, fun u hu => (g5 u hu).up t.2⟩
  · exact ⟨d, ds, e, (upd_ne z).trans h1, h2, h3.up t⟩
/-- none of the lists of the calls is the one at B -/
def NoB (B : Addr) (H : Hp) (kvs : List ((List Int × Int) × V)) : Prop := ∀ kv ∈ kvs, ∀ c cs, kv.2 = .ref c → H c = some (.dK cs) → ∀ e ∈ cs, e.2 ≠ .ref B
theorem NoB.start {B : Addr} {H : Hp} {kvs : List ((List Int × Int) × V)} (p : PendOk H kvs) (h : H B = none) : NoB B H kvs := fun kv hkv c cs e1 e2 e he z => by
  obtain ⟨d, ds, f1, f2, _, f3⟩ := p kv hkv
  rw [e1] at f1
  cases f1
  rw [e2] at f2
  cases f2
  obtain ⟨_, l, us, g1, g2, _⟩ := f3 e he
  rw [z] at g1
  cases g1
  rw [h] at g2
  cases g2
theorem NoB.keep {B : Addr} {H H' : Hp} {kvs : List ((List Int × Int) × V)} (n : NoB B H kvs) (p : PendOk H kvs) (k : ∀ c cs, H c = some (.dK cs) → H' c = some (.dK cs)) : NoB B H' kvs := fun kv hkv c cs e1 e2 => by
  obtain ⟨d, ds, f1, f2, _⟩ := p kv hkv
  have f1' := f1
  rw [e1] at f1'
  cases f1'
  have := k _ _ f2
  rw [e2] at this
  cases this
  exact n kv hkv c cs e1 f2
theorem NoB.pop {B c : Addr} {H : Hp} {cs : List (Key × V)} {k : Key} {kvs : List ((List Int × Int) × V)} (n : NoB B H kvs) (hc : H c = some (.dK cs)) : NoB B (upd H c (.dK (dropK cs k))) kvs := fun kv hkv d ds e1 e2 e he => by
  by_cases z : d = c
  · subst z
    rw [upd_same] at e2
    cases e2
    exact n kv hkv d cs e1 hc e (drop_mem he)
  · rw [upd_ne z] at e2
    exact n kv hkv d ds e1 e2 e he
theorem PendOk.keep {H H' : Hp} {kvs : List ((List Int × Int) × V)} (p : PendOk H kvs) (t : LT H H') (k : ∀ c cs, H c = some (.dK cs) → H' c = some (.dK cs)) : PendOk H' kvs := fun kv hkv => (p kv hkv).up t k
theorem valV_nodup {κ : Type} [DecidableEq κ] {kvs : List (κ × V)} {k : κ} {v : V} (hn : (kvs.map (·.1)).Nodup) (h : (k, v) ∈ kvs) : valV kvs k = some v := by
  induction kvs with
  | nil => cases h
  | cons p r ih =>
    rw [List.map_cons, List.nodup_cons] at hn
    rcases List.mem_cons.mp h with z | z
    · subst z
      exact valV_pos rfl
    · have hp : ¬ p.1 = k := fun e => hn.1 (by rw [e]; exact List.mem_map_of_mem (f := (·.1)) z)
      rw [valV_neg hp]
      exact ih hn.2 z
theorem nodup_snoc2 {α : Type} {xs : List α} {x : α} (h : xs.Nodup) (hx : x ∉ xs) : (xs ++ [x]).Nodup := by
  rw [List.nodup_append]
  refine ⟨h, by simp, fun a ha b hb e => ?_⟩
  rw [List.mem_singleton.mp hb] at e
  exact hx (e ▸ ha)

theorem map_snoc (ws : List Int) (w : Int) : ws.map V.int ++ [V.int w] = (ws ++ [w]).map V.int := by rw [List.map_append]; rfl

theorem len_snoc {α : Type} {ls : List α} {x : α} {i : Nat} (h : ls.length = i) : (ls ++ [x]).length = i + 1 := by
  rw [List.length_append, h]
  rfl
theorem lst_snoc {H : Hp} {L : Addr} {ls : List Int} {x : Int} : (upd H L (.lst (ls.map V.int ++ [V.int x]))) L = some (.lst ((ls ++ [x]).map V.int)) := by
  rw [map_snoc]
  exact upd_same
theorem getD_get {ls : List Int} {j : Nat} (h : j < ls.length) : ls[j]? = some (ls.getD j 0) := by
  rw [List.getD_eq_getElem?_getD, List.getElem?_eq_getElem h]
  rfl
theorem getD_memL {ls : List Int} {j : Nat} (h : j < ls.length) : ls.getD j 0 ∈ ls := List.mem_of_getElem? (getD_get h)
theorem all_set {P : Int → Prop} {ws : List Int} {k : Nat} {x : Int} (h : ∀ w ∈ ws, P w) (hx : P x) : ∀ w ∈ ws.set k x, P w := fun w hw => by
  rcases List.mem_or_eq_of_mem_set hw with z | z
  · exact h w z
  · rw [z]
    exact hx
theorem at_nat {xs : List Int} {k : Nat} {i : Int} (h : k < xs.length) (e : i = (k : Int)) : atI (xs.map V.int) i = some (.int (xs.getD k 0)) := by
  rw [e]
  exact getD_at h

theorem nodup_inj {α β : Type} {f : α → β} : ∀ {L : List α}, L.Nodup → (∀ x ∈ L, ∀ y ∈ L, f x = f y → x = y) → (L.map f).Nodup
  | [], _, _ => List.nodup_nil
  | x :: L, h, hi => by
    rw [List.nodup_cons] at h
    rw [List.map_cons, List.nodup_cons]
    refine ⟨fun z => ?_, nodup_inj h.2 fun a ha b hb => hi a (List.mem_cons_of_mem _ ha) b (List.mem_cons_of_mem _ hb)⟩
    obtain ⟨y, hy, e⟩ := List.mem_map.mp z
    have := hi x List.mem_cons_self y (List.mem_cons_of_mem _ hy) e.symm
    exact h.1 (this ▸ hy)
theorem rp_dS {H : Hp} {b : Addr} {k : List Int × Int} (h : StH H b k) : Rp H (dS k) (.ref b) := by
  obtain ⟨u, h1, h2⟩ := h
  exact rp_dP h1 (rp_dT h2) (by unfold Rp; rfl)
theorem eqv_dS (a b : List Int × Int) : PyData.eqv (dS a) (dS b) = decide (a = b) := by
  show (PyData.eqvAll (a.1.map PyData.int) (b.1.map PyData.int) && (PyData.eqv (.int a.2) (.int b.2) && true)) = _
  rw [eqvAll_ints]
  have e : PyData.eqv (.int a.2) (.int b.2) = decide (a.2 = b.2) := by
    show (a.2 == b.2) = _
    rw [Bool.eq_iff_iff]
    simp
  rw [e, Bool.and_true, Bool.eq_iff_iff]
  simp [Prod.ext_iff]
theorem leftB_get {ws ls : List Int} {who i : Nat} {lost : Bool} (hi : i < ls.length) : (leftB ws ls who lost)[i]? = some (if i = who ∧ lost = false then ws.getD who 0 else ls.getD i 0 - 1) := by
  have e : (ls.map fun x => x - 1)[i]? = some (ls.getD i 0 - 1) := by
    rw [List.getElem?_map, List.getElem?_eq_getElem hi, List.getD_eq_getElem?_getD, List.getElem?_eq_getElem hi]
    rfl
  unfold leftB
  cases lost with
  | true =>
    rw [if_pos rfl, if_neg (fun z => nomatch z.2)]
    exact e
  | false =>
    rw [if_neg Bool.false_ne_true, List.getElem?_set]
    by_cases z : i = who
    · subst z
      rw [if_pos rfl, if_pos (by rw [List.length_map]; exact hi), if_pos ⟨rfl, rfl⟩]
    · rw [if_neg (fun y => z y.symm), if_neg (fun y => z y.1)]
      exact e

def PairV (H : Hp) (q : (List Int × Int) × V) (u : V) : Prop := ∃ t b, u = .ref t ∧ H t = some (.tup [.ref b, q.2]) ∧ StH H b q.1
theorem sth_same {H H' : Hp} {b : Addr} {k : List Int × Int} (s : Same H H') (h : StH H b k) : StH H' b k := h.up fun c xs e => s c _ e
theorem StH.of {H : Hp} {b : Addr} {ls : List Int} {q : Int} (h : StAt H b ls q) : StH H b (ls, q) := h
theorem PairV.same {H H' : Hp} {q : (List Int × Int) × V} {u : V} (s : Same H H') (h : PairV H q u) : PairV H' q u := by
  obtain ⟨t, b, e, h1, h2⟩ := h
  exact ⟨t, b, e, s _ _ h1, sth_same s h2⟩

/-! ### what the law's own plan comes to: how long each one waits -/
def am (ds : List Int) : Nat := ds.findIdx fun x => ds.all fun y => decide (y ≤ x)
def stepD (ds : List Int) (who : Nat) : List Int := (ds.map fun x => x + 1).set who 0
def nextS (cm : Option Int) (s : List Int × Int) : List (List Int × Int) := (stepD s.1 (am s.1), max (s.2 - 1) 0) :: if mayL cm s.2 = true then [(s.1.map fun x => x + 1, cm.getD 0)] else []
def oneMore (a : List (List Int × Int)) (t : List Int × Int) : List (List Int × Int) := if a.contains t then a else a ++ [t]
def growS (cm : Option Int) : Nat → List (List Int × Int) → List (List Int × Int)
  | 0, S => S
  | k + 1, S => growS cm k (S.foldl (fun acc s => (nextS cm s).foldl oneMore acc) S)
def allS (n : Nat) (cm : Option Int) : List (List Int × Int) := growS cm 18 [(List.replicate n 0, 0)]
def okL (n : Nat) (cm : Option Int) (S : List (List Int × Int)) : Bool := S.contains (List.replicate n 0, 0) && (S.all fun s => (nextS cm s).all S.contains) && decide (S.length ≤ 30)
def HallK (n : Nat) (cm : Option Int) : Prop := 1 ≤ n ∧ n ≤ 8 ∧ ∀ c, cm = some c → 1 ≤ c ∧ c ≤ 3 ∧ n ≤ 3
theorem okL_all {n : Nat} {cm : Option Int} (h : HallK n cm) : okL n cm (allS n cm) = true := by
  obtain ⟨h1, h2, h3⟩ := h
  cases cm with
  | none =>
    have : n = 1 ∨ n = 2 ∨ n = 3 ∨ n = 4 ∨ n = 5 ∨ n = 6 ∨ n = 7 ∨ n = 8 := by omega
    rcases this with rfl | rfl | rfl | rfl | rfl | rfl | rfl | rfl <;> decide +kernel
  | some c =>
    obtain ⟨c1, c2, c3⟩ := h3 c rfl
    have hn : n = 1 ∨ n = 2 ∨ n = 3 := by omega
    have hc : c = 1 ∨ c = 2 ∨ c = 3 := by omega
    rcases hn with rfl | rfl | rfl <;> rcases hc with rfl | rfl | rfl <;> decide +kernel
theorem am_eq {ds : List Int} {j : Nat} {m : Int} (h1 : ds[j]? = some m) (h2 : ∀ x ∈ ds, x ≤ m) (h3 : ∀ i, i < j → ds[i]? ≠ some m) : am ds = j := by
  obtain ⟨hj, e⟩ := List.getElem?_eq_some_iff.mp h1
  unfold am
  rw [List.findIdx_eq hj]
  refine ⟨?_, fun i hi => ?_⟩
  · rw [e]
    simpa using h2
  · rw [List.all_eq_false]
    refine ⟨m, by rw [← e]; exact List.getElem_mem hj, ?_⟩
    have hi' : i < ds.length := by omega
    have hle := h2 ds[i] (List.getElem_mem hi')
    have hne : ds[i] ≠ m := fun z => h3 i hi (by rw [List.getElem?_eq_getElem hi', z])
    simp
    omega
def dOf (ws : List Int) (z : List Int × Int) : List Int × Int := (List.zipWith (fun a b => a - b) ws z.1, z.2)
theorem dOf_inj {ws : List Int} {y z : List Int × Int} (hy : y.1.length = ws.length) (hz : z.1.length = ws.length) (e : dOf ws y = dOf ws z) : y = z := by
  have e1 : List.zipWith (fun a b => a - b) ws y.1 = List.zipWith (fun a b => a - b) ws z.1 := congrArg Prod.fst e
  have e2 : (dOf ws y).2 = (dOf ws z).2 := by rw [e]
  refine Prod.ext (List.ext_getElem (hy.trans hz.symm) fun i h1 h2 => ?_) e2
  have hi : i < ws.length := by omega
  have h : (List.zipWith (fun a b => a - b) ws y.1)[i]? = (List.zipWith (fun a b => a - b) ws z.1)[i]? := by rw [e1]
  rw [List.getElem?_zipWith, List.getElem?_zipWith, List.getElem?_eq_getElem hi, List.getElem?_eq_getElem h1, List.getElem?_eq_getElem h2] at h
  have := Option.some.inj h
  omega
theorem dOf_begin (ws : List Int) : dOf ws (ws, 0) = (List.replicate ws.length 0, 0) := by
  refine Prod.ext (List.ext_getElem (by simp [dOf]) fun i h1 h2 => ?_) rfl
  simp [dOf]
theorem dOf_call {ws ls : List Int} {q : Int} {cm : Option Int} {who : Nat} (hl : ls.length = ws.length) (hw : who < ws.length) : dOf ws (leftB ws ls who false, quietB cm q false) = (stepD (dOf ws (ls, q)).1 who, max (q - 1) 0) := by
  refine Prod.ext (List.ext_getElem ?_ fun i h1 h2 => ?_) ?_
  · simp [dOf, stepD, leftB, hl]
  · have hi : i < ws.length := by
      simp [dOf, leftB] at h1
      omega
    simp only [dOf, stepD, leftB, Bool.false_eq_true, if_false, List.getElem_zipWith, List.getElem_set, List.getElem_map]
    by_cases e : who = i
    · subst e
      have hgd : ws.getD who 0 = ws[who] := by
        rw [List.getD_eq_getElem?_getD, List.getElem?_eq_getElem hi]
        rfl
      rw [if_pos rfl, if_pos rfl]
      omega
    · rw [if_neg e, if_neg e]
      omega
  · simp [dOf, quietB]
theorem dOf_lost {ws ls : List Int} {q : Int} {cm : Option Int} {who : Nat} (hl : ls.length = ws.length) : dOf ws (leftB ws ls who true, quietB cm q true) = ((dOf ws (ls, q)).1.map fun x => x + 1, cm.getD 0) := by
  refine Prod.ext (List.ext_getElem ?_ fun i h1 h2 => ?_) ?_
  · simp [dOf, leftB, hl]
  · simp only [dOf, leftB, if_true, List.getElem_zipWith, List.getElem_map]
    omega
  · simp [dOf, quietB]
def InS (ws : List Int) (cm : Option Int) (z : List Int × Int) : Prop := z.1.length = ws.length ∧ dOf ws z ∈ allS ws.length cm
theorem in_begin {ws : List Int} {cm : Option Int} (h : HallK ws.length cm) : InS ws cm (ws, 0) := by
  refine ⟨rfl, ?_⟩
  have := okL_all h
  unfold okL at this
  simp only [Bool.and_eq_true] at this
  rw [dOf_begin]
  simpa using this.1.1
theorem in_next {ws : List Int} {cm : Option Int} {z k : List Int × Int} {who : Nat} (h : HallK ws.length cm) (hz : InS ws cm z) (hw : who < ws.length) (ha : who = am (dOf ws z).1) (hk : some k ∈ behL ws z.1 cm z.2 who) : InS ws cm k := by
  have hok := okL_all h
  unfold okL at hok
  simp only [Bool.and_eq_true, List.all_eq_true] at hok
  have hcl := hok.1.2 _ hz.2
  have mem : ∀ t, t ∈ nextS cm (dOf ws z) → t ∈ allS ws.length cm := fun t ht => by simpa using hcl t ht
  unfold behL at hk
  rcases List.mem_cons.mp hk with e | hk
  · unfold aft at e
    split at e
    · cases e
    · cases e
      refine ⟨(show (leftB ws z.1 who false).length = ws.length from (leftB_length ..).trans hz.1), mem _ ?_⟩
      rw [dOf_call hz.1 hw]
      unfold nextS
      rw [ha]
      exact List.mem_cons_self
  · split at hk
    · rename_i hm
      have e := List.mem_singleton.mp hk
      unfold aft at e
      split at e
      · cases e
      · cases e
        refine ⟨(show (leftB ws z.1 who true).length = ws.length from (leftB_length ..).trans hz.1), mem _ ?_⟩
        rw [dOf_lost hz.1]
        unfold nextS
        have hm2 : mayL cm (dOf ws z).2 = true := hm
        rw [if_pos hm2]
        exact List.mem_cons_of_mem _ (List.mem_singleton.mpr rfl)
    · cases hk
theorem nd_sub {α : Type} [DecidableEq α] : ∀ (l S : List α), l.Nodup → (∀ x ∈ l, x ∈ S) → l.length ≤ S.length
  | [], _, _, _ => Nat.zero_le _
  | x :: l, S, hn, hs => by
    rw [List.nodup_cons] at hn
    have hx := hs x List.mem_cons_self
    have ih := nd_sub l (S.erase x) hn.2 fun y hy => (List.mem_erase_of_ne (fun (e : y = x) => hn.1 (by rw [← e]; exact hy))).mpr (hs y (List.mem_cons_of_mem _ hy))
    have h0 := List.length_pos_of_mem hx
    rw [List.length_erase_of_mem hx] at ih
    rw [List.length_cons]
    omega
theorem in_few {ws : List Int} {cm : Option Int} (h : HallK ws.length cm) {ks : List (List Int × Int)} (hn : ks.Nodup) (hk : ∀ k ∈ ks, InS ws cm k) : ks.length ≤ 30 := by
  have hok := okL_all h
  unfold okL at hok
  simp only [Bool.and_eq_true, decide_eq_true_eq] at hok
  have h1 := nodup_inj (f := dOf ws) hn fun x hx y hy e => dOf_inj (hk x hx).1 (hk y hy).1 e
  have h2 := nd_sub _ (allS ws.length cm) h1 fun t ht => by
    obtain ⟨k, hk1, rfl⟩ := List.mem_map.mp ht
    exact (hk k hk1).2
  rw [List.length_map] at h2
  omega
theorem beh_two (ws ls : List Int) (cm : Option Int) (q : Int) (who : Nat) : (behL ws ls cm q who).length ≤ 2 := by
  unfold behL
  split <;> simp

theorem valV_key {kvs : List ((List Int × Int) × V)} {k : List Int × Int} {v : V} (h : valV kvs k = some v) : k ∈ kvs.map (·.1) := by
  unfold valV at h
  obtain ⟨p, hp, _⟩ := Option.map_eq_some_iff.mp h
  have h1 := List.find?_some hp
  have h2 := List.mem_of_find?_eq_some hp
  have h3 : p.1 = k := by simpa using h1
  rw [← h3]
  exact List.mem_map_of_mem h2
/-! ### kept papers -/
abbrev Kp := (List Int × Int) × Nat
def PV (H : Hp) (p : Kp) (u : V) : Prop := PairV H (p.1, .int (p.2 : Nat)) u
theorem PV.up {H H' : Hp} {p : Kp} {u : V} (s : Tups H H') (h : PV H p u) : PV H' p u := by
  obtain ⟨t, b, e, h1, h2⟩ := h
  exact ⟨t, b, e, s _ _ h1, h2.up s⟩
def kdN (ps : List Kp) : List ((List Int × Int) × V) := ps.map fun p => (p.1, V.int (p.2 : Nat))
theorem kdN_keys (ps : List Kp) : (kdN ps).map (·.1) = ps.map (·.1) := by
  unfold kdN
  rw [List.map_map]
  rfl
def GoodK (n : Nat) (ps : List Kp) : Prop := (ps.map (·.1)).Nodup ∧ (∀ p ∈ ps, p.1.1.length = n ∧ p.2 < n) ∧ ps.length ≤ 100
def LetsK (ws : List Int) (cm : Option Int) (ps : List Kp) : Prop := (ws, 0) ∈ ps.map (·.1) ∧ ∀ p ∈ ps, ∀ b ∈ behL ws p.1.1 cm p.1.2 p.2, ∃ k, b = some k ∧ k ∈ ps.map (·.1)
theorem putAll_new : ∀ (ps kvs : List ((List Int × Int) × V)), ((kvs ++ ps).map (·.1)).Nodup → putAll kvs ps = kvs ++ ps
  | [], kvs, _ => (List.append_nil _).symm
  | p :: ps, kvs, h => by
    have hnew : p.1 ∉ kvs.map (·.1) := fun z => by
      rw [List.map_append, List.map_cons] at h
      exact (List.nodup_append.mp h).2.2 _ z _ List.mem_cons_self rfl
    have hv : valV kvs p.1 = none := by
      cases e : valV kvs p.1 with
      | none => rfl
      | some v => exact absurd (valV_key e) hnew
    show putAll (putK kvs p.1 p.2) ps = _
    rw [putK_new p.2 hv, putAll_new ps _ (by rw [List.append_assoc]; exact h), List.append_assoc]
    rfl
theorem pv_args {H : Hp} {ps : List Kp} {us : List V} (h : AllAt (PV H) ps us) : us.length = (kdN ps).length ∧ ∀ (j : Nat) u q, us[j]? = some u → (kdN ps)[j]? = some q → ∃ t b, u = .ref t ∧ H t = some (.tup [.ref b, q.2]) ∧ StH H b q.1 := by
  refine ⟨by unfold kdN; rw [List.length_map]; exact h.1, fun j u q e1 e2 => ?_⟩
  unfold kdN at e2
  rw [List.getElem?_map] at e2
  obtain ⟨p, hp, rfl⟩ := Option.map_eq_some_iff.mp e2
  exact h.2 j p u hp e1
theorem isSome_iff {kvs : List ((List Int × Int) × V)} {k : List Int × Int} : (valV kvs k).isSome = true ↔ k ∈ kvs.map (·.1) := by
  constructor
  · intro h
    obtain ⟨v, e⟩ := Option.isSome_iff_exists.mp h
    exact valV_key e
  · intro h
    cases e : valV kvs k with
    | some v => rfl
    | none =>
      obtain ⟨p, hp, rfl⟩ := List.mem_map.mp h
      unfold valV at e
      have e' : kvs.find? (fun kv => decide (kv.1 = p.1)) = none := by simpa using e
      have := List.find?_eq_none.mp e' p hp
      simp at this
theorem nodup_new {α : Type} {xs : List α} {i : Nat} {x : α} (h : xs.Nodup) (e : xs[i]? = some x) : x ∉ xs.take i := fun z => by
  obtain ⟨j, hj⟩ := List.mem_iff_getElem?.mp z
  have hlt : j < i := by
    apply Classical.byContradiction
    intro y
    rw [List.getElem?_take_eq_none (by omega)] at hj
    cases hj
  rw [List.getElem?_take_of_lt hlt] at hj
  have h1 := (List.getElem?_eq_some_iff.mp hj)
  have h2 := (List.getElem?_eq_some_iff.mp e)
  obtain ⟨a1, a2⟩ := h1
  obtain ⟨b1, b2⟩ := h2
  exact (List.pairwise_iff_getElem.mp h) j i a1 b1 hlt (a2.trans b2.symm)
theorem AllAt.take {α : Type} {P : α → V → Prop} {rs : List α} {vs : List V} (h : AllAt P rs vs) (n : Nat) : AllAt P (rs.take n) (vs.take n) := by
  refine ⟨by rw [List.length_take, List.length_take, h.1], fun i r v e1 e2 => ?_⟩
  rcases Nat.lt_or_ge i n with z | z
  · rw [List.getElem?_take_of_lt z] at e1 e2
    exact h.2 i r v e1 e2
  · rw [List.getElem?_take_eq_none z] at e1
    cases e1
theorem AllAt.have {α : Type} {P : α → V → Prop} {rs : List α} {vs : List V} (h : AllAt P rs vs) {i : Nat} {r : α} (e : rs[i]? = some r) : ∃ v, vs[i]? = some v ∧ P r v := by
  have hi := (List.getElem?_eq_some_iff.mp e).1
  have h2 : vs[i]? = some (vs[i]'(by rw [h.1]; exact hi)) := List.getElem?_eq_getElem _
  exact ⟨_, h2, h.2 i r _ e h2⟩
theorem gset {i : Nat} {v : V} {σ : L2.St} {H : Hp} {Q : L2.St → Hp → Prop} (h : Q (List.set σ i (some v)) H) : gName i v σ H Q := h
theorem wseq {c : TT} {tb u : TS} {D : Ends} {σ : L2.St} {H : Hp} (h : tWhile c tb { D with nx := u D } σ H) : tSeq (tWhile c tb) u D σ H := h
def lenTo (o : Option HO) : Nat := match o with
  | some (.dT wv) => wv.length
  | _ => 0
theorem rp_nilL {H : Hp} {l : Addr} (h : H l = some (.lst [])) : Rp H (.list []) (.ref l) := by
  unfold Rp
  refine ⟨l, _, rfl, h, ?_⟩
  unfold RpAll
  rfl
theorem eqv_nilL (rs : List (List Int × Int)) : (!PyData.eqv (.list (rs.map dS)) (.list [])) = decide (0 < rs.length) := by
  cases rs with
  | nil => rfl
  | cons r rs => rfl


def lenL (o : Option HO) : Nat := match o with
  | some (.lst vs) => vs.length
  | _ => 0
theorem tups_frz {H : Hp} {D : Addr} {o : HO} {u : HO} (h : H D = some u) (hu : ∀ xs, u ≠ .tup xs) : Tups H (upd H D o) := fun b xs e => by
  rw [upd_ne (fun z => by rw [z, h] at e; exact hu xs (Option.some.inj e))]
  exact e
theorem kdN_snoc (ps : List Kp) (p : Kp) : kdN (ps ++ [p]) = kdN ps ++ [(p.1, V.int (p.2 : Nat))] := by
  unfold kdN
  rw [List.map_append]
  rfl
/-- what the plan has come to -/
def PlanOk (ws : List Int) (cm : Option Int) (ps : List Kp) : Prop := (ps.map (·.1)).Nodup ∧ ∀ p ∈ ps, InS ws cm p.1 ∧ p.2 < ws.length
theorem PlanOk.few {ws : List Int} {cm : Option Int} {ps : List Kp} (h : PlanOk ws cm ps) (hk : HallK ws.length cm) : ps.length ≤ 30 := by
  have := in_few hk h.1 fun k hk' => by
    obtain ⟨p, hp, rfl⟩ := List.mem_map.mp hk'
    exact (h.2 p hp).1
  rw [List.length_map] at this
  exact this
theorem PlanOk.good {ws : List Int} {cm : Option Int} {ps : List Kp} (h : PlanOk ws cm ps) (hk : HallK ws.length cm) : GoodK ws.length ps := ⟨h.1, fun p hp => ⟨(h.2 p hp).1.1, (h.2 p hp).2⟩, by have := h.few hk; omega⟩
theorem PlanOk.snoc {ws : List Int} {cm : Option Int} {ps : List Kp} {z : List Int × Int} {who : Nat} (h : PlanOk ws cm ps) (hz : z ∉ ps.map (·.1)) (h1 : InS ws cm z) (h2 : who < ws.length) : PlanOk ws cm (ps ++ [(z, who)]) := by
  refine ⟨?_, fun p hp => ?_⟩
  · rw [List.map_append]
    exact nodup_snoc2 h.1 hz
  · rcases List.mem_append.mp hp with y | y
    · exact h.2 p y
    · rw [List.mem_singleton.mp y]
      exact ⟨h1, h2⟩
theorem last_at {α : Type} {xs : List α} (h : 0 < xs.length) : ∃ y, xs[xs.length - 1]? = some y := ⟨xs[xs.length - 1], List.getElem?_eq_getElem (by omega)⟩

/-! ### broken papers, no losses in them -/
abbrev Bp := (List Int × Int) × Int
def TV (n : Nat) (H : Hp) (e : Bp) (u : V) : Prop := ∃ t b m, u = .ref t ∧ H t = some (.tup [.ref b, .int e.2, .ref m]) ∧ StH H b e.1 ∧ H m = some (.tup (List.replicate n (V.bl false)))
theorem TV.up {n : Nat} {H H' : Hp} {e : Bp} {u : V} (s : Tups H H') (h : TV n H e u) : TV n H' e u := by
  obtain ⟨t, b, m, e1, h1, h2, h3⟩ := h
  exact ⟨t, b, m, e1, s _ _ h1, h2.up s, s _ _ h3⟩
def kdB (bs : List Bp) : List ((List Int × Int) × V) := bs.map fun p => (p.1, V.int p.2)
theorem kdB_keys (bs : List Bp) : (kdB bs).map (·.1) = bs.map (·.1) := by
  unfold kdB
  rw [List.map_map]
  rfl
def GoodB (ws : List Int) (bs : List Bp) : Prop := (bs.map (·.1)).Nodup ∧ (∀ e ∈ bs, e.1.1.length = ws.length ∧ 1 ≤ e.2) ∧ (ws, 0) ∈ bs.map (·.1) ∧ bs.length ≤ 20
def FallsB (ws : List Int) (cm : Option Int) (bs : List Bp) (e : Bp) (who : Nat) : Prop := ∀ z, aft ws e.1.1 cm e.1.2 who false = some z → ∃ r, (z, r) ∈ bs ∧ r < e.2
def LetsB (ws : List Int) (cm : Option Int) (bs : List Bp) : Prop := ∀ e ∈ bs, ∀ who, who < ws.length → FallsB ws cm bs e who
theorem valB {bs : List Bp} (hn : (bs.map (·.1)).Nodup) {z : List Int × Int} {r : Int} (h : (z, r) ∈ bs) : valV (kdB bs) z = some (.int r) := by
  refine valV_nodup (by rw [kdB_keys]; exact hn) ?_
  unfold kdB
  exact List.mem_map_of_mem (f := fun p : Bp => (p.1, V.int p.2)) h
theorem valB_of {bs : List Bp} {z : List Int × Int} {v : V} (h : valV (kdB bs) z = some v) : ∃ r, v = .int r ∧ (z, r) ∈ bs := by
  have hm := valV_mem h
  unfold kdB at hm
  obtain ⟨p, hp, e⟩ := List.mem_map.mp hm
  obtain ⟨e1, e2⟩ := Prod.mk.inj e
  exact ⟨p.2, e2.symm, by rw [← e1]; exact hp⟩
theorem tv_args {n : Nat} {H : Hp} {bs : List Bp} {us : List V} (h : AllAt (fun e u => PairV H (e.1, .int e.2) u) bs us) : us.length = (kdB bs).length ∧ ∀ (j : Nat) u q, us[j]? = some u → (kdB bs)[j]? = some q → ∃ t b, u = .ref t ∧ H t = some (.tup [.ref b, q.2]) ∧ StH H b q.1 := by
  refine ⟨by unfold kdB; rw [List.length_map]; exact h.1, fun j u q e1 e2 => ?_⟩
  unfold kdB at e2
  rw [List.getElem?_map] at e2
  obtain ⟨p, hp, rfl⟩ := Option.map_eq_some_iff.mp e2
  exact h.2 j p u hp e1
theorem no_true : ∀ n : Nat, inV (.bl true) (List.replicate n (V.bl false)) = false
  | 0 => rfl
  | n + 1 => by
    show (eqV (V.bl false) (V.bl true) || inV (.bl true) (List.replicate n (V.bl false))) = false
    rw [no_true n]
    rfl
theorem flat_bls : ∀ n : Nat, (List.replicate n (V.bl false)).all flatV = true
  | 0 => rfl
  | n + 1 => by
    show (flatV (V.bl false) && (List.replicate n (V.bl false)).all flatV) = true
    rw [flat_bls n]
    rfl
theorem aft_iff {ws ls : List Int} {cm : Option Int} {q : Int} {who : Nat} : ((0 : Int) ∈ leftB ws ls who false → aft ws ls cm q who false = none) ∧ ((0 : Int) ∉ leftB ws ls who false → aft ws ls cm q who false = some (leftB ws ls who false, quietB cm q false)) := by
  unfold aft
  exact ⟨fun h => if_pos h, fun h => if_neg h⟩

theorem cut8 (xs : List Int) : (cutI xs (some 5) (some 13)).length ≤ 8 := by
  unfold cutI
  have e1 : HT.sIx xs.length 0 (some 5) = min 5 xs.length := HT.sIx_nat _ _ 5
  have e2 : HT.sIx xs.length xs.length (some 13) = min 13 xs.length := HT.sIx_nat _ _ 13
  rw [e1, e2, List.length_take, List.length_drop]
  omega
theorem erase_ps {ps : List Kp} {n : Nat} (h : GoodK n ps) (k : Nat) : GoodK n (ps.take k ++ ps.drop (k + 1)) := by
  rw [← List.eraseIdx_eq_take_drop_succ]
  refine ⟨?_, fun p hp => h.2.1 p (List.mem_of_mem_eraseIdx hp), Nat.le_trans (List.length_eraseIdx_le ps k) h.2.2⟩
  exact h.1.sublist ((List.eraseIdx_sublist ps k).map _)
theorem set_ps {ps : List Kp} {n k w : Nat} {p : Kp} (h : GoodK n ps) (hp : ps[k]? = some p) (hw : w < n) : GoodK n (ps.set k (p.1, w)) := by
  refine ⟨?_, fun x hx => ?_, by rw [List.length_set]; exact h.2.2⟩
  · have e : (ps.set k (p.1, w)).map (·.1) = ps.map (·.1) := by
      rw [List.map_set]
      refine List.ext_getElem? fun i => ?_
      rw [List.getElem?_set]
      split
      · rename_i z
        subst z
        have hk := (List.getElem?_eq_some_iff.mp hp).1
        rw [List.length_map, if_pos hk, List.getElem?_map, hp]
        rfl
      · rfl
    rw [e]
    exact h.1
  · rcases List.mem_or_eq_of_mem_set hx with z | z
    · exact h.2.1 x z
    · rw [z]
      exact ⟨(h.2.1 p (List.mem_of_getElem? hp)).1, hw⟩
theorem AllAt.set {α : Type} {P : α → V → Prop} {rs : List α} {vs : List V} {k : Nat} {r : α} {v : V} (h : AllAt P rs vs) (hr : P r v) : AllAt P (rs.set k r) (vs.set k v) := by
  refine ⟨by rw [List.length_set, List.length_set]; exact h.1, fun i a b e1 e2 => ?_⟩
  rw [List.getElem?_set] at e1 e2
  by_cases e : k = i
  · rw [if_pos e] at e1 e2
    split at e1
    · split at e2
      · cases e1
        cases e2
        exact hr
      · cases e2
    · cases e1
  · rw [if_neg e] at e1 e2
    exact h.2 i a b e1 e2
theorem same_bools {r s : Bool} {P : Prop} (h1 : r = true ↔ P) (h2 : s = true ↔ P) : r = s := Bool.eq_iff_iff.mpr (h1.trans h2.symm)

theorem fls_rep (n : Nat) : (List.replicate ((n : Int)).toNat [V.bl false]).flatten = List.replicate n (V.bl false) := by
  rw [Int.toNat_natCast]
  induction n with
  | zero => rfl
  | succ n ih =>
    rw [List.replicate_succ, List.flatten_cons, ih, List.replicate_succ]
    rfl
theorem any_dS (z : List Int × Int) : ∀ ks : List (List Int × Int), (ks.map dS).any (fun e => PyData.eqv e (dS z)) = decide (z ∈ ks)
  | [] => rfl
  | k :: ks => by
    rw [List.map_cons, List.any_cons, any_dS z ks, eqv_dS, Bool.eq_iff_iff]
    simp only [Bool.or_eq_true, decide_eq_true_eq, List.mem_cons]
    exact ⟨fun y => y.imp Eq.symm id, fun y => y.imp Eq.symm id⟩
theorem goodB_snoc {ws : List Int} {bs : List Bp} {k : List Int × Int} (h : GoodB ws bs) (hk : k ∉ bs.map (·.1)) (hl : k.1.length = ws.length) (h20 : bs.length < 20) : GoodB ws (bs ++ [(k, 1)]) := by
  refine ⟨?_, fun e he => ?_, ?_, ?_⟩
  · rw [List.map_append]
    exact nodup_snoc2 h.1 hk
  · rcases List.mem_append.mp he with z | z
    · exact h.2.1 e z
    · rw [List.mem_singleton.mp z]
      exact ⟨hl, Int.le_refl _⟩
  · rw [List.map_append]
    exact List.mem_append_left _ h.2.2.1
  · rw [List.length_append, List.length_singleton]
    omega


theorem vals_d_after : Vals [V.bl false] [Value.bool false] := .cons rfl .nil
section
variable {P : Program} {w : World} {K : PySem.W.Frag} {mg : Str → Option Value} {base : Heap} {f_beginning f_may_lose f_is_listener f_refuse_wrong_turn f_left_behind f_quiet_behind f_after f_all_behind f_lets_kept f_may_answer f_goes_down f_lets_broken f_law_cell f_law_behind f_law_next f_law_longest f_law_plan f_law_lets_kept f_law_kept_asked f_law_lets_broken f_law_broken_asked f_law : Addr}
/-! ### beginning -/
def sp_beginning (K : PySem.W.Frag) : Sp := fun vs H Q _ => ∃ (a : Addr) (v w : V), vs = [.ref a] ∧ H a = some (.tup [v, w]) ∧ ∀ p, H p = none → Q (.ref p) (upd H p (.tup [v, .int 0]))
theorem ok_beginning {fd  : FuncData} (T : Txt K mg f_beginning f_may_lose f_is_listener f_refuse_wrong_turn f_left_behind f_quiet_behind f_after f_all_behind f_lets_kept f_may_answer f_goes_down f_lets_broken f_law_cell f_law_behind f_law_next f_law_longest f_law_plan f_law_lets_kept f_law_kept_asked f_law_lets_broken f_law_broken_asked f_law) (F : Fun K "beginning" "beginning" s_beginning f_beginning fd) : FnOk P w K mg base CX0 1 f_beginning fd ["hall"] (sp_beginning K) := by
  refine F.ok sc_beginning (fun vs H Q E h => ?_) (fun cdv A outer s H vs Q E hr h => ?_)
  · rcases h with ⟨a, v, w, rfl, ha, q⟩ <;> rfl
  · obtain ⟨a, v, w, rfl, ha, q⟩ := h
    refine ⟨_, (pss_one (ps_ret (pe_tup (pa_cons (pe_ix (ix_sq K) (pv 0) pe_int (fun _ _ => rfl)) (pa_cons pe_int pa_nil))))), ?_⟩
    refine ⟨_, rfl, a, _, _, _, rfl, rfl, .inr (SqT.of ha), rfl, ?_⟩
    exact ⟨lenOk, fun p hp => q p hp⟩
/-! ### may_lose -/
def sp_may_lose (K : PySem.W.Frag) : Sp := fun vs H Q _ => ∃ (a b : Addr) (ws ls : List Int) (calm : Option Int) (q : Int), vs = [.ref a, .ref b] ∧ HallAt H a ws calm ∧ StAt H b ls q ∧ Q (.bl (!decide (calm = none) && decide (q = 0))) H
theorem ok_may_lose {fd  : FuncData} (T : Txt K mg f_beginning f_may_lose f_is_listener f_refuse_wrong_turn f_left_behind f_quiet_behind f_after f_all_behind f_lets_kept f_may_answer f_goes_down f_lets_broken f_law_cell f_law_behind f_law_next f_law_longest f_law_plan f_law_lets_kept f_law_kept_asked f_law_lets_broken f_law_broken_asked f_law) (F : Fun K "may_lose" "may_lose" s_may_lose f_may_lose fd) : FnOk P w K mg base CX0 1 f_may_lose fd ["hall", "standing"] (sp_may_lose K) := by
  refine F.ok sc_may_lose (fun vs H Q E h => ?_) (fun cdv A outer s H vs Q E hr h => ?_)
  · rcases h with ⟨a, b, ws, ls, calm, n, rfl, ⟨t, ha, _⟩, ⟨u, hb, _⟩, q⟩ <;> rfl
  · obtain ⟨a, b, ws, ls, calm, n, rfl, ⟨t, ha, _⟩, ⟨u, hb, _⟩, q⟩ := h
    refine ⟨_, (pss_one (ps_ret (pe_andX (pe_cmpR op_notN (pe_ix (ix_sq K) (pv 0) pe_int (fun _ _ => rfl)) pe_non (nomark _)) (pe_one (pe_cmpR op_eq (pe_ix (ix_sq K) (pv 1) pe_int (fun _ _ => rfl)) pe_int (nomark _)))))), ?_⟩
    refine ⟨_, rfl, a, _, _, _, rfl, rfl, .inr (SqT.of ha), rfl, rfl, _, decide (V.int n = V.int 0), rfl, fun _ Q' z => ⟨_, rfl, b, _, _, _, rfl, rfl, .inr (SqT.of hb), rfl, rfl, z⟩, ?_⟩
    have e2 : decide (V.int n = V.int 0) = decide (n = 0) := by simp
    rw [vO_non, e2]
    exact q
/-! ### is_listener -/
def sp_is_listener (K : PySem.W.Frag) : Sp := fun vs H Q _ => ∃ (a : Addr) (ws : List Int) (calm : Option Int) (who : Int), vs = [.ref a, .int who] ∧ HallAt H a ws calm ∧ Q (.bl (decide (0 ≤ who ∧ who < ws.length))) H
theorem ok_is_listener {fd  : FuncData} (T : Txt K mg f_beginning f_may_lose f_is_listener f_refuse_wrong_turn f_left_behind f_quiet_behind f_after f_all_behind f_lets_kept f_may_answer f_goes_down f_lets_broken f_law_cell f_law_behind f_law_next f_law_longest f_law_plan f_law_lets_kept f_law_kept_asked f_law_lets_broken f_law_broken_asked f_law) (F : Fun K "is_listener" "is_listener" s_is_listener f_is_listener fd) : FnOk P w K mg base CX0 1 f_is_listener fd ["hall", "who"] (sp_is_listener K) := by
  refine F.ok sc_is_listener (fun vs H Q E h => ?_) (fun cdv A outer s H vs Q E hr h => ?_)
  · rcases h with ⟨a, ws, calm, who, rfl, ⟨t, ha1, ha2⟩, q⟩ <;> rfl
  · obtain ⟨a, ws, calm, who, rfl, ⟨t, ha1, ha2⟩, q⟩ := h
    refine ⟨_, (pss_one (ps_ret (pe_andX (pe_cmpR op_ge (pv 1) pe_int (nomark _)) (pe_one (pe_cmpR op_lt (pv 1) (pe_callB (call_lenK K) (by rfl) T.n_len PySem.boot_len (pa_cons (pe_ix (ix_sq K) (pv 0) pe_int (fun _ _ => rfl)) pa_nil)) (nomark _)))))), ?_⟩
    refine ⟨_, rfl, _, _, rfl, rfl, _, decide (who < (ws.length : Int)), rfl, fun _ Q' z => ⟨_, rfl, _, rfl, a, _, _, _, rfl, rfl, .inr (SqT.of ha1), rfl, t, _, rfl, .inr (SqT.of ha2), _, _, rfl, rfl, ?_⟩, ?_⟩
    · rw [List.length_map]
      exact z
    · rw [show (decide (who ≥ 0) && decide (who < (ws.length : Int))) = decide (0 ≤ who ∧ who < (ws.length : Int)) by rw [Bool.decide_and]]
      exact q
/-! ### refuse_wrong_turn -/
def sp_refuse_wrong_turn (K : PySem.W.Frag) : Sp := fun vs H Q _ => ∃ (a b : Addr) (ws ls : List Int) (calm : Option Int) (q : Int) (who : Nat) (lost : Bool), vs = [.ref a, .ref b, .int who, .bl lost] ∧ HallAt H a ws calm ∧ StAt H b ls q ∧ who < ws.length ∧ MayB calm q lost ∧ Q .non H
theorem ok_refuse_wrong_turn {fd fd_is_listener fd_may_lose : FuncData} (T : Txt K mg f_beginning f_may_lose f_is_listener f_refuse_wrong_turn f_left_behind f_quiet_behind f_after f_all_behind f_lets_kept f_may_answer f_goes_down f_lets_broken f_law_cell f_law_behind f_law_next f_law_longest f_law_plan f_law_lets_kept f_law_kept_asked f_law_lets_broken f_law_broken_asked f_law) (F : Fun K "refuse_wrong_turn" "refuse_wrong_turn" s_refuse_wrong_turn f_refuse_wrong_turn fd) (G_is_listener : FnOk P w K mg base CX0 1 f_is_listener fd_is_listener ["hall", "who"] (sp_is_listener K)) (B_is_listener : Binds K fd_is_listener ["hall", "who"] []) (G_may_lose : FnOk P w K mg base CX0 1 f_may_lose fd_may_lose ["hall", "standing"] (sp_may_lose K)) (B_may_lose : Binds K fd_may_lose ["hall", "standing"] []) : FnOk P w K mg base CX0 2 f_refuse_wrong_turn fd ["hall", "standing", "who", "lost"] (sp_refuse_wrong_turn K) := by
  refine F.ok sc_refuse_wrong_turn (fun vs H Q E h => ?_) (fun cdv A outer s H vs Q E hr h => ?_)
  · rcases h with ⟨a, b, ws, ls, calm, n, who, lost, rfl, ha, hb, hw, hm, q⟩ <;> rfl
  · obtain ⟨a, b, ws, ls, calm, n, who, lost, rfl, ha, hb, hw, hm, q⟩ := h
    refine ⟨_, (pss_cons (ps_if (pt_not (pt_val (pe_call G_is_listener (hr.mono (by decide)) rfl T.m_is_listener T.k_is_listener B_is_listener .nil pass0 (pa_cons (pv 0) (pa_cons (pv 2) pa_nil))))) (pss_one ps_never) pss_nil) (pss_one (ps_if (PW.pt (pw_andX (pt_val (pv 3)) (pw_and1 (pt_not (pt_val (pe_call G_may_lose (hr.mono (by decide)) rfl T.m_may_lose T.k_may_lose B_may_lose .nil pass0 (pa_cons (pv 0) (pa_cons (pv 1) pa_nil)))))))) (pss_one ps_never) pss_nil))), ?_⟩
    obtain ⟨t, ha1, ha2⟩ := id ha
    refine ⟨_, rfl, _, rfl, a, ws, calm, (who : Int), rfl, ha, _, rfl, ite_f ?_ ?_⟩
    · rw [decide_eq_true (show (0 : Int) ≤ (who : Int) ∧ (who : Int) < (ws.length : Int) by omega)]
      rfl
    refine ⟨_, rfl, _, rfl, !(!decide (calm = none) && decide (n = 0)), fun _ Q' z => ⟨_, rfl, _, rfl, a, b, ws, ls, calm, n, rfl, ha, hb, _, rfl, z⟩, ite_f ?_ q⟩
    cases lost with
    | false => rfl
    | true =>
      obtain ⟨h1, h2⟩ := hm rfl
      simp [h1, h2]
/-! ### left_behind -/
def sp_left_behind (K : PySem.W.Frag) : Sp := fun vs H Q _ => ∃ (a b : Addr) (ws ls : List Int) (calm : Option Int) (q : Int) (who : Nat) (lost : Bool), vs = [.ref a, .ref b, .int who, .bl lost] ∧ HallAt H a ws calm ∧ StAt H b ls q ∧ who < ws.length ∧ ls.length = ws.length ∧ ws.length ≤ 8 ∧ MayB calm q lost ∧
  ∀ (l : Addr) (H' : Hp), H l = none → Same H H' → H' l = some (.lst ((leftB ws ls who lost).map V.int)) → Q (.ref l) H'
theorem ok_left_behind {fd fd_refuse_wrong_turn : FuncData} (T : Txt K mg f_beginning f_may_lose f_is_listener f_refuse_wrong_turn f_left_behind f_quiet_behind f_after f_all_behind f_lets_kept f_may_answer f_goes_down f_lets_broken f_law_cell f_law_behind f_law_next f_law_longest f_law_plan f_law_lets_kept f_law_kept_asked f_law_lets_broken f_law_broken_asked f_law) (F : Fun K "left_behind" "left_behind" s_left_behind f_left_behind fd) (G_refuse_wrong_turn : FnOk P w K mg base CX0 2 f_refuse_wrong_turn fd_refuse_wrong_turn ["hall", "standing", "who", "lost"] (sp_refuse_wrong_turn K)) (B_refuse_wrong_turn : Binds K fd_refuse_wrong_turn ["hall", "standing", "who", "lost"] []) : FnOk P w K mg base CX0 3 f_left_behind fd ["hall", "standing", "who", "lost"] (sp_left_behind K) := by
  refine F.ok sc_left_behind (fun vs H Q E h => ?_) (fun cdv A outer s H vs Q E hr h => ?_)
  · rcases h with ⟨a, b, ws, ls, calm, n, who, lost, rfl, ha, hb, hw, hl, h8, hm, q⟩ <;> rfl
  · obtain ⟨a, b, ws, ls, calm, n, who, lost, rfl, ha, hb, hw, hl, h8, hm, q⟩ := h
    refine ⟨_, (pss_cons (ps_expr (pe_call G_refuse_wrong_turn (hr.mono (by decide)) rfl T.m_refuse_wrong_turn T.k_refuse_wrong_turn B_refuse_wrong_turn .nil pass0 (pa_cons (pv 0) (pa_cons (pv 1) (pa_cons (pv 2) (pa_cons (pv 3) pa_nil)))))) (pss_cons (ps_setComp (i := 4) sc_left_behind.nd rfl (pi_sq (pe_ix (ix_sq K) (pv 1) pe_int (fun _ _ => rfl))) _ rfl cs_left_behind_0 rfl rfl (fun _ _ _ _ => (pg_name (i := 0) nd_left_behind_0 rfl (Or.inl rfl))) (fun _ _ _ _ => pts_nil) (fun _ _ _ _ => (pe_op op_sub (pv 0) pe_int)) rfl rfl) (pss_cons (ps_ifJ (pt_not (pt_val (pv 3))) (pss_one (ps_asg (pe_ix (ix_sq K) (pe_ix (ix_sq K) (pv 0) pe_int (fun _ _ => rfl)) (pv 2) (fun _ _ => rfl)) (pg_sub (pv 4) (pv 2) set_list))) pss_nil) (pss_one (ps_ret (pv 4)))))), ?_⟩
    obtain ⟨t, ha1, ha2⟩ := id ha
    obtain ⟨u, hb1, hb2⟩ := id hb
    refine ⟨_, rfl, _, rfl, _, rfl, _, rfl, a, b, ws, ls, calm, n, who, lost, rfl, ha, hb, hw, hm, ?_⟩
    refine ⟨_, rfl, b, _, _, _, rfl, rfl, .inr (SqT.of hb1), rfl, u, rfl, .inr ⟨⟨_, SqT.of hb2⟩, fun D hD => ?_⟩⟩
    refine comp_tup (K := K) (a := u) (xs := ls.map V.int) (fun i ys H' => ys = ((ls.take i).map (fun x => x - 1)).map V.int ∧ H' D = some (.lst ys) ∧ Same H H') ⟨rfl, upd_same, Same.upd hD⟩ (fun i ys H' _ ⟨_, _, s⟩ => SqT.of (s _ _ hb2)) ?_ ?_
    · rintro i x ys H' hx ⟨rfl, hD', s'⟩ Qe hQ
      rw [List.getElem?_map] at hx
      obtain ⟨y, hy, rfl⟩ := Option.map_eq_some_iff.mp hx
      have hi := (List.getElem?_eq_some_iff.mp hy).1
      refine ⟨_, rfl, _, _, rfl, rfl, hQ _ _ hD' (small1000 (by simp; omega)) ⟨?_, upd_same, s'.new hD⟩⟩
      rw [List.take_add_one, hy]
      simp
    rintro ys H2 ⟨rfl, hD2, s2⟩
    rw [List.length_map, List.take_length] at hD2
    refine ⟨_, rfl, _, rfl, (fun σ' H' => σ' = [some (.ref a), some (.ref b), some (.int (who : Nat)), some (.bl lost), some (.ref D)] ∧ Same H H' ∧ H' D = some (.lst ((leftB ws ls who lost).map V.int))), fun e => ?_, fun e => ?_, ?_⟩
    · have e' : lost = false := by simpa using e
      subst e'
      refine ⟨_, rfl, a, _, _, _, rfl, rfl, .inr (SqT.of (s2 _ _ ha1)), rfl, _, rfl, t, _, _, _, rfl, rfl, .inr (SqT.of (s2 _ _ ha2)), getD_at hw, ?_⟩
      refine ⟨_, rfl, _, rfl, D, _, _, _, rfl, rfl, hD2, ixN_nat (by simp; omega), rfl, s2.new hD, ?_⟩
      rw [upd_same]
      unfold leftB
      simp
    · have e' : lost = true := by simpa using e
      subst e'
      exact ⟨rfl, s2, hD2⟩
    · rintro σ' H' ⟨rfl, s3, e3⟩
      exact ⟨_, rfl, q D H' hD s3 e3⟩
/-! ### quiet_behind -/
def sp_quiet_behind (K : PySem.W.Frag) : Sp := fun vs H Q _ => ∃ (a b : Addr) (ws ls : List Int) (calm : Option Int) (q : Int) (lost : Bool), vs = [.ref a, .ref b, .bl lost] ∧ HallAt H a ws calm ∧ StAt H b ls q ∧ MayB calm q lost ∧ Q (.int (quietB calm q lost)) H
theorem ok_quiet_behind {fd  : FuncData} (T : Txt K mg f_beginning f_may_lose f_is_listener f_refuse_wrong_turn f_left_behind f_quiet_behind f_after f_all_behind f_lets_kept f_may_answer f_goes_down f_lets_broken f_law_cell f_law_behind f_law_next f_law_longest f_law_plan f_law_lets_kept f_law_kept_asked f_law_lets_broken f_law_broken_asked f_law) (F : Fun K "quiet_behind" "quiet_behind" s_quiet_behind f_quiet_behind fd) : FnOk P w K mg base CX0 1 f_quiet_behind fd ["hall", "standing", "lost"] (sp_quiet_behind K) := by
  refine F.ok sc_quiet_behind (fun vs H Q E h => ?_) (fun cdv A outer s H vs Q E hr h => ?_)
  · rcases h with ⟨a, b, ws, ls, calm, n, lost, rfl, ⟨t, ha, _⟩, ⟨u, hb, _⟩, hm, q⟩ <;> rfl
  · obtain ⟨a, b, ws, ls, calm, n, lost, rfl, ⟨t, ha, _⟩, ⟨u, hb, _⟩, hm, q⟩ := h
    refine ⟨_, (pss_cons (ps_if (pt_val (pv 2)) (pss_one (ps_ret (pe_ix (ix_sq K) (pv 0) pe_int (fun _ _ => rfl)))) pss_nil) (pss_one (ps_ret (pe_callB (call_max2 rfl) (by rfl) T.n_max boot_max (pa_cons (pe_op op_sub (pe_ix (ix_sq K) (pv 1) pe_int (fun _ _ => rfl)) pe_int) (pa_cons pe_int pa_nil)))))), ?_⟩
    refine ⟨_, rfl, _, rfl, ?_⟩
    cases lost with
    | true =>
      refine ite_t rfl ?_
      refine ⟨_, rfl, a, _, _, _, rfl, rfl, .inr (SqT.of ha), rfl, ?_⟩
      cases calm with
      | none => exact absurd rfl (hm rfl).1
      | some c => exact q
    | false =>
      refine ite_f rfl ?_
      refine ⟨_, rfl, b, _, _, _, rfl, rfl, .inr (SqT.of hb), rfl, _, _, rfl, rfl, _, _, rfl, ?_⟩
      have e : (if (0 : Int) > n - 1 then (0 : Int) else n - 1) = quietB calm n false := by
        unfold quietB
        rw [if_neg Bool.false_ne_true]
        omega
      show Q (.int (if (0 : Int) > n - 1 then (0 : Int) else n - 1)) H
      rw [e]
      exact q
/-! ### after -/
def sp_after (K : PySem.W.Frag) : Sp := fun vs H Q _ => ∃ (a b : Addr) (ws ls : List Int) (calm : Option Int) (q : Int) (who : Nat) (lost : Bool), vs = [.ref a, .ref b, .int who, .bl lost] ∧ HallAt H a ws calm ∧ StAt H b ls q ∧ who < ws.length ∧ ls.length = ws.length ∧ ws.length ≤ 8 ∧ MayB calm q lost ∧
  ((0 : Int) ∈ leftB ws ls who lost → ∀ H', Same H H' → Q .non H') ∧ ((0 : Int) ∉ leftB ws ls who lost → ∀ (p : Addr) (H' : Hp), Same H H' → StAt H' p (leftB ws ls who lost) (quietB calm q lost) → Q (.ref p) H')
theorem ok_after {fd fd_left_behind fd_quiet_behind : FuncData} (T : Txt K mg f_beginning f_may_lose f_is_listener f_refuse_wrong_turn f_left_behind f_quiet_behind f_after f_all_behind f_lets_kept f_may_answer f_goes_down f_lets_broken f_law_cell f_law_behind f_law_next f_law_longest f_law_plan f_law_lets_kept f_law_kept_asked f_law_lets_broken f_law_broken_asked f_law) (F : FunD K "after" "after" s_after f_after fd) (G_left_behind : FnOk P w K mg base CX0 3 f_left_behind fd_left_behind ["hall", "standing", "who", "lost"] (sp_left_behind K)) (B_left_behind : Binds K fd_left_behind ["hall", "standing", "who", "lost"] []) (G_quiet_behind : FnOk P w K mg base CX0 1 f_quiet_behind fd_quiet_behind ["hall", "standing", "lost"] (sp_quiet_behind K)) (B_quiet_behind : Binds K fd_quiet_behind ["hall", "standing", "lost"] []) : FnOk P w K mg base CX0 4 f_after fd ["hall", "standing", "who", "lost"] (sp_after K) := by
  refine F.ok sc_after (fun vs H Q E h => ?_) (fun cdv A outer s H vs Q E hr h => ?_)
  · rcases h with ⟨a, b, ws, ls, calm, n, who, lost, rfl, ha, hb, hw, hl, h8, hm, q1, q2⟩ <;> rfl
  · obtain ⟨a, b, ws, ls, calm, n, who, lost, rfl, ha, hb, hw, hl, h8, hm, q1, q2⟩ := h
    refine ⟨_, (pss_cons (ps_set (i := 4) sc_after.nd rfl (Or.inl rfl) (pe_call G_left_behind (hr.mono (by decide)) rfl T.m_left_behind T.k_left_behind B_left_behind .nil pass0 (pa_cons (pv 0) (pa_cons (pv 1) (pa_cons (pv 2) (pa_cons (pv 3) pa_nil)))))) (pss_cons (ps_if (pt_cmpR (op_inK K) pe_int (pv 4) rfl) (pss_one (ps_ret pe_non)) pss_nil) (pss_one (ps_ret (pe_tup (pa_cons (pe_callTy call_tuple_of (by rfl) T.n_tuple boot_tuple (pa_cons (pv 4) pa_nil)) (pa_cons (pe_call G_quiet_behind (hr.mono (by decide)) rfl T.m_quiet_behind T.k_quiet_behind B_quiet_behind .nil pass0 (pa_cons (pv 0) (pa_cons (pv 1) (pa_cons (pv 3) pa_nil)))) pa_nil))))))), ?_⟩
    refine ⟨_, rfl, _, rfl, _, rfl, _, rfl, a, b, ws, ls, calm, n, who, lost, rfl, ha, hb, hw, hl, h8, hm, fun l H1 hl0 s1 hl1 => ?_⟩
    refine ⟨_, rfl, l, _, rfl, .inl (SqL.of hl1), rfl, flat_ints _, _, rfl, ?_⟩
    rw [inV_ints]
    refine ite2 (fun h0 => ?_) (fun h0 => ?_)
    · exact q1 (by simpa using h0) H1 s1
    · refine ⟨_, rfl, l, _, rfl, .inl ⟨SqL.of hl1, fun t ht => ?_⟩⟩
      have s2 : Same H (upd H1 t (.tup ((leftB ws ls who lost).map V.int))) := s1.new (s1.free ht)
      refine ⟨_, rfl, _, rfl, _, rfl, a, b, ws, ls, calm, n, lost, rfl, ha.same s2, hb.same s2, hm, lenOk, fun p hp => ?_⟩
      refine q2 (by simpa using h0) p _ (s2.new (s2.free hp)) ⟨t, upd_same, ?_⟩
      rw [upd_ne (fun e => by rw [← e, upd_same] at hp; cases hp), upd_same]
/-! ### all_behind -/
def sp_all_behind (K : PySem.W.Frag) : Sp := fun vs H Q _ => ∃ (a b : Addr) (ws ls : List Int) (cm : Option Int) (q w : Int) (who : Nat), vs = [.ref a, .ref b, .int w] ∧ w = (who : Int) ∧ HallAt H a ws cm ∧ StAt H b ls q ∧ who < ws.length ∧ ls.length = ws.length ∧ ws.length ≤ 8 ∧
  ∀ (l : Addr) (us : List V) (H' : Hp), H l = none → Same H H' → H' l = some (.lst us) → AllAt (BehV H') (behL ws ls cm q who) us → Q (.ref l) H'
theorem ok_all_behind {fd fd_may_lose fd_after : FuncData} (T : Txt K mg f_beginning f_may_lose f_is_listener f_refuse_wrong_turn f_left_behind f_quiet_behind f_after f_all_behind f_lets_kept f_may_answer f_goes_down f_lets_broken f_law_cell f_law_behind f_law_next f_law_longest f_law_plan f_law_lets_kept f_law_kept_asked f_law_lets_broken f_law_broken_asked f_law) (F : Fun K "all_behind" "all_behind" s_all_behind f_all_behind fd) (G_may_lose : FnOk P w K mg base CX0 1 f_may_lose fd_may_lose ["hall", "standing"] (sp_may_lose K)) (B_may_lose : Binds K fd_may_lose ["hall", "standing"] []) (G_after : FnOk P w K mg base CX0 4 f_after fd_after ["hall", "standing", "who", "lost"] (sp_after K)) (B_after : Binds K fd_after ["hall", "standing", "who", "lost"] []) (B_after_d : Binds K fd_after ["hall", "standing", "who", "lost"] [Value.bool false]) : FnOk P w K mg base CX0 5 f_all_behind fd ["hall", "standing", "who"] (sp_all_behind K) := by
  refine F.ok sc_all_behind (fun vs H Q E h => ?_) (fun cdv A outer s H vs Q E hr h => ?_)
  · rcases h with ⟨a, b, ws, ls, cm, n, w0, who, rfl, rfl, ha, hb, hw, hl, h8, q⟩ <;> rfl
  · obtain ⟨a, b, ws, ls, cm, n, w0, who, rfl, rfl, ha, hb, hw, hl, h8, q⟩ := h
    refine ⟨_, (pss_cons (ps_set (i := 3) sc_all_behind.nd rfl (Or.inl rfl) (pe_lst (pa_cons (pe_N (pe_call G_after (hr.mono (by decide)) rfl T.m_after T.k_after B_after_d (vals_d_after) pass0 (pa_cons (pv 0) (pa_cons (pv 1) (pa_cons (pv 2) pa_nil))))) pa_nil))) (pss_cons (ps_ifJ (pt_val (pe_call G_may_lose (hr.mono (by decide)) rfl T.m_may_lose T.k_may_lose B_may_lose .nil pass0 (pa_cons (pv 0) (pa_cons (pv 1) pa_nil)))) (pss_one (ps_expr (pe_bm PySem.F.plainAttrs_list PySem.F.slot_list_append PySem.F.type_list_append mt_append (pv 3) (pa_cons (pe_N (pe_call G_after (hr.mono (by decide)) rfl T.m_after T.k_after B_after .nil pass0 (pa_cons (pv 0) (pa_cons (pv 1) (pa_cons (pv 2) (pa_cons pe_bl pa_nil)))))) pa_nil)))) pss_nil) (pss_one (ps_ret (pv 3))))), ?_⟩
    refine ⟨(fun v H9 => BehV H9 (aft ws ls cm n who false) v ∧ Same H H9), ⟨_, rfl, _, rfl, _, rfl, a, b, ws, ls, cm, n, who, false, rfl, ha, hb, hw, hl, h8, (fun z => nomatch z), (fun hz H2 s2 => ⟨by unfold aft; rw [if_pos hz]; rfl, s2⟩), fun hz p H2 s2 hst => ⟨by unfold aft; rw [if_neg hz]; exact ⟨p, rfl, hst⟩, s2⟩⟩, ?_⟩
    rintro v H1 ⟨hv, s1⟩
    refine ⟨lenOk, fun L hL => ?_⟩
    have s2 : Same H1 (upd H1 L (.lst [v])) := Same.upd hL
    have e2 : (upd H1 L (.lst [v])) L = some (.lst [v]) := upd_same
    generalize upd H1 L (.lst [v]) = H2 at s2 e2 ⊢

    have s12 := s1.trans s2
    refine ⟨_, rfl, _, rfl, a, b, ws, ls, cm, n, rfl, ha.same s12, hb.same s12, _, rfl, (fun σ' H' => ∃ us : List V, σ' = [some (.ref a), some (.ref b), some (.int who), some (.ref L)] ∧ H' L = some (.lst us) ∧ AllAt (BehV H') (behL ws ls cm n who) us ∧ Same H H'), fun hm => ?_, fun hm => ?_, ?_⟩
    · have hm' : mayL cm n = true := hm
      have hmay : MayB cm n true := fun _ => by
        unfold mayL at hm'
        simp only [Bool.and_eq_true, Bool.not_eq_true', decide_eq_false_iff_not, decide_eq_true_eq] at hm'
        exact hm'
      refine ⟨_, rfl, .inl ⟨rfl, _, SqL.of e2⟩, (fun v H9 => BehV H9 (aft ws ls cm n who true) v ∧ Same H2 H9), ⟨_, rfl, _, rfl, _, rfl, a, b, ws, ls, cm, n, who, true, rfl, ha.same s12, hb.same s12, hw, hl, h8, hmay, (fun hz H2 s2 => ⟨by unfold aft; rw [if_pos hz]; rfl, s2⟩), fun hz p H2 s2 hst => ⟨by unfold aft; rw [if_neg hz]; exact ⟨p, rfl, hst⟩, s2⟩⟩, ?_⟩
      rintro v2 H3 ⟨hv2, s3⟩
      have e3 := s3 _ _ e2
      have tt : Tups H3 (upd H3 L (.lst ([v] ++ [v2]))) := Tups.lst e3
      refine ⟨L, _, _, rfl, rfl, e3, small1000 (by simp), [v] ++ [v2], rfl, upd_same, ?_, (s12.trans s3).new (s1.free hL)⟩
      unfold behL
      rw [if_pos hm']
      exact AllAt.cons (hv.up (((Tups.of s2).trans (Tups.of s3)).trans tt)) (AllAt.one (hv2.up tt))
    · have hm' : ¬ mayL cm n = true := by
        rw [show mayL cm n = false from hm]
        exact Bool.false_ne_true
      refine ⟨[v], rfl, e2, ?_, s12⟩
      unfold behL
      rw [if_neg hm']
      exact AllAt.one (hv.up (Tups.of s2))
    rintro σ' H' ⟨us, rfl, eL, hall, s'⟩
    exact ⟨_, rfl, q L us H' (s1.free hL) s' eL hall⟩
/-! ### lets_kept -/
def sp_lets_kept (K : PySem.W.Frag) : Sp := fun vs H Q _ => ∃ (a l : Addr) (ws : List Int) (cm : Option Int) (us : List V) (ps : List Kp), vs = [.ref a, .ref l] ∧ HallAt H a ws cm ∧ 0 < ws.length ∧ ws.length ≤ 8 ∧ (∀ x ∈ ws, 1 ≤ x) ∧ H l = some (.lst us) ∧ AllAt (PV H) ps us ∧ GoodK ws.length ps ∧
  ∀ (r : Bool) (H' : Hp), Same H H' → (r = true ↔ LetsK ws cm ps) → Q (.bl r) H'
theorem ok_lets_kept {fd fd_all_behind fd_beginning fd_is_listener : FuncData} (T : Txt K mg f_beginning f_may_lose f_is_listener f_refuse_wrong_turn f_left_behind f_quiet_behind f_after f_all_behind f_lets_kept f_may_answer f_goes_down f_lets_broken f_law_cell f_law_behind f_law_next f_law_longest f_law_plan f_law_lets_kept f_law_kept_asked f_law_lets_broken f_law_broken_asked f_law) (F : Fun K "lets_kept" "lets_kept" s_lets_kept f_lets_kept fd) (G_all_behind : FnOk P w K mg base CX0 5 f_all_behind fd_all_behind ["hall", "standing", "who"] (sp_all_behind K)) (B_all_behind : Binds K fd_all_behind ["hall", "standing", "who"] []) (G_beginning : FnOk P w K mg base CX0 1 f_beginning fd_beginning ["hall"] (sp_beginning K)) (B_beginning : Binds K fd_beginning ["hall"] []) (G_is_listener : FnOk P w K mg base CX0 1 f_is_listener fd_is_listener ["hall", "who"] (sp_is_listener K)) (B_is_listener : Binds K fd_is_listener ["hall", "who"] []) : FnOk P w K mg base CX0 6 f_lets_kept fd ["hall", "paper"] (sp_lets_kept K) := by
  refine F.ok sc_lets_kept (fun vs H Q E h => ?_) (fun cdv A outer s H vs Q E hr h => ?_)
  · rcases h with ⟨a, l, ws, cm, us, ps, rfl, ha, h0, h8, hw1, hl, hps, hg, q⟩ <;> rfl
  · obtain ⟨a, l, ws, cm, us, ps, rfl, ha, h0, h8, hw1, hl, hps, hg, q⟩ := h
    refine ⟨_, (pss_cons (ps_set (i := 2) sc_lets_kept.nd rfl (Or.inl rfl) (pe_callTy (call_dictT K (hu24 hr) rfl) (by rfl) T.n_dict boot_dict (pa_cons (pv 1) pa_nil))) (pss_cons (ps_if (PW.pt (pw_orY (pt_cmpR op_lt (pe_callB call_lenT (by rfl) T.n_len PySem.boot_len (pa_cons (pv 2) pa_nil)) (pe_callB (call_lenK K) (by rfl) T.n_len PySem.boot_len (pa_cons (pv 1) pa_nil)) (nomark _)) (pw_or1 (pt_cmp (pc_dnotin (hu20 hr) (pe_call G_beginning (hr.mono (by decide)) rfl T.m_beginning T.k_beginning B_beginning .nil pass0 (pa_cons (pv 0) pa_nil)) (pv 2)) rfl)))) (pss_one (ps_ret pe_bl)) pss_nil) (pss_cons (ps_for PassesOwn.never rfl (pi_sq (pv 1)) (pg_tupK K (n := 2) rfl (pgs_cons (pg_name (i := 3) sc_lets_kept.nd rfl (Or.inl rfl)) (pgs_cons (pg_name (i := 4) sc_lets_kept.nd rfl (Or.inl rfl)) pgs_nil))) (pss_cons (ps_if (pt_not (pt_val (pe_call G_is_listener (hr.mono (by decide)) rfl T.m_is_listener T.k_is_listener B_is_listener .nil pass0 (pa_cons (pv 0) (pa_cons (pv 4) pa_nil))))) (pss_one (ps_ret pe_bl)) pss_nil) (pss_one (ps_for PassesOwn.never rfl (pi_sq (pe_call G_all_behind (hr.mono (by decide)) rfl T.m_all_behind T.k_all_behind B_all_behind .nil pass0 (pa_cons (pv 0) (pa_cons (pv 3) (pa_cons (pv 4) pa_nil))))) (pg_name (i := 5) sc_lets_kept.nd rfl (Or.inl rfl)) (pss_one (ps_if (PW.pt (pw_orY (pt_cmpR op_isN (pv 5) pe_non (nomark _)) (pw_or1 (pt_cmp (pc_dnotin (hu20 hr) (pv 5) (pv 2)) rfl)))) (pss_one (ps_ret pe_bl)) pss_nil)))))) (pss_one (ps_ret pe_bl))))), ?_⟩
    obtain ⟨hal, hag⟩ := pv_args hps
    have hnd : ((kdN ps).map (·.1)).Nodup := by
      rw [kdN_keys]
      exact hg.1
    refine ⟨_, rfl, l, us, kdN ps, rfl, SqL.of hl, hal, hag, fun d hd => ?_⟩
    rw [show putAll [] (kdN ps) = kdN ps from putAll_new (kdN ps) [] hnd]
    have s1 : Same H (upd H d (.dT (kdN ps))) := Same.upd hd
    have e1 : (upd H d (.dT (kdN ps))) d = some (.dT (kdN ps)) := upd_same
    generalize upd H d (.dT (kdN ps)) = H1 at s1 e1 ⊢

    have hul := hps.1
    have hkl : (kdN ps).length = ps.length := by
      unfold kdN
      rw [List.length_map]
    have ha1 := ha.same s1
    obtain ⟨wt, ha11, ha12⟩ := id ha1
    refine ⟨_, rfl, d, _, rfl, e1, _, rfl, l, _, rfl, .inl (SqL.of (s1 _ _ hl)), _, _, rfl, rfl, _, rfl, (fun c H' => Same H1 H' ∧ (c = true ↔ ¬ (ws, 0) ∈ ps.map (·.1))), fun hlt => ?_, fun _ => ?_, fun c H2 hc => ?_⟩
    · exfalso
      simp only [decide_eq_true_eq] at hlt
      omega
    · refine ⟨_, rfl, a, _, _, rfl, ha11, fun p hp => ?_⟩
      have s2 : Same H1 (upd H1 p (.tup [.ref wt, .int 0])) := Same.upd hp
      have e2 : (upd H1 p (.tup [.ref wt, .int 0])) p = some (.tup [.ref wt, .int 0]) := upd_same
      generalize upd H1 p (.tup [.ref wt, .int 0]) = H2 at s2 e2 ⊢

      refine ⟨_, rfl, d, _, rfl, DGet.t (s2 _ _ e1) (show StH H2 p (ws, 0) from ⟨wt, e2, s2 _ _ ha12⟩), _, rfl, s2, ?_⟩
      rw [← kdN_keys, ← isSome_iff]
      cases (valV (kdN ps) (ws, 0)).isSome <;> simp
    obtain ⟨s12, hc⟩ := hc
    refine ite2 (fun h => ?_) (fun h => ?_)
    · refine q false _ (s1.trans s12) ⟨(fun z => nomatch z), fun z => absurd z.1 (hc.mp h)⟩
    have hb : (ws, 0) ∈ ps.map (·.1) := Classical.byContradiction fun z => h (hc.mpr z)
    replace e1 := s12 _ _ e1
    replace s1 := s1.trans s12
    clear hc h c ha1 ha11 ha12 wt s12 hd
    generalize H2 = H1 at e1 s1 ⊢

    refine ⟨_, rfl, l, rfl, .inl ⟨⟨_, SqL.of (s1 _ _ hl)⟩, ?_⟩⟩
    refine for_list (K := K) (a := l) (xs := us) (fun i σ H' => ∃ v3 v4 v5 : Option V, σ = [some (.ref a), some (.ref l), some (.ref d), v3, v4, v5] ∧ (∀ p ∈ ps.take i, ∀ b ∈ behL ws p.1.1 cm p.1.2 p.2, ∃ k, b = some k ∧ k ∈ ps.map (·.1)) ∧ Same H1 H') ⟨_, _, _, rfl, (fun p hp => by rw [List.take_zero] at hp; cases hp), Same.refl _⟩ (fun i σ H' _ ⟨_, _, _, _, _, s⟩ => SqL.of (s _ _ (s1 _ _ hl))) ?_ ?_
    · rintro i u σ H2 hu ⟨v3, v4, v5, rfl, hall, s2⟩
      obtain ⟨p, hp, t, b, rfl, ht, hb⟩ := hps.get hu
      obtain ⟨hpl, hpw⟩ := hg.2.1 p (List.mem_of_getElem? hp)
      have s02 := s1.trans s2
      have hst2 : StAt H2 b p.1.1 p.1.2 := sth_same s02 hb
      refine ⟨t, _, rfl, SqT.of (s02 _ _ ht), rfl, _, _, rfl, _, _, rfl, rfl, ?_⟩
      refine ⟨_, rfl, _, rfl, a, ws, cm, _, rfl, ha.same s02, _, rfl, ite_f ?_ ?_⟩
      · rw [decide_eq_true (show (0 : Int) ≤ ((p.2 : Nat) : Int) ∧ ((p.2 : Nat) : Int) < (ws.length : Int) by omega)]
        rfl

      refine ⟨_, rfl, _, rfl, _, rfl, a, b, ws, p.1.1, cm, p.1.2, _, p.2, rfl, rfl, ha.same s02, hst2, hpw, hpl, h8, fun L ys H3 hL s3 eL hys => ⟨L, rfl, .inl ⟨⟨_, SqL.of eL⟩, ?_⟩⟩⟩
      refine for_list (K := K) (a := L) (xs := ys) (fun j σ H' => ∃ v5 : Option V, σ = [some (.ref a), some (.ref l), some (.ref d), some (.ref b), some (.int (p.2 : Nat)), v5] ∧ (∀ x ∈ (behL ws p.1.1 cm p.1.2 p.2).take j, ∃ k, x = some k ∧ k ∈ ps.map (·.1)) ∧ H3 = H') ⟨_, rfl, (fun x hx => by rw [List.take_zero] at hx; cases hx), rfl⟩ (fun j σ H' _ ⟨_, _, _, e⟩ => by rw [← e]; exact SqL.of eL) ?_ ?_
      · rintro j y σ H4 hy ⟨v5, rfl, hin, rfl⟩
        obtain ⟨x, hx, hxv⟩ := hys.get hy
        have s03 := s02.trans s3
        have ed3 := s3 _ _ (s2 _ _ e1)
        cases x with
        | none =>
          obtain rfl : y = V.non := hxv
          refine ⟨_, rfl, rfl, _, rfl, (fun c H' => c = true ∧ H' = H3), (fun _ => ⟨rfl, rfl⟩), (fun z => nomatch z), fun c H5 hc => ?_⟩
          obtain ⟨rfl, rfl⟩ := hc
          refine ite_t rfl ?_
          refine q false _ s03 ⟨(fun z => nomatch z), fun z => ?_⟩
          obtain ⟨k, e, _⟩ := z.2 p (List.mem_of_getElem? hp) none (List.mem_of_getElem? hx)
          cases e
        | some k =>
          obtain ⟨bb, rfl, hk⟩ := hxv
          refine ⟨_, rfl, rfl, _, rfl, (fun c H' => c = !(valV (kdN ps) k).isSome ∧ H' = H3), (fun z => nomatch z), fun _ => ⟨_, rfl, _, rfl, d, _, rfl, DGet.t ed3 (show StH H3 bb k from hk), _, rfl, rfl, rfl⟩, fun c H5 hc => ?_⟩
          obtain ⟨rfl, rfl⟩ := hc
          refine ite2 (fun hn => ?_) (fun hn => ?_)
          · refine q false _ s03 ⟨(fun z => nomatch z), fun z => ?_⟩
            obtain ⟨k', e, hk'⟩ := z.2 p (List.mem_of_getElem? hp) (some k) (List.mem_of_getElem? hx)
            cases e
            rw [← kdN_keys, ← isSome_iff] at hk'
            rw [hk'] at hn
            cases hn
          · refine ⟨_, rfl, fun x' hx' => ?_, rfl⟩
            rw [List.take_add_one, hx] at hx'
            rcases List.mem_append.mp hx' with z | z
            · exact hin x' z
            · have e : x' = some k := by simpa using z
              refine ⟨k, e, ?_⟩
              rw [← kdN_keys, ← isSome_iff]
              cases hv : (valV (kdN ps) k).isSome with
              | true => rfl
              | false =>
                rw [hv] at hn
                exact absurd rfl hn
      rintro σ H4 ⟨v5, rfl, hin, rfl⟩
      rw [hys.1, List.take_length] at hin
      refine ⟨_, _, _, rfl, fun p' hp' => ?_, s2.trans s3⟩
      rw [List.take_add_one, hp] at hp'
      rcases List.mem_append.mp hp' with z | z
      · exact hall p' z
      · have e : p' = p := by simpa using z
        rw [e]
        exact hin
    rintro σ H2 ⟨v3, v4, v5, rfl, hall, s2⟩
    rw [hps.1, List.take_length] at hall

    exact q true _ (s1.trans s2) ⟨fun _ => ⟨hb, hall⟩, fun _ => rfl⟩
/-! ### may_answer -/
def sp_may_answer (K : PySem.W.Frag) : Sp := fun vs H Q _ => ∃ (a b m : Addr) (ws ls : List Int) (cm : Option Int) (q : Int), vs = [.ref a, .ref b, .ref m] ∧ HallAt H a ws cm ∧ StAt H b ls q ∧ H m = some (.tup (List.replicate ws.length (V.bl false))) ∧ Q (.bl true) H
theorem ok_may_answer {fd fd_may_lose : FuncData} (T : Txt K mg f_beginning f_may_lose f_is_listener f_refuse_wrong_turn f_left_behind f_quiet_behind f_after f_all_behind f_lets_kept f_may_answer f_goes_down f_lets_broken f_law_cell f_law_behind f_law_next f_law_longest f_law_plan f_law_lets_kept f_law_kept_asked f_law_lets_broken f_law_broken_asked f_law) (F : Fun K "may_answer" "may_answer" s_may_answer f_may_answer fd) (G_may_lose : FnOk P w K mg base CX0 1 f_may_lose fd_may_lose ["hall", "standing"] (sp_may_lose K)) (B_may_lose : Binds K fd_may_lose ["hall", "standing"] []) : FnOk P w K mg base CX0 2 f_may_answer fd ["hall", "standing", "answers"] (sp_may_answer K) := by
  refine F.ok sc_may_answer (fun vs H Q E h => ?_) (fun cdv A outer s H vs Q E hr h => ?_)
  · rcases h with ⟨a, b, m, ws, ls, cm, n, rfl, ha, hb, hm, q⟩ <;> rfl
  · obtain ⟨a, b, m, ws, ls, cm, n, rfl, ha, hb, hm, q⟩ := h
    refine ⟨_, (pss_cons (ps_if (pt_cmpR op_ne (pe_callB (call_lenK K) (by rfl) T.n_len PySem.boot_len (pa_cons (pv 2) pa_nil)) (pe_callB (call_lenK K) (by rfl) T.n_len PySem.boot_len (pa_cons (pe_ix (ix_sq K) (pv 0) pe_int (fun _ _ => rfl)) pa_nil)) (nomark _)) (pss_one (ps_ret pe_bl)) pss_nil) (pss_one (ps_ret (pe_orX (pe_call G_may_lose (hr.mono (by decide)) rfl T.m_may_lose T.k_may_lose B_may_lose .nil pass0 (pa_cons (pv 0) (pa_cons (pv 1) pa_nil))) (pe_one (pe_cmpR (op_notInK K) pe_bl (pv 2) rfl)))))), ?_⟩
    obtain ⟨wt, ha1, ha2⟩ := id ha
    refine ⟨_, rfl, m, _, rfl, .inr (SqT.of hm), _, rfl, a, _, _, _, rfl, rfl, .inr (SqT.of ha1), rfl, wt, _, rfl, .inr (SqT.of ha2), rfl, _, rfl, ite_f ?_ ?_⟩
    · rw [List.length_map, List.length_replicate]
      simp
    refine ⟨_, rfl, _, rfl, a, b, ws, ls, cm, n, rfl, ha, hb, _, true, rfl, fun _ Q' z => ⟨_, rfl, m, _, rfl, .inr (SqT.of hm), rfl, flat_bls _, ?_⟩, ?_⟩
    · rw [if_pos rfl, no_true]
      exact z
    · rw [Bool.or_true]
      exact q
/-! ### goes_down -/
def sp_goes_down (K : PySem.W.Frag) : Sp := fun vs H Q _ => ∃ (a d b m : Addr) (ws : List Int) (cm : Option Int) (bs : List Bp) (e : Bp), vs = [.ref a, .ref d, .ref b, .ref m] ∧ HallAt H a ws cm ∧ ws.length ≤ 8 ∧ H d = some (.dT (kdB bs)) ∧ StH H b e.1 ∧ e ∈ bs ∧ GoodB ws bs ∧ H m = some (.tup (List.replicate ws.length (V.bl false))) ∧
  ∀ (r : Bool) (H' : Hp), Same H H' → (r = true ↔ ∀ who, who < ws.length → FallsB ws cm bs e who) → Q (.bl r) H'
theorem ok_goes_down {fd fd_after : FuncData} (T : Txt K mg f_beginning f_may_lose f_is_listener f_refuse_wrong_turn f_left_behind f_quiet_behind f_after f_all_behind f_lets_kept f_may_answer f_goes_down f_lets_broken f_law_cell f_law_behind f_law_next f_law_longest f_law_plan f_law_lets_kept f_law_kept_asked f_law_lets_broken f_law_broken_asked f_law) (F : Fun K "goes_down" "goes_down" s_goes_down f_goes_down fd) (G_after : FnOk P w K mg base CX0 4 f_after fd_after ["hall", "standing", "who", "lost"] (sp_after K)) (B_after : Binds K fd_after ["hall", "standing", "who", "lost"] []) (B_after_d : Binds K fd_after ["hall", "standing", "who", "lost"] [Value.bool false]) : FnOk P w K mg base CX0 5 f_goes_down fd ["hall", "listed", "standing", "answers"] (sp_goes_down K) := by
  refine F.ok sc_goes_down (fun vs H Q E h => ?_) (fun cdv A outer s H vs Q E hr h => ?_)
  · rcases h with ⟨a, d, b, m, ws, cm, bs, e, rfl, ha, h8, hd, hb, he, hg, hm, q⟩ <;> rfl
  · obtain ⟨a, d, b, m, ws, cm, bs, e, rfl, ha, h8, hd, hb, he, hg, hm, q⟩ := h
    refine ⟨_, (pss_cons (ps_for PassesOwn.never rfl (pi_enumx (by rfl) T.n_enumerate (pa_cons (pv 3) pa_nil)) (pg_tupK K (n := 2) rfl (pgs_cons (pg_name (i := 4) sc_goes_down.nd rfl (Or.inl rfl)) (pgs_cons (pg_name (i := 5) sc_goes_down.nd rfl (Or.inl rfl)) pgs_nil))) (pss_cons (ps_set (i := 6) sc_goes_down.nd rfl (Or.inl rfl) (pe_call G_after (hr.mono (by decide)) rfl T.m_after T.k_after B_after .nil pass0 (pa_cons (pv 0) (pa_cons (pv 2) (pa_cons (pv 4) (pa_cons (pv 5) pa_nil)))))) (pss_one (ps_if (PW.pt (pw_andX (pt_cmpR op_notN (pv 6) pe_non (nomark _)) (pw_and1 (PW.pt (pw_orX (pt_cmp (pc_dnotin (hu20 hr) (pv 6) (pv 1)) rfl) (pw_or1 (pt_cmpR op_ge (pe_dget (hu20 hr) (pv 1) (pv 6) (fun _ _ => rfl)) (pe_dget (hu20 hr) (pv 1) (pv 2) (fun _ _ => rfl)) (nomark _)))))))) (pss_one (ps_ret pe_bl)) pss_nil)))) (pss_one (ps_ret pe_bl))), ?_⟩
    have hel := (hg.2.1 e he).1
    refine ⟨_, rfl, true, m, rfl, ⟨_, SqT.of hm⟩, ?_⟩
    refine for_enumx (K := K) (b := true) (c := m) (xs := List.replicate ws.length (V.bl false)) (fun i σ H' => ∃ v4 v5 v6 : Option V, σ = [some (.ref a), some (.ref d), some (.ref b), some (.ref m), v4, v5, v6] ∧ (∀ who, who < i → FallsB ws cm bs e who) ∧ Same H H') ⟨_, _, _, rfl, (fun who h => absurd h (Nat.not_lt_zero _)), Same.refl _⟩ (fun i σ H' _ ⟨_, _, _, _, _, s⟩ => SqT.of (s _ _ hm)) ?_ ?_
    · rintro i x T σ H1 hx ⟨v4, v5, v6, rfl, hall, s1⟩ hT
      have hi := (List.getElem?_eq_some_iff.mp hx).1
      rw [List.length_replicate] at hi
      obtain rfl : V.bl false = x := by
        rw [List.getElem?_replicate, if_pos hi] at hx
        exact Option.some.inj hx
      have s2 : Same H1 (upd H1 T (.tup [.int i, .bl false])) := Same.upd hT
      have e2 : (upd H1 T (.tup [.int i, .bl false])) T = some (.tup [.int i, .bl false]) := upd_same
      generalize upd H1 T (.tup [.int i, .bl false]) = H2 at s2 e2 ⊢

      have s12 := s1.trans s2
      have hst2 : StAt H2 b e.1.1 e.1.2 := sth_same s12 hb
      refine ⟨T, _, rfl, SqT.of e2, rfl, _, _, rfl, _, _, rfl, rfl, ?_⟩
      refine ⟨_, rfl, _, rfl, _, rfl, _, rfl, a, b, ws, e.1.1, cm, e.1.2, i, false, rfl, ha.same s12, hst2, hi, hel, h8, (fun z => nomatch z), fun hz H3 s3 => ?_, fun hz p H3 s3 hp => ?_⟩
      · refine ⟨_, rfl, rfl, _, rfl, false, (fun h => absurd h (by decide)), ite_f rfl ?_⟩
        refine ⟨_, _, _, rfl, fun who hw => ?_, s12.trans s3⟩
        by_cases e' : who = i
        · subst e'
          intro z hz'
          rw [aft_iff.1 hz] at hz'
          cases hz'
        · exact hall who (by omega)
      · have hd3 := s3 _ _ (s12 _ _ hd)
        have hb3 : StH H3 b e.1 := sth_same (s12.trans s3) hb
        have hv0 := valB hg.1 (show (e.1, e.2) ∈ bs from he)
        have haf := aft_iff (cm := cm) (q := e.1.2) |>.2 hz
        cases hv : valV (kdB bs) (leftB ws e.1.1 i false, quietB cm e.1.2 false) with
        | none =>
          refine ⟨_, rfl, rfl, _, rfl, true, fun _ Q' z => ⟨_, rfl, _, rfl, d, _, rfl, DGet.t hd3 (show StH H3 p (leftB ws e.1.1 i false, quietB cm e.1.2 false) from hp), _, rfl, true, (fun h => by rw [hv] at h; exact absurd h (by decide)), by rw [Bool.or_true]; exact z⟩, ite_t rfl ?_⟩
          refine q false _ (s12.trans s3) ⟨(fun z => nomatch z), fun z => ?_⟩
          obtain ⟨r, hr, _⟩ := z i hi _ haf
          rw [valB hg.1 hr] at hv
          cases hv
        | some v =>
          obtain ⟨r, rfl, hr⟩ := valB_of hv
          refine ⟨_, rfl, rfl, _, rfl, decide (r ≥ e.2), fun _ Q' z => ⟨_, rfl, _, rfl, d, _, rfl, DGet.t hd3 (show StH H3 p (leftB ws e.1.1 i false, quietB cm e.1.2 false) from hp), _, rfl, decide (r ≥ e.2), fun _ Q2 z2 => ⟨_, rfl, _, rfl, d, .int r, rfl, (by rw [← hv]; exact DGet.t hd3 hp), _, rfl, _, rfl, d, .int e.2, rfl, (by rw [← hv0]; exact DGet.t hd3 hb3), _, _, rfl, rfl, _, rfl, z2⟩, by rw [hv]; exact z⟩, ?_⟩
          refine ite2 (fun h => ?_) (fun h => ?_)
          · have hge : r ≥ e.2 := by simpa using h
            refine q false _ (s12.trans s3) ⟨(fun z => nomatch z), fun z => ?_⟩
            obtain ⟨r', hr', hlt⟩ := z i hi _ haf
            have h1 := valB hg.1 hr'
            rw [hv] at h1
            cases h1
            omega
          · have hlt : r < e.2 := by
              have : ¬ r ≥ e.2 := by simpa using h
              omega
            refine ⟨_, _, _, rfl, fun who hw => ?_, s12.trans s3⟩
            by_cases e' : who = i
            · subst e'
              intro z hz'
              rw [haf] at hz'
              cases hz'
              exact ⟨r, hr, hlt⟩
            · exact hall who (by omega)
    rintro σ H1 ⟨v4, v5, v6, rfl, hall, s1⟩
    rw [List.length_replicate] at hall
    exact q true _ s1 ⟨fun _ => hall, fun _ => rfl⟩
/-! ### lets_broken -/
def sp_lets_broken (K : PySem.W.Frag) : Sp := fun vs H Q _ => ∃ (a l : Addr) (ws : List Int) (cm : Option Int) (us : List V) (bs : List Bp), vs = [.ref a, .ref l] ∧ HallAt H a ws cm ∧ 0 < ws.length ∧ ws.length ≤ 8 ∧ (∀ x ∈ ws, 1 ≤ x) ∧ H l = some (.lst us) ∧ AllAt (TV ws.length H) bs us ∧ GoodB ws bs ∧
  ∀ (r : Bool) (H' : Hp), Same H H' → (r = true ↔ LetsB ws cm bs) → Q (.bl r) H'
theorem ok_lets_broken {fd fd_beginning fd_goes_down fd_may_answer : FuncData} (T : Txt K mg f_beginning f_may_lose f_is_listener f_refuse_wrong_turn f_left_behind f_quiet_behind f_after f_all_behind f_lets_kept f_may_answer f_goes_down f_lets_broken f_law_cell f_law_behind f_law_next f_law_longest f_law_plan f_law_lets_kept f_law_kept_asked f_law_lets_broken f_law_broken_asked f_law) (F : Fun K "lets_broken" "lets_broken" s_lets_broken f_lets_broken fd) (G_beginning : FnOk P w K mg base CX0 1 f_beginning fd_beginning ["hall"] (sp_beginning K)) (B_beginning : Binds K fd_beginning ["hall"] []) (G_goes_down : FnOk P w K mg base CX0 5 f_goes_down fd_goes_down ["hall", "listed", "standing", "answers"] (sp_goes_down K)) (B_goes_down : Binds K fd_goes_down ["hall", "listed", "standing", "answers"] []) (G_may_answer : FnOk P w K mg base CX0 2 f_may_answer fd_may_answer ["hall", "standing", "answers"] (sp_may_answer K)) (B_may_answer : Binds K fd_may_answer ["hall", "standing", "answers"] []) : FnOk P w K mg base CX0 6 f_lets_broken fd ["hall", "paper"] (sp_lets_broken K) := by
  refine F.ok sc_lets_broken (fun vs H Q E h => ?_) (fun cdv A outer s H vs Q E hr h => ?_)
  · rcases h with ⟨a, l, ws, cm, us, bs, rfl, ha, h0, h8, hw1, hl, hbs, hg, q⟩ <;> rfl
  · obtain ⟨a, l, ws, cm, us, bs, rfl, ha, h0, h8, hw1, hl, hbs, hg, q⟩ := h
    refine ⟨_, (pss_cons (ps_set (i := 2) sc_lets_broken.nd rfl (Or.inl rfl) (pe_callTy (call_dictT K (hu24 hr) rfl) (by rfl) T.n_dict boot_dict (pa_cons (pe_comp (pi_sq (pv 1)) _ rfl cs_lets_broken_0 rfl rfl (fun _ _ _ _ => (pg_tupK K (n := 3) rfl (pgs_cons (pg_name (i := 0) nd_lets_broken_0 rfl (Or.inl rfl)) (pgs_cons (pg_name (i := 1) nd_lets_broken_0 rfl (Or.inl rfl)) (pgs_cons (pg_name (i := 2) nd_lets_broken_0 rfl (Or.inl rfl)) pgs_nil))))) (fun _ _ _ _ => pts_nil) (fun _ _ _ _ => (pe_tup (pa_cons (pv 0) (pa_cons (pv 1) pa_nil))))) pa_nil))) (pss_cons (ps_if (PW.pt (pw_orY (pt_cmpR op_lt (pe_callB call_lenT (by rfl) T.n_len PySem.boot_len (pa_cons (pv 2) pa_nil)) (pe_callB (call_lenK K) (by rfl) T.n_len PySem.boot_len (pa_cons (pv 1) pa_nil)) (nomark _)) (pw_or1 (pt_cmp (pc_dnotin (hu20 hr) (pe_call G_beginning (hr.mono (by decide)) rfl T.m_beginning T.k_beginning B_beginning .nil pass0 (pa_cons (pv 0) pa_nil)) (pv 2)) rfl)))) (pss_one (ps_ret pe_bl)) pss_nil) (pss_cons (ps_for PassesOwn.never rfl (pi_sq (pv 1)) (pg_tupK K (n := 3) rfl (pgs_cons (pg_name (i := 3) sc_lets_broken.nd rfl (Or.inl rfl)) (pgs_cons (pg_name (i := 4) sc_lets_broken.nd rfl (Or.inl rfl)) (pgs_cons (pg_name (i := 5) sc_lets_broken.nd rfl (Or.inl rfl)) pgs_nil)))) (pss_cons (ps_if (PW.pt (pw_orY (pt_cmpR op_lt (pv 4) pe_int (nomark _)) (pw_or1 (pt_not (pt_val (pe_call G_may_answer (hr.mono (by decide)) rfl T.m_may_answer T.k_may_answer B_may_answer .nil pass0 (pa_cons (pv 0) (pa_cons (pv 3) (pa_cons (pv 5) pa_nil))))))))) (pss_one (ps_ret pe_bl)) pss_nil) (pss_one (ps_if (pt_not (pt_val (pe_call G_goes_down (hr.mono (by decide)) rfl T.m_goes_down T.k_goes_down B_goes_down .nil pass0 (pa_cons (pv 0) (pa_cons (pv 2) (pa_cons (pv 3) (pa_cons (pv 5) pa_nil))))))) (pss_one (ps_ret pe_bl)) pss_nil)))) (pss_one (ps_ret pe_bl))))), ?_⟩
    have hbl := hg.2.2.2
    have hul := hbs.1
    refine ⟨_, rfl, l, rfl, .inl ⟨⟨_, SqL.of hl⟩, fun D hD => ?_⟩⟩
    refine comp_list3 (K := K) (a := l) (xs := us) (fun i zs H' => H' D = some (.lst zs) ∧ Same H H' ∧ AllAt (fun e u => PairV H' (e.1, .int e.2) u) (bs.take i) zs) ⟨upd_same, Same.upd hD, AllAt.nil⟩ (fun i zs H' _ ⟨_, s, _⟩ => SqL.of (s _ _ hl)) ?_ ?_ ?_ ?_
    · rintro i u zs H' hu ⟨hD', s', hzs⟩
      obtain ⟨p, hp, t, b, m, rfl, ht, hb, hm⟩ := hbs.get hu
      have hi := (List.getElem?_eq_some_iff.mp hu).1
      have hzl := hzs.1
      rw [List.length_take] at hzl
      refine ⟨t, .ref b, .int p.2, .ref m, rfl, SqT.of (s' _ _ ht), ?_⟩
      simp only [tYes, ↓reduceIte]
      refine ⟨_, rfl, _, rfl, lenOk, fun T0 hT0 => ?_⟩
      have s2 : Same H' (upd H' T0 (.tup [.ref b, .int p.2])) := Same.upd hT0
      have e2 : (upd H' T0 (.tup [.ref b, .int p.2])) T0 = some (.tup [.ref b, .int p.2]) := upd_same
      generalize upd H' T0 (.tup [.ref b, .int p.2]) = H2 at s2 e2 ⊢

      have hD2 := s2 _ _ hD'
      have t3 : Tups H2 (upd H2 D (.lst (zs ++ [.ref T0]))) := Tups.lst hD2
      refine ⟨hD2, small1000 (by omega), upd_same, (s'.trans s2).new hD, ?_⟩
      rw [List.take_add_one, hp]
      refine (hzs.imp fun e v z => ?_).append (AllAt.one ⟨T0, b, rfl, t3 _ _ e2, (sth_same (s'.trans s2) hb).up t3⟩)
      obtain ⟨t', b', e', h1, h2⟩ := z
      exact ⟨t', b', e', t3 _ _ (s2 _ _ h1), (sth_same s2 h2).up t3⟩
    · intro σ H1 Q1 Q2 hQ z
      exact hQ _ _ z
    · rintro σ H1 Q1 Q2 hQ ⟨v, e1, v2, e2, z1, z2⟩
      exact ⟨v, e1, v2, e2, z1, fun p hp => hQ _ _ (z2 p hp)⟩
    rintro zs H0 ⟨hD0, s0, hzs⟩
    rw [hul, List.take_length] at hzs
    obtain ⟨hal, hag⟩ := tv_args (n := 0) hzs
    have hnd : ((kdB bs).map (·.1)).Nodup := by
      rw [kdB_keys]
      exact hg.1
    refine ⟨D, zs, kdB bs, rfl, SqL.of hD0, hal, hag, fun d hd => ?_⟩
    rw [show putAll [] (kdB bs) = kdB bs from putAll_new (kdB bs) [] hnd]
    have s1 : Same H (upd H0 d (.dT (kdB bs))) := s0.trans (Same.upd hd)
    have e1 : (upd H0 d (.dT (kdB bs))) d = some (.dT (kdB bs)) := upd_same
    generalize upd H0 d (.dT (kdB bs)) = H1 at s1 e1 ⊢
    have hkl : (kdB bs).length = bs.length := by
      unfold kdB
      rw [List.length_map]
    have ha1 := ha.same s1
    obtain ⟨wt, ha11, ha12⟩ := id ha1
    refine ⟨_, rfl, d, _, rfl, e1, _, rfl, l, _, rfl, .inl (SqL.of (s1 _ _ hl)), _, _, rfl, rfl, _, rfl, (fun c H' => Same H1 H' ∧ c = false), fun hlt => ?_, fun _ => ?_, fun c H2 hc => ?_⟩
    · exfalso
      simp only [decide_eq_true_eq] at hlt
      omega
    · refine ⟨_, rfl, a, _, _, rfl, ha11, fun p hp => ?_⟩
      have s2 : Same H1 (upd H1 p (.tup [.ref wt, .int 0])) := Same.upd hp
      have e2 : (upd H1 p (.tup [.ref wt, .int 0])) p = some (.tup [.ref wt, .int 0]) := upd_same
      generalize upd H1 p (.tup [.ref wt, .int 0]) = H2 at s2 e2 ⊢

      refine ⟨_, rfl, d, _, rfl, DGet.t (s2 _ _ e1) (show StH H2 p (ws, 0) from ⟨wt, e2, s2 _ _ ha12⟩), _, rfl, s2, ?_⟩
      have h := hg.2.2.1
      rw [← kdB_keys, ← isSome_iff] at h
      rw [h]
      rfl
    obtain ⟨s12, rfl⟩ := hc
    refine ite_f rfl ?_
    replace e1 := s12 _ _ e1
    replace s1 := s1.trans s12
    refine ⟨_, rfl, l, rfl, .inl ⟨⟨_, SqL.of (s1 _ _ hl)⟩, ?_⟩⟩
    refine for_list (K := K) (a := l) (xs := us) (fun i σ H' => ∃ v3 v4 v5 : Option V, σ = [some (.ref a), some (.ref l), some (.ref d), v3, v4, v5] ∧ (∀ e ∈ bs.take i, ∀ who, who < ws.length → FallsB ws cm bs e who) ∧ Same H2 H') ⟨_, _, _, rfl, (fun p hp => by rw [List.take_zero] at hp; cases hp), Same.refl _⟩ (fun i σ H' _ ⟨_, _, _, _, _, s⟩ => SqL.of (s _ _ (s1 _ _ hl))) ?_ ?_
    · rintro i u σ H3 hu ⟨v3, v4, v5, rfl, hall, s3⟩
      obtain ⟨e, he, t, b, m, rfl, ht, hb, hm⟩ := hbs.get hu
      have heb := List.mem_of_getElem? he
      obtain ⟨hel, her⟩ := hg.2.1 e heb
      have s03 := s1.trans s3
      refine ⟨t, _, rfl, SqT.of (s03 _ _ ht), rfl, _, _, rfl, _, _, rfl, _, _, rfl, rfl, ?_⟩
      refine ⟨_, rfl, _, _, rfl, rfl, _, rfl, (fun c H' => c = false ∧ H' = H3), (fun h => ?_), (fun _ => ⟨_, rfl, _, rfl, _, rfl, a, b, m, ws, e.1.1, cm, e.1.2, rfl, ha.same s03, sth_same s03 hb, s03 _ _ hm, _, rfl, rfl, rfl⟩), fun c H4 hc => ?_⟩
      · exfalso
        simp only [decide_eq_true_eq] at h
        omega
      obtain ⟨rfl, rfl⟩ := hc
      refine ite_f rfl ?_
      refine ⟨_, rfl, _, rfl, _, rfl, _, rfl, a, d, b, m, ws, cm, bs, e, rfl, ha.same s03, h8, s3 _ _ e1, sth_same s03 hb, heb, hg, s03 _ _ hm, fun r H5 s5 hr => ?_⟩
      refine ⟨_, rfl, ?_⟩
      refine ite2 (fun h => ?_) (fun h => ?_)
      · refine q false _ (s03.trans s5) ⟨(fun z => nomatch z), fun z => ?_⟩
        have := hr.mpr (z e heb)
        rw [this] at h
        cases h
      · have hrt : r = true := by
          cases r with
          | true => rfl
          | false => exact absurd rfl h
        refine ⟨_, _, _, rfl, fun e' he' => ?_, s3.trans s5⟩
        rw [List.take_add_one, he] at he'
        rcases List.mem_append.mp he' with z | z
        · exact hall e' z
        · have ee : e' = e := by simpa using z
          rw [ee]
          exact hr.mp hrt
    rintro σ H3 ⟨v3, v4, v5, rfl, hall, s3⟩
    rw [hul, List.take_length] at hall
    exact q true _ (s1.trans s3) ⟨fun _ => hall, fun _ => rfl⟩
/-! ### law_cell -/
def sp_law_cell (K : PySem.W.Frag) : Sp := fun vs H Q _ => ∃ (a : Addr) (ns : List Int) (k : Int), vs = [.ref a, .int k] ∧ SqL K H a (ns.map V.int) ∧ 0 ≤ k ∧ Q (.int (cellI ns k)) H
theorem ok_law_cell {fd  : FuncData} (T : Txt K mg f_beginning f_may_lose f_is_listener f_refuse_wrong_turn f_left_behind f_quiet_behind f_after f_all_behind f_lets_kept f_may_answer f_goes_down f_lets_broken f_law_cell f_law_behind f_law_next f_law_longest f_law_plan f_law_lets_kept f_law_kept_asked f_law_lets_broken f_law_broken_asked f_law) (F : Fun K "_law_cell" "_law_cell" s_law_cell f_law_cell fd) : FnOk P w K mg base CX0 1 f_law_cell fd ["script", "k"] (sp_law_cell K) := by
  refine F.ok sc_law_cell (fun vs H Q E h => ?_) (fun cdv A outer s H vs Q E hr h => ?_)
  · rcases h with ⟨a, ns, k, rfl, hS, hk, q⟩ <;> rfl
  · obtain ⟨a, ns, k, rfl, hS, hk, q⟩ := h
    refine ⟨_, (pss_cons (ps_if (pt_cmpR op_lt (pv 1) (pe_callB (call_lenK K) (by rfl) T.n_len PySem.boot_len (pa_cons (pv 0) pa_nil)) (nomark _)) (pss_one (ps_ret (pe_ix (ix_sq K) (pv 0) (pv 1) (fun _ _ => rfl)))) pss_nil) (pss_one (ps_ret pe_int))), ?_⟩
    refine ⟨_, rfl, _, rfl, a, _, rfl, .inl hS, _, _, rfl, rfl, _, rfl, ?_⟩
    refine ite2 (fun hlt => ?_) (fun hlt => ?_)
    · have hlt' : k < ns.length := by simpa using hlt
      exact ⟨_, rfl, _, rfl, a, _, _, _, rfl, rfl, .inl hS, atI_int hk hlt', q⟩
    · have hlt' : ¬ k < ns.length := by simpa using hlt
      rw [cellI_out hk hlt'] at q
      exact q
/-! ### law_behind -/
def sp_law_behind (K : PySem.W.Frag) : Sp := fun vs H Q _ => ∃ (a b : Addr) (ws ls : List Int) (cm : Option Int) (q w : Int) (who : Nat) (lost : Bool), vs = [.ref a, .ref b, .int w, .bl lost] ∧ w = (who : Int) ∧ HallAt H a ws cm ∧ StAt H b ls q ∧ who < ws.length ∧ ls.length = ws.length ∧ ws.length ≤ 8 ∧ (∀ x ∈ ws, 1 ≤ x) ∧ (lost = true → cm ≠ none) ∧
  ∀ (v : V) (H' : Hp), Same H H' → BehV H' (aft ws ls cm q who lost) v → Q v H'
theorem ok_law_behind {fd  : FuncData} (T : Txt K mg f_beginning f_may_lose f_is_listener f_refuse_wrong_turn f_left_behind f_quiet_behind f_after f_all_behind f_lets_kept f_may_answer f_goes_down f_lets_broken f_law_cell f_law_behind f_law_next f_law_longest f_law_plan f_law_lets_kept f_law_kept_asked f_law_lets_broken f_law_broken_asked f_law) (F : Fun K "_law_behind" "_law_behind" s_law_behind f_law_behind fd) : FnOk P w K mg base CX0 1 f_law_behind fd ["hall", "standing", "who", "lost"] (sp_law_behind K) := by
  refine F.ok sc_law_behind (fun vs H Q E h => ?_) (fun cdv A outer s H vs Q E hr h => ?_)
  · rcases h with ⟨a, b, ws, ls, cm, n, w0, who, lost, rfl, rfl, ha, hb, hw, hl, h8, hw1, hlc, q⟩ <;> rfl
  · obtain ⟨a, b, ws, ls, cm, n, w0, who, lost, rfl, rfl, ha, hb, hw, hl, h8, hw1, hlc, q⟩ := h
    refine ⟨_, (pss_cons (ps_set (i := 4) sc_law_behind.nd rfl (Or.inl rfl) (pe_lst pa_nil)) (pss_cons (ps_for PassesOwn.never rfl (pi_range1 (by rfl) T.n_range (pa_cons (pe_callB (call_lenK K) (by rfl) T.n_len PySem.boot_len (pa_cons (pe_ix (ix_sq K) (pv 0) pe_int (fun _ _ => rfl)) pa_nil)) pa_nil)) (pg_name (i := 5) sc_law_behind.nd rfl (Or.inl rfl)) (pss_one (ps_if (PW.pt (pw_andX (pt_cmpR op_eq (pv 5) (pv 2) (nomark _)) (pw_and1 (pt_not (pt_val (pv 3)))))) (pss_one (ps_expr (pe_bm PySem.F.plainAttrs_list PySem.F.slot_list_append PySem.F.type_list_append mt_append (pv 4) (pa_cons (pe_ix (ix_sq K) (pe_ix (ix_sq K) (pv 0) pe_int (fun _ _ => rfl)) (pv 5) (fun _ _ => rfl)) pa_nil)))) (pss_one (ps_if (pt_cmpR op_eq (pe_ix (ix_sq K) (pe_ix (ix_sq K) (pv 1) pe_int (fun _ _ => rfl)) (pv 5) (fun _ _ => rfl)) pe_int (nomark _)) (pss_one (ps_ret pe_non)) (pss_one (ps_expr (pe_bm PySem.F.plainAttrs_list PySem.F.slot_list_append PySem.F.type_list_append mt_append (pv 4) (pa_cons (pe_op op_sub (pe_ix (ix_sq K) (pe_ix (ix_sq K) (pv 1) pe_int (fun _ _ => rfl)) (pv 5) (fun _ _ => rfl)) pe_int) pa_nil))))))))) (pss_cons (ps_if (pt_val (pv 3)) (pss_one (ps_ret (pe_tup (pa_cons (pe_callTy call_tuple_of (by rfl) T.n_tuple boot_tuple (pa_cons (pv 4) pa_nil)) (pa_cons (pe_ix (ix_sq K) (pv 0) pe_int (fun _ _ => rfl)) pa_nil))))) pss_nil) (pss_one (ps_ret (pe_tup (pa_cons (pe_callTy call_tuple_of (by rfl) T.n_tuple boot_tuple (pa_cons (pv 4) pa_nil)) (pa_cons (pe_callB (call_max2 rfl) (by rfl) T.n_max boot_max (pa_cons pe_int (pa_cons (pe_op op_sub (pe_ix (ix_sq K) (pv 1) pe_int (fun _ _ => rfl)) pe_int) pa_nil))) pa_nil)))))))), ?_⟩
    obtain ⟨wt, ha1, ha2⟩ := id ha
    obtain ⟨ut, hb1, hb2⟩ := id hb
    refine ⟨lenOk, fun L hL => ?_⟩
    have s1 : Same H (upd H L (.lst [])) := Same.upd hL
    have e1 : (upd H L (.lst [])) L = some (.lst []) := upd_same
    generalize upd H L (.lst []) = H1 at s1 e1 ⊢

    refine ⟨_, rfl, a, _, _, _, rfl, rfl, .inr (SqT.of (s1 _ _ ha1)), rfl, wt, _, rfl, .inr (SqT.of (s1 _ _ ha2)), _, rfl, by omega, by rw [List.length_map]; omega, ?_⟩
    refine for_range (n := (ws.map V.int).length) (fun i σ H' => ∃ v5 : Option V, σ = [some (.ref a), some (.ref b), some (.int (who : Nat)), some (.bl lost), some (.ref L), v5] ∧ H' L = some (.lst (((leftB ws ls who lost).take i).map V.int)) ∧ (0 : Int) ∉ (leftB ws ls who lost).take i ∧ Same H H')
      ⟨_, rfl, e1, (fun z => by rw [List.take_zero] at z; cases z), s1⟩ ?_ ?_
    · rintro i σ H2 hi ⟨v5, rfl, hL2, hz, s2⟩
      rw [List.length_map] at hi
      have hget := leftB_get (ws := ws) (ls := ls) (who := who) (i := i) (lost := lost) (by omega)
      have hlen2 : (((leftB ws ls who lost).take i).map V.int).length ≤ 100 := by
        rw [List.length_map, List.length_take]
        omega
      have atw : atI (ws.map V.int) (0 + (i : Int)) = some (.int (ws.getD i 0)) := at_nat hi (Int.zero_add _)
      have atl : atI (ls.map V.int) (0 + (i : Int)) = some (.int (ls.getD i 0)) := at_nat (by omega) (Int.zero_add _)
      have eqi : decide (V.int (0 + (i : Int)) = V.int (who : Int)) = decide (i = who) := by
        rw [Bool.eq_iff_iff]
        simp
        omega
      refine ⟨_, rfl, _, rfl, rfl, _, rfl, _, fun _ Q' z => ⟨_, rfl, _, rfl, z⟩, ?_⟩
      rw [eqi]
      have next : ∀ (x : Int) (H3 : Hp), (leftB ws ls who lost)[i]? = some x → x ≠ 0 → Same H H3 → (upd H3 L (.lst (((leftB ws ls who lost).take i).map V.int ++ [V.int x]))) L = some (.lst (((leftB ws ls who lost).take (i + 1)).map V.int)) ∧ (0 : Int) ∉ (leftB ws ls who lost).take (i + 1) ∧ Same H (upd H3 L (.lst (((leftB ws ls who lost).take i).map V.int ++ [V.int x]))) := fun x H3 e hx s => by
        refine ⟨?_, ?_, s.new hL⟩
        · rw [upd_same, List.take_add_one, e, List.map_append]
          rfl
        · rw [List.take_add_one, e]
          intro y
          rcases List.mem_append.mp y with z | z
          · exact hz z
          · have : (0 : Int) = x := by simpa using z
            omega
      refine ite2 (fun h0 => ?_) (fun h0 => ?_)
      · have h0' : i = who ∧ lost = false := by
          simp only [Bool.and_eq_true, decide_eq_true_eq, Bool.not_eq_true'] at h0
          exact h0
        rw [if_pos h0'] at hget
        have hge : ws.getD who 0 ≠ 0 := by
          have := hw1 _ (getD_memL hw)
          omega
        obtain ⟨n1, n2, n3⟩ := next _ H2 hget hge s2
        have ew : ws.getD i 0 = ws.getD who 0 := by rw [h0'.1]
        rw [ew] at atw
        exact ⟨_, rfl, .inl ⟨rfl, _, SqL.of hL2⟩, _, rfl, a, _, _, _, rfl, rfl, .inr (SqT.of (s2 _ _ ha1)), rfl, _, rfl, wt, _, _, _, rfl, rfl, .inr (SqT.of (s2 _ _ ha2)), atw, L, _, _, rfl, rfl, hL2, small1000 (by omega), _, rfl, n1, n2, n3⟩
      · have h0' : ¬ (i = who ∧ lost = false) := fun z => h0 (by simp [z.1, z.2])
        rw [if_neg h0'] at hget
        refine ⟨_, rfl, b, _, _, _, rfl, rfl, .inr (SqT.of (s2 _ _ hb1)), rfl, _, rfl, ut, _, _, _, rfl, rfl, .inr (SqT.of (s2 _ _ hb2)), atl, rfl, _, rfl, ?_⟩
        refine ite2 (fun h1 => ?_) (fun h1 => ?_)
        · have h1' : ls.getD i 0 = 1 := by simpa using h1
          refine q .non H2 s2 ?_
          unfold aft
          rw [if_pos ?_]
          · rfl
          · rw [h1'] at hget
            exact List.mem_of_getElem? hget
        · have h1' : ls.getD i 0 ≠ 1 := by simpa using h1
          obtain ⟨n1, n2, n3⟩ := next _ H2 hget (by omega) s2
          exact ⟨_, rfl, .inl ⟨rfl, _, SqL.of hL2⟩, _, rfl, b, _, _, _, rfl, rfl, .inr (SqT.of (s2 _ _ hb1)), rfl, _, rfl, ut, _, _, _, rfl, rfl, .inr (SqT.of (s2 _ _ hb2)), atl, _, _, rfl, rfl, L, _, _, rfl, rfl, hL2, small1000 (by omega), _, rfl, n1, n2, n3⟩
    rintro σ H2 ⟨v5, rfl, hL2, hz, s2⟩
    have hll : (leftB ws ls who lost).length = (ws.map V.int).length := by
      rw [leftB_length, List.length_map]
      exact hl
    rw [← hll, List.take_length] at hL2 hz
    have eaft : aft ws ls cm n who lost = some (leftB ws ls who lost, quietB cm n lost) := by
      unfold aft
      rw [if_neg hz]
    refine ⟨_, rfl, _, rfl, ?_⟩
    cases lost with
    | true =>
      refine ite_t rfl ?_
      refine ⟨_, rfl, L, _, rfl, .inl ⟨SqL.of hL2, fun t ht => ?_⟩⟩
      have s3 : Same H2 (upd H2 t (.tup ((leftB ws ls who true).map V.int))) := Same.upd ht
      have e3 : (upd H2 t (.tup ((leftB ws ls who true).map V.int))) t = some (.tup ((leftB ws ls who true).map V.int)) := upd_same
      generalize upd H2 t (.tup ((leftB ws ls who true).map V.int)) = H3 at s3 e3 ⊢

      cases cm with
      | none => exact absurd rfl (hlc rfl)
      | some c =>
        refine ⟨_, rfl, a, _, _, _, rfl, rfl, .inr (SqT.of (s3 _ _ (s2 _ _ ha1))), rfl, lenOk, fun p hp => ?_⟩
        refine q (.ref p) _ ((s2.trans s3).trans (Same.upd hp)) ?_
        rw [eaft]
        exact ⟨p, rfl, t, upd_same, (Same.upd hp) _ _ e3⟩
    | false =>
      refine ite_f rfl ?_
      refine ⟨_, rfl, L, _, rfl, .inl ⟨SqL.of hL2, fun t ht => ?_⟩⟩
      have s3 : Same H2 (upd H2 t (.tup ((leftB ws ls who false).map V.int))) := Same.upd ht
      have e3 : (upd H2 t (.tup ((leftB ws ls who false).map V.int))) t = some (.tup ((leftB ws ls who false).map V.int)) := upd_same
      generalize upd H2 t (.tup ((leftB ws ls who false).map V.int)) = H3 at s3 e3 ⊢

      refine ⟨_, rfl, b, _, _, _, rfl, rfl, .inr (SqT.of (s3 _ _ (s2 _ _ hb1))), rfl, _, _, rfl, rfl, _, _, rfl, lenOk, fun p hp => ?_⟩
      refine q (.ref p) _ ((s2.trans s3).trans (Same.upd hp)) ?_
      rw [eaft]
      have e : (if n - 1 > 0 then n - 1 else (0 : Int)) = quietB cm n false := by
        unfold quietB
        rw [if_neg Bool.false_ne_true]
        omega
      refine ⟨p, rfl, t, ?_, (Same.upd hp) _ _ e3⟩
      rw [← e]
      exact upd_same
/-! ### law_next -/
def sp_law_next (K : PySem.W.Frag) : Sp := fun vs H Q _ => ∃ (a b : Addr) (ws ls : List Int) (cm : Option Int) (q w : Int) (who : Nat), vs = [.ref a, .ref b, .int w] ∧ w = (who : Int) ∧ HallAt H a ws cm ∧ StAt H b ls q ∧ who < ws.length ∧ ls.length = ws.length ∧ ws.length ≤ 8 ∧ (∀ x ∈ ws, 1 ≤ x) ∧
  ∀ (l : Addr) (us : List V) (H' : Hp), H l = none → Same H H' → H' l = some (.lst us) → AllAt (BehV H') (behL ws ls cm q who) us → Q (.ref l) H'
theorem ok_law_next {fd fd_law_behind : FuncData} (T : Txt K mg f_beginning f_may_lose f_is_listener f_refuse_wrong_turn f_left_behind f_quiet_behind f_after f_all_behind f_lets_kept f_may_answer f_goes_down f_lets_broken f_law_cell f_law_behind f_law_next f_law_longest f_law_plan f_law_lets_kept f_law_kept_asked f_law_lets_broken f_law_broken_asked f_law) (F : Fun K "_law_next" "_law_next" s_law_next f_law_next fd) (G_law_behind : FnOk P w K mg base CX0 1 f_law_behind fd_law_behind ["hall", "standing", "who", "lost"] (sp_law_behind K)) (B_law_behind : Binds K fd_law_behind ["hall", "standing", "who", "lost"] []) : FnOk P w K mg base CX0 2 f_law_next fd ["hall", "standing", "who"] (sp_law_next K) := by
  refine F.ok sc_law_next (fun vs H Q E h => ?_) (fun cdv A outer s H vs Q E hr h => ?_)
  · rcases h with ⟨a, b, ws, ls, cm, n, w0, who, rfl, rfl, ha, hb, hw, hl, h8, hw1, q⟩ <;> rfl
  · obtain ⟨a, b, ws, ls, cm, n, w0, who, rfl, rfl, ha, hb, hw, hl, h8, hw1, q⟩ := h
    refine ⟨_, (pss_cons (ps_set (i := 3) sc_law_next.nd rfl (Or.inl rfl) (pe_lst (pa_cons (pe_call G_law_behind (hr.mono (by decide)) rfl T.m_law_behind T.k_law_behind B_law_behind .nil pass0 (pa_cons (pv 0) (pa_cons (pv 1) (pa_cons (pv 2) (pa_cons pe_bl pa_nil))))) pa_nil))) (pss_cons (ps_ifJ (PW.pt (pw_andX (pt_cmpR op_notN (pe_ix (ix_sq K) (pv 0) pe_int (fun _ _ => rfl)) pe_non (nomark _)) (pw_and1 (pt_cmpR op_eq (pe_ix (ix_sq K) (pv 1) pe_int (fun _ _ => rfl)) pe_int (nomark _))))) (pss_one (ps_expr (pe_bm PySem.F.plainAttrs_list PySem.F.slot_list_append PySem.F.type_list_append mt_append (pv 3) (pa_cons (pe_call G_law_behind (hr.mono (by decide)) rfl T.m_law_behind T.k_law_behind B_law_behind .nil pass0 (pa_cons (pv 0) (pa_cons (pv 1) (pa_cons (pv 2) (pa_cons pe_bl pa_nil))))) pa_nil)))) pss_nil) (pss_one (ps_ret (pv 3))))), ?_⟩
    refine ⟨_, rfl, _, rfl, _, rfl, a, b, ws, ls, cm, n, _, who, false, rfl, rfl, ha, hb, hw, hl, h8, hw1, (fun z => nomatch z), fun v H1 s1 hv => ?_⟩
    refine ⟨lenOk, fun L hL => ?_⟩
    have s2 : Same H1 (upd H1 L (.lst [v])) := Same.upd hL
    have e2 : (upd H1 L (.lst [v])) L = some (.lst [v]) := upd_same
    generalize upd H1 L (.lst [v]) = H2 at s2 e2 ⊢

    have s12 := s1.trans s2
    obtain ⟨wt, ha1, ha2⟩ := id (ha.same s12)
    obtain ⟨ut, hb1, hb2⟩ := id (hb.same s12)
    have eb : (!decide (vO cm = V.non) && decide (V.int n = V.int 0)) = mayL cm n := by
      rw [vO_non]
      simp [mayL]
    refine ⟨_, rfl, a, _, _, _, rfl, rfl, .inr (SqT.of ha1), rfl, rfl, _, rfl, _, fun _ Q' z => ⟨_, rfl, b, _, _, _, rfl, rfl, .inr (SqT.of hb1), rfl, rfl, _, rfl, z⟩, (fun σ' H' => ∃ us : List V, σ' = [some (.ref a), some (.ref b), some (.int who), some (.ref L)] ∧ H' L = some (.lst us) ∧ AllAt (BehV H') (behL ws ls cm n who) us ∧ Same H H'), fun hm => ?_, fun hm => ?_, ?_⟩
    · have hm' : mayL cm n = true := eb.symm.trans hm
      have hcm : cm ≠ none := by
        unfold mayL at hm'
        simp only [Bool.and_eq_true, Bool.not_eq_true', decide_eq_false_iff_not] at hm'
        exact hm'.1
      refine ⟨_, rfl, .inl ⟨rfl, _, SqL.of e2⟩, _, rfl, _, rfl, _, rfl, a, b, ws, ls, cm, n, _, who, true, rfl, rfl, ha.same s12, hb.same s12, hw, hl, h8, hw1, (fun _ => hcm), fun v2 H3 s3 hv2 => ?_⟩
      have e3 := s3 _ _ e2
      have tt : Tups H3 (upd H3 L (.lst ([v] ++ [v2]))) := Tups.lst e3
      refine ⟨L, _, _, rfl, rfl, e3, small1000 (by simp), [v] ++ [v2], rfl, upd_same, ?_, (s12.trans s3).new (s1.free hL)⟩
      unfold behL
      rw [if_pos hm']
      exact AllAt.cons (hv.up (((Tups.of s2).trans (Tups.of s3)).trans tt)) (AllAt.one (hv2.up tt))
    · have hm' : ¬ mayL cm n = true := by
        rw [show mayL cm n = false from eb.symm.trans hm]
        exact Bool.false_ne_true
      refine ⟨[v], rfl, e2, ?_, s12⟩
      unfold behL
      rw [if_neg hm']
      exact AllAt.one (hv.up (Tups.of s2))
    rintro σ' H' ⟨us, rfl, eL, hall, s'⟩
    exact ⟨_, rfl, q L us H' (s1.free hL) s' eL hall⟩
/-! ### law_longest -/
def sp_law_longest (K : PySem.W.Frag) : Sp := fun vs H Q _ => ∃ (a b : Addr) (ws ls : List Int) (cm : Option Int) (q : Int), vs = [.ref a, .ref b] ∧ HallAt H a ws cm ∧ StAt H b ls q ∧ ls.length = ws.length ∧ 0 < ws.length ∧ ws.length ≤ 8 ∧ ∀ (who : Nat) (H' : Hp), Same H H' → who < ws.length → who = am (dOf ws (ls, q)).1 → Q (.int (who : Nat)) H'
theorem ok_law_longest {fd  : FuncData} (T : Txt K mg f_beginning f_may_lose f_is_listener f_refuse_wrong_turn f_left_behind f_quiet_behind f_after f_all_behind f_lets_kept f_may_answer f_goes_down f_lets_broken f_law_cell f_law_behind f_law_next f_law_longest f_law_plan f_law_lets_kept f_law_kept_asked f_law_lets_broken f_law_broken_asked f_law) (F : Fun K "_law_longest" "_law_longest" s_law_longest f_law_longest fd) : FnOk P w K mg base CX0 1 f_law_longest fd ["hall", "standing"] (sp_law_longest K) := by
  refine F.ok sc_law_longest (fun vs H Q E h => ?_) (fun cdv A outer s H vs Q E hr h => ?_)
  · rcases h with ⟨a, b, ws, ls, cm, n, rfl, ha, hb, hl, h0, h8, q⟩ <;> rfl
  · obtain ⟨a, b, ws, ls, cm, n, rfl, ha, hb, hl, h0, h8, q⟩ := h
    refine ⟨_, (pss_cons (ps_setComp (i := 2) sc_law_longest.nd rfl (pi_range1 (by rfl) T.n_range (pa_cons (pe_callB (call_lenK K) (by rfl) T.n_len PySem.boot_len (pa_cons (pe_ix (ix_sq K) (pv 0) pe_int (fun _ _ => rfl)) pa_nil)) pa_nil)) _ rfl cs_law_longest_0 rfl rfl (fun _ _ _ _ => (pg_name (i := 0) nd_law_longest_0 rfl (Or.inl rfl))) (fun _ _ _ _ => pts_nil) (fun _ _ _ _ => (pe_op op_sub (pe_ix (ix_sq K) (pe_ix (ix_sq K) (pv 1) pe_int (fun _ _ => rfl)) (pv 0) (fun _ _ => rfl)) (pe_ix (ix_sq K) (pe_ix (ix_sq K) (pv 2) pe_int (fun _ _ => rfl)) (pv 0) (fun _ _ => rfl)))) rfl rfl) (pss_one (ps_ret (pe_bm PySem.F.plainAttrs_list PySem.F.slot_list_index PySem.F.type_list_index mt_index (pv 2) (pa_cons (pe_callB (call_maxL rfl) (by rfl) T.n_max boot_max (pa_cons (pv 2) pa_nil)) pa_nil))))), ?_⟩
    obtain ⟨wt, ha1, ha2⟩ := id ha
    obtain ⟨ut, hb1, hb2⟩ := id hb
    refine ⟨_, rfl, a, _, _, _, rfl, rfl, .inr (SqT.of ha1), rfl, wt, _, rfl, .inr (SqT.of ha2), _, rfl, by omega, by rw [List.length_map]; omega, fun D hD => ?_⟩
    refine comp_range (fun i ys H' => ys = ((List.zipWith (fun a b => a - b) ws ls).take i).map V.int ∧ H' D = some (.lst ys) ∧ Same H H') ⟨rfl, upd_same, Same.upd hD⟩ ?_ ?_
    · rintro i ys H' hi ⟨rfl, hD', s'⟩ Qe hQ
      rw [List.length_map] at hi
      have hi' : i < ws.length := by omega
      have atw : atI (ws.map V.int) (0 + (i : Int)) = some (.int (ws.getD i 0)) := at_nat hi' (Int.zero_add _)
      have atl : atI (ls.map V.int) (0 + (i : Int)) = some (.int (ls.getD i 0)) := at_nat (by omega) (Int.zero_add _)
      refine ⟨_, rfl, a, _, _, _, rfl, rfl, .inr (SqT.of (s' _ _ ha1)), rfl, _, rfl, wt, _, _, _, rfl, rfl, .inr (SqT.of (s' _ _ ha2)), atw, _, rfl, b, _, _, _, rfl, rfl, .inr (SqT.of (s' _ _ hb1)), rfl, _, rfl, ut, _, _, _, rfl, rfl, .inr (SqT.of (s' _ _ hb2)), atl, _, _, rfl, rfl, ?_⟩
      have eg : (List.zipWith (fun a b => a - b) ws ls)[i]? = some (ws.getD i 0 - ls.getD i 0) := by
        rw [List.getElem?_zipWith, List.getElem?_eq_getElem hi', List.getElem?_eq_getElem (show i < ls.length by omega), List.getD_eq_getElem?_getD, List.getD_eq_getElem?_getD, List.getElem?_eq_getElem hi', List.getElem?_eq_getElem (show i < ls.length by omega)]
        rfl
      refine hQ _ _ hD' (small1000 (by rw [List.length_map, List.length_take]; omega)) ⟨?_, upd_same, s'.new hD⟩
      rw [List.take_add_one, eg, List.map_append]
      rfl
    rintro ys H1 ⟨rfl, hD1, s1⟩
    have hzl : (List.zipWith (fun a b => a - b) ws ls).length = ws.length := by
      rw [List.length_zipWith]
      omega
    rw [List.take_of_length_le (by rw [List.length_map]; omega)] at hD1
    refine ⟨_, rfl, .inl ⟨rfl, _, SqL.of hD1⟩, _, rfl, D, _, rfl, SqL.of hD1, by omega, fun m hm hmax => ?_⟩
    obtain ⟨j, h1, h2⟩ := first_at hm
    have hj := (List.getElem?_eq_some_iff.mp h1).1
    exact ⟨D, _, m, j, rfl, rfl, SqL.of hD1, h1, h2, q j H1 s1 (by omega) (am_eq h1 hmax h2).symm⟩
/-! ### law_plan -/
def sp_law_plan (K : PySem.W.Frag) : Sp := fun vs H Q _ => ∃ (a : Addr) (ws : List Int) (cm : Option Int), vs = [.ref a] ∧ HallAt H a ws cm ∧ HallK ws.length cm ∧ (∀ x ∈ ws, 1 ≤ x) ∧
  ∀ (l : Addr) (us : List V) (ps : List Kp) (H' : Hp), H l = none → Same H H' → H' l = some (.lst us) → AllAt (PV H') ps us → GoodK ws.length ps → 0 < ps.length → Q (.ref l) H'
theorem ok_law_plan {fd fd_law_longest fd_law_next : FuncData} (T : Txt K mg f_beginning f_may_lose f_is_listener f_refuse_wrong_turn f_left_behind f_quiet_behind f_after f_all_behind f_lets_kept f_may_answer f_goes_down f_lets_broken f_law_cell f_law_behind f_law_next f_law_longest f_law_plan f_law_lets_kept f_law_kept_asked f_law_lets_broken f_law_broken_asked f_law) (F : Fun K "_law_plan" "_law_plan" s_law_plan f_law_plan fd) (G_law_longest : FnOk P w K mg base CX0 1 f_law_longest fd_law_longest ["hall", "standing"] (sp_law_longest K)) (B_law_longest : Binds K fd_law_longest ["hall", "standing"] []) (G_law_next : FnOk P w K mg base CX0 2 f_law_next fd_law_next ["hall", "standing", "who"] (sp_law_next K)) (B_law_next : Binds K fd_law_next ["hall", "standing", "who"] []) : FnOk P w K mg base CX0 3 f_law_plan fd ["hall"] (sp_law_plan K) := by
  refine F.ok sc_law_plan (fun vs H Q E h => ?_) (fun cdv A outer s H vs Q E hr h => ?_)
  · rcases h with ⟨a, ws, cm, rfl, ha, hk, hw1, q⟩ <;> rfl
  · obtain ⟨a, ws, cm, rfl, ha, hk, hw1, q⟩ := h
    refine ⟨_, (pss_cons (ps_set (i := 1) sc_law_plan.nd rfl (Or.inr rfl) pe_dnewT) (pss_cons (ps_set (i := 2) sc_law_plan.nd rfl (Or.inl rfl) (pe_lst (pa_cons (pe_tup (pa_cons (pe_ix (ix_sq K) (pv 0) pe_int (fun _ _ => rfl)) (pa_cons pe_int pa_nil))) pa_nil))) (pss_cons (ps_while PassesOwn.never (pt_cmpR (op_neD hr) (pv 2) (pe_lst pa_nil) (nomark _)) (pss_cons (ps_set (i := 3) sc_law_plan.nd rfl (Or.inl rfl) (pe_bm0 PySem.F.plainAttrs_list PySem.F.slot_list_pop PySem.F.type_list_pop mt_pop (pv 2))) (pss_one (ps_ifJ (pt_cmp (pc_dnotin (hu20 hr) (pv 3) (pv 1)) rfl) (pss_cons (ps_dput (hu20 hr) (pv 1) (pv 3) (pe_call G_law_longest (hr.mono (by decide)) rfl T.m_law_longest T.k_law_longest B_law_longest .nil pass0 (pa_cons (pv 0) (pa_cons (pv 3) pa_nil))) rfl) (pss_one (ps_for PassesOwn.never rfl (pi_sq (pe_call G_law_next (hr.mono (by decide)) rfl T.m_law_next T.k_law_next B_law_next .nil pass0 (pa_cons (pv 0) (pa_cons (pv 3) (pa_cons (pe_dget (hu20 hr) (pv 1) (pv 3) (fun _ _ => rfl)) pa_nil))))) (pg_name (i := 4) sc_law_plan.nd rfl (Or.inl rfl)) (pss_one (ps_ifJ (pt_cmpR op_notN (pv 4) pe_non (nomark _)) (pss_one (ps_expr (pe_bm PySem.F.plainAttrs_list PySem.F.slot_list_append PySem.F.type_list_append mt_append (pv 2) (pa_cons (pv 4) pa_nil)))) pss_nil))))) pss_nil)))) (pss_one (ps_ret (pe_thaw (pe_comp (pi_keys (pv 1)) _ rfl cs_law_plan_0 rfl rfl (fun _ _ _ _ => (pg_name (i := 0) nd_law_plan_0 rfl (Or.inl rfl))) (fun _ _ _ _ => pts_nil) (fun _ _ _ _ => (pe_tup (pa_cons (pv 0) (pa_cons (pe_dget (hu20 hr) (pv 1) (pv 0) (fun _ _ => rfl)) pa_nil))))))))))), ?_⟩
    have h8 := hk.2.1
    have h1 := hk.1
    refine fun C hC => ?_
    have s0 : Same H (upd H C (.dT [])) := Same.upd hC
    have e0 : (upd H C (.dT [])) C = some (.dT []) := upd_same
    generalize upd H C (.dT []) = H0 at s0 e0 ⊢

    obtain ⟨wt, ha1, ha2⟩ := id (ha.same s0)
    refine ⟨_, rfl, a, _, _, _, rfl, rfl, .inr (SqT.of ha1), rfl, lenOk, fun b0 hb0 => ?_⟩
    have s1 : Same H0 (upd H0 b0 (.tup [.ref wt, .int 0])) := Same.upd hb0
    have e1 : (upd H0 b0 (.tup [.ref wt, .int 0])) b0 = some (.tup [.ref wt, .int 0]) := upd_same
    generalize upd H0 b0 (.tup [.ref wt, .int 0]) = H1 at s1 e1 ⊢

    refine ⟨lenOk, fun R hR => ?_⟩
    have s2 : Same H1 (upd H1 R (.lst [.ref b0])) := Same.upd hR
    have e2 : (upd H1 R (.lst [.ref b0])) R = some (.lst [.ref b0]) := upd_same
    generalize upd H1 R (.lst [.ref b0]) = H2 at s2 e2 ⊢

    have s12 := (s0.trans s1).trans s2
    have hRH : H R = none := (s0.trans s1).free hR
    have hCR : C ≠ R := ne_of_none (s1 _ _ e0) hR
    dsimp only
    refine gset ?_
    refine wseq ?_
    refine while_by (fun σ' H' => ∃ (ps : List Kp) (rs : List (List Int × Int)) (vs : List V) (v3 v4 : Option V), σ' = [some (.ref a), some (.ref C), some (.ref R), v3, v4] ∧ Same H H' ∧ H' C = some (.dT (kdN ps)) ∧ PlanOk ws cm ps ∧ H' R = some (.lst vs) ∧ AllAt (StV H') rs vs ∧ (∀ z ∈ rs, InS ws cm z) ∧ rs.length ≤ 2 * ps.length + 1 ∧ (0 < ps.length ∨ 0 < rs.length))
      (fun _ H' => 3 * (30 - lenTo (H' C)) + lenL (H' R)) ⟨[], [(ws, 0)], [.ref b0], _, _, rfl, s12, s2 _ _ (s1 _ _ e0), ⟨List.Pairwise.nil, fun p hp => by cases hp⟩, e2, AllAt.one ⟨b0, wt, rfl, s2 _ _ e1, s2 _ _ (s1 _ _ ha2)⟩, (fun z hz => by rw [List.mem_singleton.mp hz]; exact in_begin hk), by simp, .inr (by simp)⟩ ?_ ?_
    · rintro σ' H' ⟨ps, rs, vs, v3, v4, rfl, s', hC', hpo, hR', hrs, hin, hrl, hne0⟩
      have hp30 := hpo.few hk
      refine ⟨_, rfl, lenOk, fun e0 he0 => ?_⟩
      have s3 : Same H' (upd H' e0 (.lst [])) := Same.upd he0
      have e3 : (upd H' e0 (.lst [])) e0 = some (.lst []) := upd_same
      generalize upd H' e0 (.lst []) = H3 at s3 e3 ⊢

      have hrs3 : AllAt (StV H3) rs vs := hrs.imp (fun _ _ y => StV.up (Tups.of s3) y)
      refine ⟨_, _, rp_list (s3 _ _ hR') hrs3, rp_nilL e3, depth_lS rs, _, rfl, ?_⟩
      rw [if_pos rfl, eqv_nilL]
      have hvl := hrs.1
      refine ite2 (fun hne => ?_) (fun hemp => ?_)
      · have hr0 : 0 < rs.length := of_decide_eq_true hne
        obtain ⟨y, hy⟩ := last_at (show 0 < vs.length by omega)
        have hR3 := s3 _ _ hR'
        have hC3 := s3 _ _ hC'
        refine ⟨_, rfl, .inl ⟨rfl, _, SqL.of hR3⟩, R, vs, y, rfl, rfl, hR3, hy, ?_⟩
        obtain ⟨z, hz, b, bu, rfl, hb1, hb2⟩ := hrs3.get hy
        have hzi := hin z (List.mem_of_getElem? hz)
        have s4 : Same H (upd H3 R (.lst vs.dropLast)) := (s'.trans s3).new hRH
        have t4 : Tups H3 (upd H3 R (.lst vs.dropLast)) := Tups.lst hR3
        have hR4 : (upd H3 R (.lst vs.dropLast)) R = some (.lst vs.dropLast) := upd_same
        have hC4 : (upd H3 R (.lst vs.dropLast)) C = some (.dT (kdN ps)) := (upd_ne hCR).trans hC3
        generalize upd H3 R (.lst vs.dropLast) = H4 at s4 t4 hR4 hC4 ⊢
        have hst4 : StAt H4 b z.1 z.2 := ⟨bu, t4 _ _ hb1, t4 _ _ hb2⟩
        have hdl : vs.dropLast = vs.take (vs.length - 1) := List.dropLast_eq_take
        have hrs4 : AllAt (StV H4) (rs.take (vs.length - 1)) vs.dropLast := by
          rw [hdl]
          exact (hrs3.imp (fun _ _ y => StV.up t4 y)).take _
        have hin4 : ∀ z ∈ rs.take (vs.length - 1), InS ws cm z := fun z hz => hin z (List.mem_of_mem_take hz)
        have hl4 : (rs.take (vs.length - 1)).length = rs.length - 1 := by
          rw [List.length_take]
          omega
        have hl4' := hrs4.1
        generalize rs.take (vs.length - 1) = rs4 at hrs4 hin4 hl4 hl4'
        generalize vs.dropLast = vs4 at hR4 hrs4 hl4'
        refine ⟨_, rfl, _, rfl, C, _, rfl, DGet.t hC4 (show StH H4 b z from hst4), _, rfl, _, fun hb => ?_, fun hb => ?_, fun _ _ z => z⟩
        · have hnew : z ∉ ps.map (·.1) := fun y => by
            rw [← kdN_keys, ← isSome_iff] at y
            rw [y] at hb
            cases hb
          refine ⟨_, rfl, _, rfl, a, b, ws, z.1, cm, z.2, rfl, ha.same s4, hst4, hzi.1, by omega, h8, fun who H5 s5 hw hwa => ?_⟩
          have hC5 := s5 _ _ hC4
          have hkl : (kdN ps).length = ps.length := by
            unfold kdN
            rw [List.length_map]
          have hnone : valV (kdN ps) z = none := by
            cases e : valV (kdN ps) z with
            | none => rfl
            | some v =>
              have := valV_key e
              rw [kdN_keys] at this
              exact absurd this hnew
          refine ⟨_, rfl, _, rfl, C, _, rfl, DPut.t hC5 (show StH H5 b z from hst4.same s5) (small1000 (by omega)), ?_⟩
          rw [putK_new _ hnone, show kdN ps ++ [(z, V.int (who : Nat))] = kdN (ps ++ [(z, who)]) from (kdN_snoc ps (z, who)).symm]
          have hpo6 := hpo.snoc hnew hzi hw
          have hp30' := hpo6.few hk
          rw [List.length_append, List.length_singleton] at hp30'
          have hval : valV (kdN (ps ++ [(z, who)])) z = some (.int (who : Nat)) := by
            refine valV_nodup ?_ ?_
            · rw [kdN_keys]
              exact hpo6.1
            · rw [kdN_snoc]
              simp
          have s6 : Same H (upd H5 C (.dT (kdN (ps ++ [(z, who)])))) := (s4.trans s5).new hC
          have t6 : Tups H5 (upd H5 C (.dT (kdN (ps ++ [(z, who)])))) := tups_frz hC5 (fun _ e => nomatch e)
          have hC6 : (upd H5 C (.dT (kdN (ps ++ [(z, who)])))) C = some (.dT (kdN (ps ++ [(z, who)]))) := upd_same
          have hR6 : (upd H5 C (.dT (kdN (ps ++ [(z, who)])))) R = some (.lst vs4) := (upd_ne hCR.symm).trans (s5 _ _ hR4)
          generalize upd H5 C (.dT (kdN (ps ++ [(z, who)]))) = H6 at s6 t6 hC6 hR6 ⊢
          have t46 : Tups H4 H6 := (Tups.of s5).trans t6
          have hst6 : StAt H6 b z.1 z.2 := hst4.up t46
          refine ⟨_, rfl, _, rfl, _, rfl, _, rfl, C, _, rfl, (by rw [← hval]; exact DGet.t hC6 (show StH H6 b z from hst6)), a, b, ws, z.1, cm, z.2, _, who, rfl, rfl, ha.same s6, hst6, hw, hzi.1, h8, hw1, fun L ys H7 hL s7 eL hys => ⟨L, rfl, .inl ⟨⟨_, SqL.of eL⟩, ?_⟩⟩⟩
          have hR7 := s7 _ _ hR6
          have hC7 := s7 _ _ hC6
          have hLR : L ≠ R := fun e => by
            rw [e, hR6] at hL
            cases hL
          have s67 := s6.trans s7
          refine for_list (K := K) (a := L) (xs := ys) (fun j σ H8 => ∃ (rs8 : List (List Int × Int)) (vs8 : List V) (v4 : Option V), σ = [some (.ref a), some (.ref C), some (.ref R), some (.ref b), v4] ∧ Same H H8 ∧ Tups H7 H8 ∧ H8 C = some (.dT (kdN (ps ++ [(z, who)]))) ∧ H8 L = some (.lst ys) ∧ H8 R = some (.lst vs8) ∧ AllAt (StV H8) rs8 vs8 ∧ (∀ z ∈ rs8, InS ws cm z) ∧ rs8.length ≤ rs4.length + j)
            ⟨rs4, vs4, _, rfl, s67, (fun _ _ e => e), hC7, eL, hR7, hrs4.imp (fun _ _ y => StV.up (t46.trans (Tups.of s7)) y), hin4, Nat.le_refl _⟩ (fun j σ H8 _ ⟨_, _, _, _, _, _, _, e, _⟩ => SqL.of e) ?_ ?_
          · rintro j u σ H8 hu ⟨rs8, vs8, v4, rfl, s8, t8, hC8, hL8, hR8, hrs8, hin8, hl8⟩
            have hj := (List.getElem?_eq_some_iff.mp hu).1
            have hy2 := hys.1
            have hb2' := beh_two ws z.1 cm z.2 who
            have hl8' := hrs8.1
            obtain ⟨x, hx, hxv⟩ := hys.get hu
            cases x with
            | none =>
              obtain rfl : u = V.non := hxv
              refine ⟨_, rfl, rfl, _, rfl, _, (fun h => absurd h (by decide)), fun _ => ?_, fun _ _ z => z⟩
              exact ⟨rs8, vs8, _, rfl, s8, t8, hC8, hL8, hR8, hrs8, hin8, by omega⟩
            | some k =>
              obtain ⟨bb, rfl, hk1⟩ := hxv
              obtain ⟨ku, hk2, hk3⟩ := hk1
              refine ⟨_, rfl, rfl, _, rfl, _, fun _ => ?_, (fun h => by simp at h), fun _ _ z => z⟩
              refine ⟨_, rfl, .inl ⟨rfl, _, SqL.of hR8⟩, _, rfl, R, _, _, rfl, rfl, hR8, small1000 (by omega), ?_⟩
              have t9 : Tups H8 (upd H8 R (.lst (vs8 ++ [.ref bb]))) := Tups.lst hR8
              refine ⟨rs8 ++ [k], vs8 ++ [.ref bb], _, rfl, s8.new hRH, t8.trans t9, (upd_ne hCR).trans hC8, (upd_ne hLR).trans hL8, upd_same, ?_, ?_, ?_⟩
              · exact (hrs8.imp (fun _ _ y => StV.up t9 y)).append (AllAt.one ⟨bb, ku, rfl, t9 _ _ (t8 _ _ hk2), t9 _ _ (t8 _ _ hk3)⟩)
              · intro z' hz'
                rcases List.mem_append.mp hz' with y | y
                · exact hin8 z' y
                · rw [List.mem_singleton.mp y]
                  exact in_next hk hzi hw hwa (List.mem_of_getElem? hx)
              · rw [List.length_append, List.length_singleton]
                omega
          rintro σ H8 ⟨rs8, vs8, v4, rfl, s8, t8, hC8, hL8, hR8, hrs8, hin8, hl8⟩
          have hy2 := hys.1
          have hb2' := beh_two ws z.1 cm z.2 who
          have hl8' := hrs8.1
          refine ⟨⟨ps ++ [(z, who)], rs8, vs8, _, _, rfl, s8, hC8, hpo6, hR8, hrs8, hin8, ?_, .inl (by simp)⟩, ?_⟩
          · rw [List.length_append, List.length_singleton]
            omega
          · rw [hC8, hR8, hC', hR']
            show 3 * (30 - (kdN (ps ++ [(z, who)])).length) + vs8.length < 3 * (30 - (kdN ps).length) + vs.length
            rw [hkl, kdN_snoc, List.length_append, List.length_singleton, hkl]
            omega
        · refine ⟨⟨ps, rs4, vs4, _, _, rfl, s4, hC4, hpo, hR4, hrs4, hin4, by omega, ?_⟩, ?_⟩
          · left
            apply Classical.byContradiction
            intro h
            have e : ps = [] := List.length_eq_zero_iff.mp (by omega)
            subst e
            exact nomatch (show true = false from hb)
          · rw [hC4, hR4, hC', hR']
            show 3 * (30 - (kdN ps).length) + vs4.length < 3 * (30 - (kdN ps).length) + vs.length
            omega
      · have hr0 : rs.length = 0 := by
          have : ¬ 0 < rs.length := fun h => hemp (decide_eq_true h)
          omega
        have hC3 := s3 _ _ hC'
        refine ⟨C, .dT (kdN ps), trivial, hC3, _, rfl, C, .dT (kdN ps), rfl, trivial, hC3, fun o D hD => ?_⟩
        have t9 : Tups H3 (upd H3 C (.frz o (.dT (kdN ps)))) := tups_frz hC3 (fun _ e => nomatch e)
        have s9 : Same H (upd H3 C (.frz o (.dT (kdN ps)))) := (s'.trans s3).new hC
        have hC9 : (upd H3 C (.frz o (.dT (kdN ps)))) C = some (.frz o (.dT (kdN ps))) := upd_same
        generalize upd H3 C (.frz o (.dT (kdN ps))) = H9 at t9 s9 hC9 hD ⊢
        have hkl : (kdN ps).length = ps.length := by
          unfold kdN
          rw [List.length_map]
        have hnd : ((kdN ps).map (·.1)).Nodup := by
          rw [kdN_keys]
          exact hpo.1
        have hDC : D ≠ C := fun e => by
          rw [e, hC9] at hD
          cases hD
        refine comp_keys (fun i zs H' => H' D = some (.lst zs) ∧ Same H9 H' ∧ AllAt (PV H') (ps.take i) zs) ⟨upd_same, Same.upd hD, AllAt.nil⟩ (fun i zs H' _ ⟨_, s, _⟩ => s _ _ hC9) ?_ ?_
        · rintro i x y zs H10 hi ⟨k, kb, hkv, rfl, hkb⟩ ⟨hD10, s10, hzs⟩ Qe hQ
          unfold kdN at hkv
          rw [List.getElem?_map] at hkv
          obtain ⟨p, hp, e⟩ := Option.map_eq_some_iff.mp hkv
          obtain ⟨rfl, rfl⟩ := Prod.mk.inj e
          have hval : valV (kdN ps) p.1 = some (.int (p.2 : Nat)) := valV_nodup hnd (by unfold kdN; exact List.mem_map_of_mem (List.mem_of_getElem? hp))
          refine ⟨_, rfl, _, rfl, _, rfl, C, _, rfl, (by rw [← hval]; exact .inr ⟨kdN ps, p.1, kb, .inr ⟨o, s10 _ _ hC9⟩, rfl, hkb, rfl⟩), lenOk, fun t ht => ?_⟩
          have s11 : Same H10 (upd H10 t (.tup [.ref kb, .int (p.2 : Nat)])) := Same.upd ht
          have e11 : (upd H10 t (.tup [.ref kb, .int (p.2 : Nat)])) t = some (.tup [.ref kb, .int (p.2 : Nat)]) := upd_same
          generalize upd H10 t (.tup [.ref kb, .int (p.2 : Nat)]) = H11 at s11 e11 ⊢

          have hD11 := s11 _ _ hD10
          have hzl := hzs.1
          have hpl := (List.getElem?_eq_some_iff.mp hp).1
          rw [List.length_take] at hzl
          have t12 : Tups H11 (upd H11 D (.lst (zs ++ [.ref t]))) := Tups.lst hD11
          refine hQ _ _ hD11 (small1000 (by omega)) ⟨upd_same, (s10.trans s11).new hD, ?_⟩
          rw [List.take_add_one, hp]
          exact (hzs.imp fun _ _ z => PV.up ((Tups.of s11).trans t12) z).append (AllAt.one ⟨t, kb, rfl, t12 _ _ e11, (hkb.up (Tups.of s11)).up t12⟩)
        rintro zs H10 ⟨hD10, s10, hzs⟩
        have hps0 : 0 < ps.length := by omega
        have hC10 := s10 _ _ hC9
        have hle : lenD (.dT (kdN ps)) = ps.length := hkl
        rw [hle, List.take_length] at hzs
        have t12 : Tups H10 (upd H10 C (.dT (kdN ps))) := tups_frz hC10 (fun _ e => nomatch e)
        exact ⟨o, hC10, q D zs ps _ (s9.free hD) ((s9.trans s10).new hC) ((upd_ne hDC).trans hD10) (hzs.imp fun _ _ z => PV.up t12 z) (hpo.good hk) hps0⟩
    · rintro σ H5 Q1 Q2 hQ z
      obtain ⟨v, e1, n1, z⟩ := z
      refine ⟨v, e1, n1, fun p hp => ?_⟩
      obtain ⟨d1, d2, r1, r2, r3, v2, e2, z⟩ := z p hp
      exact ⟨d1, d2, r1, r2, r3, v2, e2, hQ _ _ z⟩
/-! ### law_lets_kept -/
def sp_law_lets_kept (K : PySem.W.Frag) : Sp := fun vs H Q _ => ∃ (a l : Addr) (ws : List Int) (cm : Option Int) (us : List V) (ps : List Kp), vs = [.ref a, .ref l] ∧ HallAt H a ws cm ∧ 0 < ws.length ∧ ws.length ≤ 8 ∧ (∀ x ∈ ws, 1 ≤ x) ∧ H l = some (.lst us) ∧ AllAt (PV H) ps us ∧ GoodK ws.length ps ∧
  ∀ (r : Bool) (H' : Hp), Same H H' → (r = true ↔ LetsK ws cm ps) → Q (.bl r) H'
theorem ok_law_lets_kept {fd fd_law_next : FuncData} (T : Txt K mg f_beginning f_may_lose f_is_listener f_refuse_wrong_turn f_left_behind f_quiet_behind f_after f_all_behind f_lets_kept f_may_answer f_goes_down f_lets_broken f_law_cell f_law_behind f_law_next f_law_longest f_law_plan f_law_lets_kept f_law_kept_asked f_law_lets_broken f_law_broken_asked f_law) (F : Fun K "_law_lets_kept" "_law_lets_kept" s_law_lets_kept f_law_lets_kept fd) (G_law_next : FnOk P w K mg base CX0 2 f_law_next fd_law_next ["hall", "standing", "who"] (sp_law_next K)) (B_law_next : Binds K fd_law_next ["hall", "standing", "who"] []) : FnOk P w K mg base CX0 3 f_law_lets_kept fd ["hall", "paper"] (sp_law_lets_kept K) := by
  refine F.ok sc_law_lets_kept (fun vs H Q E h => ?_) (fun cdv A outer s H vs Q E hr h => ?_)
  · rcases h with ⟨a, l, ws, cm, us, ps, rfl, ha, h0, h8, hw1, hl, hps, hg, q⟩ <;> rfl
  · obtain ⟨a, l, ws, cm, us, ps, rfl, ha, h0, h8, hw1, hl, hps, hg, q⟩ := h
    refine ⟨_, (pss_cons (ps_set (i := 2) sc_law_lets_kept.nd rfl (Or.inl rfl) pe_dnewT) (pss_cons (ps_for PassesOwn.never rfl (pi_sq (pv 1)) (pg_tupK K (n := 2) rfl (pgs_cons (pg_name (i := 3) sc_law_lets_kept.nd rfl (Or.inl rfl)) (pgs_cons (pg_name (i := 4) sc_law_lets_kept.nd rfl (Or.inl rfl)) pgs_nil))) (pss_one (ps_dput (hu20 hr) (pv 2) (pv 3) (pv 4) rfl))) (pss_cons (ps_for PassesOwn.never rfl (pi_sq (pv 1)) (pg_tupK K (n := 2) rfl (pgs_cons (pg_name (i := 3) sc_law_lets_kept.nd rfl (Or.inl rfl)) (pgs_cons (pg_name (i := 4) sc_law_lets_kept.nd rfl (Or.inl rfl)) pgs_nil))) (pss_one (ps_for PassesOwn.never rfl (pi_sq (pe_call G_law_next (hr.mono (by decide)) rfl T.m_law_next T.k_law_next B_law_next .nil pass0 (pa_cons (pv 0) (pa_cons (pv 3) (pa_cons (pv 4) pa_nil))))) (pg_name (i := 5) sc_law_lets_kept.nd rfl (Or.inl rfl)) (pss_one (ps_if (PW.pt (pw_orX (pt_cmpR op_isN (pv 5) pe_non (nomark _)) (pw_or1 (pt_cmp (pc_dnotin (hu20 hr) (pv 5) (pv 2)) rfl)))) (pss_one (ps_ret pe_bl)) pss_nil))))) (pss_one (ps_ret (pe_cmp (pc_din (hu20 hr) (pe_tup (pa_cons (pe_ix (ix_sq K) (pv 0) pe_int (fun _ _ => rfl)) (pa_cons pe_int pa_nil))) (pv 2)) rfl)))))), ?_⟩
    refine fun d hd => ?_
    have s0 : Same H (upd H d (.dT [])) := Same.upd hd
    have e0 : (upd H d (.dT [])) d = some (.dT []) := upd_same
    generalize upd H d (.dT []) = H0 at s0 e0 ⊢

    refine ⟨_, rfl, l, rfl, .inl ⟨⟨_, SqL.of (s0 _ _ hl)⟩, ?_⟩⟩
    refine for_list (K := K) (a := l) (xs := us) (fun i σ H' => ∃ v3 v4 : Option V, σ = [some (.ref a), some (.ref l), some (.ref d), v3, v4, none] ∧ H' d = some (.dT (kdN (ps.take i))) ∧ Same H H') ⟨_, _, rfl, e0, s0⟩ (fun i σ H' _ ⟨_, _, _, _, s⟩ => SqL.of (s _ _ hl)) ?_ ?_
    · rintro i u σ H2 hu ⟨v3, v4, rfl, hd2, s2⟩
      obtain ⟨p, hp, t, b, rfl, ht, hb⟩ := hps.get hu
      have hi := (List.getElem?_eq_some_iff.mp hp).1
      refine ⟨t, _, rfl, SqT.of (s2 _ _ ht), rfl, _, _, rfl, _, _, rfl, rfl, ?_⟩
      refine ⟨_, rfl, _, rfl, _, rfl, d, _, rfl, DPut.t hd2 (sth_same s2 hb) (small1000 (by unfold kdN; rw [List.length_map, List.length_take]; have := hg.2.2; omega)), ?_⟩
      refine ⟨_, _, rfl, ?_, s2.new hd⟩
      have hnew : valV (kdN (ps.take i)) p.1 = none := by
        cases e : valV (kdN (ps.take i)) p.1 with
        | none => rfl
        | some v =>
          have h1 := valV_key e
          rw [kdN_keys, List.map_take] at h1
          exact absurd h1 (nodup_new hg.1 (by rw [List.getElem?_map, hp]; rfl))
      rw [upd_same, putK_new _ hnew, List.take_add_one, hp]
      unfold kdN
      rw [List.map_append]
      rfl
    rintro σ H1 ⟨v3, v4, rfl, e1, s1⟩
    rw [hps.1, List.take_length] at e1

    refine ⟨_, rfl, l, rfl, .inl ⟨⟨_, SqL.of (s1 _ _ hl)⟩, ?_⟩⟩
    refine for_list (K := K) (a := l) (xs := us) (fun i σ H' => ∃ v3 v4 v5 : Option V, σ = [some (.ref a), some (.ref l), some (.ref d), v3, v4, v5] ∧ (∀ p ∈ ps.take i, ∀ b ∈ behL ws p.1.1 cm p.1.2 p.2, ∃ k, b = some k ∧ k ∈ ps.map (·.1)) ∧ Same H1 H') ⟨_, _, _, rfl, (fun p hp => by rw [List.take_zero] at hp; cases hp), Same.refl _⟩ (fun i σ H' _ ⟨_, _, _, _, _, s⟩ => SqL.of (s _ _ (s1 _ _ hl))) ?_ ?_
    · rintro i u σ H2 hu ⟨v3, v4, v5, rfl, hall, s2⟩
      obtain ⟨p, hp, t, b, rfl, ht, hb⟩ := hps.get hu
      obtain ⟨hpl, hpw⟩ := hg.2.1 p (List.mem_of_getElem? hp)
      have s02 := s1.trans s2
      have hst2 : StAt H2 b p.1.1 p.1.2 := sth_same s02 hb
      refine ⟨t, _, rfl, SqT.of (s02 _ _ ht), rfl, _, _, rfl, _, _, rfl, rfl, ?_⟩

      refine ⟨_, rfl, _, rfl, _, rfl, a, b, ws, p.1.1, cm, p.1.2, _, p.2, rfl, rfl, ha.same s02, hst2, hpw, hpl, h8, hw1, fun L ys H3 hL s3 eL hys => ⟨L, rfl, .inl ⟨⟨_, SqL.of eL⟩, ?_⟩⟩⟩
      refine for_list (K := K) (a := L) (xs := ys) (fun j σ H' => ∃ v5 : Option V, σ = [some (.ref a), some (.ref l), some (.ref d), some (.ref b), some (.int (p.2 : Nat)), v5] ∧ (∀ x ∈ (behL ws p.1.1 cm p.1.2 p.2).take j, ∃ k, x = some k ∧ k ∈ ps.map (·.1)) ∧ H3 = H') ⟨_, rfl, (fun x hx => by rw [List.take_zero] at hx; cases hx), rfl⟩ (fun j σ H' _ ⟨_, _, _, e⟩ => by rw [← e]; exact SqL.of eL) ?_ ?_
      · rintro j y σ H4 hy ⟨v5, rfl, hin, rfl⟩
        obtain ⟨x, hx, hxv⟩ := hys.get hy
        have s03 := s02.trans s3
        have ed3 := s3 _ _ (s2 _ _ e1)
        cases x with
        | none =>
          obtain rfl : y = V.non := hxv
          refine ⟨_, rfl, rfl, _, rfl, true, (fun z => nomatch z), ite_t rfl ?_⟩
          refine q false _ s03 ⟨(fun z => nomatch z), fun z => ?_⟩
          obtain ⟨k, e, _⟩ := z.2 p (List.mem_of_getElem? hp) none (List.mem_of_getElem? hx)
          cases e
        | some k =>
          obtain ⟨bb, rfl, hk⟩ := hxv
          refine ⟨_, rfl, rfl, _, rfl, !(valV (kdN ps) k).isSome, fun _ Q' z => ⟨_, rfl, _, rfl, d, _, rfl, DGet.t ed3 (show StH H3 bb k from hk), _, rfl, z⟩, ?_⟩
          refine ite2 (fun hn => ?_) (fun hn => ?_)
          · refine q false _ s03 ⟨(fun z => nomatch z), fun z => ?_⟩
            obtain ⟨k', e, hk'⟩ := z.2 p (List.mem_of_getElem? hp) (some k) (List.mem_of_getElem? hx)
            cases e
            rw [← kdN_keys, ← isSome_iff] at hk'
            rw [hk'] at hn
            cases hn
          · refine ⟨_, rfl, fun x' hx' => ?_, rfl⟩
            rw [List.take_add_one, hx] at hx'
            rcases List.mem_append.mp hx' with z | z
            · exact hin x' z
            · have e : x' = some k := by simpa using z
              refine ⟨k, e, ?_⟩
              rw [← kdN_keys, ← isSome_iff]
              cases hv : (valV (kdN ps) k).isSome with
              | true => rfl
              | false =>
                rw [hv] at hn
                exact absurd rfl hn
      rintro σ H4 ⟨v5, rfl, hin, rfl⟩
      rw [hys.1, List.take_length] at hin
      refine ⟨_, _, _, rfl, fun p' hp' => ?_, s2.trans s3⟩
      rw [List.take_add_one, hp] at hp'
      rcases List.mem_append.mp hp' with z | z
      · exact hall p' z
      · have e : p' = p := by simpa using z
        rw [e]
        exact hin
    rintro σ H2 ⟨v3, v4, v5, rfl, hall, s2⟩
    rw [hps.1, List.take_length] at hall

    have s12 := s1.trans s2
    obtain ⟨wt, ha1, ha2⟩ := id (ha.same s12)
    refine ⟨_, rfl, a, _, _, _, rfl, rfl, .inr (SqT.of ha1), rfl, lenOk, fun p hp => ?_⟩
    have s3 : Same H2 (upd H2 p (.tup [.ref wt, .int 0])) := Same.upd hp
    have e3 : (upd H2 p (.tup [.ref wt, .int 0])) p = some (.tup [.ref wt, .int 0]) := upd_same
    generalize upd H2 p (.tup [.ref wt, .int 0]) = H3 at s3 e3 ⊢

    refine ⟨_, rfl, d, _, rfl, DGet.t (s3 _ _ (s2 _ _ e1)) (show StH H3 p (ws, 0) from ⟨wt, e3, s3 _ _ ha2⟩), q _ _ (s12.trans s3) ?_⟩
    rw [isSome_iff, kdN_keys]
    exact ⟨fun z => ⟨z, hall⟩, fun z => z.1⟩
/-! ### law_kept_asked -/
def sp_law_kept_asked (K : PySem.W.Frag) : Sp := fun vs H Q _ => ∃ (a : Addr) (ns : List Int), vs = [.ref a] ∧ SqL K H a (ns.map V.int) ∧ ns.length ≤ 63 ∧ ∀ H', Same H H' → Q (.bl true) H'
theorem ok_law_kept_asked {fd fd_law_plan fd_lets_kept fd_law_cell fd_law_lets_kept : FuncData} (T : Txt K mg f_beginning f_may_lose f_is_listener f_refuse_wrong_turn f_left_behind f_quiet_behind f_after f_all_behind f_lets_kept f_may_answer f_goes_down f_lets_broken f_law_cell f_law_behind f_law_next f_law_longest f_law_plan f_law_lets_kept f_law_kept_asked f_law_lets_broken f_law_broken_asked f_law) (F : Fun K "_law_kept_asked" "_law_kept_asked" s_law_kept_asked f_law_kept_asked fd) (G_law_plan : FnOk P w K mg base CX0 3 f_law_plan fd_law_plan ["hall"] (sp_law_plan K)) (B_law_plan : Binds K fd_law_plan ["hall"] []) (G_lets_kept : FnOk P w K mg base CX0 6 f_lets_kept fd_lets_kept ["hall", "paper"] (sp_lets_kept K)) (B_lets_kept : Binds K fd_lets_kept ["hall", "paper"] []) (G_law_cell : FnOk P w K mg base CX0 1 f_law_cell fd_law_cell ["script", "k"] (sp_law_cell K)) (B_law_cell : Binds K fd_law_cell ["script", "k"] []) (G_law_lets_kept : FnOk P w K mg base CX0 3 f_law_lets_kept fd_law_lets_kept ["hall", "paper"] (sp_law_lets_kept K)) (B_law_lets_kept : Binds K fd_law_lets_kept ["hall", "paper"] []) : FnOk P w K mg base CX0 7 f_law_kept_asked fd ["script"] (sp_law_kept_asked K) := by
  refine F.ok sc_law_kept_asked (fun vs H Q E h => ?_) (fun cdv A outer s H vs Q E hr h => ?_)
  · rcases h with ⟨a, ns, rfl, hS, hlen, q⟩ <;> rfl
  · obtain ⟨a, ns, rfl, hS, hlen, q⟩ := h
    refine ⟨_, (pss_cons (ps_set (i := 1) sc_law_kept_asked.nd rfl (Or.inl rfl) (pe_slice (sl_listK K) (pv 0) (po_some pe_int) (po_some pe_int))) (pss_cons (ps_set (i := 2) sc_law_kept_asked.nd rfl (Or.inr rfl) (pe_callB (call_max2 rfl) (by rfl) T.n_max boot_max (pa_cons pe_int (pa_cons (pe_callB (call_lenK K) (by rfl) T.n_len PySem.boot_len (pa_cons (pv 1) pa_nil)) pa_nil)))) (pss_cons (ps_set (i := 3) sc_law_kept_asked.nd rfl (Or.inl rfl) (pe_lst pa_nil)) (pss_cons (ps_for PassesOwn.never rfl (pi_range1 (by rfl) T.n_range (pa_cons (pv 2) pa_nil)) (pg_name (i := 4) sc_law_kept_asked.nd rfl (Or.inl rfl)) (pss_cons (ps_set (i := 5) sc_law_kept_asked.nd rfl (Or.inl rfl) (pe_call G_law_cell (hr.mono (by decide)) rfl T.m_law_cell T.k_law_cell B_law_cell .nil pass0 (pa_cons (pv 0) (pa_cons (pe_op op_add pe_int (pv 4)) pa_nil)))) (pss_cons (ps_set (i := 6) sc_law_kept_asked.nd rfl (Or.inl rfl) (pe_op op_sub (pv 2) (pe_callTy call_int1 (by rfl) T.n_int boot_int (pa_cons (pe_cmpR op_eq (pe_op op_mod (pv 5) pe_int) pe_int (nomark _)) pa_nil)))) (pss_cons (ps_ifJ (pt_cmpR op_eq (pe_op op_mod (pv 5) pe_int) pe_int (nomark _)) (pss_one (ps_set (i := 6) sc_law_kept_asked.nd rfl (Or.inl rfl) (pe_op op_add (pv 2) (pe_op op_mod (pe_op op_fdiv (pv 5) pe_int) (pe_op op_pow pe_int pe_int))))) pss_nil) (pss_one (ps_expr (pe_bm PySem.F.plainAttrs_list PySem.F.slot_list_append PySem.F.type_list_append mt_append (pv 3) (pa_cons (pe_callB (call_max2 rfl) (by rfl) T.n_max boot_max (pa_cons pe_int (pa_cons (pv 6) pa_nil))) pa_nil)))))))) (pss_cons (ps_set (i := 7) sc_law_kept_asked.nd rfl (Or.inl rfl) pe_non) (pss_cons (ps_ifJ (PW.pt (pw_andX (pt_cmpR op_lt (pv 2) pe_int (nomark _)) (pw_and1 (pt_cmpR op_gt (pe_op op_mod (pe_call G_law_cell (hr.mono (by decide)) rfl T.m_law_cell T.k_law_cell B_law_cell .nil pass0 (pa_cons (pv 0) (pa_cons pe_int pa_nil))) pe_int) pe_int (nomark _))))) (pss_cons (ps_set (i := 7) sc_law_kept_asked.nd rfl (Or.inl rfl) (pe_op op_mod (pe_call G_law_cell (hr.mono (by decide)) rfl T.m_law_cell T.k_law_cell B_law_cell .nil pass0 (pa_cons (pv 0) (pa_cons pe_int pa_nil))) pe_int)) (pss_one (ps_setComp (i := 3) sc_law_kept_asked.nd rfl (pi_sq (pv 3)) _ rfl cs_law_kept_asked_0 rfl rfl (fun _ _ _ _ => (pg_name (i := 0) nd_law_kept_asked_0 rfl (Or.inl rfl))) (fun _ _ _ _ => pts_nil) (fun _ _ _ _ => (pe_op op_add (pv 0) (pv 1))) rfl rfl))) pss_nil) (pss_cons (ps_set (i := 8) sc_law_kept_asked.nd rfl (Or.inl rfl) (pe_tup (pa_cons (pe_callTy call_tuple_of (by rfl) T.n_tuple boot_tuple (pa_cons (pv 3) pa_nil)) (pa_cons (pv 7) pa_nil)))) (pss_cons (ps_set (i := 9) sc_law_kept_asked.nd rfl (Or.inl rfl) (pe_call G_law_plan (hr.mono (by decide)) rfl T.m_law_plan T.k_law_plan B_law_plan .nil pass0 (pa_cons (pv 8) pa_nil))) (pss_cons (ps_set (i := 10) sc_law_kept_asked.nd rfl (Or.inl rfl) (pe_op op_mod (pe_op op_fdiv (pe_call G_law_cell (hr.mono (by decide)) rfl T.m_law_cell T.k_law_cell B_law_cell .nil pass0 (pa_cons (pv 0) (pa_cons pe_int pa_nil))) pe_int) (pe_callB (call_lenK K) (by rfl) T.n_len PySem.boot_len (pa_cons (pv 9) pa_nil)))) (pss_cons (ps_ifJ (pt_cmpR op_eq (pe_op op_mod (pe_call G_law_cell (hr.mono (by decide)) rfl T.m_law_cell T.k_law_cell B_law_cell .nil pass0 (pa_cons (pv 0) (pa_cons pe_int pa_nil))) pe_int) pe_int (nomark _)) (pss_one (ps_set (i := 9) sc_law_kept_asked.nd rfl (Or.inl rfl) (pe_op op_cat (pe_slice (sl_listK K) (pv 9) po_none (po_some (pv 10))) (pe_slice (sl_listK K) (pv 9) (po_some (pe_op op_add (pv 10) pe_int)) po_none)))) (pss_one (ps_ifJ (pt_cmpR op_eq (pe_op op_mod (pe_call G_law_cell (hr.mono (by decide)) rfl T.m_law_cell T.k_law_cell B_law_cell .nil pass0 (pa_cons (pv 0) (pa_cons pe_int pa_nil))) pe_int) pe_int (nomark _)) (pss_one (ps_asg (pe_tup (pa_cons (pe_ix (ix_sq K) (pe_ix (ix_sq K) (pv 9) (pv 10) (fun _ _ => rfl)) pe_int (fun _ _ => rfl)) (pa_cons (pe_op op_mod (pe_op op_add (pe_ix (ix_sq K) (pe_ix (ix_sq K) (pv 9) (pv 10) (fun _ _ => rfl)) pe_int (fun _ _ => rfl)) pe_int) (pv 2)) pa_nil))) (pg_sub (pv 9) (pv 10) set_list))) pss_nil))) (pss_cons (ps_set (i := 11) sc_law_kept_asked.nd rfl (Or.inl rfl) (pe_call G_lets_kept (hr.mono (by decide)) rfl T.m_lets_kept T.k_lets_kept B_lets_kept .nil pass0 (pa_cons (pv 8) (pa_cons (pe_callTy call_list_of (by rfl) T.n_list boot_list (pa_cons (pv 9) pa_nil)) pa_nil)))) (pss_one (ps_ret (pe_andY (pe_callB (call_isiK K) (by rfl) T.n_isinstance boot_isinstance (pa_cons (pv 11) (pa_cons (pe_ty (by rfl) T.n_bool boot_bool) pa_nil))) (pe_one (pe_cmpR op_eq (pv 11) (pe_call G_law_lets_kept (hr.mono (by decide)) rfl T.m_law_lets_kept T.k_law_lets_kept B_law_lets_kept .nil pass0 (pa_cons (pv 8) (pa_cons (pv 9) pa_nil))) (nomark _))))))))))))))))), ?_⟩
    refine ⟨_, rfl, _, rfl, _, rfl, a, _, rfl, hS, fun cl hcl => ?_⟩
    rw [cutV_ints]
    have hc8 := cut8 ns
    generalize cutI ns (some 5) (some 13) = cs at hc8 ⊢
    have s1 : Same H (upd H cl (.lst (cs.map V.int))) := Same.upd hcl
    have e1 : (upd H cl (.lst (cs.map V.int))) cl = some (.lst (cs.map V.int)) := upd_same
    generalize upd H cl (.lst (cs.map V.int)) = H1 at s1 e1 ⊢

    refine ⟨_, rfl, cl, _, rfl, .inl (SqL.of e1), _, _, rfl, ?_⟩
    rw [List.length_map]
    obtain ⟨M, hM, hM1, hM8⟩ : ∃ M : Nat, (if ((cs.length : Nat) : Int) > 1 then ((cs.length : Nat) : Int) else 1) = (M : Int) ∧ 1 ≤ M ∧ M ≤ 8 := by
      split
      · exact ⟨cs.length, rfl, by omega, by omega⟩
      · exact ⟨1, rfl, by omega, by omega⟩
    rw [hM]
    refine ⟨lenOk, fun W hW => ?_⟩
    have s2 : Same H1 (upd H1 W (.lst [])) := Same.upd hW
    have e2 : (upd H1 W (.lst [])) W = some (.lst []) := upd_same
    generalize upd H1 W (.lst []) = H2 at s2 e2 ⊢

    have s02 := s1.trans s2
    have hWH := s1.free hW
    refine ⟨_, rfl, (M : Int), rfl, by omega, by omega, ?_⟩
    refine for_range (n := ((M : Int)).toNat) (fun i σ H' => ∃ (ls : List Int) (v4 v5 v6 : Option V), σ = [some (.ref a), some (.ref cl), some (.int (M : Int)), some (.ref W), v4, v5, v6, none, none, none, none, none] ∧ ls.length = i ∧ (∀ x ∈ ls, 1 ≤ x) ∧ H' W = some (.lst (ls.map V.int)) ∧ Same H H') ⟨[], _, _, _, rfl, rfl, (fun x hx => by cases hx), e2, s02⟩ ?_ ?_
    · rintro i σ H3 hi ⟨ls, v4, v5, v6, rfl, hll, hls, hW3, s3⟩
      rw [Int.toNat_natCast] at hi
      refine ⟨_, rfl, _, rfl, _, _, rfl, rfl, a, ns, _, rfl, s3.seq hS, by omega, ?_⟩
      refine ⟨_, rfl, _, rfl, _, _, rfl, rfl, by simp, rfl, .inr ⟨_, rfl, _, _, rfl, rfl, ?_⟩⟩
      refine ⟨_, rfl, _, _, rfl, rfl, by simp, rfl, _, rfl, (fun σ' H' => ∃ (v4 v5 : Option V) (x : Int), σ' = [some (.ref a), some (.ref cl), some (.int (M : Int)), some (.ref W), v4, v5, some (.int x), none, none, none, none, none] ∧ H' = H3), fun _ => ?_, fun _ => ⟨_, _, _, rfl, rfl⟩, ?_⟩
      · exact ⟨_, rfl, _, rfl, _, _, rfl, rfl, ⟨by decide, by decide⟩, _, _, rfl, rfl, ⟨by decide, by decide, by decide⟩, _, _, rfl, rfl, pos60, _, _, rfl, rfl, _, _, _, rfl, rfl⟩
      rintro σ' H' ⟨w4, w5, x, rfl, rfl⟩
      refine ⟨_, rfl, .inl ⟨rfl, _, SqL.of hW3⟩, _, rfl, _, _, rfl, W, _, _, rfl, rfl, hW3, small1000 (by rw [List.length_map]; omega), ?_⟩
      refine ⟨ls ++ [_], _, _, _, rfl, len_snoc hll, fun y hy => ?_, lst_snoc, s3.new hWH⟩
      rcases List.mem_append.mp hy with z | z
      · exact hls y z
      · rw [List.mem_singleton.mp z]
        split <;> omega
    rintro σ H3 ⟨ls, v4, v5, v6, rfl, hll, hls, hW3, s3⟩
    rw [Int.toNat_natCast] at hll
    have hm4 := emod_range (cellI ns 0) (show (0 : Int) < 4 by decide)
    refine ⟨_, rfl, _, _, rfl, rfl, _, rfl, _, fun _ Q' z => ⟨_, rfl, a, ns, 0, rfl, s3.seq hS, by omega, _, _, rfl, rfl, by simp, _, _, rfl, rfl, _, rfl, z⟩, (fun σ' H' => ∃ (W' : Addr) (ws : List Int) (cm : Option Int) (v4 v5 v6 : Option V), σ' = [some (.ref a), some (.ref cl), some (.int (M : Int)), some (.ref W'), v4, v5, v6, some (vO cm), none, none, none, none] ∧ ws.length = M ∧ HallK M cm ∧ (∀ x ∈ ws, 1 ≤ x) ∧ H' W' = some (.lst (ws.map V.int)) ∧ Same H H'), fun hb => ?_, fun _ => ⟨W, ls, none, _, _, _, rfl, hll, ⟨hM1, hM8, fun c e => by cases e⟩, hls, hW3, s3⟩, ?_⟩
    · simp only [Bool.and_eq_true, decide_eq_true_eq] at hb
      refine ⟨_, rfl, a, ns, 0, rfl, s3.seq hS, by omega, _, _, rfl, rfl, by simp, ?_⟩
      refine ⟨_, rfl, W, rfl, .inl ⟨⟨_, SqL.of hW3⟩, fun D hD => ?_⟩⟩
      refine comp_list (K := K) (a := W) (xs := ls.map V.int) (fun i ys H' => ys = ((ls.take i).map fun x => V.int (x + (M : Int))) ∧ H' D = some (.lst ys) ∧ Same H3 H') ⟨rfl, upd_same, Same.upd hD⟩ (fun i ys H' _ ⟨_, _, s⟩ => SqL.of (s _ _ hW3)) ?_ ?_
      · rintro i y ys H4 hy ⟨rfl, hD4, s4⟩ Qe hQ
        have hi := (List.getElem?_eq_some_iff.mp hy).1
        rw [List.length_map] at hi
        rw [List.getElem?_map] at hy
        obtain ⟨x, hx, rfl⟩ := Option.map_eq_some_iff.mp hy
        refine ⟨_, rfl, _, rfl, _, _, rfl, rfl, ?_⟩
        refine hQ _ _ hD4 (small1000 (by rw [List.length_map, List.length_take]; omega)) ⟨?_, upd_same, s4.new hD⟩
        rw [List.take_add_one, hx, List.map_append]
        rfl
      rintro ys H4 ⟨rfl, hD4, s4⟩
      rw [List.length_map, List.take_length] at hD4
      refine ⟨D, ls.map fun x => x + (M : Int), some (cellI ns 0 % 4), _, _, _, rfl, by rw [List.length_map]; exact hll, ⟨hM1, hM8, fun c e => ?_⟩, fun x hx => ?_, ?_, s3.trans s4⟩
      · cases e
        omega
      · obtain ⟨y, hy, rfl⟩ := List.mem_map.mp hx
        have := hls y hy
        omega
      · rw [List.map_map]
        exact hD4
    rintro σ' H4 ⟨W', ws, cm, w4, w5, w6, rfl, hwl, hHK, hw1, hW4, s4⟩
    subst hwl
    refine ⟨_, rfl, W', _, rfl, .inl ⟨SqL.of hW4, fun t ht => ?_⟩⟩
    have s5 : Same H4 (upd H4 t (.tup (ws.map V.int))) := Same.upd ht
    have e5 : (upd H4 t (.tup (ws.map V.int))) t = some (.tup (ws.map V.int)) := upd_same
    generalize upd H4 t (.tup (ws.map V.int)) = H5 at s5 e5 ⊢

    refine ⟨_, rfl, lenOk, fun hp hhp => ?_⟩
    have s6 : Same H5 (upd H5 hp (.tup [.ref t, vO cm])) := Same.upd hhp
    have e6 : (upd H5 hp (.tup [.ref t, vO cm])) hp = some (.tup [.ref t, vO cm]) := upd_same
    generalize upd H5 hp (.tup [.ref t, vO cm]) = H6 at s6 e6 ⊢

    have ha6 : HallAt H6 hp ws cm := ⟨t, e6, s6 _ _ e5⟩
    have s06 := (s4.trans s5).trans s6
    refine ⟨_, rfl, hp, ws, cm, rfl, ha6, hHK, hw1, fun l us ps H7 hl s7 el hps hg hp0 => ?_⟩
    have ha7 := ha6.same s7
    have s07 := s06.trans s7
    have hlH : H l = none := s06.free hl
    have hul := hps.1
    have hpl := hg.2.2
    have hpos : (0 : Int) < (us.length : Int) := by omega
    have hmod := emod_range (cellI ns 1 / 4) hpos
    obtain ⟨k, hk⟩ : ∃ k : Nat, cellI ns 1 / 4 % (us.length : Int) = (k : Int) := ⟨(cellI ns 1 / 4 % (us.length : Int)).toNat, by omega⟩
    have hku : k < us.length := by omega
    refine ⟨_, rfl, a, ns, 1, rfl, s07.seq hS, by omega, _, _, rfl, rfl, ⟨by decide, by decide⟩, _, rfl, l, _, rfl, .inl (SqL.of el), _, _, rfl, rfl, hpos, ?_⟩
    obtain ⟨u, hu⟩ : ∃ u, us[k]? = some u := ⟨us[k], List.getElem?_eq_getElem hku⟩
    obtain ⟨p, hpk, pt, pb, rfl, hpt, hpb⟩ := hps.get hu
    refine ⟨_, rfl, a, ns, 1, rfl, s07.seq hS, by omega, _, _, rfl, rfl, by simp, rfl, _, rfl, (fun σ' H' => ∃ (P : Addr) (us' : List V) (ps : List Kp), σ' = [some (.ref a), some (.ref cl), some (.int (ws.length : Int)), some (.ref W'), w4, w5, w6, some (vO cm), some (.ref hp), some (.ref P), some (.int (cellI ns 1 / 4 % (us.length : Int))), none] ∧ Same H H' ∧ HallAt H' hp ws cm ∧ H' P = some (.lst us') ∧ AllAt (PV H') ps us' ∧ GoodK ws.length ps), fun _ => ?_, fun _ => ?_, ?_⟩
    · refine ⟨_, rfl, _, rfl, _, rfl, l, _, rfl, SqL.of el, fun A hA => ?_⟩
      rw [cutV_to (by omega) (by omega), show (cellI ns 1 / 4 % (us.length : Int)).toNat = k by omega]
      have s8 : Same H7 (upd H7 A (.lst (us.take k))) := Same.upd hA
      have e8 : (upd H7 A (.lst (us.take k))) A = some (.lst (us.take k)) := upd_same
      generalize upd H7 A (.lst (us.take k)) = H8 at s8 e8 ⊢

      refine ⟨_, rfl, _, rfl, _, _, rfl, rfl, _, rfl, l, _, rfl, SqL.of (s8 _ _ el), fun B hB => ?_⟩
      rw [cutV_from (by omega) (by omega), show (cellI ns 1 / 4 % (us.length : Int) + 1).toNat = k + 1 by omega]
      have s9 : Same H8 (upd H8 B (.lst (us.drop (k + 1)))) := Same.upd hB
      have e9 : (upd H8 B (.lst (us.drop (k + 1)))) B = some (.lst (us.drop (k + 1))) := upd_same
      generalize upd H8 B (.lst (us.drop (k + 1))) = H9 at s9 e9 ⊢

      refine ⟨A, B, _, _, rfl, rfl, s9 _ _ e8, e9, Nat.le_of_lt (small1000 (by simp; omega)), fun P2 hP2 => ?_⟩
      have s10 : Same H9 (upd H9 P2 (.lst (us.take k ++ us.drop (k + 1)))) := Same.upd hP2
      have e10 : (upd H9 P2 (.lst (us.take k ++ us.drop (k + 1)))) P2 = some (.lst (us.take k ++ us.drop (k + 1))) := upd_same
      generalize upd H9 P2 (.lst (us.take k ++ us.drop (k + 1))) = H10 at s10 e10 ⊢

      have s710 := (s8.trans s9).trans s10
      refine ⟨P2, _, ps.take k ++ ps.drop (k + 1), rfl, s07.trans s710, ha7.same s710, e10, ?_, erase_ps hg k⟩
      have z := hps.imp fun _ _ z => PV.up (Tups.of s710) z
      exact (z.take k).append (z.drop (k + 1))
    · refine ⟨_, rfl, a, ns, 1, rfl, s07.seq hS, by omega, _, _, rfl, rfl, by simp, rfl, _, rfl, _, fun _ => ?_, fun _ => ?_, fun _ _ z => z⟩
      rotate_left
      · exact ⟨l, us, ps, rfl, s07, ha7, el, hps, hg⟩
      have hat : atI us (cellI ns 1 / 4 % (us.length : Int)) = some (.ref pt) := by
        rw [hk]
        exact atI_nat hu
      have hix : ixN us.length (cellI ns 1 / 4 % (us.length : Int)) = some k := by
        rw [hk]
        exact ixN_nat hku
      have hw := (hg.2.1 p (List.mem_of_getElem? hpk)).2
      have hmw := emod_range (((p.2 : Nat) : Int) + 1) (show (0 : Int) < (ws.length : Int) by have := hHK.1; omega)
      refine ⟨_, rfl, _, rfl, l, _, _, _, rfl, rfl, .inl (SqL.of el), hat, pt, _, _, _, rfl, rfl, .inr (SqT.of hpt), rfl, _, rfl, _, rfl, l, _, _, _, rfl, rfl, .inl (SqL.of el), hat, pt, _, _, _, rfl, rfl, .inr (SqT.of hpt), rfl, _, _, rfl, rfl, _, rfl, _, _, rfl, rfl, (by have := hHK.1; omega), lenOk, fun T hT => ?_⟩
      obtain ⟨w, hww⟩ : ∃ w : Nat, (((p.2 : Nat) : Int) + 1) % (ws.length : Int) = (w : Int) := ⟨((((p.2 : Nat) : Int) + 1) % (ws.length : Int)).toNat, by omega⟩
      have s8 : Same H7 (upd H7 T (.tup [.ref pb, .int ((((p.2 : Nat) : Int) + 1) % (ws.length : Int))])) := Same.upd hT
      have e8 : (upd H7 T (.tup [.ref pb, .int ((((p.2 : Nat) : Int) + 1) % (ws.length : Int))])) T = some (.tup [.ref pb, .int ((((p.2 : Nat) : Int) + 1) % (ws.length : Int))]) := upd_same
      generalize upd H7 T (.tup [.ref pb, .int ((((p.2 : Nat) : Int) + 1) % (ws.length : Int))]) = H8 at s8 e8 ⊢

      rw [hww] at e8
      have el8 := s8 _ _ el
      refine ⟨_, rfl, _, rfl, l, _, _, _, rfl, rfl, el8, hix, ?_⟩
      have t9 : Tups H8 (upd H8 l (.lst (us.set k (.ref T)))) := Tups.lst el8
      refine ⟨l, us.set k (.ref T), ps.set k (p.1, w), rfl, (s07.trans s8).new hlH, (ha7.same s8).up t9, upd_same, ?_, set_ps hg hpk (by omega)⟩
      exact (hps.imp fun _ _ z => PV.up ((Tups.of s8).trans t9) z).set ⟨T, pb, rfl, t9 _ _ e8, (hpb.up (Tups.of s8)).up t9⟩
    rintro σ' H8 ⟨P, us', ps', rfl, s8, ha8, eP, hps', hg'⟩
    have hn1 : 0 < ws.length := hHK.1
    refine ⟨_, rfl, _, rfl, P, _, rfl, .inl (SqL.of eP), fun l2 hl2 => ?_⟩
    have s9 : Same H8 (upd H8 l2 (.lst us')) := Same.upd hl2
    have e9 : (upd H8 l2 (.lst us')) l2 = some (.lst us') := upd_same
    generalize upd H8 l2 (.lst us') = H9 at s9 e9 ⊢

    refine ⟨hp, l2, ws, cm, us', ps', rfl, ha8.same s9, hn1, hHK.2.1, hw1, e9, hps'.imp (fun _ _ z => PV.up (Tups.of s9) z), hg', fun r H10 s10 hr => ?_⟩
    have s810 := s9.trans s10
    refine ⟨_, rfl, _, "bool", "bool", true, rfl, .bl _, kb_bool_bool, true, (fun d H' => d = true ∧ Same H H'), rfl, (fun z => nomatch z), fun _ => ?_, fun d H' hd => ?_⟩
    · refine ⟨_, rfl, _, rfl, _, rfl, hp, P, ws, cm, us', ps', rfl, ha8.same s810, hn1, hHK.2.1, hw1, s810 _ _ eP, hps'.imp (fun _ _ z => PV.up (Tups.of s810) z), hg', fun r2 H11 s11 hr2 => ⟨rfl, _, rfl, ?_, s8.trans (s810.trans s11)⟩⟩
      rw [same_bools hr hr2]
      simp
    · obtain ⟨rfl, s⟩ := hd
      exact q H' s
/-! ### law_lets_broken -/
def sp_law_lets_broken (K : PySem.W.Frag) : Sp := fun vs H Q _ => ∃ (a l : Addr) (ws : List Int) (cm : Option Int) (us : List V) (bs : List Bp), vs = [.ref a, .ref l] ∧ HallAt H a ws cm ∧ 0 < ws.length ∧ ws.length ≤ 8 ∧ (∀ x ∈ ws, 1 ≤ x) ∧ H l = some (.lst us) ∧ AllAt (TV ws.length H) bs us ∧ GoodB ws bs ∧
  ∀ (r : Bool) (H' : Hp), Same H H' → (r = true ↔ LetsB ws cm bs) → Q (.bl r) H'
theorem ok_law_lets_broken {fd fd_law_behind : FuncData} (T : Txt K mg f_beginning f_may_lose f_is_listener f_refuse_wrong_turn f_left_behind f_quiet_behind f_after f_all_behind f_lets_kept f_may_answer f_goes_down f_lets_broken f_law_cell f_law_behind f_law_next f_law_longest f_law_plan f_law_lets_kept f_law_kept_asked f_law_lets_broken f_law_broken_asked f_law) (F : Fun K "_law_lets_broken" "_law_lets_broken" s_law_lets_broken f_law_lets_broken fd) (G_law_behind : FnOk P w K mg base CX0 1 f_law_behind fd_law_behind ["hall", "standing", "who", "lost"] (sp_law_behind K)) (B_law_behind : Binds K fd_law_behind ["hall", "standing", "who", "lost"] []) : FnOk P w K mg base CX0 2 f_law_lets_broken fd ["hall", "paper"] (sp_law_lets_broken K) := by
  refine F.ok sc_law_lets_broken (fun vs H Q E h => ?_) (fun cdv A outer s H vs Q E hr h => ?_)
  · rcases h with ⟨a, l, ws, cm, us, bs, rfl, ha, h0, h8, hw1, hl, hbs, hg, q⟩ <;> rfl
  · obtain ⟨a, l, ws, cm, us, bs, rfl, ha, h0, h8, hw1, hl, hbs, hg, q⟩ := h
    refine ⟨_, (pss_cons (ps_set (i := 2) sc_law_lets_broken.nd rfl (Or.inl rfl) pe_dnewT) (pss_cons (ps_for PassesOwn.never rfl (pi_sq (pv 1)) (pg_tupK K (n := 3) rfl (pgs_cons (pg_name (i := 3) sc_law_lets_broken.nd rfl (Or.inl rfl)) (pgs_cons (pg_name (i := 4) sc_law_lets_broken.nd rfl (Or.inl rfl)) (pgs_cons (pg_name (i := 5) sc_law_lets_broken.nd rfl (Or.inl rfl)) pgs_nil)))) (pss_one (ps_dput (hu20 hr) (pv 2) (pv 3) (pv 4) rfl))) (pss_cons (ps_for PassesOwn.never rfl (pi_sq (pv 1)) (pg_tupK K (n := 3) rfl (pgs_cons (pg_name (i := 3) sc_law_lets_broken.nd rfl (Or.inl rfl)) (pgs_cons (pg_name (i := 4) sc_law_lets_broken.nd rfl (Or.inl rfl)) (pgs_cons (pg_name (i := 5) sc_law_lets_broken.nd rfl (Or.inl rfl)) pgs_nil)))) (pss_one (ps_for PassesOwn.never rfl (pi_range1 (by rfl) T.n_range (pa_cons (pe_callB (call_lenK K) (by rfl) T.n_len PySem.boot_len (pa_cons (pe_ix (ix_sq K) (pv 0) pe_int (fun _ _ => rfl)) pa_nil)) pa_nil)) (pg_name (i := 6) sc_law_lets_broken.nd rfl (Or.inl rfl)) (pss_cons (ps_set (i := 7) sc_law_lets_broken.nd rfl (Or.inl rfl) (pe_call G_law_behind (hr.mono (by decide)) rfl T.m_law_behind T.k_law_behind B_law_behind .nil pass0 (pa_cons (pv 0) (pa_cons (pv 3) (pa_cons (pv 6) (pa_cons pe_bl pa_nil)))))) (pss_one (ps_if (PW.pt (pw_andX (pt_cmpR op_notN (pv 7) pe_non (nomark _)) (pw_and1 (pt_cmpR op_ge (pe_N (pe_dget2 (hu20 hr) (pv 2) (pv 7) (pv 4) ⟨rfl, rfl, rfl, rfl⟩)) (pv 4) (nomark _))))) (pss_one (ps_ret pe_bl)) pss_nil)))))) (pss_one (ps_ret pe_bl))))), ?_⟩
    have hbl := hg.2.2.2
    have hul := hbs.1
    refine fun d hd => ?_
    have s0 : Same H (upd H d (.dT [])) := Same.upd hd
    have e0 : (upd H d (.dT [])) d = some (.dT []) := upd_same
    generalize upd H d (.dT []) = H0 at s0 e0 ⊢

    refine ⟨_, rfl, l, rfl, .inl ⟨⟨_, SqL.of (s0 _ _ hl)⟩, ?_⟩⟩
    refine for_list (K := K) (a := l) (xs := us) (fun i σ H' => ∃ v3 v4 v5 : Option V, σ = [some (.ref a), some (.ref l), some (.ref d), v3, v4, v5, none, none] ∧ H' d = some (.dT (kdB (bs.take i))) ∧ Same H H') ⟨_, _, _, rfl, e0, s0⟩ (fun i σ H' _ ⟨_, _, _, _, _, s⟩ => SqL.of (s _ _ hl)) ?_ ?_
    · rintro i u σ H2 hu ⟨v3, v4, v5, rfl, hd2, s2⟩
      obtain ⟨p, hp, t, b, m, rfl, ht, hb, hm⟩ := hbs.get hu
      refine ⟨t, _, rfl, SqT.of (s2 _ _ ht), rfl, _, _, rfl, _, _, rfl, _, _, rfl, rfl, ?_⟩
      refine ⟨_, rfl, _, rfl, _, rfl, d, _, rfl, DPut.t hd2 (sth_same s2 hb) (small1000 (by unfold kdB; rw [List.length_map, List.length_take]; omega)), ?_⟩
      refine ⟨_, _, _, rfl, ?_, s2.new hd⟩
      have hnew : valV (kdB (bs.take i)) p.1 = none := by
        cases e : valV (kdB (bs.take i)) p.1 with
        | none => rfl
        | some v =>
          have h1 := valV_key e
          rw [kdB_keys, List.map_take] at h1
          exact absurd h1 (nodup_new hg.1 (by rw [List.getElem?_map, hp]; rfl))
      rw [upd_same, putK_new _ hnew, List.take_add_one, hp]
      unfold kdB
      rw [List.map_append]
      rfl
    rintro σ H1 ⟨v3, v4, v5, rfl, e1, s1⟩
    rw [hul, List.take_length] at e1
    refine ⟨_, rfl, l, rfl, .inl ⟨⟨_, SqL.of (s1 _ _ hl)⟩, ?_⟩⟩
    refine for_list (K := K) (a := l) (xs := us) (fun i σ H' => ∃ v3 v4 v5 v6 v7 : Option V, σ = [some (.ref a), some (.ref l), some (.ref d), v3, v4, v5, v6, v7] ∧ (∀ e ∈ bs.take i, ∀ who, who < ws.length → FallsB ws cm bs e who) ∧ Same H1 H') ⟨_, _, _, _, _, rfl, (fun p hp => by rw [List.take_zero] at hp; cases hp), Same.refl _⟩ (fun i σ H' _ ⟨_, _, _, _, _, _, _, s⟩ => SqL.of (s _ _ (s1 _ _ hl))) ?_ ?_
    · rintro i u σ H2 hu ⟨v3, v4, v5, v6, v7, rfl, hall, s2⟩
      obtain ⟨e, he, t, b, m, rfl, ht, hb, hm⟩ := hbs.get hu
      have heb := List.mem_of_getElem? he
      obtain ⟨hel, her⟩ := hg.2.1 e heb
      have s02 := s1.trans s2
      obtain ⟨wt, ha1, ha2⟩ := id (ha.same s02)
      refine ⟨t, _, rfl, SqT.of (s02 _ _ ht), rfl, _, _, rfl, _, _, rfl, _, _, rfl, rfl, ?_⟩
      refine ⟨_, rfl, a, _, _, _, rfl, rfl, .inr (SqT.of ha1), rfl, wt, _, rfl, .inr (SqT.of ha2), _, rfl, by omega, by rw [List.length_map]; omega, ?_⟩
      refine for_range (n := (ws.map V.int).length) (fun j σ H' => ∃ v6 v7 : Option V, σ = [some (.ref a), some (.ref l), some (.ref d), some (.ref b), some (.int e.2), some (.ref m), v6, v7] ∧ (∀ who, who < j → FallsB ws cm bs e who) ∧ Same H2 H') ⟨_, _, rfl, (fun who h => absurd h (Nat.not_lt_zero _)), Same.refl _⟩ ?_ ?_
      · rintro j σ H3 hj ⟨v6, v7, rfl, hin, s3⟩
        rw [List.length_map] at hj
        have s03 := s02.trans s3
        refine ⟨_, rfl, _, rfl, _, rfl, a, b, ws, e.1.1, cm, e.1.2, _, j, false, rfl, Int.zero_add _, ha.same s03, sth_same s03 hb, hj, hel, h8, hw1, (fun z => nomatch z), fun v H4 s4 hv => ?_⟩
        have s04 := s03.trans s4
        have ed4 := s4 _ _ (s3 _ _ (s2 _ _ e1))
        cases haf : aft ws e.1.1 cm e.1.2 j false with
        | none =>
          rw [haf] at hv
          obtain rfl : v = V.non := hv
          refine ⟨_, rfl, rfl, _, rfl, false, (fun h => absurd h (by decide)), ite_f rfl ?_⟩
          refine ⟨_, _, rfl, fun who hw => ?_, s3.trans s4⟩
          by_cases e' : who = j
          · subst e'
            intro z hz'
            rw [haf] at hz'
            cases hz'
          · exact hin who (by omega)
        | some k =>
          rw [haf] at hv
          obtain ⟨bb, rfl, hk⟩ := hv
          have hsome : ∃ r : Int, (valV (kdB bs) k).getD (.int e.2) = .int r ∧ (r < e.2 ↔ ∃ r', (k, r') ∈ bs ∧ r' < e.2) := by
            cases hv : valV (kdB bs) k with
            | none =>
              refine ⟨e.2, rfl, ⟨fun h => absurd h (Int.lt_irrefl _), fun ⟨r', h1, _⟩ => ?_⟩⟩
              rw [valB hg.1 h1] at hv
              cases hv
            | some v =>
              obtain ⟨r, rfl, hr⟩ := valB_of hv
              refine ⟨r, rfl, fun h => ⟨r, hr, h⟩, fun ⟨r', h1, h2⟩ => ?_⟩
              rw [valB hg.1 h1] at hv
              cases hv
              exact h2
          obtain ⟨r, er, hiff⟩ := hsome
          refine ⟨_, rfl, rfl, _, rfl, decide (r ≥ e.2), fun _ Q' z => ⟨(fun v H' => v = .int r ∧ H' = H4), ⟨_, rfl, d, rfl, .inr ⟨kdB bs, .inl ed4⟩, _, rfl, _, rfl, _, DGet.t ed4 (show StH H4 bb k from hk), er, rfl⟩, fun v H5 hv => ?_⟩, ?_⟩
          · obtain ⟨rfl, rfl⟩ := hv
            exact ⟨_, rfl, _, _, rfl, rfl, _, rfl, z⟩
          · refine ite2 (fun h => ?_) (fun h => ?_)
            · have hge : r ≥ e.2 := by simpa using h
              refine q false _ s04 ⟨(fun z => nomatch z), fun z => ?_⟩
              have := hiff.mpr (z e heb j hj k haf)
              omega
            · have hlt : r < e.2 := by
                have : ¬ r ≥ e.2 := by simpa using h
                omega
              refine ⟨_, _, rfl, fun who hw => ?_, s3.trans s4⟩
              by_cases e' : who = j
              · subst e'
                intro z hz'
                rw [haf] at hz'
                cases hz'
                exact hiff.mp hlt
              · exact hin who (by omega)
      rintro σ H3 ⟨v6, v7, rfl, hin, s3⟩
      rw [List.length_map] at hin
      refine ⟨_, _, _, _, _, rfl, fun e' he' => ?_, s2.trans s3⟩
      rw [List.take_add_one, he] at he'
      rcases List.mem_append.mp he' with z | z
      · exact hall e' z
      · have ee : e' = e := by simpa using z
        rw [ee]
        exact hin
    rintro σ H2 ⟨v3, v4, v5, v6, v7, rfl, hall, s2⟩
    rw [hul, List.take_length] at hall
    exact q true _ (s1.trans s2) ⟨fun _ => hall, fun _ => rfl⟩
/-! ### law_broken_asked -/
def sp_law_broken_asked (K : PySem.W.Frag) : Sp := fun vs H Q _ => ∃ (a : Addr) (ns : List Int), vs = [.ref a] ∧ SqL K H a (ns.map V.int) ∧ ns.length ≤ 63 ∧ ∀ H', Same H H' → Q (.bl true) H'
theorem ok_law_broken_asked {fd fd_lets_broken fd_law_cell fd_law_behind fd_law_lets_broken : FuncData} (T : Txt K mg f_beginning f_may_lose f_is_listener f_refuse_wrong_turn f_left_behind f_quiet_behind f_after f_all_behind f_lets_kept f_may_answer f_goes_down f_lets_broken f_law_cell f_law_behind f_law_next f_law_longest f_law_plan f_law_lets_kept f_law_kept_asked f_law_lets_broken f_law_broken_asked f_law) (F : Fun K "_law_broken_asked" "_law_broken_asked" s_law_broken_asked f_law_broken_asked fd) (G_lets_broken : FnOk P w K mg base CX0 6 f_lets_broken fd_lets_broken ["hall", "paper"] (sp_lets_broken K)) (B_lets_broken : Binds K fd_lets_broken ["hall", "paper"] []) (G_law_cell : FnOk P w K mg base CX0 1 f_law_cell fd_law_cell ["script", "k"] (sp_law_cell K)) (B_law_cell : Binds K fd_law_cell ["script", "k"] []) (G_law_behind : FnOk P w K mg base CX0 1 f_law_behind fd_law_behind ["hall", "standing", "who", "lost"] (sp_law_behind K)) (B_law_behind : Binds K fd_law_behind ["hall", "standing", "who", "lost"] []) (G_law_lets_broken : FnOk P w K mg base CX0 2 f_law_lets_broken fd_law_lets_broken ["hall", "paper"] (sp_law_lets_broken K)) (B_law_lets_broken : Binds K fd_law_lets_broken ["hall", "paper"] []) : FnOk P w K mg base CX0 7 f_law_broken_asked fd ["script"] (sp_law_broken_asked K) := by
  refine F.ok sc_law_broken_asked (fun vs H Q E h => ?_) (fun cdv A outer s H vs Q E hr h => ?_)
  · rcases h with ⟨a, ns, rfl, hS, hlen, q⟩ <;> rfl
  · obtain ⟨a, ns, rfl, hS, hlen, q⟩ := h
    refine ⟨_, (pss_cons (ps_set (i := 1) sc_law_broken_asked.nd rfl (Or.inl rfl) (pe_op op_add pe_int (pe_op op_mod (pe_call G_law_cell (hr.mono (by decide)) rfl T.m_law_cell T.k_law_cell B_law_cell .nil pass0 (pa_cons (pv 0) (pa_cons pe_int pa_nil))) pe_int))) (pss_cons (ps_setComp (i := 2) sc_law_broken_asked.nd rfl (pi_sq (pe_slice (sl_listK K) (pv 0) (po_some pe_int) (po_some pe_int))) _ rfl cs_law_broken_asked_0 rfl rfl (fun _ _ _ _ => (pg_name (i := 0) nd_law_broken_asked_0 rfl (Or.inl rfl))) (fun _ _ _ _ => pts_nil) (fun _ _ _ _ => (pe_op op_add pe_int (pe_op op_mod (pv 0) (pe_op op_pow pe_int pe_int)))) rfl rfl) (pss_cons (ps_set (i := 2) sc_law_broken_asked.nd rfl (Or.inl rfl) (pe_op op_cat (pv 2) (pe_comp (pi_range1 (by rfl) T.n_range (pa_cons (pe_op op_sub pe_int (pe_callB (call_lenK K) (by rfl) T.n_len PySem.boot_len (pa_cons (pv 2) pa_nil))) pa_nil)) _ rfl cs_law_broken_asked_1 rfl rfl (fun _ _ _ _ => (pg_name (i := 0) nd_law_broken_asked_1 rfl (Or.inl rfl))) (fun _ _ _ _ => pts_nil) (fun _ _ _ _ => (pe_op op_add (pe_op op_pow pe_int pe_int) (pv 0)))))) (pss_cons (ps_for PassesOwn.never rfl (pi_range1 (by rfl) T.n_range (pa_cons (pe_op op_add pe_int (pe_op op_mod (pe_op op_fdiv (pe_call G_law_cell (hr.mono (by decide)) rfl T.m_law_cell T.k_law_cell B_law_cell .nil pass0 (pa_cons (pv 0) (pa_cons pe_int pa_nil))) pe_int) pe_int)) pa_nil)) (pg_name (i := 3) sc_law_broken_asked.nd rfl (Or.inl rfl)) (pss_one (ps_asg (pv 1) (pg_sub (pv 2) (pe_op op_mod (pe_op op_add (pe_call G_law_cell (hr.mono (by decide)) rfl T.m_law_cell T.k_law_cell B_law_cell .nil pass0 (pa_cons (pv 0) (pa_cons pe_int pa_nil))) (pv 3)) (pe_callB (call_lenK K) (by rfl) T.n_len PySem.boot_len (pa_cons (pv 2) pa_nil))) set_list)))) (pss_cons (ps_set (i := 4) sc_law_broken_asked.nd rfl (Or.inl rfl) pe_non) (pss_cons (ps_ifJ (pt_cmpR op_eq (pe_op op_mod (pe_call G_law_cell (hr.mono (by decide)) rfl T.m_law_cell T.k_law_cell B_law_cell .nil pass0 (pa_cons (pv 0) (pa_cons pe_int pa_nil))) pe_int) pe_int (nomark _)) (pss_one (ps_set (i := 4) sc_law_broken_asked.nd rfl (Or.inl rfl) (pe_op op_add pe_int (pe_op op_mod (pe_op op_fdiv (pe_call G_law_cell (hr.mono (by decide)) rfl T.m_law_cell T.k_law_cell B_law_cell .nil pass0 (pa_cons (pv 0) (pa_cons pe_int pa_nil))) pe_int) (pe_op op_pow pe_int pe_int))))) pss_nil) (pss_cons (ps_set (i := 5) sc_law_broken_asked.nd rfl (Or.inl rfl) (pe_tup (pa_cons (pe_callTy call_tuple_of (by rfl) T.n_tuple boot_tuple (pa_cons (pv 2) pa_nil)) (pa_cons (pv 4) pa_nil)))) (pss_cons (ps_set (i := 6) sc_law_broken_asked.nd rfl (Or.inl rfl) (pe_callTy call_tuple_of (by rfl) T.n_tuple boot_tuple (pa_cons (pe_op op_rep (pe_lst (pa_cons pe_bl pa_nil)) (pe_callB (call_lenK K) (by rfl) T.n_len PySem.boot_len (pa_cons (pv 2) pa_nil))) pa_nil))) (pss_cons (ps_set (i := 7) sc_law_broken_asked.nd rfl (Or.inl rfl) (pe_lst (pa_cons (pe_tup (pa_cons (pe_tup (pa_cons (pe_ix (ix_sq K) (pv 5) pe_int (fun _ _ => rfl)) (pa_cons pe_int pa_nil))) (pa_cons (pv 1) (pa_cons (pv 6) pa_nil)))) pa_nil))) (pss_cons (ps_ifJ (pt_cmpR op_eq (pv 1) pe_int (nomark _)) (pss_one (ps_for PassesOwn.never rfl (pi_range1 (by rfl) T.n_range (pa_cons (pe_callB (call_lenK K) (by rfl) T.n_len PySem.boot_len (pa_cons (pv 2) pa_nil)) pa_nil)) (pg_name (i := 8) sc_law_broken_asked.nd rfl (Or.inl rfl)) (pss_cons (ps_set (i := 9) sc_law_broken_asked.nd rfl (Or.inl rfl) (pe_call G_law_behind (hr.mono (by decide)) rfl T.m_law_behind T.k_law_behind B_law_behind .nil pass0 (pa_cons (pv 5) (pa_cons (pe_tup (pa_cons (pe_ix (ix_sq K) (pv 5) pe_int (fun _ _ => rfl)) (pa_cons pe_int pa_nil))) (pa_cons (pv 8) (pa_cons pe_bl pa_nil)))))) (pss_one (ps_ifJ (PW.pt (pw_andY (pt_cmpR op_notN (pv 9) pe_non (nomark _)) (pw_and1 (pt_cmpR (op_notInD K hr) (pv 9) (pe_comp (pi_sq (pv 7)) _ rfl cs_law_broken_asked_2 rfl rfl (fun _ _ _ _ => (pg_name (i := 0) nd_law_broken_asked_2 rfl (Or.inl rfl))) (fun _ _ _ _ => pts_nil) (fun _ _ _ _ => (pe_ix (ix_sq K) (pv 0) pe_int (fun _ _ => rfl)))) rfl)))) (pss_one (ps_expr (pe_bm PySem.F.plainAttrs_list PySem.F.slot_list_append PySem.F.type_list_append mt_append (pv 7) (pa_cons (pe_tup (pa_cons (pv 9) (pa_cons pe_int (pa_cons (pv 6) pa_nil)))) pa_nil)))) pss_nil))))) pss_nil) (pss_cons (ps_set (i := 10) sc_law_broken_asked.nd rfl (Or.inl rfl) (pe_call G_lets_broken (hr.mono (by decide)) rfl T.m_lets_broken T.k_lets_broken B_lets_broken .nil pass0 (pa_cons (pv 5) (pa_cons (pe_callTy call_list_of (by rfl) T.n_list boot_list (pa_cons (pv 7) pa_nil)) pa_nil)))) (pss_one (ps_ret (pe_andY (pe_callB (call_isiK K) (by rfl) T.n_isinstance boot_isinstance (pa_cons (pv 10) (pa_cons (pe_ty (by rfl) T.n_bool boot_bool) pa_nil))) (pe_one (pe_cmpR op_eq (pv 10) (pe_call G_law_lets_broken (hr.mono (by decide)) rfl T.m_law_lets_broken T.k_law_lets_broken B_law_lets_broken .nil pass0 (pa_cons (pv 5) (pa_cons (pv 7) pa_nil))) (nomark _))))))))))))))))), ?_⟩
    have hm2 := emod_range (cellI ns 2) (show (0 : Int) < 2 by decide)
    refine ⟨_, rfl, a, ns, 2, rfl, hS, by omega, _, _, rfl, rfl, by simp, _, _, rfl, rfl, ?_⟩
    refine ⟨_, rfl, _, rfl, _, rfl, a, _, rfl, hS, fun cl hcl => ?_⟩
    rw [cutV_ints]
    have hc8 := cut8 ns
    generalize cutI ns (some 5) (some 13) = cs at hc8 ⊢
    have s1 : Same H (upd H cl (.lst (cs.map V.int))) := Same.upd hcl
    have e1 : (upd H cl (.lst (cs.map V.int))) cl = some (.lst (cs.map V.int)) := upd_same
    generalize upd H cl (.lst (cs.map V.int)) = H1 at s1 e1 ⊢

    refine ⟨cl, rfl, .inl ⟨⟨_, SqL.of e1⟩, fun D hD => ?_⟩⟩
    refine comp_list (K := K) (a := cl) (xs := cs.map V.int) (fun i ys H' => (∃ ls : List Int, ys = ls.map V.int ∧ ls.length = i ∧ ∀ x ∈ ls, 1 ≤ x) ∧ H' D = some (.lst ys) ∧ Same H1 H') ⟨⟨[], rfl, rfl, fun x hx => by cases hx⟩, upd_same, Same.upd hD⟩ (fun i ys H' _ ⟨_, _, s⟩ => SqL.of (s _ _ e1)) ?_ ?_
    · rintro i y ys H2 hy ⟨⟨ls, rfl, hll, hls⟩, hD2, s2⟩ Qe hQ
      have hi := (List.getElem?_eq_some_iff.mp hy).1
      rw [List.length_map] at hi
      rw [List.getElem?_map] at hy
      obtain ⟨x, hx, rfl⟩ := Option.map_eq_some_iff.mp hy
      have hx60 := emod_range x pos60
      refine ⟨_, rfl, _, _, rfl, rfl, ⟨by decide, by decide, by decide⟩, _, _, rfl, rfl, pos60, _, _, rfl, rfl, ?_⟩
      refine hQ _ _ hD2 (small1000 (by rw [List.length_map]; omega)) ⟨⟨ls ++ [2 + x % 10 ^ (60 : Int).toNat], by rw [List.map_append]; rfl, len_snoc hll, fun z hz => ?_⟩, upd_same, s2.new hD⟩
      rcases List.mem_append.mp hz with y | y
      · exact hls z y
      · rw [List.mem_singleton.mp y]
        omega
    rintro ys H2 ⟨⟨ls, rfl, hll, hls⟩, hD2, s2⟩
    rw [List.length_map] at hll
    refine ⟨_, rfl, _, rfl, D, _, rfl, .inl (SqL.of hD2), _, _, rfl, rfl, _, rfl, by rw [List.length_map]; omega, by rw [List.length_map]; omega, fun D2 hD2' => ?_⟩
    refine comp_range (fun i ys H' => (∃ ms : List Int, ys = ms.map V.int ∧ ms.length = i ∧ ∀ x ∈ ms, 1 ≤ x) ∧ H' D2 = some (.lst ys) ∧ Same H2 H') ⟨⟨[], rfl, rfl, fun x hx => by cases hx⟩, upd_same, Same.upd hD2'⟩ ?_ ?_
    · rintro i ys H3 hi ⟨⟨ms, rfl, hml, hms⟩, hD3, s3⟩ Qe hQ
      rw [List.length_map] at hi
      refine ⟨_, _, rfl, rfl, ⟨by decide, by decide, by decide⟩, _, rfl, _, _, rfl, rfl, ?_⟩
      have p30 : (0 : Int) < 10 ^ (30 : Int).toNat := by decide
      refine hQ _ _ hD3 (small1000 (by rw [List.length_map]; omega)) ⟨⟨ms ++ [10 ^ (30 : Int).toNat + (0 + (i : Int))], by rw [List.map_append]; rfl, len_snoc hml, fun z hz => ?_⟩, upd_same, s3.new hD2'⟩
      rcases List.mem_append.mp hz with y | y
      · exact hms z y
      · rw [List.mem_singleton.mp y]
        omega
    rintro ys H3 ⟨⟨ms, rfl, hml, hms⟩, hD3, s3⟩
    rw [List.length_map] at hml
    refine ⟨D, D2, _, _, rfl, rfl, s3 _ _ hD2, hD3, Nat.le_of_lt (small1000 (by rw [List.length_map, List.length_map]; omega)), fun W hW => ?_⟩
    rw [← List.map_append]
    have hws0 : ∀ x ∈ ls ++ ms, 1 ≤ x := fun x hx => by
      rcases List.mem_append.mp hx with z | z
      · exact hls x z
      · exact hms x z
    have hwl0 : 2 ≤ (ls ++ ms).length ∧ (ls ++ ms).length ≤ 8 := by
      rw [List.length_append]
      omega
    generalize ls ++ ms = ws0 at hws0 hwl0 ⊢
    have s4 : Same H3 (upd H3 W (.lst (ws0.map V.int))) := Same.upd hW
    have e4 : (upd H3 W (.lst (ws0.map V.int))) W = some (.lst (ws0.map V.int)) := upd_same
    generalize upd H3 W (.lst (ws0.map V.int)) = H4 at s4 e4 ⊢

    have s14 := (s1.trans s2).trans (s3.trans s4)
    have hWH : H W = none := (s1.trans (s2.trans s3)).free hW
    have hm3 := emod_range (cellI ns 2 / 2) (show (0 : Int) < 3 by decide)
    refine ⟨_, rfl, a, ns, 2, rfl, s14.seq hS, by omega, _, _, rfl, rfl, ⟨by decide, by decide⟩, _, _, rfl, rfl, by simp, _, _, rfl, rfl, _, rfl, by omega, by omega, ?_⟩
    refine for_range (n := (1 + cellI ns 2 / 2 % 3).toNat) (fun i σ H' => ∃ (ws : List Int) (v3 : Option V), σ = [some (.ref a), some (.int (1 + cellI ns 2 % 2)), some (.ref W), v3, none, none, none, none, none, none, none] ∧ ws.length = ws0.length ∧ (∀ x ∈ ws, 1 ≤ x) ∧ H' W = some (.lst (ws.map V.int)) ∧ Same H H') ⟨ws0, _, rfl, rfl, hws0, e4, s14⟩ ?_ ?_
    · rintro i σ H5 hi ⟨ws, v3, rfl, hwl, hws, hW5, s5⟩
      have hlp : (0 : Int) < (((ws.map V.int).length : Nat) : Int) := by
        rw [List.length_map]
        omega
      have hmod := emod_range (cellI ns 3 + (0 + (i : Int))) hlp
      obtain ⟨k, hk⟩ : ∃ k : Nat, (cellI ns 3 + (0 + (i : Int))) % (((ws.map V.int).length : Nat) : Int) = (k : Int) := ⟨((cellI ns 3 + (0 + (i : Int))) % (((ws.map V.int).length : Nat) : Int)).toNat, by omega⟩
      refine ⟨_, rfl, _, rfl, _, rfl, a, ns, 3, rfl, s5.seq hS, by omega, _, rfl, _, _, rfl, rfl, _, rfl, W, _, rfl, .inl (SqL.of hW5), _, _, rfl, rfl, hlp, ?_⟩
      have hix : ixN (ws.map V.int).length ((cellI ns 3 + (0 + (i : Int))) % (((ws.map V.int).length : Nat) : Int)) = some k := by
        rw [hk]
        exact ixN_nat (by omega)
      refine ⟨W, _, _, _, rfl, rfl, hW5, hix, ?_⟩
      refine ⟨ws.set k (1 + cellI ns 2 % 2), _, rfl, by rw [List.length_set]; exact hwl, all_set hws (by omega), ?_, s5.new hWH⟩
      rw [upd_same, List.map_set]
    rintro σ H5 ⟨ws, v3, rfl, hwl, hws, hW5, s5⟩
    have h8 : ws.length ≤ 8 := by omega
    have hn0 : 0 < ws.length := by omega
    refine ⟨_, rfl, a, ns, 4, rfl, s5.seq hS, by omega, _, _, rfl, rfl, by simp, rfl, _, rfl, (fun σ' H' => ∃ cm : Option Int, σ' = [some (.ref a), some (.int (1 + cellI ns 2 % 2)), some (.ref W), v3, some (vO cm), none, none, none, none, none, none] ∧ H5 = H'), fun _ => ?_, fun _ => ⟨none, rfl, rfl⟩, ?_⟩
    · exact ⟨_, rfl, a, ns, 4, rfl, s5.seq hS, by omega, _, _, rfl, rfl, ⟨by decide, by decide⟩, _, _, rfl, rfl, ⟨by decide, by decide, by decide⟩, _, _, rfl, rfl, pos60, _, _, rfl, rfl, some _, rfl, rfl⟩
    rintro σ' H' ⟨cm, rfl, rfl⟩
    refine ⟨_, rfl, W, _, rfl, .inl ⟨SqL.of hW5, fun t ht => ?_⟩⟩
    have s6 : Same H5 (upd H5 t (.tup (ws.map V.int))) := Same.upd ht
    have e6 : (upd H5 t (.tup (ws.map V.int))) t = some (.tup (ws.map V.int)) := upd_same
    generalize upd H5 t (.tup (ws.map V.int)) = H6 at s6 e6 ⊢

    refine ⟨_, rfl, lenOk, fun hp hhp => ?_⟩
    have s7 : Same H6 (upd H6 hp (.tup [.ref t, vO cm])) := Same.upd hhp
    have e7 : (upd H6 hp (.tup [.ref t, vO cm])) hp = some (.tup [.ref t, vO cm]) := upd_same
    generalize upd H6 hp (.tup [.ref t, vO cm]) = H7 at s7 e7 ⊢

    have s57 := s6.trans s7
    have ha7 : HallAt H7 hp ws cm := ⟨t, e7, s7 _ _ e6⟩
    refine ⟨lenOk, fun F hF => ?_⟩
    have s8 : Same H7 (upd H7 F (.lst [.bl false])) := Same.upd hF
    have e8 : (upd H7 F (.lst [.bl false])) F = some (.lst [.bl false]) := upd_same
    generalize upd H7 F (.lst [.bl false]) = H8 at s8 e8 ⊢

    refine ⟨_, rfl, W, _, rfl, .inl (SqL.of (s8 _ _ (s57 _ _ hW5))), F, _, _, rfl, rfl, e8, by omega, by rw [List.length_map]; omega, Nat.le_of_lt (small1000 (by rw [List.length_map]; simp; omega)), fun F2 hF2 => ?_⟩
    rw [List.length_map, fls_rep]
    have s9 : Same H8 (upd H8 F2 (.lst (List.replicate ws.length (V.bl false)))) := Same.upd hF2
    have e9 : (upd H8 F2 (.lst (List.replicate ws.length (V.bl false)))) F2 = some (.lst (List.replicate ws.length (V.bl false))) := upd_same
    generalize upd H8 F2 (.lst (List.replicate ws.length (V.bl false))) = H9 at s9 e9 ⊢

    refine ⟨F2, _, rfl, .inl ⟨SqL.of e9, fun m hm => ?_⟩⟩
    have s10 : Same H9 (upd H9 m (.tup (List.replicate ws.length (V.bl false)))) := Same.upd hm
    have e10 : (upd H9 m (.tup (List.replicate ws.length (V.bl false)))) m = some (.tup (List.replicate ws.length (V.bl false))) := upd_same
    generalize upd H9 m (.tup (List.replicate ws.length (V.bl false))) = H10 at s10 e10 ⊢

    have s710 := (s8.trans s9).trans s10
    have ha10 := ha7.same s710
    refine ⟨_, rfl, hp, _, _, _, rfl, rfl, .inr (SqT.of (s710 _ _ e7)), rfl, lenOk, fun b0 hb0 => ?_⟩
    have s11 : Same H10 (upd H10 b0 (.tup [.ref t, .int 0])) := Same.upd hb0
    have e11 : (upd H10 b0 (.tup [.ref t, .int 0])) b0 = some (.tup [.ref t, .int 0]) := upd_same
    generalize upd H10 b0 (.tup [.ref t, .int 0]) = H11 at s11 e11 ⊢

    refine ⟨_, rfl, _, rfl, lenOk, fun T0 hT0 => ?_⟩
    have s12 : Same H11 (upd H11 T0 (.tup [.ref b0, .int (1 + cellI ns 2 % 2), .ref m])) := Same.upd hT0
    have e12 : (upd H11 T0 (.tup [.ref b0, .int (1 + cellI ns 2 % 2), .ref m])) T0 = some (.tup [.ref b0, .int (1 + cellI ns 2 % 2), .ref m]) := upd_same
    generalize upd H11 T0 (.tup [.ref b0, .int (1 + cellI ns 2 % 2), .ref m]) = H12 at s12 e12 ⊢

    refine ⟨lenOk, fun P hP => ?_⟩
    have s13 : Same H12 (upd H12 P (.lst [.ref T0])) := Same.upd hP
    have e13 : (upd H12 P (.lst [.ref T0])) P = some (.lst [.ref T0]) := upd_same
    generalize upd H12 P (.lst [.ref T0]) = H13 at s13 e13 ⊢

    have s1013 := (s11.trans s12).trans s13
    have s013 := (s5.trans s57).trans (s710.trans s1013)
    have ha13 := ha10.same s1013
    have hPH : H P = none := (((s5.trans s57).trans s710).trans (s11.trans s12)).free hP
    have hm13 := s1013 _ _ e10
    have et13 := s1013 _ _ (s710 _ _ (s7 _ _ e6))
    have htv : TV ws.length H13 ((ws, 0), (1 + cellI ns 2 % 2)) (.ref T0) := ⟨T0, b0, m, rfl, s13 _ _ e12, ⟨t, s13 _ _ (s12 _ _ e11), et13⟩, hm13⟩
    have hgb : GoodB ws [((ws, 0), (1 + cellI ns 2 % 2))] := ⟨by simp, (fun e he => by rw [List.mem_singleton.mp he]; exact ⟨rfl, by omega⟩), by simp, by simp⟩
    refine ⟨_, rfl, rfl, _, rfl, (fun σ' H' => ∃ (us : List V) (bs : List Bp) (v8 v9 : Option V), σ' = [some (.ref a), some (.int (1 + cellI ns 2 % 2)), some (.ref W), v3, some (vO cm), some (.ref hp), some (.ref m), some (.ref P), v8, v9, none] ∧ Same H H' ∧ HallAt H' hp ws cm ∧ H' P = some (.lst us) ∧ AllAt (TV ws.length H') bs us ∧ GoodB ws bs), fun _ => ?_, fun _ => ⟨_, _, _, _, rfl, s013, ha13, e13, AllAt.one htv, hgb⟩, ?_⟩
    · have hW13 := s1013 _ _ (s710 _ _ (s57 _ _ hW5))
      refine ⟨_, rfl, W, _, rfl, .inl (SqL.of hW13), _, rfl, by omega, by rw [List.length_map]; omega, ?_⟩
      refine for_range (n := (((ws.map V.int).length : Nat) : Int).toNat) (fun i σ H' => ∃ (us : List V) (bs : List Bp) (v8 v9 : Option V), σ = [some (.ref a), some (.int (1 + cellI ns 2 % 2)), some (.ref W), v3, some (vO cm), some (.ref hp), some (.ref m), some (.ref P), v8, v9, none] ∧ Same H H' ∧ Tups H13 H' ∧ H' P = some (.lst us) ∧ AllAt (TV ws.length H') bs us ∧ GoodB ws bs ∧ bs.length ≤ i + 1) ⟨_, _, _, _, rfl, s013, (fun _ _ e => e), e13, AllAt.one htv, hgb, Nat.le_refl _⟩ ?_ ?_
      · rintro i σ H14 hi ⟨us, bs, v8, v9, rfl, s14', t14, hP14, htvs, hg, hbl⟩
        rw [Int.toNat_natCast, List.length_map] at hi
        have ha14 := ha13.up t14
        obtain ⟨t', hh1, hh2⟩ := id ha14
        refine ⟨_, rfl, _, rfl, hp, _, _, _, rfl, rfl, .inr (SqT.of hh1), rfl, lenOk, fun b1 hb1 => ?_⟩
        have s15 : Same H14 (upd H14 b1 (.tup [.ref t', .int 0])) := Same.upd hb1
        have e15 : (upd H14 b1 (.tup [.ref t', .int 0])) b1 = some (.tup [.ref t', .int 0]) := upd_same
        generalize upd H14 b1 (.tup [.ref t', .int 0]) = H15 at s15 e15 ⊢

        have hst15 : StAt H15 b1 ws 0 := ⟨t', e15, s15 _ _ hh2⟩
        refine ⟨_, rfl, hp, b1, ws, ws, cm, 0, _, i, false, rfl, Int.zero_add _, ha14.same s15, hst15, hi, rfl, h8, hws, (fun z => nomatch z), fun v H16 s16 hv => ?_⟩
        have s1416 := s15.trans s16
        have hP16 := s1416 _ _ hP14
        have htv16 := htvs.imp fun _ _ z => TV.up (Tups.of s1416) z
        have hul := htvs.1
        cases haf : aft ws ws cm 0 i false with
        | none =>
          rw [haf] at hv
          obtain rfl : v = V.non := hv
          refine ⟨_, rfl, rfl, _, rfl, (fun c H' => c = false ∧ H' = H16), (fun _ => ⟨rfl, rfl⟩), (fun h => absurd h (by decide)), fun c H17 hc => ?_⟩
          obtain ⟨rfl, rfl⟩ := hc
          refine ⟨_, (fun h => nomatch h), fun _ => ?_, fun _ _ z => z⟩
          exact ⟨us, bs, _, _, rfl, s14'.trans s1416, t14.trans (Tups.of s1416), hP16, htv16, hg, by omega⟩
        | some k =>
          rw [haf] at hv
          obtain ⟨bb, rfl, hk⟩ := hv
          have hkl : k.1.length = ws.length := by
            unfold aft at haf
            split at haf
            · cases haf
            · cases haf
              rw [leftB_length]
          refine ⟨_, rfl, rfl, _, rfl, (fun c H' => c = !decide (k ∈ bs.map (·.1)) ∧ Same H16 H'), (fun h => by simp at h), fun _ => ?_, fun c H17 hc => ?_⟩
          · refine ⟨_, rfl, _, rfl, P, rfl, .inl ⟨⟨_, SqL.of hP16⟩, fun E hE => ?_⟩⟩
            refine comp_list (K := K) (a := P) (xs := us) (fun j ys H' => H' E = some (.lst ys) ∧ Same H16 H' ∧ AllAt (StV H') ((bs.take j).map (·.1)) ys) ⟨upd_same, Same.upd hE, AllAt.nil⟩ (fun j ys H' _ ⟨_, s, _⟩ => SqL.of (s _ _ hP16)) ?_ ?_
            · rintro j y ys H17 hy ⟨hE17, s17, hys⟩ Qe hQ
              obtain ⟨e, he, te, be, me, rfl, ht1, ht2, ht3⟩ := htv16.get hy
              obtain ⟨bu, hb1', hb2'⟩ := ht2
              have hyl := hys.1
              rw [List.length_map, List.length_take] at hyl
              refine ⟨_, rfl, te, _, _, _, rfl, rfl, .inr (SqT.of (s17 _ _ ht1)), rfl, ?_⟩
              have t18 : Tups H17 (upd H17 E (.lst (ys ++ [.ref be]))) := Tups.lst hE17
              refine hQ _ _ hE17 (small1000 (by omega)) ⟨upd_same, s17.new hE, ?_⟩
              rw [List.take_add_one, he, List.map_append]
              exact (hys.imp fun _ _ z => StV.up t18 z).append (AllAt.one ⟨be, bu, rfl, t18 _ _ (s17 _ _ hb1'), t18 _ _ (s17 _ _ hb2')⟩)
            rintro ys H17 ⟨hE17, s17, hys⟩
            rw [hul, List.take_length] at hys
            refine ⟨E, ys, dS k, (bs.map (·.1)).map dS, rfl, SqL.of hE17, rp_dS (show StH H17 bb k from sth_same s17 hk), rpAll_of hys, by rw [depth_dS]; decide, _, rfl, ?_, s17⟩
            rw [if_pos rfl, any_dS]
          · obtain ⟨rfl, s17⟩ := hc
            refine ⟨_, fun h => ?_, fun _ => ?_, fun _ _ z => z⟩
            rotate_left
            · exact ⟨us, bs, _, _, rfl, s14'.trans (s1416.trans s17), t14.trans (Tups.of (s1416.trans s17)), s17 _ _ hP16, htv16.imp (fun _ _ z => TV.up (Tups.of s17) z), hg, by omega⟩
            have hnew : k ∉ bs.map (·.1) := by simpa using h
            have hP17 := s17 _ _ hP16
            refine ⟨_, rfl, .inl ⟨rfl, _, SqL.of hP17⟩, _, rfl, _, rfl, lenOk, fun T1 hT1 => ?_⟩
            have s18 : Same H17 (upd H17 T1 (.tup [.ref bb, .int 1, .ref m])) := Same.upd hT1
            have e18 : (upd H17 T1 (.tup [.ref bb, .int 1, .ref m])) T1 = some (.tup [.ref bb, .int 1, .ref m]) := upd_same
            generalize upd H17 T1 (.tup [.ref bb, .int 1, .ref m]) = H18 at s18 e18 ⊢

            have hP18 := s18 _ _ hP17
            refine ⟨P, _, _, rfl, rfl, hP18, small1000 (by omega), ?_⟩
            have s1618 := s17.trans s18
            have s1418 := s1416.trans s1618
            have t19 : Tups H18 (upd H18 P (.lst (us ++ [.ref T1]))) := Tups.lst hP18
            refine ⟨us ++ [.ref T1], bs ++ [(k, 1)], _, _, rfl, (s14'.trans s1418).new hPH, (t14.trans (Tups.of s1418)).trans t19, upd_same, ?_, goodB_snoc hg hnew hkl (by omega), by rw [List.length_append, List.length_singleton]; omega⟩
            exact (htv16.imp fun _ _ z => TV.up ((Tups.of s1618).trans t19) z).append (AllAt.one ⟨T1, bb, m, rfl, t19 _ _ e18, (show StH H18 bb k from sth_same s1618 hk).up t19, t19 _ _ (s1418 _ _ (t14 _ _ hm13))⟩)
      rintro σ H14 ⟨us, bs, v8, v9, rfl, s14', t14, hP14, htvs, hg, hbl⟩
      exact ⟨us, bs, _, _, rfl, s14', ha13.up t14, hP14, htvs, hg⟩
    rintro σ' H14 ⟨us, bs, v8, v9, rfl, s14', ha14, hP14, htvs, hg⟩
    refine ⟨_, rfl, _, rfl, P, _, rfl, .inl (SqL.of hP14), fun l2 hl2 => ?_⟩
    have s15 : Same H14 (upd H14 l2 (.lst us)) := Same.upd hl2
    have e15 : (upd H14 l2 (.lst us)) l2 = some (.lst us) := upd_same
    generalize upd H14 l2 (.lst us) = H15 at s15 e15 ⊢

    refine ⟨hp, l2, ws, cm, us, bs, rfl, ha14.same s15, hn0, h8, hws, e15, htvs.imp (fun _ _ z => TV.up (Tups.of s15) z), hg, fun r H16 s16 hr => ?_⟩
    have s1416 := s15.trans s16
    refine ⟨_, rfl, _, "bool", "bool", true, rfl, .bl _, kb_bool_bool, true, (fun d H' => d = true ∧ Same H H'), rfl, (fun z => nomatch z), fun _ => ?_, fun d H' hd => ?_⟩
    · refine ⟨_, rfl, _, rfl, _, rfl, hp, P, ws, cm, us, bs, rfl, ha14.same s1416, hn0, h8, hws, s1416 _ _ hP14, htvs.imp (fun _ _ z => TV.up (Tups.of s1416) z), hg, fun r2 H17 s17 hr2 => ⟨rfl, _, rfl, ?_, s14'.trans (s1416.trans s17)⟩⟩
      rw [same_bools hr hr2]
      simp
    · obtain ⟨rfl, s⟩ := hd
      exact q H' s
/-! ### law -/
def sp_law (K : PySem.W.Frag) : Sp := fun vs H Q _ => ∃ (a : Addr) (ns : List Int), vs = [.ref a] ∧ SqL K H a (ns.map V.int) ∧ ns.length ≤ 63 ∧ (∀ z ∈ ns, intBits z ≤ 2 ^ 20) ∧ ∀ H', Q (.bl true) H'
theorem ok_law {fd fd_law_kept_asked fd_law_broken_asked : FuncData} (T : Txt K mg f_beginning f_may_lose f_is_listener f_refuse_wrong_turn f_left_behind f_quiet_behind f_after f_all_behind f_lets_kept f_may_answer f_goes_down f_lets_broken f_law_cell f_law_behind f_law_next f_law_longest f_law_plan f_law_lets_kept f_law_kept_asked f_law_lets_broken f_law_broken_asked f_law) (F : Fun K "law" "law" s_law f_law fd) (G_law_kept_asked : FnOk P w K mg base CX0 7 f_law_kept_asked fd_law_kept_asked ["script"] (sp_law_kept_asked K)) (B_law_kept_asked : Binds K fd_law_kept_asked ["script"] []) (G_law_broken_asked : FnOk P w K mg base CX0 7 f_law_broken_asked fd_law_broken_asked ["script"] (sp_law_broken_asked K)) (B_law_broken_asked : Binds K fd_law_broken_asked ["script"] []) : FnOk P w K mg base CX0 8 f_law fd ["script"] (sp_law K) := by
  refine F.ok sc_law (fun vs H Q E h => ?_) (fun cdv A outer s H vs Q E hr h => ?_)
  · rcases h with ⟨a, ns, rfl, hS, hlen, hbig, q⟩ <;> rfl
  · obtain ⟨a, ns, rfl, hS, hlen, hbig, q⟩ := h
    refine ⟨_, (pss_one (ps_ret (pe_andY (pe_call G_law_kept_asked (hr.mono (by decide)) rfl T.m_law_kept_asked T.k_law_kept_asked B_law_kept_asked .nil pass0 (pa_cons (pv 0) pa_nil)) (pe_one (pe_call G_law_broken_asked (hr.mono (by decide)) rfl T.m_law_broken_asked T.k_law_broken_asked B_law_broken_asked .nil pass0 (pa_cons (pv 0) pa_nil)))))), ?_⟩
    refine ⟨_, rfl, a, ns, rfl, hS, hlen, fun H1 s1 => ?_⟩
    refine ⟨true, (fun d H' => d = true), rfl, (fun z => nomatch z), fun _ => ⟨_, rfl, a, ns, rfl, s1.seq hS, hlen, fun H2 s2 => ⟨true, rfl, rfl⟩⟩, fun d H' hd => ?_⟩
    rw [show d = true from hd]
    exact q H'
end
theorem all_mk {l : PySem.W.OpenLaw} {w : World} {K : PySem.W.Frag} {h : Heap} {mg : Str → Option Value} {fa : Addr} (X : K.In h) (G : h.Ns mainGlobals mg) (hfa : mg "law" = some (.ref fa)) {f_beginning f_may_lose f_is_listener f_refuse_wrong_turn f_left_behind f_quiet_behind f_after f_all_behind f_lets_kept f_may_answer f_goes_down f_lets_broken f_law_cell f_law_behind f_law_next f_law_longest f_law_plan f_law_lets_kept f_law_kept_asked f_law_lets_broken f_law_broken_asked f_law : Addr} {od_beginning an_beginning : Option Addr} {sl_beginning : Array (Option Value)} {oc_beginning kV_beginning dc_beginning pm_beginning cd_beginning ct_beginning : Value} {od_may_lose an_may_lose : Option Addr} {sl_may_lose : Array (Option Value)} {oc_may_lose kV_may_lose dc_may_lose pm_may_lose cd_may_lose ct_may_lose : Value} {od_is_listener an_is_listener : Option Addr} {sl_is_listener : Array (Option Value)} {oc_is_listener kV_is_listener dc_is_listener pm_is_listener cd_is_listener ct_is_listener : Value} {od_refuse_wrong_turn an_refuse_wrong_turn : Option Addr} {sl_refuse_wrong_turn : Array (Option Value)} {oc_refuse_wrong_turn kV_refuse_wrong_turn dc_refuse_wrong_turn pm_refuse_wrong_turn cd_refuse_wrong_turn ct_refuse_wrong_turn : Value} {od_left_behind an_left_behind : Option Addr} {sl_left_behind : Array (Option Value)} {oc_left_behind kV_left_behind dc_left_behind pm_left_behind cd_left_behind ct_left_behind : Value} {od_quiet_behind an_quiet_behind : Option Addr} {sl_quiet_behind : Array (Option Value)} {oc_quiet_behind kV_quiet_behind dc_quiet_behind pm_quiet_behind cd_quiet_behind ct_quiet_behind : Value} {od_after an_after : Option Addr} {sl_after : Array (Option Value)} {oc_after kV_after dc_after pm_after cd_after ct_after : Value} {od_all_behind an_all_behind : Option Addr} {sl_all_behind : Array (Option Value)} {oc_all_behind kV_all_behind dc_all_behind pm_all_behind cd_all_behind ct_all_behind : Value} {od_lets_kept an_lets_kept : Option Addr} {sl_lets_kept : Array (Option Value)} {oc_lets_kept kV_lets_kept dc_lets_kept pm_lets_kept cd_lets_kept ct_lets_kept : Value} {od_may_answer an_may_answer : Option Addr} {sl_may_answer : Array (Option Value)} {oc_may_answer kV_may_answer dc_may_answer pm_may_answer cd_may_answer ct_may_answer : Value} {od_goes_down an_goes_down : Option Addr} {sl_goes_down : Array (Option Value)} {oc_goes_down kV_goes_down dc_goes_down pm_goes_down cd_goes_down ct_goes_down : Value} {od_lets_broken an_lets_broken : Option Addr} {sl_lets_broken : Array (Option Value)} {oc_lets_broken kV_lets_broken dc_lets_broken pm_lets_broken cd_lets_broken ct_lets_broken : Value} {od_law_cell an_law_cell : Option Addr} {sl_law_cell : Array (Option Value)} {oc_law_cell kV_law_cell dc_law_cell pm_law_cell cd_law_cell ct_law_cell : Value} {od_law_behind an_law_behind : Option Addr} {sl_law_behind : Array (Option Value)} {oc_law_behind kV_law_behind dc_law_behind pm_law_behind cd_law_behind ct_law_behind : Value} {od_law_next an_law_next : Option Addr} {sl_law_next : Array (Option Value)} {oc_law_next kV_law_next dc_law_next pm_law_next cd_law_next ct_law_next : Value} {od_law_longest an_law_longest : Option Addr} {sl_law_longest : Array (Option Value)} {oc_law_longest kV_law_longest dc_law_longest pm_law_longest cd_law_longest ct_law_longest : Value} {od_law_plan an_law_plan : Option Addr} {sl_law_plan : Array (Option Value)} {oc_law_plan kV_law_plan dc_law_plan pm_law_plan cd_law_plan ct_law_plan : Value} {od_law_lets_kept an_law_lets_kept : Option Addr} {sl_law_lets_kept : Array (Option Value)} {oc_law_lets_kept kV_law_lets_kept dc_law_lets_kept pm_law_lets_kept cd_law_lets_kept ct_law_lets_kept : Value} {od_law_kept_asked an_law_kept_asked : Option Addr} {sl_law_kept_asked : Array (Option Value)} {oc_law_kept_asked kV_law_kept_asked dc_law_kept_asked pm_law_kept_asked cd_law_kept_asked ct_law_kept_asked : Value} {od_law_lets_broken an_law_lets_broken : Option Addr} {sl_law_lets_broken : Array (Option Value)} {oc_law_lets_broken kV_law_lets_broken dc_law_lets_broken pm_law_lets_broken cd_law_lets_broken ct_law_lets_broken : Value} {od_law_broken_asked an_law_broken_asked : Option Addr} {sl_law_broken_asked : Array (Option Value)} {oc_law_broken_asked kV_law_broken_asked dc_law_broken_asked pm_law_broken_asked cd_law_broken_asked ct_law_broken_asked : Value} {od_law an_law : Option Addr} {sl_law : Array (Option Value)} {oc_law kV_law dc_law pm_law cd_law ct_law : Value} {dt_after : Addr} {tc_after : Value} {td_after : Option Addr} {tn_after : Nat} {ts_after : Array (Option Value)}
    (a_beginning : PySem.W.nsIn K mainGlobals "beginning" = some (some (.ref f_beginning))) (l_beginning : K.lookup f_beginning = some ⟨oc_beginning, od_beginning, .func (PySem.W.fnOf "beginning" "beginning" (defArgs s_beginning) (defBody s_beginning) (defScope s_beginning) .none kV_beginning dc_beginning pm_beginning an_beginning cd_beginning ct_beginning), sl_beginning⟩) (c_beginning : PySem.W.codeIn K cd_beginning "beginning" = true) (k_beginning : PySem.W.keepIn K (.ref f_beginning) = true)
    (a_may_lose : PySem.W.nsIn K mainGlobals "may_lose" = some (some (.ref f_may_lose))) (l_may_lose : K.lookup f_may_lose = some ⟨oc_may_lose, od_may_lose, .func (PySem.W.fnOf "may_lose" "may_lose" (defArgs s_may_lose) (defBody s_may_lose) (defScope s_may_lose) .none kV_may_lose dc_may_lose pm_may_lose an_may_lose cd_may_lose ct_may_lose), sl_may_lose⟩) (c_may_lose : PySem.W.codeIn K cd_may_lose "may_lose" = true) (k_may_lose : PySem.W.keepIn K (.ref f_may_lose) = true)
    (a_is_listener : PySem.W.nsIn K mainGlobals "is_listener" = some (some (.ref f_is_listener))) (l_is_listener : K.lookup f_is_listener = some ⟨oc_is_listener, od_is_listener, .func (PySem.W.fnOf "is_listener" "is_listener" (defArgs s_is_listener) (defBody s_is_listener) (defScope s_is_listener) .none kV_is_listener dc_is_listener pm_is_listener an_is_listener cd_is_listener ct_is_listener), sl_is_listener⟩) (c_is_listener : PySem.W.codeIn K cd_is_listener "is_listener" = true) (k_is_listener : PySem.W.keepIn K (.ref f_is_listener) = true)
    (a_refuse_wrong_turn : PySem.W.nsIn K mainGlobals "refuse_wrong_turn" = some (some (.ref f_refuse_wrong_turn))) (l_refuse_wrong_turn : K.lookup f_refuse_wrong_turn = some ⟨oc_refuse_wrong_turn, od_refuse_wrong_turn, .func (PySem.W.fnOf "refuse_wrong_turn" "refuse_wrong_turn" (defArgs s_refuse_wrong_turn) (defBody s_refuse_wrong_turn) (defScope s_refuse_wrong_turn) .none kV_refuse_wrong_turn dc_refuse_wrong_turn pm_refuse_wrong_turn an_refuse_wrong_turn cd_refuse_wrong_turn ct_refuse_wrong_turn), sl_refuse_wrong_turn⟩) (c_refuse_wrong_turn : PySem.W.codeIn K cd_refuse_wrong_turn "refuse_wrong_turn" = true) (k_refuse_wrong_turn : PySem.W.keepIn K (.ref f_refuse_wrong_turn) = true)
    (a_left_behind : PySem.W.nsIn K mainGlobals "left_behind" = some (some (.ref f_left_behind))) (l_left_behind : K.lookup f_left_behind = some ⟨oc_left_behind, od_left_behind, .func (PySem.W.fnOf "left_behind" "left_behind" (defArgs s_left_behind) (defBody s_left_behind) (defScope s_left_behind) .none kV_left_behind dc_left_behind pm_left_behind an_left_behind cd_left_behind ct_left_behind), sl_left_behind⟩) (c_left_behind : PySem.W.codeIn K cd_left_behind "left_behind" = true) (k_left_behind : PySem.W.keepIn K (.ref f_left_behind) = true)
    (a_quiet_behind : PySem.W.nsIn K mainGlobals "quiet_behind" = some (some (.ref f_quiet_behind))) (l_quiet_behind : K.lookup f_quiet_behind = some ⟨oc_quiet_behind, od_quiet_behind, .func (PySem.W.fnOf "quiet_behind" "quiet_behind" (defArgs s_quiet_behind) (defBody s_quiet_behind) (defScope s_quiet_behind) .none kV_quiet_behind dc_quiet_behind pm_quiet_behind an_quiet_behind cd_quiet_behind ct_quiet_behind), sl_quiet_behind⟩) (c_quiet_behind : PySem.W.codeIn K cd_quiet_behind "quiet_behind" = true) (k_quiet_behind : PySem.W.keepIn K (.ref f_quiet_behind) = true)
    (a_after : PySem.W.nsIn K mainGlobals "after" = some (some (.ref f_after))) (l_after : K.lookup f_after = some ⟨oc_after, od_after, .func (PySem.W.fnOf "after" "after" (defArgs s_after) (defBody s_after) (defScope s_after) (.ref dt_after) kV_after dc_after pm_after an_after cd_after ct_after), sl_after⟩) (c_after : PySem.W.codeIn K cd_after "after" = true) (k_after : PySem.W.keepIn K (.ref f_after) = true) (t_after : K.lookup dt_after = some ⟨tc_after, td_after, .seq #[Value.bool false] tn_after, ts_after⟩)
    (a_all_behind : PySem.W.nsIn K mainGlobals "all_behind" = some (some (.ref f_all_behind))) (l_all_behind : K.lookup f_all_behind = some ⟨oc_all_behind, od_all_behind, .func (PySem.W.fnOf "all_behind" "all_behind" (defArgs s_all_behind) (defBody s_all_behind) (defScope s_all_behind) .none kV_all_behind dc_all_behind pm_all_behind an_all_behind cd_all_behind ct_all_behind), sl_all_behind⟩) (c_all_behind : PySem.W.codeIn K cd_all_behind "all_behind" = true) (k_all_behind : PySem.W.keepIn K (.ref f_all_behind) = true)
    (a_lets_kept : PySem.W.nsIn K mainGlobals "lets_kept" = some (some (.ref f_lets_kept))) (l_lets_kept : K.lookup f_lets_kept = some ⟨oc_lets_kept, od_lets_kept, .func (PySem.W.fnOf "lets_kept" "lets_kept" (defArgs s_lets_kept) (defBody s_lets_kept) (defScope s_lets_kept) .none kV_lets_kept dc_lets_kept pm_lets_kept an_lets_kept cd_lets_kept ct_lets_kept), sl_lets_kept⟩) (c_lets_kept : PySem.W.codeIn K cd_lets_kept "lets_kept" = true) (k_lets_kept : PySem.W.keepIn K (.ref f_lets_kept) = true)
    (a_may_answer : PySem.W.nsIn K mainGlobals "may_answer" = some (some (.ref f_may_answer))) (l_may_answer : K.lookup f_may_answer = some ⟨oc_may_answer, od_may_answer, .func (PySem.W.fnOf "may_answer" "may_answer" (defArgs s_may_answer) (defBody s_may_answer) (defScope s_may_answer) .none kV_may_answer dc_may_answer pm_may_answer an_may_answer cd_may_answer ct_may_answer), sl_may_answer⟩) (c_may_answer : PySem.W.codeIn K cd_may_answer "may_answer" = true) (k_may_answer : PySem.W.keepIn K (.ref f_may_answer) = true)
    (a_goes_down : PySem.W.nsIn K mainGlobals "goes_down" = some (some (.ref f_goes_down))) (l_goes_down : K.lookup f_goes_down = some ⟨oc_goes_down, od_goes_down, .func (PySem.W.fnOf "goes_down" "goes_down" (defArgs s_goes_down) (defBody s_goes_down) (defScope s_goes_down) .none kV_goes_down dc_goes_down pm_goes_down an_goes_down cd_goes_down ct_goes_down), sl_goes_down⟩) (c_goes_down : PySem.W.codeIn K cd_goes_down "goes_down" = true) (k_goes_down : PySem.W.keepIn K (.ref f_goes_down) = true)
    (a_lets_broken : PySem.W.nsIn K mainGlobals "lets_broken" = some (some (.ref f_lets_broken))) (l_lets_broken : K.lookup f_lets_broken = some ⟨oc_lets_broken, od_lets_broken, .func (PySem.W.fnOf "lets_broken" "lets_broken" (defArgs s_lets_broken) (defBody s_lets_broken) (defScope s_lets_broken) .none kV_lets_broken dc_lets_broken pm_lets_broken an_lets_broken cd_lets_broken ct_lets_broken), sl_lets_broken⟩) (c_lets_broken : PySem.W.codeIn K cd_lets_broken "lets_broken" = true) (k_lets_broken : PySem.W.keepIn K (.ref f_lets_broken) = true)
    (a_law_cell : PySem.W.nsIn K mainGlobals "_law_cell" = some (some (.ref f_law_cell))) (l_law_cell : K.lookup f_law_cell = some ⟨oc_law_cell, od_law_cell, .func (PySem.W.fnOf "_law_cell" "_law_cell" (defArgs s_law_cell) (defBody s_law_cell) (defScope s_law_cell) .none kV_law_cell dc_law_cell pm_law_cell an_law_cell cd_law_cell ct_law_cell), sl_law_cell⟩) (c_law_cell : PySem.W.codeIn K cd_law_cell "_law_cell" = true) (k_law_cell : PySem.W.keepIn K (.ref f_law_cell) = true)
    (a_law_behind : PySem.W.nsIn K mainGlobals "_law_behind" = some (some (.ref f_law_behind))) (l_law_behind : K.lookup f_law_behind = some ⟨oc_law_behind, od_law_behind, .func (PySem.W.fnOf "_law_behind" "_law_behind" (defArgs s_law_behind) (defBody s_law_behind) (defScope s_law_behind) .none kV_law_behind dc_law_behind pm_law_behind an_law_behind cd_law_behind ct_law_behind), sl_law_behind⟩) (c_law_behind : PySem.W.codeIn K cd_law_behind "_law_behind" = true) (k_law_behind : PySem.W.keepIn K (.ref f_law_behind) = true)
    (a_law_next : PySem.W.nsIn K mainGlobals "_law_next" = some (some (.ref f_law_next))) (l_law_next : K.lookup f_law_next = some ⟨oc_law_next, od_law_next, .func (PySem.W.fnOf "_law_next" "_law_next" (defArgs s_law_next) (defBody s_law_next) (defScope s_law_next) .none kV_law_next dc_law_next pm_law_next an_law_next cd_law_next ct_law_next), sl_law_next⟩) (c_law_next : PySem.W.codeIn K cd_law_next "_law_next" = true) (k_law_next : PySem.W.keepIn K (.ref f_law_next) = true)
    (a_law_longest : PySem.W.nsIn K mainGlobals "_law_longest" = some (some (.ref f_law_longest))) (l_law_longest : K.lookup f_law_longest = some ⟨oc_law_longest, od_law_longest, .func (PySem.W.fnOf "_law_longest" "_law_longest" (defArgs s_law_longest) (defBody s_law_longest) (defScope s_law_longest) .none kV_law_longest dc_law_longest pm_law_longest an_law_longest cd_law_longest ct_law_longest), sl_law_longest⟩) (c_law_longest : PySem.W.codeIn K cd_law_longest "_law_longest" = true) (k_law_longest : PySem.W.keepIn K (.ref f_law_longest) = true)
    (a_law_plan : PySem.W.nsIn K mainGlobals "_law_plan" = some (some (.ref f_law_plan))) (l_law_plan : K.lookup f_law_plan = some ⟨oc_law_plan, od_law_plan, .func (PySem.W.fnOf "_law_plan" "_law_plan" (defArgs s_law_plan) (defBody s_law_plan) (defScope s_law_plan) .none kV_law_plan dc_law_plan pm_law_plan an_law_plan cd_law_plan ct_law_plan), sl_law_plan⟩) (c_law_plan : PySem.W.codeIn K cd_law_plan "_law_plan" = true) (k_law_plan : PySem.W.keepIn K (.ref f_law_plan) = true)
    (a_law_lets_kept : PySem.W.nsIn K mainGlobals "_law_lets_kept" = some (some (.ref f_law_lets_kept))) (l_law_lets_kept : K.lookup f_law_lets_kept = some ⟨oc_law_lets_kept, od_law_lets_kept, .func (PySem.W.fnOf "_law_lets_kept" "_law_lets_kept" (defArgs s_law_lets_kept) (defBody s_law_lets_kept) (defScope s_law_lets_kept) .none kV_law_lets_kept dc_law_lets_kept pm_law_lets_kept an_law_lets_kept cd_law_lets_kept ct_law_lets_kept), sl_law_lets_kept⟩) (c_law_lets_kept : PySem.W.codeIn K cd_law_lets_kept "_law_lets_kept" = true) (k_law_lets_kept : PySem.W.keepIn K (.ref f_law_lets_kept) = true)
    (a_law_kept_asked : PySem.W.nsIn K mainGlobals "_law_kept_asked" = some (some (.ref f_law_kept_asked))) (l_law_kept_asked : K.lookup f_law_kept_asked = some ⟨oc_law_kept_asked, od_law_kept_asked, .func (PySem.W.fnOf "_law_kept_asked" "_law_kept_asked" (defArgs s_law_kept_asked) (defBody s_law_kept_asked) (defScope s_law_kept_asked) .none kV_law_kept_asked dc_law_kept_asked pm_law_kept_asked an_law_kept_asked cd_law_kept_asked ct_law_kept_asked), sl_law_kept_asked⟩) (c_law_kept_asked : PySem.W.codeIn K cd_law_kept_asked "_law_kept_asked" = true) (k_law_kept_asked : PySem.W.keepIn K (.ref f_law_kept_asked) = true)
    (a_law_lets_broken : PySem.W.nsIn K mainGlobals "_law_lets_broken" = some (some (.ref f_law_lets_broken))) (l_law_lets_broken : K.lookup f_law_lets_broken = some ⟨oc_law_lets_broken, od_law_lets_broken, .func (PySem.W.fnOf "_law_lets_broken" "_law_lets_broken" (defArgs s_law_lets_broken) (defBody s_law_lets_broken) (defScope s_law_lets_broken) .none kV_law_lets_broken dc_law_lets_broken pm_law_lets_broken an_law_lets_broken cd_law_lets_broken ct_law_lets_broken), sl_law_lets_broken⟩) (c_law_lets_broken : PySem.W.codeIn K cd_law_lets_broken "_law_lets_broken" = true) (k_law_lets_broken : PySem.W.keepIn K (.ref f_law_lets_broken) = true)
    (a_law_broken_asked : PySem.W.nsIn K mainGlobals "_law_broken_asked" = some (some (.ref f_law_broken_asked))) (l_law_broken_asked : K.lookup f_law_broken_asked = some ⟨oc_law_broken_asked, od_law_broken_asked, .func (PySem.W.fnOf "_law_broken_asked" "_law_broken_asked" (defArgs s_law_broken_asked) (defBody s_law_broken_asked) (defScope s_law_broken_asked) .none kV_law_broken_asked dc_law_broken_asked pm_law_broken_asked an_law_broken_asked cd_law_broken_asked ct_law_broken_asked), sl_law_broken_asked⟩) (c_law_broken_asked : PySem.W.codeIn K cd_law_broken_asked "_law_broken_asked" = true) (k_law_broken_asked : PySem.W.keepIn K (.ref f_law_broken_asked) = true)
    (a_law : PySem.W.nsIn K mainGlobals "law" = some (some (.ref f_law))) (l_law : K.lookup f_law = some ⟨oc_law, od_law, .func (PySem.W.fnOf "law" "law" (defArgs s_law) (defBody s_law) (defScope s_law) .none kV_law dc_law pm_law an_law cd_law ct_law), sl_law⟩) (c_law : PySem.W.codeIn K cd_law "law" = true) (k_law : PySem.W.keepIn K (.ref f_law) = true)
    
     (z_len : PySem.W.nsIn K mainGlobals "len" = some none) (z_max : PySem.W.nsIn K mainGlobals "max" = some none) (z_tuple : PySem.W.nsIn K mainGlobals "tuple" = some none) (z_dict : PySem.W.nsIn K mainGlobals "dict" = some none) (z_enumerate : PySem.W.nsIn K mainGlobals "enumerate" = some none) (z_range : PySem.W.nsIn K mainGlobals "range" = some none) (z_list : PySem.W.nsIn K mainGlobals "list" = some none) (z_isinstance : PySem.W.nsIn K mainGlobals "isinstance" = some none) (z_bool : PySem.W.nsIn K mainGlobals "bool" = some none) (z_int : PySem.W.nsIn K mainGlobals "int" = some none)   :
    ∃ fd : FuncData, (∀ (s : Shared) (v : Value), BindsTo s fd ⟨[v], []⟩ [("script", v)]) ∧ ∀ base : Heap, K.In base → base.Ns mainGlobals mg → FnOk l.prog w K mg base CX0 8 fa fd ["script"] (sp_law K) := by
  have e := hfa.symm.trans (PySem.W.mg_of X G a_law)
  cases e
  have T : Txt K mg f_beginning f_may_lose f_is_listener f_refuse_wrong_turn f_left_behind f_quiet_behind f_after f_all_behind f_lets_kept f_may_answer f_goes_down f_lets_broken f_law_cell f_law_behind f_law_next f_law_longest f_law_plan f_law_lets_kept f_law_kept_asked f_law_lets_broken f_law_broken_asked fa := ⟨PySem.W.mg_of X G a_beginning, k_beginning, PySem.W.mg_of X G a_may_lose, k_may_lose, PySem.W.mg_of X G a_is_listener, k_is_listener, PySem.W.mg_of X G a_refuse_wrong_turn, k_refuse_wrong_turn, PySem.W.mg_of X G a_left_behind, k_left_behind, PySem.W.mg_of X G a_quiet_behind, k_quiet_behind, PySem.W.mg_of X G a_after, k_after, PySem.W.mg_of X G a_all_behind, k_all_behind, PySem.W.mg_of X G a_lets_kept, k_lets_kept, PySem.W.mg_of X G a_may_answer, k_may_answer, PySem.W.mg_of X G a_goes_down, k_goes_down, PySem.W.mg_of X G a_lets_broken, k_lets_broken, PySem.W.mg_of X G a_law_cell, k_law_cell, PySem.W.mg_of X G a_law_behind, k_law_behind, PySem.W.mg_of X G a_law_next, k_law_next, PySem.W.mg_of X G a_law_longest, k_law_longest, PySem.W.mg_of X G a_law_plan, k_law_plan, PySem.W.mg_of X G a_law_lets_kept, k_law_lets_kept, PySem.W.mg_of X G a_law_kept_asked, k_law_kept_asked, PySem.W.mg_of X G a_law_lets_broken, k_law_lets_broken, PySem.W.mg_of X G a_law_broken_asked, k_law_broken_asked, PySem.W.mg_of X G a_law, k_law, PySem.W.mg_none_of X G z_len, PySem.W.mg_none_of X G z_max, PySem.W.mg_none_of X G z_tuple, PySem.W.mg_none_of X G z_dict, PySem.W.mg_none_of X G z_enumerate, PySem.W.mg_none_of X G z_range, PySem.W.mg_none_of X G z_list, PySem.W.mg_none_of X G z_isinstance, PySem.W.mg_none_of X G z_bool, PySem.W.mg_none_of X G z_int⟩
  have F_beginning := fun_mk (st := s_beginning) l_beginning c_beginning k_beginning
  have F_may_lose := fun_mk (st := s_may_lose) l_may_lose c_may_lose k_may_lose
  have F_is_listener := fun_mk (st := s_is_listener) l_is_listener c_is_listener k_is_listener
  have F_refuse_wrong_turn := fun_mk (st := s_refuse_wrong_turn) l_refuse_wrong_turn c_refuse_wrong_turn k_refuse_wrong_turn
  have F_left_behind := fun_mk (st := s_left_behind) l_left_behind c_left_behind k_left_behind
  have F_quiet_behind := fun_mk (st := s_quiet_behind) l_quiet_behind c_quiet_behind k_quiet_behind
  have F_after : FunD K "after" "after" s_after f_after _ := ⟨⟨_, _, _, _, _, _, _, _, _, _, rfl, l_after, c_after⟩⟩
  have F_all_behind := fun_mk (st := s_all_behind) l_all_behind c_all_behind k_all_behind
  have F_lets_kept := fun_mk (st := s_lets_kept) l_lets_kept c_lets_kept k_lets_kept
  have F_may_answer := fun_mk (st := s_may_answer) l_may_answer c_may_answer k_may_answer
  have F_goes_down := fun_mk (st := s_goes_down) l_goes_down c_goes_down k_goes_down
  have F_lets_broken := fun_mk (st := s_lets_broken) l_lets_broken c_lets_broken k_lets_broken
  have F_law_cell := fun_mk (st := s_law_cell) l_law_cell c_law_cell k_law_cell
  have F_law_behind := fun_mk (st := s_law_behind) l_law_behind c_law_behind k_law_behind
  have F_law_next := fun_mk (st := s_law_next) l_law_next c_law_next k_law_next
  have F_law_longest := fun_mk (st := s_law_longest) l_law_longest c_law_longest k_law_longest
  have F_law_plan := fun_mk (st := s_law_plan) l_law_plan c_law_plan k_law_plan
  have F_law_lets_kept := fun_mk (st := s_law_lets_kept) l_law_lets_kept c_law_lets_kept k_law_lets_kept
  have F_law_kept_asked := fun_mk (st := s_law_kept_asked) l_law_kept_asked c_law_kept_asked k_law_kept_asked
  have F_law_lets_broken := fun_mk (st := s_law_lets_broken) l_law_lets_broken c_law_lets_broken k_law_lets_broken
  have F_law_broken_asked := fun_mk (st := s_law_broken_asked) l_law_broken_asked c_law_broken_asked k_law_broken_asked
  have F_law := fun_mk (st := s_law) l_law c_law k_law
  have B_beginning := F_beginning.binds (ps := ["hall"]) fun _ _ _ _ _ _ us hl => match us, hl with | [_], _ => rfl
  have B_may_lose := F_may_lose.binds (ps := ["hall", "standing"]) fun _ _ _ _ _ _ us hl => match us, hl with | [_, _], _ => rfl
  have B_is_listener := F_is_listener.binds (ps := ["hall", "who"]) fun _ _ _ _ _ _ us hl => match us, hl with | [_, _], _ => rfl
  have B_refuse_wrong_turn := F_refuse_wrong_turn.binds (ps := ["hall", "standing", "who", "lost"]) fun _ _ _ _ _ _ us hl => match us, hl with | [_, _, _, _], _ => rfl
  have B_left_behind := F_left_behind.binds (ps := ["hall", "standing", "who", "lost"]) fun _ _ _ _ _ _ us hl => match us, hl with | [_, _, _, _], _ => rfl
  have B_quiet_behind := F_quiet_behind.binds (ps := ["hall", "standing", "lost"]) fun _ _ _ _ _ _ us hl => match us, hl with | [_, _, _], _ => rfl
  have B_after : Binds K (PySem.W.fnOf "after" "after" (defArgs s_after) (defBody s_after) (defScope s_after) (.ref dt_after) kV_after dc_after pm_after an_after cd_after ct_after) ["hall", "standing", "who", "lost"] [] := fun s us hK hl => by
    have h4 : us.length = 4 := by simpa using hl
    match us, h4 with | [_, _, _, _], _ => exact BindsTo.of_defaults rfl (hK _ _ t_after) rfl rfl rfl
  have B_after_d : Binds K (PySem.W.fnOf "after" "after" (defArgs s_after) (defBody s_after) (defScope s_after) (.ref dt_after) kV_after dc_after pm_after an_after cd_after ct_after) ["hall", "standing", "who", "lost"] [Value.bool false] := fun s us hK hl => by
    have h4 : us.length = 3 := by simpa using hl
    match us, h4 with | [_, _, _], _ => exact BindsTo.of_defaults rfl (hK _ _ t_after) rfl rfl rfl
  have B_all_behind := F_all_behind.binds (ps := ["hall", "standing", "who"]) fun _ _ _ _ _ _ us hl => match us, hl with | [_, _, _], _ => rfl
  have B_lets_kept := F_lets_kept.binds (ps := ["hall", "paper"]) fun _ _ _ _ _ _ us hl => match us, hl with | [_, _], _ => rfl
  have B_may_answer := F_may_answer.binds (ps := ["hall", "standing", "answers"]) fun _ _ _ _ _ _ us hl => match us, hl with | [_, _, _], _ => rfl
  have B_goes_down := F_goes_down.binds (ps := ["hall", "listed", "standing", "answers"]) fun _ _ _ _ _ _ us hl => match us, hl with | [_, _, _, _], _ => rfl
  have B_lets_broken := F_lets_broken.binds (ps := ["hall", "paper"]) fun _ _ _ _ _ _ us hl => match us, hl with | [_, _], _ => rfl
  have B_law_cell := F_law_cell.binds (ps := ["script", "k"]) fun _ _ _ _ _ _ us hl => match us, hl with | [_, _], _ => rfl
  have B_law_behind := F_law_behind.binds (ps := ["hall", "standing", "who", "lost"]) fun _ _ _ _ _ _ us hl => match us, hl with | [_, _, _, _], _ => rfl
  have B_law_next := F_law_next.binds (ps := ["hall", "standing", "who"]) fun _ _ _ _ _ _ us hl => match us, hl with | [_, _, _], _ => rfl
  have B_law_longest := F_law_longest.binds (ps := ["hall", "standing"]) fun _ _ _ _ _ _ us hl => match us, hl with | [_, _], _ => rfl
  have B_law_plan := F_law_plan.binds (ps := ["hall"]) fun _ _ _ _ _ _ us hl => match us, hl with | [_], _ => rfl
  have B_law_lets_kept := F_law_lets_kept.binds (ps := ["hall", "paper"]) fun _ _ _ _ _ _ us hl => match us, hl with | [_, _], _ => rfl
  have B_law_kept_asked := F_law_kept_asked.binds (ps := ["script"]) fun _ _ _ _ _ _ us hl => match us, hl with | [_], _ => rfl
  have B_law_lets_broken := F_law_lets_broken.binds (ps := ["hall", "paper"]) fun _ _ _ _ _ _ us hl => match us, hl with | [_, _], _ => rfl
  have B_law_broken_asked := F_law_broken_asked.binds (ps := ["script"]) fun _ _ _ _ _ _ us hl => match us, hl with | [_], _ => rfl
  refine ⟨PySem.W.fnOf "law" "law" (defArgs s_law) (defBody s_law) (defScope s_law) .none kV_law dc_law pm_law an_law cd_law ct_law, fun s v => .of_eq rfl, fun base _ _ => ?_⟩
  have G_beginning : FnOk l.prog w K mg base CX0 1 _ _ ["hall"] (sp_beginning K) := ok_beginning T F_beginning 
  have G_may_lose : FnOk l.prog w K mg base CX0 1 _ _ ["hall", "standing"] (sp_may_lose K) := ok_may_lose T F_may_lose 
  have G_is_listener : FnOk l.prog w K mg base CX0 1 _ _ ["hall", "who"] (sp_is_listener K) := ok_is_listener T F_is_listener 
  have G_refuse_wrong_turn : FnOk l.prog w K mg base CX0 2 _ _ ["hall", "standing", "who", "lost"] (sp_refuse_wrong_turn K) := ok_refuse_wrong_turn T F_refuse_wrong_turn G_is_listener B_is_listener G_may_lose B_may_lose
  have G_left_behind : FnOk l.prog w K mg base CX0 3 _ _ ["hall", "standing", "who", "lost"] (sp_left_behind K) := ok_left_behind T F_left_behind G_refuse_wrong_turn B_refuse_wrong_turn
  have G_quiet_behind : FnOk l.prog w K mg base CX0 1 _ _ ["hall", "standing", "lost"] (sp_quiet_behind K) := ok_quiet_behind T F_quiet_behind 
  have G_after : FnOk l.prog w K mg base CX0 4 _ _ ["hall", "standing", "who", "lost"] (sp_after K) := ok_after T F_after G_left_behind B_left_behind G_quiet_behind B_quiet_behind
  have G_all_behind : FnOk l.prog w K mg base CX0 5 _ _ ["hall", "standing", "who"] (sp_all_behind K) := ok_all_behind T F_all_behind G_may_lose B_may_lose G_after B_after B_after_d
  have G_lets_kept : FnOk l.prog w K mg base CX0 6 _ _ ["hall", "paper"] (sp_lets_kept K) := ok_lets_kept T F_lets_kept G_all_behind B_all_behind G_beginning B_beginning G_is_listener B_is_listener
  have G_may_answer : FnOk l.prog w K mg base CX0 2 _ _ ["hall", "standing", "answers"] (sp_may_answer K) := ok_may_answer T F_may_answer G_may_lose B_may_lose
  have G_goes_down : FnOk l.prog w K mg base CX0 5 _ _ ["hall", "listed", "standing", "answers"] (sp_goes_down K) := ok_goes_down T F_goes_down G_after B_after B_after_d
  have G_lets_broken : FnOk l.prog w K mg base CX0 6 _ _ ["hall", "paper"] (sp_lets_broken K) := ok_lets_broken T F_lets_broken G_beginning B_beginning G_goes_down B_goes_down G_may_answer B_may_answer
  have G_law_cell : FnOk l.prog w K mg base CX0 1 _ _ ["script", "k"] (sp_law_cell K) := ok_law_cell T F_law_cell 
  have G_law_behind : FnOk l.prog w K mg base CX0 1 _ _ ["hall", "standing", "who", "lost"] (sp_law_behind K) := ok_law_behind T F_law_behind 
  have G_law_next : FnOk l.prog w K mg base CX0 2 _ _ ["hall", "standing", "who"] (sp_law_next K) := ok_law_next T F_law_next G_law_behind B_law_behind
  have G_law_longest : FnOk l.prog w K mg base CX0 1 _ _ ["hall", "standing"] (sp_law_longest K) := ok_law_longest T F_law_longest 
  have G_law_plan : FnOk l.prog w K mg base CX0 3 _ _ ["hall"] (sp_law_plan K) := ok_law_plan T F_law_plan G_law_longest B_law_longest G_law_next B_law_next
  have G_law_lets_kept : FnOk l.prog w K mg base CX0 3 _ _ ["hall", "paper"] (sp_law_lets_kept K) := ok_law_lets_kept T F_law_lets_kept G_law_next B_law_next
  have G_law_kept_asked : FnOk l.prog w K mg base CX0 7 _ _ ["script"] (sp_law_kept_asked K) := ok_law_kept_asked T F_law_kept_asked G_law_plan B_law_plan G_lets_kept B_lets_kept G_law_cell B_law_cell G_law_lets_kept B_law_lets_kept
  have G_law_lets_broken : FnOk l.prog w K mg base CX0 2 _ _ ["hall", "paper"] (sp_law_lets_broken K) := ok_law_lets_broken T F_law_lets_broken G_law_behind B_law_behind
  have G_law_broken_asked : FnOk l.prog w K mg base CX0 7 _ _ ["script"] (sp_law_broken_asked K) := ok_law_broken_asked T F_law_broken_asked G_lets_broken B_lets_broken G_law_cell B_law_cell G_law_behind B_law_behind G_law_lets_broken B_law_lets_broken
  exact ok_law T F_law G_law_kept_asked B_law_kept_asked G_law_broken_asked B_law_broken_asked
theorem walk {l : PySem.W.OpenLaw} {q : Program} {loose : List Str} {XP : (Str → Option Value) → Heap → Prop} {YP : World → Heap → Prop} {d : DefRec} {K : Params → PySem.W.Frag} (hn : l.most = some 63) (hdf : d.params.defaults = [])
    (hY : ∀ (w : World) (h : Heap), YP w h → (K w.params).In h)
    (F : ∀ (w : World) (mg : Str → Option Value) (fa : Addr) (h : Heap), (K w.params).In h → h.Ns mainGlobals mg → mg d.name = some (.ref fa) →
      ∃ fd : FuncData, (∀ (s : Shared) (u : Value), BindsTo s fd ⟨[u], []⟩ [("script", u)]) ∧ ∀ base : Heap, (K w.params).In base → base.Ns mainGlobals mg → FnOk l.prog w (K w.params) mg base CX0 8 fa fd ["script"] (sp_law (K w.params))) :
    PySem.W.WalkO q loose XP YP l.row.toRowW d [] (fun f vs => PySem.call f vs) :=
  L2.walk_ofB (n := 63) (k := 8) (x := "script") (CX := fun _ => CX0) (sp := fun w => sp_law (K w.params)) hn (by decide) hdf ⟨rfl, by decide, by decide⟩ hY F (fun _ _ a ns hl hb _ hS => ⟨a, ns, rfl, hS, hl, hb, fun _ => rfl⟩) fun _ _ _ _ _ z => z
end Law
open PySem PySem.W PyProof.Rows
set_option maxRecDepth 100000 in
set_option maxHeartbeats 0 in
theorem PySem.Challenge.cw_roundcall_k38_papers_for_any_waits_holds : PySem.Challenge.rw_roundcall_k38_papers_for_any_waits.Holds := by
  w_on; o_law; k_head; (case hw => w_witness2)
  k_fill
  refine Law.walk (l := PySem.Challenge.rw_roundcall_k38_papers_for_any_waits) rfl rfl (fun w h Y => PySem.W.kIn_of Y) ?F
  case F =>
    intro w mg fa h KX G hmg
    refine' Law.all_mk KX G hmg ?a_beginning ?l_beginning ?c_beginning ?k_beginning ?a_may_lose ?l_may_lose ?c_may_lose ?k_may_lose ?a_is_listener ?l_is_listener ?c_is_listener ?k_is_listener ?a_refuse_wrong_turn ?l_refuse_wrong_turn ?c_refuse_wrong_turn ?k_refuse_wrong_turn ?a_left_behind ?l_left_behind ?c_left_behind ?k_left_behind ?a_quiet_behind ?l_quiet_behind ?c_quiet_behind ?k_quiet_behind ?a_after ?l_after ?c_after ?k_after ?t_after ?a_all_behind ?l_all_behind ?c_all_behind ?k_all_behind ?a_lets_kept ?l_lets_kept ?c_lets_kept ?k_lets_kept ?a_may_answer ?l_may_answer ?c_may_answer ?k_may_answer ?a_goes_down ?l_goes_down ?c_goes_down ?k_goes_down ?a_lets_broken ?l_lets_broken ?c_lets_broken ?k_lets_broken ?a_law_cell ?l_law_cell ?c_law_cell ?k_law_cell ?a_law_behind ?l_law_behind ?c_law_behind ?k_law_behind ?a_law_next ?l_law_next ?c_law_next ?k_law_next ?a_law_longest ?l_law_longest ?c_law_longest ?k_law_longest ?a_law_plan ?l_law_plan ?c_law_plan ?k_law_plan ?a_law_lets_kept ?l_law_lets_kept ?c_law_lets_kept ?k_law_lets_kept ?a_law_kept_asked ?l_law_kept_asked ?c_law_kept_asked ?k_law_kept_asked ?a_law_lets_broken ?l_law_lets_broken ?c_law_lets_broken ?k_law_lets_broken ?a_law_broken_asked ?l_law_broken_asked ?c_law_broken_asked ?k_law_broken_asked ?a_law ?l_law ?c_law ?k_law ?z_len ?z_max ?z_tuple ?z_dict ?z_enumerate ?z_range ?z_list ?z_isinstance ?z_bool ?z_int
    (case a_beginning => k_is)
    (case l_beginning => k_is)
    (case c_beginning => k_is)
    (case k_beginning => k_is)
    (case a_may_lose => k_is)
    (case l_may_lose => k_is)
    (case c_may_lose => k_is)
    (case k_may_lose => k_is)
    (case a_is_listener => k_is)
    (case l_is_listener => k_is)
    (case c_is_listener => k_is)
    (case k_is_listener => k_is)
    (case a_refuse_wrong_turn => k_is)
    (case l_refuse_wrong_turn => k_is)
    (case c_refuse_wrong_turn => k_is)
    (case k_refuse_wrong_turn => k_is)
    (case a_left_behind => k_is)
    (case l_left_behind => k_is)
    (case c_left_behind => k_is)
    (case k_left_behind => k_is)
    (case a_quiet_behind => k_is)
    (case l_quiet_behind => k_is)
    (case c_quiet_behind => k_is)
    (case k_quiet_behind => k_is)
    (case a_after => k_is)
    (case l_after => k_is)
    (case c_after => k_is)
    (case k_after => k_is)
    (case t_after => k_is)
    (case a_all_behind => k_is)
    (case l_all_behind => k_is)
    (case c_all_behind => k_is)
    (case k_all_behind => k_is)
    (case a_lets_kept => k_is)
    (case l_lets_kept => k_is)
    (case c_lets_kept => k_is)
    (case k_lets_kept => k_is)
    (case a_may_answer => k_is)
    (case l_may_answer => k_is)
    (case c_may_answer => k_is)
    (case k_may_answer => k_is)
    (case a_goes_down => k_is)
    (case l_goes_down => k_is)
    (case c_goes_down => k_is)
    (case k_goes_down => k_is)
    (case a_lets_broken => k_is)
    (case l_lets_broken => k_is)
    (case c_lets_broken => k_is)
    (case k_lets_broken => k_is)
    (case a_law_cell => k_is)
    (case l_law_cell => k_is)
    (case c_law_cell => k_is)
    (case k_law_cell => k_is)
    (case a_law_behind => k_is)
    (case l_law_behind => k_is)
    (case c_law_behind => k_is)
    (case k_law_behind => k_is)
    (case a_law_next => k_is)
    (case l_law_next => k_is)
    (case c_law_next => k_is)
    (case k_law_next => k_is)
    (case a_law_longest => k_is)
    (case l_law_longest => k_is)
    (case c_law_longest => k_is)
    (case k_law_longest => k_is)
    (case a_law_plan => k_is)
    (case l_law_plan => k_is)
    (case c_law_plan => k_is)
    (case k_law_plan => k_is)
    (case a_law_lets_kept => k_is)
    (case l_law_lets_kept => k_is)
    (case c_law_lets_kept => k_is)
    (case k_law_lets_kept => k_is)
    (case a_law_kept_asked => k_is)
    (case l_law_kept_asked => k_is)
    (case c_law_kept_asked => k_is)
    (case k_law_kept_asked => k_is)
    (case a_law_lets_broken => k_is)
    (case l_law_lets_broken => k_is)
    (case c_law_lets_broken => k_is)
    (case k_law_lets_broken => k_is)
    (case a_law_broken_asked => k_is)
    (case l_law_broken_asked => k_is)
    (case c_law_broken_asked => k_is)
    (case k_law_broken_asked => k_is)
    (case a_law => k_is)
    (case l_law => k_is)
    (case c_law => k_is)
    (case k_law => k_is)
    (case z_len => k_is)
    (case z_max => k_is)
    (case z_tuple => k_is)
    (case z_dict => k_is)
    (case z_enumerate => k_is)
    (case z_range => k_is)
    (case z_list => k_is)
    (case z_isinstance => k_is)
    (case z_bool => k_is)
    (case z_int => k_is)
