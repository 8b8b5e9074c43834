import PyProof.Rows.All
import Wide.All
import OpenK.AllK
import Wide.FinOn
import Lean
import PyProof.EqAt
import PyProof.EqKinds
import PyProof.TupleCall
import PySem.Challenge.RW_roundcall_k79_whole_plays_are_walks
set_option Elab.async false
set_option linter.all false
set_option maxRecDepth 100000
/-! THE HAND LAYER, for ints, bools, texts, own classes, LISTS and tuples (index, slices, in, append, pop ..), calls, loops. Paste it whole ahead of your own text; what your proof does not reach may be deleted. -/
namespace L2
open PySem PySem.Spec PyProof.Rows

/-- a key: an int or a str -/
abbrev Key := Sum Int Str
def keyIs : Key → Value → Bool
  | .inl k, v => Value.isInt k v
  | .inr x, v => Value.isStrOf x v
def keyH (w : World) : Key → Int
  | .inl k => hashInt k
  | .inr x => hashStr w x
theorem keyIs_shape : ∀ {k : Key} {v : Value}, keyIs k v = true → (∃ i t, k = Sum.inl i ∧ v = Value.int i t) ∨ (∃ x t, k = Sum.inr x ∧ v = Value.str x t)
  | .inl i, v, h => by
    obtain ⟨t, e⟩ := Value.isInt_shape (k := i) (v := v) h
    exact .inl ⟨i, t, rfl, e⟩
  | .inr x, v, h => by
    obtain ⟨t, e⟩ := Value.isStrOf_shape (x := x) (v := v) h
    exact .inr ⟨x, t, rfl, e⟩
theorem keyIs_int (i : Int) (t : Tok) : keyIs (.inl i) (.int i t) = true := by simp [keyIs, Value.isInt]
theorem keyIs_str (x : Str) (t : Tok) : keyIs (.inr x) (.str x t) = true := by simp [keyIs, Value.isStrOf]
theorem key_ll (a b : Int) : decide ((Sum.inl a : Key) = Sum.inl b) = (a == b) := by
  by_cases e : a = b
  · subst e; simp
  · have h : ¬ (Sum.inl a : Key) = Sum.inl b := fun q => e (Sum.inl.inj q)
    rw [decide_eq_false h]
    exact (beq_eq_false_iff_ne.mpr e).symm
theorem key_rr (a b : Str) : decide ((Sum.inr a : Key) = Sum.inr b) = decide (a = b) := by
  by_cases e : a = b
  · subst e; simp
  · have h : ¬ (Sum.inr a : Key) = Sum.inr b := fun q => e (Sum.inr.inj q)
    rw [decide_eq_false h, decide_eq_false e]
theorem key_lr (a : Int) (b : Str) : decide ((Sum.inl a : Key) = Sum.inr b) = false := decide_eq_false (fun q => nomatch q)
theorem key_rl (a : Str) (b : Int) : decide ((Sum.inr a : Key) = Sum.inl b) = false := decide_eq_false (fun q => nomatch q)

def mixKind (prog : Program) (w : World) : PySem.KeyKind prog w Key where
  is := keyIs
  hash := keyH w
  inj := fun v a b ha hb => by
    rcases keyIs_shape ha with ⟨i, t, rfl, rfl⟩ | ⟨x, t, rfl, rfl⟩
    · rcases keyIs_shape hb with ⟨j, u, rfl, e⟩ | ⟨y, u, rfl, e⟩
      · injection e with e1 _; rw [e1]
      · exact nomatch e
    · rcases keyIs_shape hb with ⟨j, u, rfl, e⟩ | ⟨y, u, rfl, e⟩
      · exact nomatch e
      · injection e with e1 _; rw [e1]
  byValue := fun k v h => by
    rcases keyIs_shape h with ⟨i, t, rfl, rfl⟩ | ⟨x, t, rfl, rfl⟩ <;> rfl
  pyHash := fun hv h => by
    rcases keyIs_shape hv with ⟨i, t, rfl, rfl⟩ | ⟨x, t, rfl, rfl⟩
    · exact wpAny_pyHash_int h
    · exact wpAny_pyHash_str h
  eqBool := fun hu hv h => by
    rcases keyIs_shape hu with ⟨i, t, rfl, rfl⟩ | ⟨x, t, rfl, rfl⟩
    · rcases keyIs_shape hv with ⟨j, u, rfl, rfl⟩ | ⟨y, u, rfl, rfl⟩
      · rw [key_ll] at h; exact wpAny_eqBool_int h
      · rw [key_lr] at h; exact SeqAt.EqAt.int_str i t y u _ _ _ _ h
    · rcases keyIs_shape hv with ⟨j, u, rfl, rfl⟩ | ⟨y, u, rfl, rfl⟩
      · rw [key_rl] at h; exact SeqAt.EqAt.str_int x t j u _ _ _ _ h
      · rw [key_rr] at h; exact wpAny_eqBool_str h
  «strs» := fun k x t v h => by
    rcases keyIs_shape h with ⟨i, u, rfl, e⟩ | ⟨y, u, rfl, e⟩
    · exact nomatch e
    · injection e with e1 _
      subst e1
      cases v <;> rfl

theorem mixKind_int (prog : Program) (w : World) (i : Int) (t : Tok) : (mixKind prog w).is (.inl i) (.int i t) = true := keyIs_int i t
theorem mixKind_str (prog : Program) (w : World) (x : Str) (t : Tok) : (mixKind prog w).is (.inr x) (.str x t) = true := keyIs_str x t
end L2

namespace L2
open PySem PySem.Spec PyProof.Rows

/-- a value, without the heap -/
inductive V where
  | non | bl (b : Bool) | int (i : Int) | str (x : Str) | byt (b : Array UInt8) | flt (b : UInt64) | ref (a : Addr) | ty (n : String)
  deriving DecidableEq

def RelV : V → Value → Prop
  | .non, u => u = Value.none
  | .bl b, u => u = Value.bool b
  | .int i, u => ∃ t, u = Value.int i t
  | .str x, u => ∃ t, u = Value.str x t
  | .byt b, u => ∃ t, u = Value.bytes b t
  | .flt b, u => ∃ t, u = Value.float b t
  | .ref a, u => u = Value.ref a
  | .ty n, u => u = Value.type n

abbrev Vals : List V → List Value → Prop := Paired RelV
theorem Vals.length {xs : List V} {us : List Value} (r : Vals xs us) : xs.length = us.length := Paired.length r
theorem Vals.get : ∀ {xs : List V} {us : List Value} {i : Nat} {x : V}, Vals xs us → xs[i]? = some x → ∃ u, us[i]? = some u ∧ RelV x u
  | _, _, _, _, .nil, e => by simp at e
  | _, _, 0, _, .cons r _, e => by simp at e; subst e; exact ⟨_, rfl, r⟩
  | _, _, i + 1, x, .cons _ t, e => by
    obtain ⟨u, h1, h2⟩ := Vals.get (i := i) (x := x) t (by simpa using e)
    exact ⟨u, by simpa using h1, h2⟩
theorem Vals.set {x : V} {u : Value} (r : RelV x u) : ∀ {xs : List V} {us : List Value} (i : Nat), Vals xs us → Vals (xs.set i x) (us.set i u)
  | _, _, _, .nil => .nil
  | _, _, 0, .cons _ t => .cons r t
  | _, _, i + 1, .cons q t => .cons q (Vals.set r i t)
theorem Vals.append : ∀ {xs ys : List V} {us ws : List Value}, Vals xs us → Vals ys ws → Vals (xs ++ ys) (us ++ ws)
  | _, _, _, _, .nil, s => s
  | _, _, _, _, .cons r t, s => .cons r (Vals.append t s)
theorem Vals.take : ∀ {xs : List V} {us : List Value} (n : Nat), Vals xs us → Vals (xs.take n) (us.take n)
  | _, _, 0, _ => .nil
  | _, _, _ + 1, .nil => .nil
  | _, _, n + 1, .cons r t => .cons r (Vals.take n t)
theorem Vals.drop : ∀ {xs : List V} {us : List Value} (n : Nat), Vals xs us → Vals (xs.drop n) (us.drop n)
  | _, _, 0, r => r
  | _, _, _ + 1, .nil => .nil
  | _, _, n + 1, .cons _ t => Vals.drop n t
theorem Vals.none_of : ∀ {xs : List V} {us : List Value} {i : Nat}, Vals xs us → xs[i]? = none → us[i]? = none := fun {xs us i} r e => by
  have h1 := r.length
  have h2 : xs.length ≤ i := List.getElem?_eq_none_iff.mp e
  exact List.getElem?_eq_none_iff.mpr (by omega)

def RelO : Option V → Option Value → Prop
  | some v, some u => RelV v u
  | none, none => True
  | _, _ => False
def KV {κ : Type} : List (κ × V) → List (κ × Value) → Prop := Paired fun (p : κ × V) (q : κ × Value) => p.1 = q.1 ∧ RelV p.2 q.2

/-- a key of a dict (00_mix): an int or a text -/
def kV : Key → V
  | .inl i => .int i
  | .inr x => .str x

section
variable {prog : Program} {w : World}
/-- a standing: a tuple of a tuple of ints and an int -/
def IsStand (prog : Program) (w : World) (h : Heap) (k : List Int × Int) (a : Addr) : Prop :=
  ∃ o n u t, h.get? a = some o ∧ o.cls = .type "tuple" ∧ o.data = .seq #[.ref u, .int k.2 t] n ∧ IsTupleKey (intKind prog w) h k.1 u
theorem IsStand.typeIs {s : Shared} {k : List Int × Int} {a : Addr} (x : IsStand prog w s.heap k a) : s.TypeIs (.ref a) "tuple" := let ⟨o, _, _, _, ho, hc, _⟩ := x; ⟨o, ho, hc⟩
theorem IsStand.inj {h : Heap} {a : Addr} {x y : List Int × Int} (hx : IsStand prog w h x a) (hy : IsStand prog w h y a) : x = y := by
  obtain ⟨o, n, u, t, ho, _, hd, hi⟩ := hx
  obtain ⟨o', n', u', t', ho', _, hd', hi'⟩ := hy
  obtain rfl : o = o' := Option.some.inj (ho.symm.trans ho')
  rw [hd] at hd'
  injection hd' with h1 _
  simp only [Array.mk.injEq, List.cons.injEq, Value.ref.injEq, Value.int.injEq, and_true] at h1
  obtain ⟨rfl, h2, _⟩ := h1
  exact Prod.ext (hi.inj hi') h2
theorem IsStand.keeps {h h' : Heap} {k : List Int × Int} {a d : Addr} {o : Obj} {es ep} (x : IsStand prog w h k a) (ho : h.get? d = some o) (hd : o.data = .dict es ep) (hs : Heap.SameBut d h h') : IsStand prog w h' k a := by
  obtain ⟨o', n, u, t, ho', hc, hd', hi⟩ := x
  have hne : a ≠ d := by
    rintro rfl
    obtain rfl : o' = o := Option.some.inj (ho'.symm.trans ho)
    rw [hd] at hd'
    exact nomatch hd'
  exact ⟨o', n, u, t, (hs.2 a hne).trans ho', hc, hd', hi.keeps ho hd hs⟩
def standHash (prog : Program) (w : World) (k : List Int × Int) : Int := reduceHash (Builtin.Tuple.tupleHashOf [tupleKeyHash (intKind prog w) k.1, (intKind prog w).hash k.2])
theorem stand_hash {A : Around} {E : Value → Shared → Prop} {s : Shared} {k : List Int × Int} {a : Addr} {Q : Int → Shared → Prop} (hu : A.units + 8 < cLine) (hk : IsStand prog w s.heap k a) (h : Q (standHash prog w k) { s with toks := s.toks + (k.1.length + 3) }) :
    wpAny (model prog w) A (pyHash (.ref a)) Q E s := by
  have hT := hk.typeIs
  obtain ⟨o, n, u, t, ho, _, hd, hi⟩ := hk
  unfold pyHash
  first | unfold pyHashByItsType | skip
  first | refine wpAny_bind (wpAny_cRoomFor_or (.inr (by omega)) ?_) | skip
  refine wpAny_bind (wpAny_specialOf hT F.slot_tuple_hash.lookup ?_)
  show wpAny _ _ (if (some (Value.builtin "tuple.__hash__") == some Value.none) = true then _ else _) Q E s
  rw [if_neg (by rw [beq_builtin_none]; exact Bool.false_ne_true)]
  refine wpAny_bind (wpAny_specialOf hT F.slot_tuple_hash.lookup ?_)
  show wpAny _ _ (callSpecialIfBoundUnlessNone? (.ref a) "__hash__" _ >>= _) Q E s
  refine wpAny_bind (wpAny_callSpecialIfBoundUnlessNone?_slot hT F.slot_tuple_hash (wpAny_call_entry F.slot_tuple_hash hT F.entry_tuple_hash ?_ (F.args_tuple_hash_1 _)))
  show wpAny _ _ (Builtin.Tuple.tupleItemsOf (.ref a) >>= _) _ _ s
  refine wpAny_bind (wpAny_tupleItemsOf ho hd ?_)
  refine wpAny_bind ?_
  rw [← Array.forIn_toList]
  show wpAny _ _ (forIn [Value.ref u, Value.int k.2 t] _ _) _ _ _
  rw [List.forIn_cons]
  have hin : A.in1.units < cLine := by
    first | (show A.units + 1 < cLine; omega) | (show A.units < cLine; omega) | (simp only [Around.in1]; omega)
  refine wpAny_bind (wpAny_bind (wpAny_pyHash_tuple (knd := intKind prog w) hin hi ?_))
  refine wpAny_pure ?_
  show wpAny _ _ (forIn [Value.int k.2 t] _ _) _ _ _
  rw [List.forIn_cons]
  refine wpAny_bind (wpAny_bind ((intKind prog w).pyHash (k := k.2) (by simp [intKind, Value.isInt]) ?_))
  refine wpAny_pure ?_
  show wpAny _ _ (forIn [] _ _) _ _ _
  rw [List.forIn_nil]
  refine wpAny_pure ?_
  show wpAny _ _ (retInt (Builtin.Tuple.tupleHashOf [tupleKeyHash (intKind prog w) k.1, (intKind prog w).hash k.2])) _ _ _
  refine wpAny_ret_mkInt ?_
  generalize e : Builtin.Tuple.tupleHashOf [tupleKeyHash (intKind prog w) k.1, (intKind prog w).hash k.2] = z
  show wpAny _ _ (if (decide (-(2 : Int) ^ 63 ≤ z) && decide (z < 2 ^ 63)) = true then _ else _) Q E _
  unfold standHash reduceHash at h
  rw [e] at h
  by_cases hr : (decide (-(2 : Int) ^ 63 ≤ z) && decide (z < 2 ^ 63)) = true
  · rw [if_pos hr]
    rw [if_pos hr] at h
    exact wpAny_pure (by simpa [Nat.add_assoc] using h)
  · rw [if_neg hr]
    rw [if_neg hr] at h
    exact wpAny_bind (wpAny_rule (wpAny_pure (by simpa [Nat.add_assoc] using h)))
theorem stand_eq {A : Around} {E : Value → Shared → Prop} {s : Shared} {x y : List Int × Int} {a b : Addr} {Q : Bool → Shared → Prop} (hu : A.units + 8 < cLine) (hx : IsStand prog w s.heap x a) (hy : IsStand prog w s.heap y b) (h : Q (decide (x = y)) s) :
    wpAny (model prog w) A (eqBool (.ref a) (.ref b)) Q E s := by
  unfold eqBool
  try with_reducible refine wpAny_holding ?_
  show wpAny _ _ (if (Value.ref a == Value.ref b) = true then _ else _) Q E s
  by_cases hab : (Value.ref a == Value.ref b) = true
  · rw [if_pos hab]
    have e : a = b := by have := eq_of_beq hab; injection this
    subst e
    obtain rfl := hx.inj hy
    exact wpAny_bind (wpAny_rule (wpAny_pure (by simpa using h)))
  · rw [if_neg hab]
    refine wpAny_bind (wpAny_richCompare_same_room (op := .Eq) hx.typeIs hy.typeIs F.slot_tuple_eq
      (wpAny_call_entry F.slot_tuple_eq hx.typeIs F.entry_tuple_eq ?_ (F.args_tuple_eq_2 _ _)) (by omega))
    have hTb := hy.typeIs
    obtain ⟨oa, na, ua, ta, hoa, _, hda, hia⟩ := hx
    obtain ⟨ob, nb, ub, tb, hob, _, hdb, hib⟩ := hy
    show wpAny _ _ (isInstance (.ref b) (.type "tuple") >>= _) _ _ s
    refine wpAny_bind (wpAny_isInstance hTb isSubtype_tuple_tuple ?_)
    simp only [Bool.not_true, Bool.false_eq_true, if_false]
    refine wpAny_bind (wpAny_tupleItemsOf hoa hda ?_)
    refine wpAny_bind (wpAny_tupleItemsOf hob hdb ?_)
    refine wpAny_bind ?_
    show wpAny _ _ (forIn [(Value.ref ua, Value.ref ub), (Value.int x.2 ta, Value.int y.2 tb)] _ _) _ _ _
    rw [List.forIn_cons]
    have hin : A.in1.units < cLine := by
      first | (show A.units + 1 < cLine; omega) | (show A.units < cLine; omega) | (simp only [Around.in1]; omega)
    refine wpAny_bind (wpAny_bind (wpAny_eqBool_tuple (knd := intKind prog w) hin hia hib ?_))
    by_cases h1 : x.1 = y.1
    · rw [decide_eq_true h1]
      simp only [Bool.not_true, Bool.false_eq_true, if_false]
      refine wpAny_pure ?_
      show wpAny _ _ (forIn [(Value.int x.2 ta, Value.int y.2 tb)] _ _) _ _ _
      rw [List.forIn_cons]
      refine wpAny_bind (wpAny_bind ((intKind prog w).eqBool (a := x.2) (b := y.2) (by simp [intKind, Value.isInt]) (by simp [intKind, Value.isInt]) ?_))
      by_cases h2 : x.2 = y.2
      · rw [decide_eq_true h2]
        simp only [Bool.not_true, Bool.false_eq_true, if_false]
        refine wpAny_pure ?_
        show wpAny _ _ (forIn [] _ _) _ _ _
        rw [List.forIn_nil]
        refine wpAny_pure ?_
        have e : decide (x = y) = true := decide_eq_true (Prod.ext h1 h2)
        rw [e] at h
        exact wpAny_pure ⟨_, rfl, (fun e => nomatch e), wpAny_truthy_bool h⟩
      · rw [decide_eq_false h2]
        simp only [Bool.not_false, if_true]
        have e : decide (x = y) = false := decide_eq_false fun z => h2 (by rw [z])
        rw [e] at h
        exact wpAny_bind (wpAny_pure (wpAny_pure (wpAny_pure (wpAny_pure ⟨_, rfl, (fun e => nomatch e), wpAny_truthy_bool h⟩))))
    · rw [decide_eq_false h1]
      simp only [Bool.not_false, if_true]
      have e : decide (x = y) = false := decide_eq_false fun z => h1 (by rw [z])
      rw [e] at h
      exact wpAny_bind (wpAny_pure (wpAny_pure (wpAny_pure (wpAny_pure ⟨_, rfl, (fun e => nomatch e), wpAny_truthy_bool h⟩))))
theorem quiet7 {A : Around} {E : Value → Shared → Prop} {s : Shared} {ks : List Int} {a : Addr} {Q : Bool → Shared → Prop} (hk : IsTupleKey (intKind prog w) s.heap ks a) (h : Q true s) : wpAny (model prog w) A (eqIsQuiet 7 (.ref a)) Q E s := by
  have hT := hk.typeIs
  obtain ⟨o, items, n, ho, _, hd, hi⟩ := hk
  unfold eqIsQuiet
  refine wpAny_bind (wpAny_specialOf hT F.slot_tuple_eq.lookup ?_)
  show wpAny _ _ (isInstance (.ref a) (.type "tuple") >>= _) _ _ s
  refine wpAny_bind (wpAny_isInstance hT isSubtype_tuple_tuple ?_)
  simp only [Bool.not_true, Bool.false_eq_true, if_false]
  refine wpAny_bind (wpAny_seqItems ho hd ?_)
  refine wpAny_bind ?_
  show wpAny _ _ (forIn items _ _) _ _ s
  rw [← Array.forIn_toList]
  refine wpAny_forIn_list _ (fun rest r s' => r.1 = none ∧ s' = s ∧ ∀ v ∈ rest, carriedByValue v = true) _ ?_ ?_ _ _ ⟨rfl, rfl, hi.byValue⟩
  · rintro v rest r s' ⟨hr, rfl, hall⟩
    rw [eqIsQuiet_byValue _ (hall v List.mem_cons_self)]
    refine wpAny_bind (wpAny_pure ?_)
    simp only [Bool.not_true, Bool.false_eq_true, if_false]
    exact wpAny_pure ⟨rfl, rfl, fun u hu' => hall u (List.mem_cons_of_mem _ hu')⟩
  · rintro ⟨r1, r2⟩ s' ⟨hr, rfl, _⟩
    simp only at hr
    subst hr
    exact wpAny_pure h
theorem stand_quiet {A : Around} {E : Value → Shared → Prop} {s : Shared} {k : List Int × Int} {a : Addr} {Q : Bool → Shared → Prop} (hk : IsStand prog w s.heap k a) (h : Q true s) : wpAny (model prog w) A (eqIsQuiet 8 (.ref a)) Q E s := by
  have hT := hk.typeIs
  obtain ⟨o, n, u, t, ho, _, hd, hi⟩ := hk
  unfold eqIsQuiet
  refine wpAny_bind (wpAny_specialOf hT F.slot_tuple_eq.lookup ?_)
  show wpAny _ _ (isInstance (.ref a) (.type "tuple") >>= _) _ _ s
  refine wpAny_bind (wpAny_isInstance hT isSubtype_tuple_tuple ?_)
  simp only [Bool.not_true, Bool.false_eq_true, if_false]
  refine wpAny_bind (wpAny_seqItems ho hd ?_)
  refine wpAny_bind ?_
  show wpAny _ _ (forIn #[Value.ref u, Value.int k.2 t] _ _) _ _ s
  rw [← Array.forIn_toList]
  show wpAny _ _ (forIn [Value.ref u, Value.int k.2 t] _ _) _ _ s
  rw [List.forIn_cons]
  refine wpAny_bind (wpAny_bind (quiet7 hi ?_))
  simp only [Bool.not_true, Bool.false_eq_true, if_false]
  refine wpAny_pure ?_
  show wpAny _ _ (forIn [Value.int k.2 t] _ _) _ _ s
  rw [List.forIn_cons, eqIsQuiet_byValue _ rfl]
  refine wpAny_bind (wpAny_bind (wpAny_pure ?_))
  simp only [Bool.not_true, Bool.false_eq_true, if_false]
  refine wpAny_pure ?_
  show wpAny _ _ (forIn [] _ _) _ _ s
  rw [List.forIn_nil]
  exact wpAny_pure (wpAny_pure h)
def standKind (prog : Program) (w : World) : HeapKind prog w (List Int × Int) where
  is := IsStand prog w
  hash := standHash prog w
  draws := fun k => k.1.length + 3
  room := fun A => A.units + 8 < cLine
  inj := fun hx hy => hx.inj hy
  keeps := fun x ho hd hs => x.keeps ho hd hs
  pyHash := fun hu hk h => stand_hash hu hk h
  eqBool := fun hu hx hy h => stand_eq hu hx hy h
  quiet := fun hk h => stand_quiet hk h
end
/-- what stands at a tracked address -/
inductive HO where
  /-- a list -/
  | lst (xs : List V)
  /-- a tuple (never changes) -/
  | tup (xs : List V)
  /-- a dict whose keys are ints and texts; one whose keys are tuples of ints and texts (the empty one is both) -/
  | dK (kvs : List (Key × V)) | dT (kvs : List ((List Int × Int) × V))
  /-- a set of ints: its members, its size -/
  | set (S : Int → Bool) (n : Nat)
  /-- an instance of the class at C, its dict at dx, its attributes -/
  | ins (C dx : Addr) (fs : List (Str × V))
  /-- the dict of the instance at x -/
  | own (x : Addr)
  /-- the dict of an exception -/
  | xd (fs : List (Str × V))
  /-- a bound method, f of x -/
  | met (f x : Addr)
  /-- a range object lo, lo + 1, .. below hi -/
  | rng (lo hi : Int)
  /-- a thing that is known to the object (the script; a dict while a loop walks it): read, never written while it is so -/
  | frz (o : Obj) (u : HO)
  /-- a code object's table -/
  | tbl (ps : Array Value)
  /-- any other thing, by what is true of its one object (a def of one's own: SetO a S n := HO.ext fun h => ..) -/
  | ext (φ : Heap → Prop)

abbrev Hp := Addr → Option HO
/-- a standing lies at b -/
def StH (H : Hp) (b : Addr) (k : List Int × Int) : Prop := ∃ u, H b = some (.tup [.ref u, .int k.2]) ∧ H u = some (.tup (k.1.map V.int))
theorem StH.up {H H2 : Hp} {b : Addr} {k : List Int × Int} (ht : ∀ b xs, H b = some (.tup xs) → H2 b = some (.tup xs)) (h : StH H b k) : StH H2 b k := let ⟨u, a1, a2⟩ := h; ⟨u, ht _ _ a1, ht _ _ a2⟩
def upd (H : Hp) (a : Addr) (o : HO) : Hp := fun b => if b = a then some o else H b
theorem upd_same {H : Hp} {a : Addr} {o : HO} : upd H a o a = some o := by unfold upd; rw [if_pos rfl]
theorem upd_ne {H : Hp} {a b : Addr} {o : HO} (h : b ≠ a) : upd H a o b = H b := by unfold upd; rw [if_neg h]
/-- two objects of different content stand apart -/
theorem ne_of {H : Hp} {a b : Addr} {o u : HO} (h : H a = some o) (h' : H b = some u) (d : o ≠ u) : a ≠ b := by
  intro e; subst e; rw [h] at h'; exact d (Option.some.inj h')
theorem ne_of_none {H : Hp} {a b : Addr} {o : HO} (h : H a = some o) (h' : H b = none) : a ≠ b := by
  intro e; subst e; rw [h] at h'; cases h'

section
variable (P : Program) (w : World)
def ObjOk (H : Hp) (h : Heap) (a : Addr) : HO → Prop
  | .lst xs => xs.length ≤ sizeLine ∧ ∃ (its : List Value) (n : Nat), Vals xs its ∧ h.get? a = some { cls := .type "list", data := .seq its.toArray n }
  | .tup xs => (xs.length ≤ sizeLine ∧ ∃ o, h.get? a = some o ∧ o.dict = none) ∧ ∃ its : List Value, Vals xs its ∧ IsTup h a its.toArray
  | .dK kvs => kvs.length ≤ sizeLine ∧ (a == sysModules) = false ∧ ∃ vs, KV kvs vs ∧ h.DictOf (mixKind P w) a vs
  | .dT kvs => kvs.length ≤ sizeLine ∧ (a == sysModules) = false ∧ ∃ xs : List ((List Int × Int) × Addr × Value),
      Paired (fun (p : (List Int × Int) × V) (q : (List Int × Int) × Addr × Value) => p.1 = q.1 ∧ StH H q.2.1 p.1 ∧ RelV p.2 q.2.2) kvs xs ∧
      ∃ o es ep, h.get? a = some o ∧ o.ExactDict ∧ o.data = .dict es ep ∧ es.toList = xs.map (entryOfKey (standKind P w)) ∧ (xs.map (·.1)).Nodup
  | .set S n => h.SetOf (intKind P w) a S n
  | .ins C dx fs => H dx = some (.own a) ∧ fs.length ≤ 1000 ∧ dx ≠ a ∧ h.get? a = some (PySem.W.instObj C dx) ∧
      ∃ mA, h.Ns1 dx mA ∧ (∀ f, RelO (fs.lookup f) (mA f)) ∧ PySem.Within mA (fs.map (·.1))
  | .own _ => ∃ o, h.get? a = some o
  | .xd fs => ∃ mA, h.Ns1 a mA ∧ ∀ f, RelO (fs.lookup f) (mA f)
  | .rng lo hi => ∃ t u v, h.get? a = some { cls := .type "range", data := .fields #[.int lo t, .int hi u, .int 1 v] }
  | .frz o u => h.get? a = some o ∧ ObjOk H h a u
  | .tbl ps => h.get? a = some { cls := .none, data := .fields ps }
  | .met f x => h.get? a = some (PySem.W.methodObj (.ref f) (.ref x))
  | .ext φ => φ h ∧ (∃ o, h.get? a = some o) ∧ ∀ h1 h2 : Heap, φ h1 → (∀ o, h1.get? a = some o → h2.get? a = some o) → φ h2
/-- the abstract heap is held -/
def HOk (H : Hp) (h : Heap) : Prop := ∀ a o, H a = some o → ObjOk P w H h a o
end

section
variable {P : Program} {w : World} {H H' : Hp} {h h' : Heap} {a : Addr} {o : HO}
theorem ObjOk.lt (x : ObjOk P w H h a o) : a < h.objs.size := by
  cases o with
  | lst xs => obtain ⟨_, _, _, _, e⟩ := x; exact Heap.lt_size e
  | tup xs => obtain ⟨_, _, _, p⟩ := x; exact p.lt
  | dK kvs => obtain ⟨_, _, _, _, o, _, _, e, _⟩ := x; exact Heap.lt_size e
  | dT kvs => obtain ⟨_, _, _, _, o, _, _, e, _⟩ := x; exact Heap.lt_size e
  | set S n => obtain ⟨o, _, _, _, e, _⟩ := x; exact Heap.lt_size e
  | ins C dx fs => obtain ⟨_, _, _, e, _⟩ := x; exact Heap.lt_size e
  | own y => obtain ⟨_, e⟩ := x; exact Heap.lt_size e
  | xd fs => obtain ⟨_, ⟨_, _, _, e, _⟩, _⟩ := x; exact Heap.lt_size e
  | rng lo hi => obtain ⟨_, _, _, e⟩ := x; exact Heap.lt_size e
  | frz ob u => obtain ⟨e, _⟩ := x; exact Heap.lt_size e
  | tbl ps => exact Heap.lt_size (show h.get? a = some _ from x)
  | met f y => exact Heap.lt_size (show h.get? a = some _ from x)
  | ext φ => obtain ⟨_, ⟨_, e⟩, _⟩ := x; exact Heap.lt_size e
theorem Paired.mapP {α β : Type} {F G : α → β → Prop} : ∀ {l₁ : List α} {l₂ : List β}, Paired F l₁ l₂ → (∀ a b, F a b → G a b) → Paired G l₁ l₂
  | _, _, .nil, _ => .nil
  | _, _, .cons r t, f => .cons (f _ _ r) (Paired.mapP t f)
/-- what an object's description leans on: its own object, its own dict, the tuples -/
theorem ObjOk.stay (x : ObjOk P w H h a o) (k : ∀ b u, (b = a ∨ H b = some (.own a)) → h.get? b = some u → h'.get? b = some u)
    (ho : ∀ b, H b = some (.own a) → H' b = some (.own a)) (ht : ∀ b xs, H b = some (.tup xs) → H' b = some (.tup xs)) : ObjOk P w H' h' a o := by
  induction o with
  | lst xs => obtain ⟨z, its, n, r, e⟩ := x; exact ⟨z, its, n, r, k _ _ (.inl rfl) e⟩
  | tup xs => obtain ⟨z, its, r, ob, e, c⟩ := x; exact ⟨⟨z.1, let ⟨o, e2, d⟩ := z.2; ⟨o, k _ _ (.inl rfl) e2, d⟩⟩, its, r, ob, k _ _ (.inl rfl) e, c⟩
  | dK kvs => obtain ⟨z, y, vs, r, ob, es, ep, e, c⟩ := x; exact ⟨z, y, vs, r, ob, es, ep, k _ _ (.inl rfl) e, c⟩
  | dT kvs =>
    obtain ⟨z, y, xs, r, ob, es, ep, e, c⟩ := x
    exact ⟨z, y, xs, Paired.mapP r fun p q z => ⟨z.1, z.2.1.up ht, z.2.2⟩, ob, es, ep, k _ _ (.inl rfl) e, c⟩
  | set S n => obtain ⟨ob, es, ep, t, e, c⟩ := x; exact ⟨ob, es, ep, t, k _ _ (.inl rfl) e, c⟩
  | ins C dx fs =>
    obtain ⟨d, z, ne, e, mA, ⟨od, es, ep, e2, c⟩, r⟩ := x
    exact ⟨ho _ d, z, ne, k _ _ (.inl rfl) e, mA, ⟨od, es, ep, k _ _ (.inr d) e2, c⟩, r⟩
  | own y => obtain ⟨ob, e⟩ := x; exact ⟨ob, k _ _ (.inl rfl) e⟩
  | xd fs => obtain ⟨mA, ⟨od, es, ep, e, c⟩, r⟩ := x; exact ⟨mA, ⟨od, es, ep, k _ _ (.inl rfl) e, c⟩, r⟩
  | rng lo hi => obtain ⟨t, u, v, e⟩ := x; exact ⟨t, u, v, k _ _ (.inl rfl) e⟩
  | frz ob u ih => obtain ⟨e, q⟩ := x; exact ⟨k _ _ (.inl rfl) e, ih q⟩
  | tbl ps =>
    have e : h.get? a = some { cls := .none, data := .fields ps } := x
    show h'.get? a = some { cls := .none, data := .fields ps }
    exact k a _ (.inl rfl) e
  | met f y =>
    have e : h.get? a = some (PySem.W.methodObj (.ref f) (.ref y)) := x
    show h'.get? a = some (PySem.W.methodObj (.ref f) (.ref y))
    exact k a _ (.inl rfl) e
  | ext φ => obtain ⟨p, ⟨o, e⟩, st⟩ := x; exact ⟨st _ _ p fun o q => k _ _ (.inl rfl) q, ⟨o, k _ _ (.inl rfl) e⟩, st⟩
theorem HOk.lt (x : HOk P w H h) (e : H a = some o) : a < h.objs.size := (x a o e).lt
theorem HOk.fresh (x : HOk P w H h) (e : h.objs.size ≤ a) : H a = none := by
  cases q : H a with
  | none => rfl
  | some u => exact absurd (Nat.lt_of_lt_of_le (x.lt q) e) (Nat.lt_irrefl _)
/-- every object of the heap is kept -/
theorem HOk.kept (x : HOk P w H h) (k : ∀ b u, h.get? b = some u → h'.get? b = some u) : HOk P w H h' := fun a o e =>
  (x a o e).stay (fun b u _ q => k b u q) (fun _ q => q) fun _ _ q => q
/-- a new object is laid and tracked -/
theorem HOk.laid (x : HOk P w H h) (k : ∀ b u, h.get? b = some u → h'.get? b = some u) (hp : h.objs.size ≤ a) (new : ObjOk P w (upd H a o) h' a o) : HOk P w (upd H a o) h' := fun b u e => by
  have hn := x.fresh hp
  by_cases hb : b = a
  · subst hb; rw [upd_same] at e; cases e; exact new
  · rw [upd_ne hb] at e
    exact (x b u e).stay (fun c v _ q => k c v q) (fun c q => by rw [upd_ne (ne_of_none q hn)]; exact q) fun c xs q => by rw [upd_ne (ne_of_none q hn)]; exact q
end

/-- what may be read as u: it is u, or a known u -/
def Rd (H : Hp) (a : Addr) (u : HO) : Prop := H a = some u ∨ ∃ o, H a = some (.frz o u)
theorem Rd.of {H : Hp} {a : Addr} {u : HO} (h : H a = some u) : Rd H a u := .inl h
theorem Rd.ok {P : Program} {w : World} {H : Hp} {h : Heap} {a : Addr} {u : HO} (r : Rd H a u) (x : HOk P w H h) : ObjOk P w H h a u := by
  rcases r with r | ⟨o, r⟩
  · exact x a u r
  · obtain ⟨_, q⟩ := x a _ r
    exact q
/-- what may be written -/
def Mut : Option HO → Prop
  | some (.lst _) => True
  | some (.dK _) => True
  | some (.dT _) => True
  | some (.set _ _) => True
  | some (.ins _ _ _) => True
  | some (.ext _) => True
  | _ => False
section
variable {P : Program} {w : World} {H : Hp} {h h' : Heap} {x e : Addr} {o' : HO}
/-- the object at e is changed: x itself, or the dict of the instance x -/
theorem HOk.write (ok : HOk P w H h) (mu : Mut (H x)) (he : e = x ∨ H e = some (.own x)) (k : ∀ b u, b ≠ e → h.get? b = some u → h'.get? b = some u) (heo : ∃ u, h'.get? e = some u)
    (new : ObjOk P w (upd H x o') h' x o') : HOk P w (upd H x o') h' := fun b u q => by
  have nown : ∀ c y, H c = some (.own y) → c ≠ x := fun c y r z => by subst z; rw [r] at mu; exact mu
  have ntup : ∀ c xs, H c = some (.tup xs) → c ≠ x := fun c xs r z => by subst z; rw [r] at mu; exact mu
  by_cases hb : b = x
  · subst hb; rw [upd_same] at q; cases q; exact new
  · rw [upd_ne hb] at q
    by_cases hbe : b = e
    · have q' : H b = some (.own x) := by
        rcases he with z | z
        · exact absurd (hbe.trans z) hb
        · rw [hbe]; exact z
      rw [q] at q'; cases q'
      obtain ⟨v, hv⟩ := heo
      exact ⟨v, by rw [hbe]; exact hv⟩
    · refine (ok b u q).stay (fun c v hc r => k c v ?_ r) (fun c r => by rw [upd_ne (nown c b r)]; exact r) fun c xs r => by rw [upd_ne (ntup c xs r)]; exact r
      rcases hc with rfl | hc
      · exact hbe
      · rintro rfl
        rcases he with z | z
        · exact nown c b hc z
        · rw [hc] at z; cases z; exact hb rfl
end

/-! ### kept unless tracked; of the frames at fs (the callers') the slots may change (an exception that passes writes there); of the records at ex (iterators) nothing is said -/
structure Un (fs ex : List Addr) (H H' : Hp) (h h' : Heap) : Prop where
  keep : ∀ b o, h.get? b = some o → H b = none → b ∉ fs → b ∉ ex → h'.get? b = some o
  slot : ∀ b o, h.get? b = some o → H b = none → b ∈ fs → b ∉ ex → ∃ sl, h'.get? b = some { o with slots := sl }
  free : ∀ b o, h.get? b = some o → H b = none → b ∉ ex → H' b = none
  there : ∀ b o, h.get? b = some o → b ∉ ex → ∃ o', h'.get? b = some o'
  tups : ∀ b xs, H b = some (.tup xs) → H' b = some (.tup xs)
  frzs : ∀ b o u, H b = some (.frz o u) → H' b = some (.frz o u)
  tbls : ∀ b ps, H b = some (.tbl ps) → ∃ more, H' b = some (.tbl (ps ++ more))
section
variable {fs fs' ex ex' : List Addr} {H H1 H2 : Hp} {h h1 h2 h' : Heap} {a x e : Addr} {o : HO}
theorem Un.any (u : Un fs ex H H1 h h1) {b : Addr} {ob : Obj} (q : h.get? b = some ob) (n : H b = none) (hx : b ∉ ex) : ∃ sl, h1.get? b = some { ob with slots := sl } := by
  by_cases hb : b ∈ fs
  · exact u.slot b ob q n hb hx
  · exact ⟨ob.slots, u.keep b ob q n hb hx⟩
theorem Un.trans (a : Un fs ex H H1 h h1) (b : Un fs ex H1 H2 h1 h2) : Un fs ex H H2 h h2 where
  keep := fun c ob q n hc hx => b.keep c ob (a.keep c ob q n hc hx) (a.free c ob q n hx) hc hx
  slot := fun c ob q n hc hx => by
    obtain ⟨sl, e1⟩ := a.slot c ob q n hc hx
    obtain ⟨sl', e2⟩ := b.slot c _ e1 (a.free c ob q n hx) hc hx
    exact ⟨sl', e2⟩
  free := fun c ob q n hx => by
    obtain ⟨o', e1⟩ := a.there c ob q hx
    exact b.free c o' e1 (a.free c ob q n hx) hx
  there := fun c ob q hx => by
    obtain ⟨o', e1⟩ := a.there c ob q hx
    exact b.there c o' e1 hx
  tups := fun c xs q => b.tups c xs (a.tups c xs q)
  frzs := fun c ob xs q => b.frzs c ob xs (a.frzs c ob xs q)
  tbls := fun c ps q => by
    obtain ⟨m1, e1⟩ := a.tbls c ps q
    obtain ⟨m2, e2⟩ := b.tbls c _ e1
    exact ⟨m1 ++ m2, by rw [e2, Array.append_assoc]⟩
theorem Un.kept (k : ∀ b u, h.get? b = some u → h'.get? b = some u) : Un fs ex H H h h' :=
  ⟨fun b ob q _ _ _ => k b ob q, fun b ob q _ _ _ => ⟨ob.slots, k b ob q⟩, fun _ _ _ n _ => n, fun b ob q _ => ⟨ob, k b ob q⟩, fun _ _ q => q, fun _ _ _ q => q, fun _ ps q => ⟨#[], by rw [q]; simp⟩⟩
theorem Un.refl : Un fs ex H H h h := Un.kept fun _ _ q => q
theorem Un.laid (k : ∀ b u, h.get? b = some u → h'.get? b = some u) (hp : h.objs.size ≤ a) (hn : H a = none) : Un fs ex H (upd H a o) h h' where
  keep := fun b u q _ _ _ => k b u q
  slot := fun b u q _ _ _ => ⟨u.slots, k b u q⟩
  free := fun b u q n _ => by rw [upd_ne (Nat.ne_of_lt (Nat.lt_of_lt_of_le (Heap.lt_size q) hp))]; exact n
  there := fun b u q _ => ⟨u, k b u q⟩
  tups := fun b xs q => by rw [upd_ne (ne_of_none q hn)]; exact q
  frzs := fun b u xs q => by rw [upd_ne (ne_of_none q hn)]; exact q
  tbls := fun b ps q => ⟨#[], by rw [upd_ne (ne_of_none q hn), q]; simp⟩
theorem Un.write (mu : Mut (H x)) (he : e = x ∨ H e = some (.own x)) (k : ∀ b u, b ≠ e → h.get? b = some u → h'.get? b = some u) (heo : ∃ u, h'.get? e = some u) : Un fs ex H (upd H x o) h h' := by
  have hx : ∀ b, H b = none → b ≠ x := fun b n z => by subst z; rw [n] at mu; exact mu
  have hb : ∀ b, H b = none → b ≠ e := fun b n z => by
    subst z
    rcases he with r | r
    · exact hx b n r
    · rw [n] at r; cases r
  have hm : ∀ b u, H b = some u → ¬ Mut (some u) → b ≠ x := fun b u q nm z => by subst z; rw [q] at mu; exact nm mu
  refine ⟨fun b u q n _ _ => k b u (hb b n) q, fun b u q n _ _ => ⟨u.slots, k b u (hb b n) q⟩, fun b u q n _ => by rw [upd_ne (hx b n)]; exact n, fun b u q _ => ?_,
    fun b xs q => by rw [upd_ne (hm b _ q fun z => z)]; exact q, fun b u xs q => by rw [upd_ne (hm b _ q fun z => z)]; exact q, fun b ps q => ⟨#[], by rw [upd_ne (hm b _ q fun z => z), q]; simp⟩⟩
  by_cases hbe : b = e
  · subst hbe; exact heo
  · exact ⟨u, k b u hbe q⟩
theorem Un.mono (u : Un fs ex H H1 h h1) (hs : ∀ b ∈ fs, b ∈ fs') (hx : ∀ b ∈ ex, b ∈ ex') : Un fs' ex' H H1 h h1 :=
  ⟨fun b ob q n hb he => u.keep b ob q n (fun z => hb (hs b z)) fun z => he (hx b z), fun _ _ q n _ he => u.any q n fun z => he (hx _ z), fun b ob q n he => u.free b ob q n fun z => he (hx b z), fun b ob q he => u.there b ob q fun z => he (hx b z), u.tups, u.frzs, u.tbls⟩
end

/-! ### the heap without what is tracked -/
def trk (h : Heap) (H : Hp) : List Addr := (List.range h.objs.size).filter fun a => (H a).isSome
def hidT (h : Heap) (H : Hp) : Heap := PySem.W.hideAll h (trk h H)
theorem hidT_size (h : Heap) (H : Hp) : (hidT h H).objs.size = h.objs.size := PySem.W.hideAll_size _ _
theorem hidT_get {h : Heap} {H : Hp} {b : Addr} {o : Obj} (e : h.get? b = some o) (n : H b = none) : (hidT h H).get? b = some o :=
  PySem.W.hideAll_get _ e fun hm => by
    have q : (H b).isSome = true := (List.mem_filter.mp hm).2
    rw [n] at q; simp at q
theorem of_hidT {h : Heap} {H : Hp} {b : Addr} {o : Obj} (e : (hidT h H).get? b = some o) : h.get? b = some o ∧ H b = none := by
  have e' : h.get? b = some o := PySem.W.of_hideAll (trk h H) e
  refine ⟨e', ?_⟩
  cases q : H b with
  | none => rfl
  | some x =>
    have hm : b ∈ trk h H := List.mem_filter.mpr ⟨List.mem_range.mpr (Heap.lt_size e'), by simp [q]⟩
    have z : (hidT h H).get? b = none := PySem.W.hideAll_none (trk h H) hm
    rw [z] at e; cases e

/-! ### OpenK's ledger, filled with every new object but one -/
def allNews (g h : Heap) (L : Addr) : List (Addr × Obj) := (List.range h.objs.size).filterMap fun a => if a = L ∨ (g.get? a).isSome = true then none else (h.get? a).map fun o => (a, o)
def rest (g h : Heap) (L d : Addr) : List (Addr × Obj) := (allNews g h L).filter fun p => decide (p.1 ≠ d)
end L2

namespace L2
open PySem PySem.Spec PyProof.Rows

/-- the module's facts, over the base: the heap at the law's entry without what is tracked there -/
structure Mod (K : PySem.W.Frag) (mg : Str → Option Value) (base : Heap) : Prop where
  kin : K.In base
  glob : base.Ns mainGlobals mg
  blt : ∃ mb, base.Ns builtinsNs mb ∧ ∀ x : Str, x ≠ "__name__" → mb x = bootBuiltins x
  nolimit : base.NoLimit

/-- the context: a def's body (or a comprehension's block) running. base: fixed through the whole law; s₀, H₀: the entry; outer: the frames whose slots others may change (a def's callers); stack: all frames that run;
   ex: iterators that were made ahead of the entry and are walked here (a comprehension's); fn: the names whose cells were made at the entry (a def: all; a comprehension's block: its own); calm: not within an except suite; pn: pins that every state bears; xe: what is wanted of an exception that leaves the code -/
structure Cx where
  prog : Program
  w : World
  K : PySem.W.Frag
  mg : Str → Option Value
  base : Heap
  A : Around
  N : List Str
  s₀ : Shared
  H₀ : Hp
  env : Env
  outer : List Env
  stack : List Env
  ex : List Addr
  fn : Str → Bool
  calm : Bool
  pn : List (Addr × Obj)
  xe : Value → Shared → Prop
/-- the callers' frames -/
def frs (l : List Env) : List Addr := l.filterMap (·.frame)
abbrev Cx.fs (X : Cx) : List Addr := frs X.outer

def Vis (sc : Scope) (x : Str) : Prop := sc.names.lookup x = some .local ∨ sc.names.lookup x = some .cell ∨ sc.names.lookup x = some .free
def Loc (sc : Scope) (x : Str) : Prop := sc.names.lookup x = some .local ∨ sc.names.lookup x = some .cell
def Look (env : Env) (h : Heap) (m : Str → Option Value) (x : Str) (u : Value) : Prop :=
  (env.kindOf x = some .local ∧ m x = some u) ∨ ((env.kindOf x = some .cell ∨ env.kindOf x = some .free) ∧ ∃ c, env.cells.lookup x = some c ∧ h.IsCell c (some u))

structure Cx.Ok (X : Cx) : Prop where
  mod : Mod X.K X.mg X.base
  kind : X.env.scope.kind = .function
  glob : X.env.globals = mainGlobals
  blt : X.env.builtins = builtinsNs
  above : X.s₀.heap.objs.size ≤ X.env.locals
  inj : ∀ x y c, X.env.cells.lookup x = some c → X.env.cells.lookup y = some c → x = y
  has : ∀ x, (X.env.kindOf x = some .cell ∨ X.env.kindOf x = some .free) → ∃ c, X.env.cells.lookup x = some c
  cab : ∀ x c, X.fn x = true → X.env.cells.lookup x = some c → X.s₀.heap.objs.size ≤ c
  hd : X.calm = true → X.A.handled = none
  frames : X.A.frames = some X.stack
  stk : X.stack = X.outer ∨ (X.stack = X.env :: X.outer ∧ X.env.frame = some X.env.locals)
  exf : ∀ b ∈ X.ex, b ≠ X.env.locals ∧ ∀ x c, X.env.cells.lookup x = some c → c ≠ b
  bs : ∀ b o, X.base.get? b = some o → X.s₀.heap.get? b = some o ∧ X.H₀ b = none
  bsz : X.base.objs.size ≤ X.s₀.heap.objs.size
  noex : ∀ b o, X.base.get? b = some o → b ∉ X.ex
  exfs : ∀ b ∈ X.ex, b ∉ X.fs
  funs : X.s₀.heap.FunFrames X.base X.outer
  frf : ∀ b ∈ X.fs, X.H₀ b = none

structure Inv (X : Cx) (pins : List (Addr × Obj)) (σ : List (Option V)) (H : Hp) (s : Shared) : Prop where
  ok : X.Ok
  os : s.os = X.s₀.os
  bare : AllBare s.gens
  base : Un X.fs X.ex X.H₀ H X.s₀.heap s.heap
  loc : ∃ m, s.heap.Ns X.env.locals m ∧ ∀ (i : Nat) (x : Str) (v : V), X.N[i]? = some x → σ[i]? = some (some v) → Vis X.env.scope x → ∃ u, RelV v u ∧ Look X.env s.heap m x u
  cell : ∀ x c, X.env.cells.lookup x = some c → ∃ v, s.heap.IsCell c v
  free : H X.env.locals = none
  freeC : ∀ x c, X.env.cells.lookup x = some c → H c = none
  pin : ∀ p ∈ X.pn ++ pins, s.heap.get? p.1 = some p.2 ∧ H p.1 = none ∧ p.1 ≠ X.env.locals ∧ p.1 ∉ X.fs ∧ ∀ v, p.2.data ≠ .cell v
  hok : HOk X.prog X.w H s.heap
  len : σ.length = X.N.length

section
variable {X : Cx} {pins : List (Addr × Obj)} {σ : List (Option V)} {H H' : Hp} {s : Shared} {h' : Heap}

theorem Cx.Ok.nofr (ok : X.Ok) {b : Addr} {o : Obj} (e : X.base.get? b = some o) : b ∉ X.fs := fun hb => by
  have := (ok.funs.mem hb).1
  rw [e] at this; cases this
theorem Inv.bs (I : Inv X pins σ H s) : ∀ b o, X.base.get? b = some o → s.heap.get? b = some o ∧ H b = none := fun b o e =>
  ⟨I.base.keep b o (I.ok.bs b o e).1 (I.ok.bs b o e).2 (I.ok.nofr e) (I.ok.noex b o e), I.base.free b o (I.ok.bs b o e).1 (I.ok.bs b o e).2 (I.ok.noex b o e)⟩
theorem Inv.bk (I : Inv X pins σ H s) : ∀ b o, X.base.get? b = some o → s.heap.get? b = some o := fun b o e => (I.bs b o e).1
theorem Inv.mod (I : Inv X pins σ H s) : Mod X.K X.mg X.base := I.ok.mod
theorem Inv.kIn (I : Inv X pins σ H s) : X.K.In s.heap := I.ok.mod.kin.keeps I.bk
theorem Inv.nolimit (I : Inv X pins σ H s) : s.heap.NoLimit := I.ok.mod.nolimit.keeps I.bk
/-- the frame over the base: for OpenK's rules (K.In X.base is I.mod.kin) -/
theorem Inv.fr (I : Inv X pins σ H s) : ∃ m, Fr X.base X.env.locals s.heap m :=
  let ⟨m, hn, _⟩ := I.loc
  ⟨m, hn, I.bk, Nat.le_trans I.ok.bsz I.ok.above⟩
theorem Inv.lt (I : Inv X pins σ H s) : X.env.locals < s.heap.objs.size := let ⟨_, hn, _⟩ := I.loc; hn.lt
theorem Inv.sz (I : Inv X pins σ H s) : X.s₀.heap.objs.size ≤ s.heap.objs.size := Nat.le_trans I.ok.above (Nat.le_of_lt I.lt)
theorem Inv.nofs (I : Inv X pins σ H s) {a : Addr} (h : s.heap.objs.size ≤ a) : a ∉ X.fs := fun hb => by
  obtain ⟨_, o, ho, _⟩ := I.ok.funs.mem hb
  exact absurd (Nat.lt_of_lt_of_le (Heap.lt_size ho) (Nat.le_trans I.sz h)) (Nat.lt_irrefl _)
theorem Inv.cne (I : Inv X pins σ H s) : ∀ x c, X.env.cells.lookup x = some c → c ≠ X.env.locals := fun x c e z => by
  obtain ⟨v, o, ho, hd⟩ := I.cell x c e
  obtain ⟨m, ⟨o', es, ep, ho', hd', _⟩, _⟩ := I.loc
  rw [z, ho'] at ho; cases ho; rw [hd'] at hd; cases hd
theorem Inv.funs (I : Inv X pins σ H s) : s.heap.FunFrames X.base X.outer := by
  have all : ∀ (l : List Env), (∀ b ∈ frs l, b ∈ X.fs) → X.s₀.heap.FunFrames X.base l → s.heap.FunFrames X.base l := by
    intro l
    induction l with
    | nil => intro _ _; trivial
    | cons env r ih =>
      intro hs hl
      obtain ⟨hk, ⟨L, o, hf, hn, ho, hd⟩, hr⟩ := hl
      have hL : L ∈ X.fs := hs L (by unfold frs; rw [List.filterMap_cons, hf]; exact List.mem_cons_self)
      obtain ⟨sl, e⟩ := I.base.slot L o ho (I.ok.frf L hL) hL fun z => I.ok.exfs L z hL
      exact ⟨hk, ⟨L, _, hf, hn, e, hd⟩, ih (fun b hb => hs b (by unfold frs; rw [List.filterMap_cons, hf]; exact List.mem_cons_of_mem _ hb)) hr⟩
  exact all X.outer (fun _ hb => hb) I.ok.funs

/-- the frames that run, for a call -/
theorem Inv.stack (I : Inv X pins σ H s) : s.heap.FunFrames X.base X.stack := by
  rcases I.ok.stk with e | ⟨e, hf⟩
  · rw [e]; exact I.funs
  · rw [e]
    obtain ⟨m, hn, _⟩ := I.loc
    refine .cons (by rw [I.ok.kind]; decide) hf hn ?_ I.funs
    exact Heap.get?_none_of_le (Nat.le_trans I.ok.bsz I.ok.above)
theorem Inv.stkSub (I : Inv X pins σ H s) : ∀ b ∈ frs X.stack, b ∈ X.env.locals :: X.fs := fun b hb => by
  rcases I.ok.stk with e | ⟨e, hf⟩
  · rw [e] at hb; exact List.mem_cons_of_mem _ hb
  · rw [e] at hb
    unfold frs at hb
    rw [List.filterMap_cons, hf] at hb
    exact hb
theorem Inv.stkFree (I : Inv X pins σ H s) : ∀ b ∈ frs X.stack, H b = none := fun b hb => by
  rcases List.mem_cons.mp (I.stkSub b hb) with e | hb
  · rw [e]; exact I.free
  · obtain ⟨_, o, ho, _⟩ := I.ok.funs.mem hb
    exact I.base.free b o ho (I.ok.frf b hb) fun z => I.ok.exfs b z hb

/-- THE STEP: the untracked objects but the frame and the records at ch are kept (the callers' frames up to slots), the frame's map is kept, the new abstract heap is held -/
theorem Inv.step {g' : Array GenState} {t' : Nat} {d' : Drawn} {ch : List Addr} (I : Inv X pins σ H s)
    (hch : ∀ b ∈ ch, (b ∈ X.ex ∨ X.s₀.heap.objs.size ≤ b) ∧ b ≠ X.env.locals ∧ (∀ x c, X.env.cells.lookup x = some c → c ≠ b) ∧ ∀ p ∈ X.pn ++ pins, p.1 ≠ b)
    (keep : ∀ b o, b ≠ X.env.locals → b ∉ X.fs → b ∉ ch → s.heap.get? b = some o → H b = none → h'.get? b = some o)
    (slot : ∀ b o, b ≠ X.env.locals → b ∈ X.fs → b ∉ ch → s.heap.get? b = some o → H b = none → ∃ sl, h'.get? b = some { o with slots := sl }) (free : ∀ b o, b ∉ ch → s.heap.get? b = some o → H b = none → H' b = none)
    (there : ∀ b o, b ∉ ch → s.heap.get? b = some o → ∃ o', h'.get? b = some o')
    (tups : ∀ b xs, H b = some (.tup xs) → H' b = some (.tup xs)) (frzs : ∀ b o u, H b = some (.frz o u) → H' b = some (.frz o u)) (tbls : ∀ b ps, H b = some (.tbl ps) → ∃ more, H' b = some (.tbl (ps ++ more)))
    (ns : ∀ m, s.heap.Ns X.env.locals m → h'.Ns X.env.locals m) (hok : HOk X.prog X.w H' h') (hg : AllBare g') :
    Inv X pins σ H' { s with heap := h', gens := g', drawn := d', toks := t' } := by
  have neL : ∀ b o, X.s₀.heap.get? b = some o → b ≠ X.env.locals := fun b o e => Nat.ne_of_lt (Nat.lt_of_lt_of_le (Heap.lt_size e) I.ok.above)
  have neC : ∀ b o, X.s₀.heap.get? b = some o → b ∉ X.ex → b ∉ ch := fun b o e hx hb => by
    rcases (hch b hb).1 with z | z
    · exact hx z
    · exact absurd (Nat.lt_of_lt_of_le (Heap.lt_size e) z) (Nat.lt_irrefl _)
  have cellK : ∀ x c, X.env.cells.lookup x = some c → ∀ v, s.heap.IsCell c v → h'.IsCell c v := fun x c e v ⟨o, ho, hd⟩ => by
    have nch : c ∉ ch := fun z => (hch c z).2.2.1 x c e rfl
    by_cases hc : c ∈ X.fs
    · obtain ⟨sl, q⟩ := slot c o (I.cne x c e) hc nch ho (I.freeC x c e)
      exact ⟨_, q, hd⟩
    · exact ⟨o, keep c o (I.cne x c e) hc nch ho (I.freeC x c e), hd⟩
  refine ⟨I.ok, I.os, hg, ⟨fun b o e n hb hx => ?_, fun b o e n hb hx => ?_, fun b o e n hx => ?_, fun b o e hx => ?_, fun b xs e => tups b xs (I.base.tups b xs e), fun b o xs e => frzs b o xs (I.base.frzs b o xs e), fun b ps e => ?_⟩, ?_, fun x c e => ?_, ?_, fun x c e => ?_, fun p hp => ?_, hok, I.len⟩
  · exact keep b o (neL b o e) hb (neC b o e hx) (I.base.keep b o e n hb hx) (I.base.free b o e n hx)
  · obtain ⟨sl, e1⟩ := I.base.slot b o e n hb hx
    obtain ⟨sl', e2⟩ := slot b _ (neL b o e) hb (neC b o e hx) e1 (I.base.free b o e n hx)
    exact ⟨sl', e2⟩
  · obtain ⟨o', e1⟩ := I.base.there b o e hx
    exact free b o' (neC b o e hx) e1 (I.base.free b o e n hx)
  · obtain ⟨o', e1⟩ := I.base.there b o e hx
    exact there b o' (neC b o e hx) e1
  · obtain ⟨m1, e1⟩ := I.base.tbls b ps e
    obtain ⟨m2, e2⟩ := tbls b _ e1
    exact ⟨m1 ++ m2, by rw [e2, Array.append_assoc]⟩
  · obtain ⟨m, hn, hl⟩ := I.loc
    refine ⟨m, ns m hn, fun i x v e1 e2 e3 => ?_⟩
    obtain ⟨u, r, l⟩ := hl i x v e1 e2 e3
    refine ⟨u, r, ?_⟩
    rcases l with l | ⟨k, c, e, z⟩
    · exact .inl l
    · exact .inr ⟨k, c, e, cellK x c e _ z⟩
  · obtain ⟨v, z⟩ := I.cell x c e
    exact ⟨v, cellK x c e v z⟩
  · obtain ⟨m, ⟨o, _, _, ho, _⟩, _⟩ := I.loc
    exact free _ o (fun z => (hch _ z).2.1 rfl) ho I.free
  · obtain ⟨v, o, ho, hd⟩ := I.cell x c e
    exact free c o (fun z => (hch c z).2.2.1 x c e rfl) ho (I.freeC x c e)
  · obtain ⟨e, n, ne, nf, d⟩ := I.pin p hp
    have nch : p.1 ∉ ch := fun z => (hch p.1 z).2.2.2 p hp rfl
    exact ⟨keep p.1 p.2 ne nf nch e n, free p.1 p.2 nch e n, ne, nf, d⟩
/-- .. where the frame's own object is kept too -/
theorem Inv.un {t' : Nat} (I : Inv X pins σ H s) (u : Un X.fs [] H H' s.heap h') (hok : HOk X.prog X.w H' h') : Inv X pins σ H' { s with heap := h', toks := t' } := by
  obtain ⟨m, ⟨o, es, ep, ho, r⟩, _⟩ := id I.loc
  obtain ⟨sl, hL⟩ := u.any ho I.free (by simp)
  exact I.step (g' := s.gens) (d' := s.drawn) (ch := []) (fun _ z => nomatch z) (fun b o _ hb _ e n => u.keep b o e n hb (by simp)) (fun b o _ hb _ e n => u.slot b o e n hb (by simp)) (fun b o _ e n => u.free b o e n (by simp)) (fun b o _ e => u.there b o e (by simp)) u.tups u.frzs u.tbls (fun m' hm => by
    obtain ⟨o', es', ep', ho', r'⟩ := hm
    rw [ho] at ho'; cases ho'
    exact ⟨_, es', ep', hL, r'⟩) hok I.bare
/-- behind a call (or a comprehension's block): the slots of this frame may have changed too, the records at ch may have turned -/
theorem Inv.call {g' : Array GenState} {t' : Nat} {d' : Drawn} {ch : List Addr} (I : Inv X pins σ H s) (u : Un (frs X.stack) ch H H' s.heap h') (hok : HOk X.prog X.w H' h') (hg : AllBare g')
    (hch : ∀ b ∈ ch, (b ∈ X.ex ∨ X.s₀.heap.objs.size ≤ b) ∧ b ≠ X.env.locals ∧ (∀ x c, X.env.cells.lookup x = some c → c ≠ b) ∧ ∀ p ∈ X.pn ++ pins, p.1 ≠ b) :
    Inv X pins σ H' { s with heap := h', gens := g', drawn := d', toks := t' } := by
  obtain ⟨m, ⟨o, es, ep, ho, r⟩, _⟩ := id I.loc
  obtain ⟨sl, hL⟩ := u.any ho I.free fun z => (hch _ z).2.1 rfl
  exact I.step (ch := ch) hch (fun b o hL hb hc e n => u.keep b o e n (fun z => (List.mem_cons.mp (I.stkSub b z)).elim hL hb) hc) (fun b o _ _ hc e n => u.any e n hc) (fun b o hc e n => u.free b o e n hc) (fun b o hc e => u.there b o e hc) u.tups u.frzs u.tbls (fun m' hm => by
    obtain ⟨o', es', ep', ho', r'⟩ := hm
    rw [ho] at ho'; cases ho'
    exact ⟨_, es', ep', hL, r'⟩) hok hg
/-- an untracked record of ours (an iterator) has turned -/
theorem Inv.turned {t' : Nat} {it : Addr} (I : Inv X pins σ H s) (k : ∀ b o, b ≠ it → s.heap.get? b = some o → h'.get? b = some o) (hn : H it = none) (hL : it ≠ X.env.locals)
    (h1 : it ∈ X.ex ∨ X.s₀.heap.objs.size ≤ it) (h2 : ∀ x c, X.env.cells.lookup x = some c → c ≠ it) (h3 : ∀ p ∈ X.pn ++ pins, p.1 ≠ it) : Inv X pins σ H { s with heap := h', toks := t' } := by
  have nit : ∀ b u, H b = some u → b ≠ it := fun b u e z => by rw [z, hn] at e; cases e
  refine I.step (g' := s.gens) (d' := s.drawn) (ch := [it]) (fun b hb => ?_) (fun b o _ _ hc e _ => k b o (fun z => hc (by simp [z])) e) (fun b o _ _ hc e _ => ⟨o.slots, k b o (fun z => hc (by simp [z])) e⟩) (fun _ _ _ _ n => n)
    (fun b o hc e => ⟨o, k b o (fun z => hc (by simp [z])) e⟩) (fun _ _ e => e) (fun _ _ _ e => e) (fun b ps e => ⟨#[], by rw [e]; simp⟩) (fun m hm => ?_) (fun b u e => ?_) I.bare
  · have e : b = it := by simpa using hb
    subst e
    exact ⟨h1, hL, h2, h3⟩
  · obtain ⟨o, es, ep, ho, r⟩ := hm
    exact ⟨o, es, ep, k _ o (Ne.symm hL) ho, r⟩
  · refine (I.hok b u e).stay (fun c v hc q => k c v ?_ q) (fun _ q => q) fun _ _ q => q
    rcases hc with z | z
    · rw [z]; exact nit b u e
    · exact nit c _ z
theorem Inv.tok (I : Inv X pins σ H s) (t : Nat) : Inv X pins σ H { s with toks := t } := I.un (h' := s.heap) (t' := t) Un.refl I.hok
/-- all objects kept -/
theorem Inv.kept {t' : Nat} (I : Inv X pins σ H s) (k : ∀ b u, s.heap.get? b = some u → h'.get? b = some u) : Inv X pins σ H { s with heap := h', toks := t' } := I.un (Un.kept k) (I.hok.kept k)
/-- a new object laid and tracked -/
theorem Inv.laid {a : Addr} {o : HO} {t' : Nat} (I : Inv X pins σ H s) (k : ∀ b u, s.heap.get? b = some u → h'.get? b = some u) (hp : s.heap.objs.size ≤ a) (new : ObjOk X.prog X.w (upd H a o) h' a o) :
    Inv X pins σ (upd H a o) { s with heap := h', toks := t' } := I.un (Un.laid k hp (I.hok.fresh hp)) (I.hok.laid k hp new)
/-- an object written -/
theorem Inv.write {x e : Addr} {o : HO} {t' : Nat} (I : Inv X pins σ H s) (mu : Mut (H x)) (he : e = x ∨ H e = some (.own x)) (k : ∀ b u, b ≠ e → s.heap.get? b = some u → h'.get? b = some u) (heo : ∃ u, h'.get? e = some u)
    (new : ObjOk X.prog X.w (upd H x o) h' x o) : Inv X pins σ (upd H x o) { s with heap := h', toks := t' } := I.un (Un.write mu he k heo) (I.hok.write mu he k heo new)
/-- forgetting slots, pins -/
theorem Inv.weak {σ' : List (Option V)} (I : Inv X pins σ H s) (hl : σ'.length = σ.length) (w : ∀ (i : Nat) v, σ'[i]? = some (some v) → σ[i]? = some (some v)) : Inv X pins σ' H s :=
  ⟨I.ok, I.os, I.bare, I.base, let ⟨m, hn, hl'⟩ := I.loc; ⟨m, hn, fun i x v e1 e2 e3 => hl' i x v e1 (w i v e2) e3⟩, I.cell, I.free, I.freeC, I.pin, I.hok, hl.trans I.len⟩
theorem Inv.pins_of {pins' : List (Addr × Obj)} (I : Inv X pins σ H s) (h : ∀ p ∈ pins', s.heap.get? p.1 = some p.2 ∧ H p.1 = none ∧ p.1 ≠ X.env.locals ∧ p.1 ∉ X.fs ∧ ∀ v, p.2.data ≠ .cell v) : Inv X pins' σ H s :=
  ⟨I.ok, I.os, I.bare, I.base, I.loc, I.cell, I.free, I.freeC, fun p hp => (List.mem_append.mp hp).elim (fun z => I.pin p (List.mem_append_left _ z)) (h p), I.hok, I.len⟩

theorem nodup_ix {N : List Str} (hN : N.Nodup) {i j : Nat} {x : Str} (a : N[i]? = some x) (b : N[j]? = some x) : i = j := by
  obtain ⟨h1, e1⟩ := List.getElem?_eq_some_iff.mp a
  obtain ⟨h2, e2⟩ := List.getElem?_eq_some_iff.mp b
  exact (List.getElem_inj hN).mp (e1.trans e2.symm)

/-- a name is stored; what changed -/
theorem store_ok2 {M : Model} {A : Around} {E : Value → Shared → Prop} {i : Nat} {x : Str} {v : V} {u : Value} {Q : Unit → Shared → Prop} (I : Inv X pins σ H s) (hN : X.N.Nodup) (hi : X.N[i]? = some x) (hx : Loc X.env.scope x) (r : RelV v u)
    (h : ∀ s', Inv X pins (σ.set i (some v)) H s' → (∃ a, Heap.SameBut a s.heap s'.heap ∧ (a = X.env.locals ∨ X.env.cells.lookup x = some a)) → Q () s') (hf : X.fn x = true ∨ X.env.scope.names.lookup x = some .local := by first | exact .inl rfl | exact .inr rfl | assumption) : wpAny M A (storeName X.env x u) Q E s := by
  obtain ⟨m, hn, hl⟩ := id I.loc
  have hcls : (X.env.scope.kind == .class || (X.env.scope.kind == .module && X.env.locals != X.env.globals)) = false := by rw [I.ok.kind]; rfl
  have hiσ : i < σ.length := by rw [I.len]; exact (List.getElem?_eq_some_iff.mp hi).1
  have cne := I.cne
  have tracked : ∀ {a : Addr} {h' : Heap}, (∃ o, s.heap.get? a = some o ∧ H a = none) → Heap.SameBut a s.heap h' → HOk X.prog X.w H h' := fun {a h'} ha hs b ob e => by
    obtain ⟨_, _, hfree⟩ := ha
    refine (I.hok b ob e).stay (fun c w' hc q => (hs.2 c ?_).trans q) (fun _ q => q) fun _ _ q => q
    rintro rfl
    rcases hc with rfl | hc
    · rw [hfree] at e; cases e
    · rw [hfree] at hc; cases hc
  rcases hx with hk | hk
  · refine wpAny_storeName_local hk hn (fun h' hn' hs => ?_) hcls
    obtain ⟨oL, _, _, hoL, _⟩ := id hn
    refine h _ ⟨I.ok, I.os, I.bare, ⟨fun b o e n hb hx => ?_, fun b o e n hb hx => ?_, I.base.free, fun b o e hx => ?_, I.base.tups, I.base.frzs, I.base.tbls⟩, ⟨_, hn', fun j y v' e1 e2 e3 => ?_⟩, fun y c e => ?_, I.free, I.freeC, fun p hp => ?_, tracked ⟨oL, hoL, I.free⟩ hs, by simpa using I.len⟩ ⟨_, hs, .inl rfl⟩
    · exact (hs.2 b (Nat.ne_of_lt (Nat.lt_of_lt_of_le (Heap.lt_size e) I.ok.above))).trans (I.base.keep b o e n hb hx)
    · obtain ⟨sl, e1⟩ := I.base.slot b o e n hb hx
      exact ⟨sl, (hs.2 b (Nat.ne_of_lt (Nat.lt_of_lt_of_le (Heap.lt_size e) I.ok.above))).trans e1⟩
    · obtain ⟨o', e1⟩ := I.base.there b o e hx
      exact ⟨o', (hs.2 b (Nat.ne_of_lt (Nat.lt_of_lt_of_le (Heap.lt_size e) I.ok.above))).trans e1⟩
    · by_cases hj : j = i
      · subst hj
        rw [hi] at e1; cases e1
        rw [List.getElem?_set_self hiσ] at e2
        cases e2
        exact ⟨u, r, .inl ⟨hk, by simp⟩⟩
      · rw [List.getElem?_set_ne (Ne.symm hj)] at e2
        obtain ⟨u', r', q⟩ := hl j y v' e1 e2 e3
        refine ⟨u', r', ?_⟩
        rcases q with ⟨k, e⟩ | ⟨k, c, e, z⟩
        · refine .inl ⟨k, ?_⟩
          have : y ≠ x := fun e => hj (nodup_ix hN e1 (e ▸ hi))
          simp [this, e]
        · exact .inr ⟨k, c, e, z.sameBut hs (cne y c e)⟩
    · obtain ⟨w', z⟩ := I.cell y c e
      exact ⟨w', z.sameBut hs (cne y c e)⟩
    · obtain ⟨e, n, ne, nf, d⟩ := I.pin p hp
      exact ⟨(hs.2 p.1 ne).trans e, n, ne, nf, d⟩
  · have hfn : X.fn x = true := by
      rcases hf with z | z
      · exact z
      · rw [z] at hk; cases hk
    obtain ⟨c, hc⟩ := I.ok.has x (.inl hk)
    obtain ⟨w', z⟩ := I.cell x c hc
    refine wpAny_storeName_cell I.ok.kind hk hc z (fun h' hc' hs => ?_)
    obtain ⟨oc, hoc, hocd⟩ := id z
    refine h { s with heap := h' } ⟨I.ok, I.os, I.bare, ⟨fun b o e n hb hx => ?_, fun b o e n hb hx => ?_, I.base.free, fun b o e hx => ?_, I.base.tups, I.base.frzs, I.base.tbls⟩, ⟨m, hn.sameBut hs (Ne.symm (cne x c hc)), fun j y v' e1 e2 e3 => ?_⟩, fun y c' e => ?_, I.free, I.freeC, fun p hp => ?_, tracked ⟨oc, hoc, I.freeC x c hc⟩ hs, by simpa using I.len⟩ ⟨c, hs, .inr hc⟩
    · exact (hs.2 b (Nat.ne_of_lt (Nat.lt_of_lt_of_le (Heap.lt_size e) (I.ok.cab x c hfn hc)))).trans (I.base.keep b o e n hb hx)
    · obtain ⟨sl, e1⟩ := I.base.slot b o e n hb hx
      exact ⟨sl, (hs.2 b (Nat.ne_of_lt (Nat.lt_of_lt_of_le (Heap.lt_size e) (I.ok.cab x c hfn hc)))).trans e1⟩
    · obtain ⟨o', e1⟩ := I.base.there b o e hx
      exact ⟨o', (hs.2 b (Nat.ne_of_lt (Nat.lt_of_lt_of_le (Heap.lt_size e) (I.ok.cab x c hfn hc)))).trans e1⟩
    · by_cases hj : j = i
      · subst hj
        rw [hi] at e1; cases e1
        rw [List.getElem?_set_self hiσ] at e2
        cases e2
        exact ⟨u, r, .inr ⟨.inl hk, c, hc, hc'⟩⟩
      · rw [List.getElem?_set_ne (Ne.symm hj)] at e2
        obtain ⟨u', r', q⟩ := hl j y v' e1 e2 e3
        refine ⟨u', r', ?_⟩
        rcases q with q | ⟨k, c', e, z'⟩
        · exact .inl q
        · refine .inr ⟨k, c', e, z'.sameBut hs ?_⟩
          rintro rfl
          exact hj (nodup_ix hN e1 (I.ok.inj _ _ _ e hc ▸ hi))
    · by_cases hcc : c' = c
      · subst hcc; exact ⟨_, hc'⟩
      · obtain ⟨w2, z2⟩ := I.cell y c' e
        exact ⟨w2, z2.sameBut hs hcc⟩
    · obtain ⟨e, n, ne, nf, d⟩ := I.pin p hp
      refine ⟨(hs.2 p.1 ?_).trans e, n, ne, nf, d⟩
      intro q
      rw [q, hoc] at e
      have q' : oc = p.2 := Option.some.inj e
      exact d w' (by rw [← q']; exact hocd)
theorem store_ok {M : Model} {A : Around} {E : Value → Shared → Prop} {i : Nat} {x : Str} {v : V} {u : Value} {Q : Unit → Shared → Prop} (I : Inv X pins σ H s) (hN : X.N.Nodup) (hi : X.N[i]? = some x) (hx : Loc X.env.scope x) (r : RelV v u)
    (h : ∀ s', Inv X pins (σ.set i (some v)) H s' → Q () s') (hf : X.fn x = true ∨ X.env.scope.names.lookup x = some .local := by first | exact .inl rfl | exact .inr rfl | assumption) : wpAny M A (storeName X.env x u) Q E s :=
  store_ok2 I hN hi hx r (fun s' I' _ => h s' I') hf
/-- behind a call or a block, the state as it is -/
theorem Inv.call' {s' : Shared} {ch : List Addr} (I : Inv X pins σ H s) (ho : s'.os = s.os) (u : Un (frs X.stack) ch H H' s.heap s'.heap) (hok : HOk X.prog X.w H' s'.heap) (hg : AllBare s'.gens)
    (hch : ∀ b ∈ ch, (b ∈ X.ex ∨ X.s₀.heap.objs.size ≤ b) ∧ b ≠ X.env.locals ∧ (∀ x c, X.env.cells.lookup x = some c → c ≠ b) ∧ ∀ p ∈ X.pn ++ pins, p.1 ≠ b) : Inv X pins σ H' s' := by
  obtain ⟨h', g', d', t', o'⟩ := s'
  have e : o' = s.os := ho
  subst e
  exact I.call (g' := g') (t' := t') (d' := d') u hok hg hch
end

/-! ### the judgements -/
/-- an exception: its class, its own dict's address (where it has one), the abstract heap behind it -/
abbrev XK := Value → Option Addr → Hp → Prop
abbrev St := List (Option V)
abbrev VK := V → Hp → Prop
/-- an expression's reading; a test's; an argument list's -/
abbrev TE := St → Hp → VK → Prop
abbrev TT := St → Hp → (Bool → Hp → Prop) → Prop
abbrev TA := St → Hp → (List V → Hp → Prop) → Prop
/-- what is wanted behind a statement -/
structure Ends where
  nx : St → Hp → Prop
  rt : VK
  bk : St → Hp → Prop := fun _ _ => False
  ct : St → Hp → Prop := fun _ _ => False
abbrev TS := Ends → St → Hp → Prop

def EP (X : Cx) (pins : List (Addr × Obj)) (σ : St) (Q : VK) (u : Value) (s' : Shared) : Prop := ∃ v H', Inv X pins σ H' s' ∧ RelV v u ∧ Q v H'
def TP (X : Cx) (pins : List (Addr × Obj)) (σ : St) (Q : Bool → Hp → Prop) (b : Bool) (s' : Shared) : Prop := ∃ H', Inv X pins σ H' s' ∧ Q b H'
def AP (X : Cx) (pins : List (Addr × Obj)) (σ : St) (Q : List V → Hp → Prop) (us : List Value) (s' : Shared) : Prop := ∃ vs H', Inv X pins σ H' s' ∧ Vals vs us ∧ Q vs H'
def SP (X : Cx) (pins : List (Addr × Obj)) (D : Ends) (f : Flow) (s' : Shared) : Prop :=
  match f with
  | .next => ∃ σ' H', Inv X pins σ' H' s' ∧ D.nx σ' H'
  | .brk => ∃ σ' H', Inv X pins σ' H' s' ∧ D.bk σ' H'
  | .cont => ∃ σ' H', Inv X pins σ' H' s' ∧ D.ct σ' H'
  | .ret u => ∃ v σ' H', Inv X pins σ' H' s' ∧ RelV v u ∧ D.rt v H'

def PE (X : Cx) (e : Expr) (t : TE) : Prop :=
  ∀ (pins : List (Addr × Obj)) (s : Shared) (σ : St) (H : Hp) (Q : VK), Inv X pins σ H s → t σ H Q → wpAny (model X.prog X.w) X.A (eval e X.env) (EP X pins σ Q) X.xe s
def PT (X : Cx) (e : Expr) (t : TT) : Prop :=
  ∀ (pins : List (Addr × Obj)) (s : Shared) (σ : St) (H : Hp) (Q : Bool → Hp → Prop), Inv X pins σ H s → t σ H Q → wpAny (model X.prog X.w) X.A (isTrue e X.env (eval e X.env)) (TP X pins σ Q) X.xe s
/-- a test whatever its 'whole' is (and, or) -/
def PW (X : Cx) (e : Expr) (t : TT) : Prop :=
  ∀ (whole : Sem Value) (pins : List (Addr × Obj)) (s : Shared) (σ : St) (H : Hp) (Q : Bool → Hp → Prop), Inv X pins σ H s → t σ H Q → wpAny (model X.prog X.w) X.A (isTrue e X.env whole) (TP X pins σ Q) X.xe s
theorem PW.pt {X : Cx} {e : Expr} {t : TT} (h : PW X e t) : PT X e t := h _
/-- an argument list (no star), from the left -/
def PA (X : Cx) (es : List Expr) (t : TA) : Prop :=
  ∀ (pos : Pos) (pins : List (Addr × Obj)) (s : Shared) (σ : St) (H : Hp) (Q : List V → Hp → Prop), Inv X pins σ H s → t σ H Q → wpAny (model X.prog X.w) X.A (spliced (backTo pos (starEach es X.env))) (AP X pins σ Q) X.xe s
def PS (X : Cx) (st : Stmt) (t : TS) : Prop :=
  ∀ (pins : List (Addr × Obj)) (s : Shared) (σ : St) (H : Hp) (D : Ends), Inv X pins σ H s → t D σ H → wpAny (model X.prog X.w) X.A (exec st X.env) (SP X pins D) X.xe s
def PSs (X : Cx) (st : List Stmt) (t : TS) : Prop :=
  ∀ (pins : List (Addr × Obj)) (s : Shared) (σ : St) (H : Hp) (D : Ends), Inv X pins σ H s → t D σ H → wpAny (model X.prog X.w) X.A (execs st X.env) (SP X pins D) X.xe s
/-- weaken the end -/
theorem thn {α : Type} {t : Sem α} {Q Q' : α → Shared → Prop} {M : Model} {A : Around} {E : Value → Shared → Prop} {s : Shared} (h : wpAny M A t Q E s) (hQ : ∀ a s, Q a s → Q' a s) : wpAny M A t Q' E s := wpAny_mono h hQ fun _ _ x => x
end L2

namespace L2
open PySem PySem.Spec PyProof.Rows
section
variable {X : Cx}

/-! ### names and constants -/
def tVar (i : Nat) : TE := fun σ H Q => ∃ v, σ[i]? = some (some v) ∧ Q v H
def tC (v : V) : TE := fun _ H Q => Q v H
theorem pe_var {i : Nat} {x : Str} {pos : Pos} (hN : X.N[i]? = some x) (hv : Vis X.env.scope x) (hd : (x == ("__debug__" : Str)) = false := by decide) (hcd : (x == ("__classdict__" : Str)) = false := by decide) : PE X (.Name x pos) (tVar i) := by
  intro pins s σ H Q I h
  obtain ⟨v, e, h⟩ := h
  obtain ⟨m, hn, hl⟩ := I.loc
  obtain ⟨u, r, l⟩ := hl i x v hN e hv
  have fin : EP X pins σ Q u s := ⟨v, H, I, r, h⟩
  rcases l with ⟨hk, hm⟩ | ⟨hk, c, hc, hcell⟩
  · exact wpAny_Name (wpAny_loadName_local I.ok.kind hk hn hm fin) hd
  · rcases hk with hk | hk
    · exact wpAny_Name (wpAny_loadName_cell I.ok.kind hk hc hcell fin) hd
    · exact wpAny_Name (wpAny_loadName_free I.ok.kind hk hc hcell fin hcd) hd
theorem pe_int {i j pos} : PE X (.Constant (.int i) j pos) (tC (.int i)) := fun _ _ _ H _ I h => wpAny_Constant_int ⟨.int i, H, I.tok _, ⟨_, rfl⟩, h⟩
theorem pe_bl {b j pos} : PE X (.Constant (.bool b) j pos) (tC (.bl b)) := fun _ _ _ H _ I h => Constant_bool ⟨.bl b, H, I, rfl, h⟩
theorem pe_non {j pos} : PE X (.Constant .none j pos) (tC .non) := fun _ _ _ H _ I h => Constant_none ⟨.non, H, I, rfl, h⟩
/-- a global name of the def -/
def Gl (X : Cx) (x : Str) : Prop := X.env.kindOf x = some .globalImplicit
theorem ld_glob {E : Value → Shared → Prop} {pins : List (Addr × Obj)} {s : Shared} {σ : St} {H : Hp} {x : Str} {u : Value} {pos : Pos} {Q : Value → Shared → Prop} (I : Inv X pins σ H s) (hg : Gl X x) (hm : X.mg x = some u) (h : Q u s)
    (hd : (x == ("__debug__" : Str)) = false := by decide) : wpAny (model X.prog X.w) X.A (eval (.Name x pos) X.env) Q E s :=
  Calls.Name_function_global I.ok.kind hg (Calls.loadGlobal_global (by rw [I.ok.glob]; exact I.mod.glob.keeps I.bk) hm h) hd
theorem ld_blt {E : Value → Shared → Prop} {pins : List (Addr × Obj)} {s : Shared} {σ : St} {H : Hp} {x : Str} {u : Value} {pos : Pos} {Q : Value → Shared → Prop} (I : Inv X pins σ H s) (hg : Gl X x) (hm : X.mg x = none) (hv : bootBuiltins x = some u) (h : Q u s)
    (hn : x ≠ "__name__" := by decide) (hd : (x == ("__debug__" : Str)) = false := by decide) : wpAny (model X.prog X.w) X.A (eval (.Name x pos) X.env) Q E s := by
  obtain ⟨mb, h1, h2⟩ := I.mod.blt
  exact Calls.Name_function_global I.ok.kind hg (Calls.loadGlobal_builtin (by rw [I.ok.glob]; exact I.mod.glob.keeps I.bk) hm (by rw [I.ok.blt]; exact h1.keeps I.bk) ((h2 x hn).trans hv) h) hd
/-! ### arithmetic -/
/-- two ints -/
def t2I (ta tb : TE) (k : Int → Int → Hp → Prop) : St → Hp → Prop := fun σ H => ta σ H fun x H1 => tb σ H1 fun y H2 => ∃ i j, x = .int i ∧ y = .int j ∧ k i j H2
def tAdd (ta tb : TE) : TE := fun σ H Q => t2I ta tb (fun i j H2 => Q (.int (i + j)) H2) σ H
def tSub (ta tb : TE) : TE := fun σ H Q => t2I ta tb (fun i j H2 => Q (.int (i - j)) H2) σ H
/-- the left factor below 2^64 -/
def tMul (ta tb : TE) : TE := fun σ H Q => t2I ta tb (fun i j H2 => (-(2 ^ 64) < i ∧ i < 2 ^ 64) ∧ Q (.int (i * j)) H2) σ H
variable {a b : Expr} {ta tb : TE} {pos : Pos}
/-! ### comparisons -/
def PC (X : Cx) (op : CmpOp) (a b : Expr) (t : TE) : Prop :=
  ∀ (pins : List (Addr × Obj)) (s : Shared) (σ : St) (H : Hp) (Q : VK), Inv X pins σ H s → t σ H Q →
    wpAny (model X.prog X.w) X.A (eval a X.env) (fun v s₁ => wpAny (model X.prog X.w) X.A (eval b X.env) (fun u s₂ => wpAny (model X.prog X.w) X.A (compareOp op v u) (EP X pins σ Q) X.xe s₂) X.xe s₁) X.xe s
theorem nobehind (b : Expr) {op : CmpOp} (h : op ≠ .In) (h2 : op ≠ .NotIn) : behindInMarks op b = false := by
  have e1 : (op == CmpOp.In) = false := by cases op <;> first | rfl | exact absurd rfl h
  have e2 : (op == CmpOp.NotIn) = false := by cases op <;> first | rfl | exact absurd rfl h2
  cases b <;> simp [behindInMarks, e1, e2]
def tCmp (p : Int → Int → Bool) (ta tb : TE) : TE := fun σ H Q => t2I ta tb (fun i j H2 => Q (.bl (p i j)) H2) σ H
abbrev tLt : TE → TE → TE := tCmp fun i j => decide (i < j)
abbrev tLe : TE → TE → TE := tCmp fun i j => decide (i ≤ j)
abbrev tGt : TE → TE → TE := tCmp fun i j => decide (j < i)
abbrev tGe : TE → TE → TE := tCmp fun i j => decide (j ≤ i)
abbrev tEqI : TE → TE → TE := tCmp fun i j => decide (i = j)
abbrev tNeI : TE → TE → TE := tCmp fun i j => !decide (i = j)
/-- is None -/
def tIsN (ta : TE) : TE := fun σ H Q => ta σ H fun x H1 => Q (.bl (decide (x = .non))) H1
def tNotN (ta : TE) : TE := fun σ H Q => ta σ H fun x H1 => Q (.bl (!decide (x = .non))) H1
/-- a comparison as a value, as a test -/
def tB (t : TE) : TT := fun σ H Q => t σ H fun x H1 => ∃ c, x = .bl c ∧ Q c H1
theorem pe_cmp {op : CmpOp} {t : TE} (h : PC X op a b t) (h1 : behindInMarks op b = false := by first | exact nobehind _ (by decide) (by decide) | rfl) : PE X (.Compare a [op] [b] pos) t := fun pins s σ H Q I hw => wpAny_Compare1 (h pins s σ H Q I hw) h1
theorem pt_cmp {op : CmpOp} {t : TE} (h : PC X op a b t) (h1 : behindInMarks op b = false := by first | exact nobehind _ (by decide) (by decide) | rfl) : PT X (.Compare a [op] [b] pos) (tB t) := by
  intro pins s σ H Q I hw
  refine wpAny_isTrue_Compare1 (thn (h pins s σ H _ I hw) fun v s1 h1 => thn h1 fun u s2 h2 => thn h2 fun c s3 ⟨x, H1, I1, r1, q1⟩ => ?_) h1
  obtain ⟨d, rfl, q⟩ := q1
  cases r1
  exact wpAny_truthy_bool ⟨H1, I1, q⟩
/-- an expression whose value is a bool, as a test -/
theorem pt_val {e : Expr} {t : TE} (h : PE X e t) (he : ∀ whole, isTrue e X.env whole = (do let v ← whole; standAt e.pos; holding [v] (truthy v)) := by intro _; rfl) : PT X e (tB t) := by
  intro pins s σ H Q I hw
  refine isTrue_plain (thn (h pins s σ H _ I hw) fun v s1 ⟨x, H1, I1, r1, q1⟩ => ?_) (he _)
  obtain ⟨d, rfl, q⟩ := q1
  cases r1
  exact wpAny_truthy_bool ⟨H1, I1, q⟩

/-! ### and, or, not -/
variable {tA tB' : TT} {rest : List Expr}
def tAnd (t u : TT) : TT := fun σ H Q => t σ H fun c H1 => if c = true then u σ H1 Q else Q false H1
def tOr (t u : TT) : TT := fun σ H Q => t σ H fun c H1 => if c = true then Q true H1 else u σ H1 Q
def tNot (t : TT) : TT := fun σ H Q => t σ H fun c H1 => Q (!c) H1
theorem pw_and1 (ha : PT X a tA) : PW X (.BoolOp .And [a] pos) tA := by
  intro wh pins s σ H Q I h
  refine isTrue_and (thn (ha pins s σ H Q I h) fun c s1 e => ?_)
  cases c with
  | true => exact isTrue_and_nil e
  | false => exact e
theorem pw_or1 (ha : PT X a tA) : PW X (.BoolOp .Or [a] pos) tA := by
  intro wh pins s σ H Q I h
  refine isTrue_or (thn (ha pins s σ H Q I h) fun c s1 e => ?_)
  cases c with
  | false => exact isTrue_or_nil e
  | true => exact e
theorem pt_not (ha : PT X a tA) : PT X (.UnaryOp .Not a pos) (tNot tA) := by
  intro pins s σ H Q I h
  exact isTrue_not (ha pins s σ H (fun c H1 => Q (!c) H1) I h)
/-- .. as values (bools) -/
def tAndV (ta tb : TE) : TE := fun σ H Q => ta σ H fun x H1 => ∃ c, x = .bl c ∧ if c = true then tb σ H1 Q else Q (.bl false) H1
def tOrV (ta tb : TE) : TE := fun σ H Q => ta σ H fun x H1 => ∃ c, x = .bl c ∧ if c = true then Q (.bl true) H1 else tb σ H1 Q
def tNotV (ta : TE) : TE := fun σ H Q => ta σ H fun x H1 => ∃ c, x = .bl c ∧ Q (.bl (!c)) H1
theorem pe_one {op} {t : TE} (h : PE X a t) : PE X (.BoolOp op [a] pos) t := fun pins s σ H Q I hw => BoolOp_one (h pins s σ H Q I hw)
/-- a if t else b -/
def tIf (t : TT) (ta tb : TE) : TE := fun σ H Q => t σ H fun c H1 => if c = true then ta σ H1 Q else tb σ H1 Q
end
end L2

namespace L2
open PySem PySem.Spec PyProof.Rows

/-! ### a list, a tuple that is read: tracked, frozen, or an object of the module -/
def SqL (K : PySem.W.Frag) (H : Hp) (a : Addr) (xs : List V) : Prop :=
  Rd H a (.lst xs) ∨
    ∃ (o : Obj) (its : Array Value) (n : Nat), K.lookup a = some o ∧ o.cls = .type "list" ∧ o.dict = none ∧ o.data = .seq its n ∧ its.size ≤ sizeLine ∧ Vals xs its.toList
def SqT (K : PySem.W.Frag) (H : Hp) (a : Addr) (xs : List V) : Prop :=
  Rd H a (.tup xs) ∨
    ∃ (o : Obj) (its : Array Value) (n : Nat), K.lookup a = some o ∧ o.cls = .type "tuple" ∧ o.data = .seq its n ∧ its.size ≤ sizeLine ∧ Vals xs its.toList
def absV : Value → Option V
  | .none => some .non
  | .bool b => some (.bl b)
  | .int i _ => some (.int i)
  | .str x _ => some (.str x)
  | .bytes b _ => some (.byt b)
  | .float b _ => some (.flt b)
  | .ref a => some (.ref a)
  | .type n => some (.ty n)
  | _ => none
theorem RelV.abs {x : V} {u : Value} (r : RelV x u) : absV u = some x := by
  cases x with
  | non => cases r; rfl
  | bl _ => cases r; rfl
  | int _ => obtain ⟨t, rfl⟩ := r; rfl
  | str _ => obtain ⟨t, rfl⟩ := r; rfl
  | byt _ => obtain ⟨t, rfl⟩ := r; rfl
  | flt _ => obtain ⟨t, rfl⟩ := r; rfl
  | ref _ => cases r; rfl
  | ty _ => cases r; rfl
theorem RelV.inj {x y : V} {u : Value} (r : RelV x u) (q : RelV y u) : x = y := Option.some.inj (r.abs.symm.trans q.abs)
theorem Vals.inj : ∀ {xs ys : List V} {us : List Value}, Vals xs us → Vals ys us → xs = ys
  | _, _, _, .nil, .nil => rfl
  | _, _, _, .cons r t, .cons r' t' => by rw [r.inj r', Vals.inj t t']
section
variable {X : Cx} {pins : List (Addr × Obj)} {σ : St} {H : Hp} {s : Shared} {a : Addr} {xs ys : List V}
theorem SqL.of {K : PySem.W.Frag} (h : H a = some (.lst xs)) : SqL K H a xs := .inl (.inl h)
theorem SqT.of {K : PySem.W.Frag} (h : H a = some (.tup xs)) : SqT K H a xs := .inl (.inl h)
theorem Inv.list (I : Inv X pins σ H s) (h : SqL X.K H a xs) : ∃ its : List Value, Vals xs its ∧ PlainL s.heap a its.toArray ∧ xs.length ≤ sizeLine := by
  rcases h with h | ⟨o, its, n, hk, hc, hd, hs, hz, r⟩
  · obtain ⟨z, its, n, r, e⟩ := h.ok I.hok
    exact ⟨its, r, ⟨_, n, e, rfl, rfl, rfl⟩, z⟩
  · refine ⟨its.toList, r, ⟨o, n, I.kIn a o hk, hc, hd, by simpa using hs⟩, ?_⟩
    have e := r.length
    simp only [Array.length_toList] at e
    omega
theorem Inv.tuple (I : Inv X pins σ H s) (h : SqT X.K H a xs) : ∃ its : List Value, Vals xs its ∧ IsTup s.heap a its.toArray ∧ xs.length ≤ sizeLine := by
  rcases h with h | ⟨o, its, n, hk, hc, hs, hz, r⟩
  · obtain ⟨z, its, r, p⟩ := h.ok I.hok
    exact ⟨its, r, p, z.1⟩
  · refine ⟨its.toList, r, ⟨o, I.kIn a o hk, hc, n, by simpa using hs⟩, ?_⟩
    have e := r.length
    simp only [Array.length_toList] at e
    omega
theorem Inv.list_inj (I : Inv X pins σ H s) (h : SqL X.K H a xs) (h' : SqL X.K H a ys) : xs = ys := by
  obtain ⟨its, r, ⟨o, n, e, _, _, d⟩, _⟩ := I.list h
  obtain ⟨its', r', ⟨o', n', e', _, _, d'⟩, _⟩ := I.list h'
  rw [e] at e'; cases e'
  rw [d] at d'
  injection d' with d1 _
  have : its = its' := by simpa using congrArg Array.toList d1
  subst this
  exact r.inj r'
theorem Inv.tuple_inj (I : Inv X pins σ H s) (h : SqT X.K H a xs) (h' : SqT X.K H a ys) : xs = ys := by
  obtain ⟨its, r, ⟨o, e, _, n, d⟩, _⟩ := I.tuple h
  obtain ⟨its', r', ⟨o', e', _, n', d'⟩, _⟩ := I.tuple h'
  rw [e] at e'; cases e'
  rw [d] at d'
  injection d' with d1 _
  have : its = its' := by simpa using congrArg Array.toList d1
  subst this
  exact r.inj r'
end

/-! ### another wish about exceptions -/
abbrev Cx.wish (X : Cx) (E : Value → Shared → Prop) : Cx := { X with xe := E }
/-- no exception leaves -/
abbrev Cx.nox (X : Cx) : Cx := X.wish fun _ _ => False
theorem Cx.Ok.wish {X : Cx} (ok : X.Ok) (E : Value → Shared → Prop) : (X.wish E).Ok :=
  ⟨ok.mod, ok.kind, ok.glob, ok.blt, ok.above, ok.inj, ok.has, ok.cab, ok.hd, ok.frames, ok.stk, ok.exf, ok.bs, ok.bsz, ok.noex, ok.exfs, ok.funs, ok.frf⟩
theorem Cx.Ok.unwish {X : Cx} {E : Value → Shared → Prop} (ok : (X.wish E).Ok) : X.Ok :=
  ⟨ok.mod, ok.kind, ok.glob, ok.blt, ok.above, ok.inj, ok.has, ok.cab, ok.hd, ok.frames, ok.stk, ok.exf, ok.bs, ok.bsz, ok.noex, ok.exfs, ok.funs, ok.frf⟩
section
variable {X : Cx} {pins : List (Addr × Obj)} {σ : St} {H : Hp} {s : Shared} {E : Value → Shared → Prop}
theorem Inv.wish (I : Inv X pins σ H s) (E : Value → Shared → Prop) : Inv (X.wish E) pins σ H s := ⟨I.ok.wish E, I.os, I.bare, I.base, I.loc, I.cell, I.free, I.freeC, I.pin, I.hok, I.len⟩
theorem Inv.unwish (I : Inv (X.wish E) pins σ H s) : Inv X pins σ H s := ⟨I.ok.unwish, I.os, I.bare, I.base, I.loc, I.cell, I.free, I.freeC, I.pin, I.hok, I.len⟩
theorem SP.unwish {D : Ends} {f : Flow} {s' : Shared} (h : SP (X.wish E) pins D f s') : SP X pins D f s' := by
  cases f with
  | next => obtain ⟨σ', H', I, q⟩ := h; exact ⟨σ', H', I.unwish, q⟩
  | brk => obtain ⟨σ', H', I, q⟩ := h; exact ⟨σ', H', I.unwish, q⟩
  | cont => obtain ⟨σ', H', I, q⟩ := h; exact ⟨σ', H', I.unwish, q⟩
  | ret u => obtain ⟨v, σ', H', I, r, q⟩ := h; exact ⟨v, σ', H', I.unwish, r, q⟩
theorem PE.nox {e : Expr} {t : TE} (h : PE X.nox e t) : PE X e t := fun pins s σ H Q I hw =>
  wpAny_mono (h pins s σ H Q (I.wish _) hw) (fun _ _ ⟨v, H', I', r, q⟩ => ⟨v, H', I'.unwish, r, q⟩) fun _ _ z => False.elim z
theorem PT.nox {e : Expr} {t : TT} (h : PT X.nox e t) : PT X e t := fun pins s σ H Q I hw =>
  wpAny_mono (h pins s σ H Q (I.wish _) hw) (fun _ _ ⟨H', I', q⟩ => ⟨H', I'.unwish, q⟩) fun _ _ z => False.elim z
theorem PSs.nox {st : List Stmt} {t : TS} (h : PSs X.nox st t) : PSs X st t := fun pins s σ H D I hw =>
  wpAny_mono (h pins s σ H D (I.wish _) hw) (fun _ _ q => q.unwish) fun _ _ z => False.elim z
end

/-! ### blocks and small statements -/
section
variable {X : Cx} {st : Stmt} {rest : List Stmt} {t u : TS} {e : Expr} {te : TE} {pos : Pos}
def tNext : TS := fun D σ H => D.nx σ H
def tSeq (t u : TS) : TS := fun D σ H => t { D with nx := u D } σ H
theorem pss_nil : PSs X [] tNext := fun _ _ σ H _ I h => wpAny_execs_nil ⟨σ, H, I, h⟩
theorem pss_cons (h1 : PS X st t) (h2 : PSs X rest u) : PSs X (st :: rest) (tSeq t u) := by
  intro pins s σ H D I h
  refine wpAny_execs_cons (thn (h1 pins s σ H { D with nx := u D } I h) fun f s1 q => ?_)
  cases f with
  | next =>
    obtain ⟨σ', H', I', q⟩ := q
    exact h2 pins s1 σ' H' D I' q
  | ret v => exact q
  | brk => exact q
  | cont => exact q
theorem pss_one (h1 : PS X st t) : PSs X [st] t := by
  intro pins s σ H D I h
  refine wpAny_execs_cons (thn (h1 pins s σ H D I h) fun f s1 q => ?_)
  cases f with
  | next => exact wpAny_execs_nil q
  | ret v => exact q
  | brk => exact q
  | cont => exact q
def tBreak : TS := fun D σ H => D.bk σ H
def tCont : TS := fun D σ H => D.ct σ H
/-- in a def's body nothing is shown -/
theorem Inv.quiet {pins : List (Addr × Obj)} {σ : St} {H : Hp} {s : Shared} (I : Inv X pins σ H s) : interactive X.env = false := by simp [interactive, I.ok.kind]
/-- an expression whose value is dropped -/
def tDrop (te : TE) : TS := fun D σ H => te σ H fun _ H1 => D.nx σ H1
theorem ps_expr (he : PE X e te) (hs : swapsWith e none pos.line X.env = pure false := by rfl) : PS X (.Expr e pos) (tDrop te) := by
  intro pins s σ H D I h
  exact wpAny_Expr_any (thn (he pins s σ H _ I h) fun v s1 ⟨x, H1, I1, r1, q1⟩ => ⟨σ, H1, I1, q1⟩) I.quiet hs
def tRet (te : TE) : TS := fun D σ H => te σ H D.rt
theorem ps_ret (he : PE X e te) : PS X (.Return (some e) pos) (tRet te) := by
  intro pins s σ H D I h
  exact wpAny_Return_some (thn (he pins s σ H _ I h) fun v s1 ⟨x, H1, I1, r1, q1⟩ => ⟨x, σ, H1, I1, r1, q1⟩)
def tRetN : TS := fun D _ H => D.rt .non H
def tIfS (c : TT) (t u : TS) : TS := fun D σ H => c σ H fun b H1 => if b = true then t D σ H1 else u D σ H1
theorem ps_if {c : Expr} {a b : List Stmt} {tc : TT} (hc : PT X c tc) (ha : PSs X a t) (hb : PSs X b u) : PS X (.If c a b pos) (tIfS tc t u) := by
  intro pins s σ H D I h
  refine wpAny_If (thn (hc pins s σ H _ I h) fun d s1 ⟨H1, I1, q1⟩ => ?_)
  cases d with
  | true => exact ha pins s1 σ H1 D I1 q1
  | false => exact hb pins s1 σ H1 D I1 q1
/-- code that the proof never comes to -/
def tNever : TS := fun _ _ _ => False
theorem ps_never : PS X st tNever := fun _ _ _ _ _ _ h => h.elim
end

/-! ### targets -/
abbrev TG := V → St → Hp → (St → Hp → Prop) → Prop
abbrev TGs := List V → St → Hp → (St → Hp → Prop) → Prop
def PG (X : Cx) (target : Expr) (t : TG) : Prop :=
  ∀ (pins : List (Addr × Obj)) (s : Shared) (σ : St) (H : Hp) (v : V) (u : Value) (Q : St → Hp → Prop), Inv X pins σ H s → RelV v u → t v σ H Q →
    wpAny (model X.prog X.w) X.A (assign target X.env u) (fun _ s' => ∃ σ' H', Inv X pins σ' H' s' ∧ Q σ' H') X.xe s
/-- several targets, one after another -/
def PGs (X : Cx) (ts : List Expr) (t : TGs) : Prop :=
  ∀ (pins : List (Addr × Obj)) (s : Shared) (σ : St) (H : Hp) (vs : List V) (us : List Value) (Q : St → Hp → Prop), Inv X pins σ H s → Vals vs us → t vs σ H Q →
    wpAny (model X.prog X.w) X.A (assignInOrder ((assignEach ts X.env).map (·.2)) us) (fun _ s' => ∃ σ' H', Inv X pins σ' H' s' ∧ Q σ' H') X.xe s
/-- o[i] = v, by values -/
abbrev TSet := V → V → V → Hp → (Hp → Prop) → Prop
def PSet (X : Cx) (t : TSet) : Prop :=
  ∀ (pins : List (Addr × Obj)) (s : Shared) (σ : St) (H : Hp) (o i v : V) (ov iv u : Value) (Q : Hp → Prop), Inv X pins σ H s → RelV o ov → RelV i iv → RelV v u → t o i v H Q →
    wpAny (model X.prog X.w) X.A (setItem ov iv u) (fun _ s' => ∃ H', Inv X pins σ H' s' ∧ Q H') X.xe s
/-- a op= b, by values -/
abbrev TIp := V → V → Hp → VK → Prop
def PIp (X : Cx) (op : Operator) (t : TIp) : Prop :=
  ∀ (pins : List (Addr × Obj)) (s : Shared) (σ : St) (H : Hp) (x y : V) (v u : Value) (Q : VK), Inv X pins σ H s → RelV x v → RelV y u → t x y H Q →
    wpAny (model X.prog X.w) X.A (inplaceOp op v u) (EP X pins σ Q) X.xe s
section
variable {X : Cx} {pos : Pos}
def gName (i : Nat) : TG := fun v σ H Q => Q (σ.set i (some v)) H
theorem pg_name {i : Nat} {x : Str} (hN : X.N.Nodup) (hi : X.N[i]? = some x) (hx : Loc X.env.scope x) (hf : X.fn x = true ∨ X.env.scope.names.lookup x = some .local := by first | exact .inl rfl | exact .inr rfl | assumption) : PG X (.Name x pos) (gName i) := by
  intro pins s σ H v u Q I r h
  exact wpAny_assign_Name (store_ok I hN hi hx r (fun s' I' => ⟨_, H, I', h⟩) hf)
def gNil : TGs := fun vs σ H Q => vs = [] ∧ Q σ H
def gCons (t : TG) (u : TGs) : TGs := fun vs σ H Q => ∃ v r, vs = v :: r ∧ t v σ H fun σ' H' => u r σ' H' Q
theorem pgs_nil : PGs X [] gNil := by
  intro pins s σ H vs us Q I r h
  obtain ⟨e, h⟩ := h
  subst e
  cases r
  exact assignInOrder_nil ⟨σ, H, I, h⟩
theorem pgs_cons {e : Expr} {es : List Expr} {t : TG} {u : TGs} (h1 : PG X e t) (h2 : PGs X es u)
    (hs : (assignEach (e :: es) X.env).map (·.2) = assign e X.env :: (assignEach es X.env).map (·.2) := by rfl) : PGs X (e :: es) (gCons t u) := by
  intro pins s σ H vs us Q I r h
  obtain ⟨v, vr, e1, h⟩ := h
  subst e1
  cases r with
  | cons r rr =>
    rw [hs]
    refine assignInOrder_cons (thn (h1 pins s σ H _ _ _ I r h) fun _ s1 ⟨σ1, H1, I1, q1⟩ => ?_)
    exact h2 pins s1 σ1 H1 _ _ Q I1 rr q1
/-- (a, b, ..) = a tuple of that length -/
def gTup (K : PySem.W.Frag) (n : Nat) (t : TGs) : TG := fun v σ H Q => ∃ a xs, v = .ref a ∧ SqT K H a xs ∧ xs.length = n ∧ t xs σ H Q
theorem pg_tup {es : List Expr} {k : Nat} {t : TGs} {n : Nat} (hc : X.calm = true) (h : PGs X es t)
    (hn : (assignEach es X.env).length = n := by rfl) (hst : (assignEach es X.env).findIdx? (·.1) = none := by rfl) : PG X (.Tuple es k pos) (gTup X.K n t) := by
  intro pins s σ H v u Q I r hw
  obtain ⟨a, xs, e1, hq, hl, hw⟩ := hw
  subst e1
  cases r
  obtain ⟨its, rv, ht, hz⟩ := I.tuple hq
  refine assign_Tuple_tuple (I.ok.hd hc) ht (by simp [hn, ← hl, rv.length]) hst fun h' hx => ?_
  have I1 : Inv X pins σ H { s with heap := h' } := I.kept (t' := s.toks) fun b o e => hx b o (Nat.ne_of_lt (Heap.lt_size e)) e
  exact h pins _ σ H xs _ Q I1 (by simpa using rv) hw
/-- o[i] = .. -/
def gSub (to ti : TE) (t : TSet) : TG := fun v σ H Q => to σ H fun o H1 => ti σ H1 fun i H2 => t o i v H2 fun H3 => Q σ H3
theorem pg_sub {o i : Expr} {to ti : TE} {t : TSet} (ho : PE X o to) (hi : PE X i ti) (hs : PSet X t)
    (ha : ∀ v, assign (.Subscript o i pos) X.env v = (do
      let ov ← holding [v] (eval o X.env)
      let iv ← holding [v, ov] (eval i X.env)
      standAt pos
      holding [v, ov, iv] (setItem ov iv v)
      release [v, ov, iv] []) := by intro _; rfl) : PG X (.Subscript o i pos) (gSub to ti t) := by
  intro pins s σ H v u Q I r h
  rw [ha]
  refine wpAny_bind (wpAny_holding (thn (ho pins s σ H _ I h) fun ov s1 ⟨x, H1, I1, r1, q1⟩ => ?_))
  refine wpAny_bind (wpAny_holding (thn (hi pins s1 σ H1 _ I1 q1) fun iv s2 ⟨y, H2, I2, r2, q2⟩ => ?_))
  refine wpAny_bind (wpAny_standAt (wpAny_bind (wpAny_holding (thn (hs pins s2 σ H2 x y v ov iv u _ I2 r1 r2 r q2) fun _ s3 ⟨H3, I3, q3⟩ => ?_))))
  exact wpAny_release ⟨σ, H3, I3, q3⟩
/-- target = value -/
def tAsg (te : TE) (g : TG) : TS := fun D σ H => te σ H fun x H1 => g x σ H1 D.nx
theorem ps_asg {tg e : Expr} {te : TE} {g : TG} (he : PE X e te) (hg : PG X tg g) (hs : swapsWithSole [tg] e pos.line X.env = pure false := by rfl) (hw : swappedStores [tg] e X.env = pure none := by rfl)
    (h1 : (assignEach [tg] X.env).map (·.2) = [assign tg X.env] := by rfl) : PS X (.Assign [tg] e pos) (tAsg te g) := by
  intro pins s σ H D I h
  refine wpAny_Assign_stores (thn (he pins s σ H _ I h) fun v s1 ⟨x, H1, I1, r1, q1⟩ => ?_) hs hw
  rw [h1]
  exact thn (hg pins s1 σ H1 x v _ I1 r1 q1) fun _ s2 q => q
/-- name = value -/
theorem ps_set {i : Nat} {x : Str} {e : Expr} {te : TE} {pos' : Pos} (hN : X.N.Nodup) (hi : X.N[i]? = some x) (hx : Loc X.env.scope x) (he : PE X e te) (hs : swapsWith e (some (.Name x pos')) pos.line X.env = pure false := by rfl) (hf : X.fn x = true ∨ X.env.scope.names.lookup x = some .local := by first | exact .inl rfl | exact .inr rfl | assumption) :
    PS X (.Assign [.Name x pos'] e pos) (tAsg te (gName i)) := by
  intro pins s σ H D I h
  refine wpAny_Assign_Name (thn (he pins s σ H _ I h) fun v s1 ⟨y, H1, I1, r1, q1⟩ => ?_) hs
  exact store_ok I1 hN hi hx r1 (fun s2 I2 => ⟨_, H1, I2, q1⟩) hf
/-- a, b = x, y with plain local names: stored from the right; the pair itself is not tracked (the opening rows as in PyProof/Rows/TupAssign.lean:23) -/
def tPar (i j : Nat) (ta : TA) : TS := fun D σ H => ta σ H fun vs H1 => ∃ v w, vs = [v, w] ∧ D.nx ((σ.set i (some v)).set j (some w)) H1
/-- name op= e -/
def tAug (i : Nat) (te : TE) (ti : TIp) : TS := fun D σ H => ∃ x, σ[i]? = some (some x) ∧ te σ H fun y H1 => ti x y H1 fun z H2 => D.nx (σ.set i (some z)) H2
/-- o[i] op= e -/
def tAugS (to ti te : TE) (tget : V → V → Hp → VK → Prop) (tip : TIp) (tset : TSet) : TS := fun D σ H => to σ H fun o H1 => ti σ H1 fun i H2 => tget o i H2 fun x H3 => te σ H3 fun y H4 => tip x y H4 fun z H5 => tset o i z H5 fun H6 => D.nx σ H6
/-- o[i], by values -/
def PGet (X : Cx) (t : V → V → Hp → VK → Prop) : Prop :=
  ∀ (pins : List (Addr × Obj)) (s : Shared) (σ : St) (H : Hp) (o i : V) (ov iv : Value) (Q : VK), Inv X pins σ H s → RelV o ov → RelV i iv → t o i H Q →
    wpAny (model X.prog X.w) X.A (getItem ov iv) (EP X pins σ Q) X.xe s
/-- ints -/
def ipI (f : Int → Int → Int) : TIp := fun x y H Q => ∃ i j, x = .int i ∧ y = .int j ∧ Q (.int (f i j)) H
end

/-! ### while -/
section
variable {X : Cx} {pos : Pos}
/-- the invariant W with its measure -/
def tWhile (c : TT) (tb : TS) : TS := fun D σ H => ∃ W : Nat → St → Hp → Prop, (∃ m, W m σ H) ∧ ∀ m σ H, W m σ H →
  c σ H fun b H1 => if b = true then ∃ N : St → Hp → Prop, (∀ σ' H', N σ' H' → ∃ m', m' < m ∧ W m' σ' H') ∧ tb { D with nx := N, ct := N, bk := D.nx } σ H1 else D.nx σ H1
theorem ps_while {c : Expr} {body : List Stmt} {tc : TT} {tb : TS} (hp : PassesOwn (model X.prog X.w) X.A X.env X.xe) (hc : PT X c tc) (hb : PSs X body tb) : PS X (.While c body [] pos) (tWhile tc tb) := by
  intro pins s σ H D I h
  obtain ⟨W, ⟨m0, w0⟩, turn⟩ := h
  refine wpAny_While (codeAny_whileLoop (fun n s' => ∃ σ' H', Inv X pins σ' H' s' ∧ W n σ' H') ?_ m0 ⟨σ, H, I, w0⟩)
  rintro n s1 ⟨σ1, H1, I1, w1⟩
  refine wpAny_passesOwn hp (thn (hc pins s1 σ1 H1 _ I1 (turn n σ1 H1 w1)) fun b s2 ⟨H2, I2, q2⟩ => ?_)
  cases b with
  | true =>
    obtain ⟨N, hN, q2⟩ := q2
    rw [if_pos rfl]
    refine wpAny_passesOwn hp (thn (hb pins s2 σ1 H2 _ I2 q2) fun f s3 q3 => ?_)
    cases f with
    | next =>
      obtain ⟨σ3, H3, I3, n3⟩ := q3
      obtain ⟨m', hm, w3⟩ := hN σ3 H3 n3
      exact ⟨m', hm, σ3, H3, I3, w3⟩
    | cont =>
      obtain ⟨σ3, H3, I3, n3⟩ := q3
      obtain ⟨m', hm, w3⟩ := hN σ3 H3 n3
      exact ⟨m', hm, σ3, H3, I3, w3⟩
    | brk => exact q3
    | ret v => exact q3
  | false =>
    rw [if_neg Bool.false_ne_true]
    exact wpAny_execs_nil ⟨σ1, H2, I2, q2⟩
end

/-! ### what a loop or a comprehension walks -/
/-- at turn i: it yields x (the heap may grow), or it stops -/
structure It where
  go : Nat → Hp → Prop
  yld : Nat → Hp → V → Hp → Prop
  stop : Nat → Hp → Prop
/-- the iterator's own objects may turn: they are not the frame's, not pinned, younger than the entry (or a comprehension's own) -/
def FpOk (X : Cx) (pins : List (Addr × Obj)) (H : Hp) (b : Addr) : Prop :=
  H b = none ∧ b ≠ X.env.locals ∧ b ∉ X.fs ∧ (b ∈ X.ex ∨ X.s₀.heap.objs.size ≤ b) ∧ (∀ x c, X.env.cells.lookup x = some c → c ≠ b) ∧ ∀ p ∈ X.pn ++ pins, p.1 ≠ b
theorem Inv.fpOk {X : Cx} {pins : List (Addr × Obj)} {σ : St} {H H' : Hp} {s : Shared} {b : Addr} (I : Inv X pins σ H s) (hb : s.heap.objs.size ≤ b) (hn : H' b = none) : FpOk X pins H' b := by
  refine ⟨hn, Nat.ne_of_gt (Nat.lt_of_lt_of_le I.lt hb), I.nofs hb, .inr (Nat.le_trans I.sz hb), fun x c e z => ?_, fun p hp z => ?_⟩
  · obtain ⟨v, q⟩ := I.cell x c e
    exact absurd (Nat.lt_of_lt_of_le q.lt (by rw [z]; exact hb)) (Nat.lt_irrefl _)
  · exact absurd (Nat.lt_of_lt_of_le (Heap.lt_size (I.pin p hp).1) (by rw [z]; exact hb)) (Nat.lt_irrefl _)
structure Turn (P : Program) (w : World) (K : PySem.W.Frag) (tg : Expr) (J : It) (fp : List Addr) (it : Addr) (tn : Nat → Heap → Prop) : Prop where
  mem : it ∈ fp
  obj : ∀ i h, tn i h → ∀ b ∈ fp, ∃ o, h.get? b = some o ∧ ∀ v, o.data ≠ .cell v
  keep : ∀ i h h', tn i h → (∀ b ∈ fp, ∀ o, h.get? b = some o → h'.get? b = some o) → tn i h'
  item : ∀ (X : Cx), X.prog = P → X.w = w → X.K = K → X.calm = true → ∀ (i : Nat) (pins : List (Addr × Obj)) (s : Shared) (σ : St) (H : Hp) (E : Value → Shared → Prop), Inv X pins σ H s → (∀ b ∈ fp, FpOk X pins H b) → tn i s.heap → J.go i H →
    wpAny (model P w) X.A (pyNext (.ref it)) (fun r s1 => ∃ u, r = some u ∧
      wpAny (model P w) X.A (letOwnedTupleGo tg (.ref it) u) (fun _ s2 => ∃ x H', Inv X pins σ H' s2 ∧ RelV x u ∧ J.yld i H x H' ∧ tn (i + 1) s2.heap ∧ ∀ b ∈ fp, H' b = none) E s1) E s
  done : ∀ (X : Cx), X.prog = P → X.w = w → X.K = K → X.calm = true → ∀ (i : Nat) (pins : List (Addr × Obj)) (s : Shared) (σ : St) (H : Hp) (E : Value → Shared → Prop), Inv X pins σ H s → (∀ b ∈ fp, FpOk X pins H b) → tn i s.heap → J.stop i H →
    wpAny (model P w) X.A (pyNext (.ref it)) (fun r s1 => r = none ∧ Inv X pins σ H s1) E s
  self : ∀ (A : Around) (i : Nat) (s : Shared) (Q : Value → Shared → Prop) (E : Value → Shared → Prop), tn i s.heap → Q (.ref it) s → wpAny (model P w) A (pyIter (.ref it)) Q E s
abbrev TI := St → Hp → (It → Hp → Prop) → Prop
/-- an iterator has come -/
def PIE (X : Cx) (pins : List (Addr × Obj)) (σ : St) (tg : Expr) (R : It → Hp → Prop) (itv : Value) (s2 : Shared) : Prop :=
  ∃ (it : Addr) (fp : List Addr) (tn : Nat → Heap → Prop) (J : It) (H' : Hp), itv = .ref it ∧ Inv X pins σ H' s2 ∧ Turn X.prog X.w X.K tg J fp it tn ∧ tn 0 s2.heap ∧ (∀ b ∈ fp, FpOk X pins H' b) ∧ R J H'
def PI (X : Cx) (tg iter : Expr) (wi : TI) : Prop :=
  ∀ (pins : List (Addr × Obj)) (s : Shared) (σ : St) (H : Hp) (R : It → Hp → Prop), Inv X pins σ H s → wi σ H R →
    wpAny (model X.prog X.w) X.A (eval iter X.env) (fun v s1 => wpAny (model X.prog X.w) X.A (pyIter v) (PIE X pins σ tg R) X.xe s1) X.xe s

/-- the step ahead of the store is nothing for an iterator that keeps no tuple -/
theorem go_of {M : Model} {A : Around} {E : Value → Shared → Prop} {s : Shared} {tg : Expr} {it : Addr} {u : Value} {o : Obj} {n : String} {vs : Array Value} {Q : Unit → Shared → Prop} (ho : s.heap.get? it = some o) (hc : o.cls = .type n) (hd : o.data = .fields vs)
    (hn : ["enumerate", "zip", "dict_itemiterator", "dict_reverseitemiterator", "odict_iterator", "itertools.zip_longest", "itertools.pairwise"].contains n = false) (hQ : Q () s) : wpAny M A (letOwnedTupleGo tg (.ref it) u) Q E s := by
  unfold letOwnedTupleGo
  cases tg <;> first
    | exact wpAny_pure hQ
    | (cases u <;> first
        | exact wpAny_pure hQ
        | (refine wpAny_bind (wpAny_load ho ?_)
           rw [hc, hd]
           show wpAny M A (if (["enumerate", "zip", "dict_itemiterator", "dict_reverseitemiterator", "odict_iterator", "itertools.zip_longest", "itertools.pairwise"].contains n && vs[0]? == some (rawInt _)) = true then _ else _) Q E s
           rw [if_neg (by intro h; rw [hn, Bool.false_and] at h; cases h)]
           exact wpAny_pure hQ))

/-- the list at a, as it stands at each turn (a loop may append to it) -/
def Itl (K : PySem.W.Frag) (a : Addr) : It :=
  ⟨fun i H => ∃ xs x, SqL K H a xs ∧ xs[i]? = some x, fun i H x H' => H' = H ∧ ∀ xs, SqL K H a xs → xs[i]? = some x, fun i H => ∃ xs, SqL K H a xs ∧ xs.length ≤ i⟩
def Itt (K : PySem.W.Frag) (a : Addr) : It :=
  ⟨fun i H => ∃ xs x, SqT K H a xs ∧ xs[i]? = some x, fun i H x H' => H' = H ∧ ∀ xs, SqT K H a xs → xs[i]? = some x, fun i H => ∃ xs, SqT K H a xs ∧ xs.length ≤ i⟩
/-- lo, lo + 1, .. (n of them) -/
def Itr (lo : Int) (n : Nat) : It := ⟨fun i _ => i < n, fun i H x H' => H' = H ∧ x = .int (lo + i), fun i _ => n ≤ i⟩
theorem turn_list {P : Program} {w : World} {K : PySem.W.Frag} {tg : Expr} (a it : Addr) : Turn P w K tg (Itl K a) [it] it (fun i h => h.IsListIter it a i) where
  mem := by simp
  obj := fun i h st b hb => by
    have e : b = it := by simpa using hb
    subst e
    obtain ⟨o, e, c, d⟩ := st
    exact ⟨o, e, fun v z => by rw [d] at z; cases z⟩
  keep := fun i h h' st k => st.at fun o e => k it (by simp) o e
  item := by
    intro X hP hw hK hc i pins s σ H E I hf st hg
    subst hP hw hK
    obtain ⟨xs, x, hq, hx⟩ := hg
    obtain ⟨its, rv, p, hz⟩ := I.list hq
    obtain ⟨u, hu, ru⟩ := rv.get hx
    obtain ⟨f0, f1, f2, f3, f4, f5⟩ := hf it (by simp)
    refine wpAny_pyNext_list_item st p.isList (x := u) (by simpa using hu) fun h' st' sb => ?_
    have I1 : Inv X pins σ H { s with heap := h' } := I.turned (t' := s.toks) (fun b o hb e => (sb.2 b hb).trans e) f0 f1 f3 f4 f5
    obtain ⟨o, e, c, d⟩ := id st'
    exact ⟨u, rfl, go_of (s := { s with heap := h' }) e c d (by decide) ⟨x, H, I1, ru, ⟨rfl, fun ys hy => by rw [I.list_inj hy hq]; exact hx⟩, st', fun b hb => (hf b hb).1⟩⟩
  done := by
    intro X hP hw hK hc i pins s σ H E I hf st hg
    subst hP hw hK
    obtain ⟨xs, hq, hx⟩ := hg
    obtain ⟨its, rv, p, hz⟩ := I.list hq
    obtain ⟨f0, f1, f2, f3, f4, f5⟩ := hf it (by simp)
    have hl := rv.length
    exact wpAny_pyNext_list_end (I.ok.hd hc) st p.isList (by simp; omega) fun h' eb => ⟨rfl, I.turned (t' := s.toks) (fun b o hb e => eb b o hb e) f0 f1 f3 f4 f5⟩
  self := fun _ _ _ _ _ st h => wpAny_pyIter_listiter st h
theorem turn_tuple {P : Program} {w : World} {K : PySem.W.Frag} {tg : Expr} (a it : Addr) : Turn P w K tg (Itt K a) [it] it (fun i h => h.IsTupleIter it a i) where
  mem := by simp
  obj := fun i h st b hb => by
    have e : b = it := by simpa using hb
    subst e
    obtain ⟨o, e, c, d⟩ := st
    exact ⟨o, e, fun v z => by rw [d] at z; cases z⟩
  keep := fun i h h' st k => st.at fun o e => k it (by simp) o e
  item := by
    intro X hP hw hK hc i pins s σ H E I hf st hg
    subst hP hw hK
    obtain ⟨xs, x, hq, hx⟩ := hg
    obtain ⟨its, rv, p, hz⟩ := I.tuple hq
    obtain ⟨u, hu, ru⟩ := rv.get hx
    obtain ⟨f0, f1, f2, f3, f4, f5⟩ := hf it (by simp)
    refine wpAny_pyNext_tuple_item st (show s.heap.IsTuple a its.toArray from p) (x := u) (by simpa using hu) fun h' st' sb => ?_
    have I1 : Inv X pins σ H { s with heap := h' } := I.turned (t' := s.toks) (fun b o hb e => (sb.2 b hb).trans e) f0 f1 f3 f4 f5
    obtain ⟨o, e, c, d⟩ := id st'
    exact ⟨u, rfl, go_of (s := { s with heap := h' }) e c d (by decide) ⟨x, H, I1, ru, ⟨rfl, fun ys hy => by rw [I.tuple_inj hy hq]; exact hx⟩, st', fun b hb => (hf b hb).1⟩⟩
  done := by
    intro X hP hw hK hc i pins s σ H E I hf st hg
    subst hP hw hK
    obtain ⟨xs, hq, hx⟩ := hg
    obtain ⟨its, rv, p, hz⟩ := I.tuple hq
    obtain ⟨f0, f1, f2, f3, f4, f5⟩ := hf it (by simp)
    have hl := rv.length
    exact wpAny_pyNext_tuple_end (I.ok.hd hc) st (show s.heap.IsTuple a its.toArray from p) (by simp; omega) fun h' eb => ⟨rfl, I.turned (t' := s.toks) (fun b o hb e => eb b o hb e) f0 f1 f3 f4 f5⟩
  self := fun _ _ _ _ _ st h => wpAny_pyIter_tupleiter st h
theorem turn_range {P : Program} {w : World} {K : PySem.W.Frag} {tg : Expr} (it : Addr) (lo : Int) (n : Nat) : Turn P w K tg (Itr lo n) [it] it (fun i h => IsRangeIter h it (lo + (i : Nat) * 1) ((n : Int) - (i : Nat)) 1) where
  mem := by simp
  obj := fun i h st b hb => by
    have e : b = it := by simpa using hb
    subst e
    exact ⟨_, st, fun v z => by
      have z' : Data.fields _ = Data.cell v := z
      cases z'⟩
  keep := fun i h h' st k => k it (by simp) _ st
  item := by
    intro X hP hw hK hc i pins s σ H E I hf st hg
    subst hP hw hK
    obtain ⟨f0, f1, f2, f3, f4, f5⟩ := hf it (by simp)
    have W := Walks.range (prog := X.prog) (w := X.w) (I.ok.hd hc) it lo 1 n
    refine W.item i s _ _ hg st fun v h' tk hv st' kk => ?_
    obtain ⟨t, rfl⟩ := hv
    have I1 : Inv X pins σ H { s with heap := h', toks := tk } := I.turned (fun b o hb e => kk b o (by simpa using hb) e) f0 f1 f3 f4 f5
    refine ⟨_, rfl, go_of (s := { s with heap := h', toks := tk }) (n := "range_iterator") st' rfl rfl (by decide) ⟨.int (lo + i), H, I1, ⟨t, ?_⟩, ⟨rfl, rfl⟩, st', fun b hb => (hf b hb).1⟩⟩
    rw [Int.mul_one]
  done := by
    intro X hP hw hK hc i pins s σ H E I hf st hg
    subst hP hw hK
    obtain ⟨f0, f1, f2, f3, f4, f5⟩ := hf it (by simp)
    exact wpAny_pyNext_range_end (I.ok.hd hc) st (by have : n ≤ i := hg; omega) fun h' eb => ⟨rfl, I.turned (t' := s.toks) (fun b o hb e => eb b o hb e) f0 f1 f3 f4 f5⟩
  self := fun _ _ _ _ _ st h => wpAny_pyIter_rangeiter st h
end L2

namespace L2
open PySem PySem.Spec PyProof.Rows
section
variable {X : Cx} {tg : Expr}
def iList (K : PySem.W.Frag) (tl : TE) : TI := fun σ H R => tl σ H fun x H1 => ∃ a, x = .ref a ∧ (∃ xs, SqL K H1 a xs) ∧ R (Itl K a) H1
def iTup (K : PySem.W.Frag) (tl : TE) : TI := fun σ H R => tl σ H fun x H1 => ∃ a, x = .ref a ∧ (∃ xs, SqT K H1 a xs) ∧ R (Itt K a) H1
/-- a range object just made, walked -/
theorem range_it {pins : List (Addr × Obj)} {σ : St} {H : Hp} {s : Shared} {R : It → Hp → Prop} {E : Value → Shared → Prop} {lo hi : Int} {t u v : Tok} {tk : Nat} (I : Inv X pins σ H s) (h1 : -(2 ^ 62) ≤ lo) (h2 : lo < 2 ^ 62) (h3 : -(2 ^ 62) ≤ hi) (h4 : hi < 2 ^ 62)
    (q : R (Itr lo (hi - lo).toNat) H) : wpAny (model X.prog X.w) X.A (pyIter (.ref s.heap.objs.size)) (PIE X pins σ tg R) E { s with heap := s.heap.push { cls := .type "range", data := .fields #[.int lo t, .int hi u, .int 1 v] }, toks := tk } := by
  refine wpAny_pyIter_range (IsRange.new ..) (small_one h1 h2 h3 h4) ?_
  have I1 : Inv X pins σ H { s with heap := s.heap.push { cls := .type "range", data := .fields #[.int lo t, .int hi u, .int 1 v] }, toks := tk } := I.kept fun b o e => Heap.get?_push_of_some _ e
  refine ⟨(s.heap.push { cls := .type "range", data := .fields #[.int lo t, .int hi u, .int 1 v] }).objs.size, [(s.heap.push { cls := .type "range", data := .fields #[.int lo t, .int hi u, .int 1 v] }).objs.size], _, _, H, rfl,
    I1.kept (t' := tk) fun b o e => Heap.get?_push_of_some _ e, turn_range _ lo (hi - lo).toNat, ?_, fun b hb => ?_, q⟩
  · have e1 : lo + ((0 : Nat) : Int) * 1 = lo := by simp
    have e2 : (((hi - lo).toNat : Nat) : Int) - ((0 : Nat) : Int) = Builtin.Range.rangeSize lo hi 1 := by rw [rangeSize_one]; split <;> omega
    show IsRangeIter _ _ (lo + ((0 : Nat) : Int) * 1) ((((hi - lo).toNat : Nat) : Int) - ((0 : Nat) : Int)) 1
    rw [e1, e2]
    exact Heap.get?_push_size _ rfl
  · have e : b = (s.heap.push { cls := .type "range", data := .fields #[.int lo t, .int hi u, .int 1 v] }).objs.size := by simpa using hb
    subst e
    exact I1.fpOk (Nat.le_refl _) (I1.hok.fresh (Nat.le_refl _))
def iRng1 (ta : TA) : TI := fun σ H R => ta σ H fun vs H1 => ∃ j : Int, vs = [.int j] ∧ -(2 ^ 62) ≤ j ∧ j < 2 ^ 62 ∧ R (Itr 0 j.toNat) H1
def iRng2 (ta : TA) : TI := fun σ H R => ta σ H fun vs H1 => ∃ i j : Int, vs = [.int i, .int j] ∧ (-(2 ^ 62) ≤ i ∧ i < 2 ^ 62 ∧ -(2 ^ 62) ≤ j ∧ j < 2 ^ 62) ∧ R (Itr i (j - i).toNat) H1
theorem pi_range1 {a : Expr} {ta : TA} {p pos : Pos} (hg : Gl X "range") (hm : X.mg "range" = none) (ha : PA X [a] ta) (hs : starEach [a] X.env = [(false, eval a X.env)] := by rfl) : PI X tg (.Call (.Name "range" p) [a] [] pos) (iRng1 ta) := by
  intro pins s σ H R I h
  refine Call_ (ld_blt I hg hm boot_range (PyProof.Rows.callWith_type1 (thn (ha pos pins s σ H _ I h) fun us s1 ⟨vs, H1, I1, r1, q1⟩ => ?_) hs rfl))
  obtain ⟨j, e, q1, q2, q⟩ := q1
  subst e
  cases r1 with
  | cons r rr =>
    cases rr
    obtain ⟨t, rfl⟩ := r
    exact call_range_1 (range_it I1 (by omega) (by omega) q1 q2 (by simpa using q))
/-! ### for -/
/-- W: the invariant by the turn and a measure; N: what the body is to reach -/
def tFor (wi : TI) (g : TG) (tb : TS) : TS := fun D σ H => wi σ H fun J H1 => ∃ W : Nat → Nat → St → Hp → Prop, (∃ m, W 0 m σ H1) ∧ ∀ i m σ H, W i m σ H →
  (J.stop i H ∧ D.nx σ H) ∨ (J.go i H ∧ ∃ N : St → Hp → Prop, (∀ σ' H', N σ' H' → ∃ m', m' < m ∧ W (i + 1) m' σ' H') ∧ ∀ x H', J.yld i H x H' → g x σ H' fun σ2 H2 => tb { D with nx := N, ct := N, bk := D.nx } σ2 H2)
/-- the records at fp as they stand -/
def pinsAt (fp : List Addr) (h : Heap) : List (Addr × Obj) := fp.filterMap fun b => (h.get? b).map fun o => (b, o)
theorem mem_pinsAt {fp : List Addr} {h : Heap} {b : Addr} {o : Obj} (hb : b ∈ fp) (e : h.get? b = some o) : (b, o) ∈ pinsAt fp h := List.mem_filterMap.mpr ⟨b, hb, by rw [e]; rfl⟩
theorem of_pinsAt {fp : List Addr} {h : Heap} {p : Addr × Obj} (hp : p ∈ pinsAt fp h) : p.1 ∈ fp ∧ h.get? p.1 = some p.2 := by
  obtain ⟨b, hb, e⟩ := List.mem_filterMap.mp hp
  cases q : h.get? b with
  | none => rw [q] at e; cases e
  | some o =>
    rw [q] at e
    have e' : (b, o) = p := Option.some.inj e
    subst e'
    exact ⟨hb, q⟩
theorem Inv.pinned {pins : List (Addr × Obj)} {σ : St} {H : Hp} {s : Shared} {fp : List Addr} (I : Inv X pins σ H s) (hf : ∀ b ∈ fp, FpOk X pins H b) (ho : ∀ b ∈ fp, ∃ o, s.heap.get? b = some o ∧ ∀ v, o.data ≠ .cell v) : Inv X (pins ++ pinsAt fp s.heap) σ H s :=
  I.pins_of fun p hp => (List.mem_append.mp hp).elim (fun z => I.pin p (List.mem_append_right _ z)) fun z => by
    obtain ⟨hb, e⟩ := of_pinsAt z
    obtain ⟨f0, f1, f2, _⟩ := hf p.1 hb
    obtain ⟨o, e', d⟩ := ho p.1 hb
    rw [e] at e'; cases e'
    exact ⟨e, f0, f1, f2, d⟩
theorem Inv.unpinned {pins pl : List (Addr × Obj)} {σ : St} {H : Hp} {s : Shared} (I : Inv X (pins ++ pl) σ H s) : Inv X pins σ H s := I.pins_of fun p hp => I.pin p (List.mem_append_right _ (List.mem_append_left _ hp))
theorem ps_for {iter : Expr} {body : List Stmt} {wi : TI} {g : TG} {tb : TS} {pos : Pos} (hp : PassesOwn (model X.prog X.w) X.A X.env X.xe) (hc : X.calm = true) (hi : PI X tg iter wi) (hg : PG X tg g) (hb : PSs X body tb)
    (hs : ∀ x, foldedSetIterable iter X.env x = pure x := by intro _; rfl) : PS X (.For tg iter body [] pos) (tFor wi g tb) := by
  intro pins s σ H D I h
  refine wpAny_For (thn (hi pins s σ H _ I h) fun v s1 h1 => thn h1 fun itv s2 h2 => ?_) hs
  obtain ⟨it, fp, tn, J, H2, e, I2, T, st2, f2, W, ⟨m0, w0⟩, turn⟩ := h2
  subst e
  -- what stays true of the iterator's objects through the loop
  have stat : ∀ {H' : Hp}, (∀ b ∈ fp, H' b = none) → ∀ b ∈ fp, FpOk X pins H' b := fun hn b hb => ⟨hn b hb, (f2 b hb).2⟩
  refine codeAny_forLoop_any (fun n s' => ∃ i σ' H', Inv X pins σ' H' s' ∧ tn i s'.heap ∧ (∀ b ∈ fp, H' b = none) ∧ W i n σ' H') ?_ m0 ⟨0, σ, H2, I2, st2, fun b hb => (f2 b hb).1, w0⟩
  rintro n s3 ⟨i, σ3, H3, I3, st3, fr3, w3⟩
  rcases turn i n σ3 H3 w3 with ⟨stop, qn⟩ | ⟨go, N, hN, step⟩
  · refine wpAny_passesOwn hp (thn (T.done X rfl rfl rfl hc i pins s3 σ3 H3 X.xe I3 (stat fr3) st3 stop) fun r s4 ⟨hr, I4⟩ => ?_)
    subst hr
    exact wpAny_execs_nil ⟨σ3, H3, I4, qn⟩
  · refine wpAny_passesOwn hp (thn (T.item X rfl rfl rfl hc i pins s3 σ3 H3 X.xe I3 (stat fr3) st3 go) fun r s4 ⟨u, hr, h4⟩ => ?_)
    subst hr
    refine wpAny_passesOwn hp (thn h4 fun _ s5 ⟨x, H5, I5, r5, y5, st5, fr5⟩ => ?_)
    have I5' := I5.pinned (stat fr5) (T.obj _ _ st5)
    refine wpAny_passesOwn hp (thn (hg _ s5 σ3 H5 x u _ I5' r5 (step x H5 y5)) fun _ s6 ⟨σ6, H6, I6, q6⟩ => ?_)
    refine wpAny_passesOwn hp (thn (hb _ s6 σ6 H6 _ I6 q6) fun f s7 q7 => ?_)
    have again : ∀ {σ7 : St} {H7 : Hp}, Inv X (pins ++ pinsAt fp s5.heap) σ7 H7 s7 → N σ7 H7 → ∃ m, m < n ∧ ∃ i σ' H', Inv X pins σ' H' s7 ∧ tn i s7.heap ∧ (∀ b ∈ fp, H' b = none) ∧ W i m σ' H' := fun {σ7 H7} I7 n7 => by
      obtain ⟨m', hm, w7⟩ := hN σ7 H7 n7
      refine ⟨m', hm, i + 1, σ7, H7, I7.unpinned, T.keep _ _ _ st5 fun b hb o e => (I7.pin (b, o) (List.mem_append_right _ (List.mem_append_right _ (mem_pinsAt hb e)))).1, fun b hb => ?_, w7⟩
      obtain ⟨o, e, d⟩ := T.obj _ _ st5 b hb
      exact (I7.pin (b, o) (List.mem_append_right _ (List.mem_append_right _ (mem_pinsAt hb e)))).2.1
    cases f with
    | next => obtain ⟨σ7, H7, I7, n7⟩ := q7; exact again I7 n7
    | cont => obtain ⟨σ7, H7, I7, n7⟩ := q7; exact again I7 n7
    | brk => obtain ⟨σ7, H7, I7, q7⟩ := q7; exact ⟨σ7, H7, I7.unpinned, q7⟩
    | ret v => obtain ⟨x7, σ7, H7, I7, r7, q7⟩ := q7; exact ⟨x7, σ7, H7, I7.unpinned, r7, q7⟩
end

/-! ### the forms one uses -/
/-- over a list that the body leaves as it is -/
theorem for_list {K : PySem.W.Frag} {a : Addr} {xs : List V} {g : TG} {tb : TS} {D : Ends} {σ : St} {H : Hp} (Pv : Nat → St → Hp → Prop) (h0 : Pv 0 σ H) (hl : ∀ i σ H, i ≤ xs.length → Pv i σ H → SqL K H a xs)
    (hs : ∀ i x σ H, xs[i]? = some x → Pv i σ H → g x σ H fun σ2 H2 => tb { D with nx := Pv (i + 1), ct := Pv (i + 1), bk := D.nx } σ2 H2) (hd : ∀ σ H, Pv xs.length σ H → D.nx σ H) :
    ∃ W : Nat → Nat → St → Hp → Prop, (∃ m, W 0 m σ H) ∧ ∀ i m σ H, W i m σ H →
      ((Itl K a).stop i H ∧ D.nx σ H) ∨ ((Itl K a).go i H ∧ ∃ N : St → Hp → Prop, (∀ σ' H', N σ' H' → ∃ m', m' < m ∧ W (i + 1) m' σ' H') ∧ ∀ x H', (Itl K a).yld i H x H' → g x σ H' fun σ2 H2 => tb { D with nx := N, ct := N, bk := D.nx } σ2 H2) := by
  refine ⟨fun i m σ H => m = xs.length - i ∧ i ≤ xs.length ∧ Pv i σ H, ⟨xs.length, by simp, Nat.zero_le _, h0⟩, ?_⟩
  rintro i m σ H ⟨rfl, hi, p⟩
  have q := hl i σ H hi p
  by_cases hlt : i < xs.length
  · refine .inr ⟨⟨xs, xs[i], q, by simp [hlt]⟩, Pv (i + 1), fun σ' H' p' => ⟨xs.length - (i + 1), by omega, rfl, hlt, p'⟩, fun x H' y => ?_⟩
    obtain ⟨e, y⟩ := y
    subst e
    exact hs i x σ _ (y xs q) p
  · have e : i = xs.length := by omega
    subst e
    exact .inl ⟨⟨xs, q, Nat.le_refl _⟩, hd σ H p⟩
theorem for_range {lo : Int} {n : Nat} {g : TG} {tb : TS} {D : Ends} {σ : St} {H : Hp} (Pv : Nat → St → Hp → Prop) (h0 : Pv 0 σ H)
    (hs : ∀ i σ H, i < n → Pv i σ H → g (.int (lo + i)) σ H fun σ2 H2 => tb { D with nx := Pv (i + 1), ct := Pv (i + 1), bk := D.nx } σ2 H2) (hd : ∀ σ H, Pv n σ H → D.nx σ H) :
    ∃ W : Nat → Nat → St → Hp → Prop, (∃ m, W 0 m σ H) ∧ ∀ i m σ H, W i m σ H →
      ((Itr lo n).stop i H ∧ D.nx σ H) ∨ ((Itr lo n).go i H ∧ ∃ N : St → Hp → Prop, (∀ σ' H', N σ' H' → ∃ m', m' < m ∧ W (i + 1) m' σ' H') ∧ ∀ x H', (Itr lo n).yld i H x H' → g x σ H' fun σ2 H2 => tb { D with nx := N, ct := N, bk := D.nx } σ2 H2) := by
  refine ⟨fun i m σ H => m = n - i ∧ i ≤ n ∧ Pv i σ H, ⟨n, by simp, Nat.zero_le _, h0⟩, ?_⟩
  rintro i m σ H ⟨rfl, hi, p⟩
  by_cases hlt : i < n
  · refine .inr ⟨hlt, Pv (i + 1), fun σ' H' p' => ⟨n - (i + 1), by omega, rfl, hlt, p'⟩, fun x H' y => ?_⟩
    obtain ⟨e, y⟩ := y
    subst e y
    exact hs i σ _ hlt p
  · have e : i = n := by omega
    subst e
    exact .inl ⟨Nat.le_refl _, hd σ H p⟩
/-- while, by a word and a measure of the state -/
theorem while_by {c : TT} {tb : TS} {D : Ends} {σ : St} {H : Hp} (Pv : St → Hp → Prop) (μ : St → Hp → Nat) (h0 : Pv σ H)
    (hs : ∀ σ H, Pv σ H → c σ H fun b H1 => if b = true then tb { D with nx := fun σ' H' => Pv σ' H' ∧ μ σ' H' < μ σ H, ct := fun σ' H' => Pv σ' H' ∧ μ σ' H' < μ σ H, bk := D.nx } σ H1 else D.nx σ H1)
    (mono : ∀ σ H Q Q', (∀ b H1, Q b H1 → Q' b H1) → c σ H Q → c σ H Q') : tWhile c tb D σ H := by
  refine ⟨fun m σ H => m = μ σ H ∧ Pv σ H, ⟨_, rfl, h0⟩, ?_⟩
  rintro m σ H ⟨rfl, p⟩
  refine mono σ H _ _ (fun b H1 q => ?_) (hs σ H p)
  cases b with
  | true => exact ⟨_, fun σ' H' ⟨p', l⟩ => ⟨_, l, rfl, p'⟩, q⟩
  | false => exact q
end L2

namespace L2
open PySem PySem.Spec PyProof.Rows

abbrev R2 := V → V → Hp → VK → Prop
/-- a two-place operation on values: f is binaryOp op, inplaceOp op or compareOp op -/
def OpR (X : Cx) (f : Value → Value → Sem Value) (r : R2) : Prop :=
  ∀ (pins : List (Addr × Obj)) (s : Shared) (σ : St) (H : Hp) (x y : V) (v u : Value) (Q : VK), Inv X pins σ H s → RelV x v → RelV y u → r x y H Q →
    wpAny (model X.prog X.w) X.A (f v u) (EP X pins σ Q) X.xe s
/-- a one-place operation -/
def UnR (X : Cx) (f : Value → Sem Value) (r : V → Hp → VK → Prop) : Prop :=
  ∀ (pins : List (Addr × Obj)) (s : Shared) (σ : St) (H : Hp) (x : V) (v : Value) (Q : VK), Inv X pins σ H s → RelV x v → r x H Q →
    wpAny (model X.prog X.w) X.A (f v) (EP X pins σ Q) X.xe s
/-- a call of a value that is known (a builtin, a type) with values -/
def CallR (X : Cx) (f : Value) (r : List V → Hp → VK → Prop) : Prop :=
  ∀ (pins : List (Addr × Obj)) (s : Shared) (σ : St) (H : Hp) (xs : List V) (us : List Value) (Q : VK), Inv X pins σ H s → Vals xs us → r xs H Q →
    wpAny (model X.prog X.w) X.A (call f us) (EP X pins σ Q) X.xe s
/-- a value's truth -/
def TruR (X : Cx) (r : V → Hp → (Bool → Hp → Prop) → Prop) : Prop :=
  ∀ (pins : List (Addr × Obj)) (s : Shared) (σ : St) (H : Hp) (x : V) (v : Value) (Q : Bool → Hp → Prop), Inv X pins σ H s → RelV x v → r x H Q →
    wpAny (model X.prog X.w) X.A (truthy v) (TP X pins σ Q) X.xe s

def tOp (r : R2) (ta tb : TE) : TE := fun σ H Q => ta σ H fun x H1 => tb σ H1 fun y H2 => r x y H2 Q
def tUn (r : V → Hp → VK → Prop) (ta : TE) : TE := fun σ H Q => ta σ H fun x H1 => r x H1 Q
/-- ints in, under C, and a value out -/
def rI (C : Int → Int → Prop) (g : Int → Int → V) : R2 := fun x y H Q => ∃ i j, x = .int i ∧ y = .int j ∧ C i j ∧ Q (g i j) H
def rI0 (g : Int → Int → V) : R2 := fun x y H Q => ∃ i j, x = .int i ∧ y = .int j ∧ Q (g i j) H
def rU (g : Int → V) : V → Hp → VK → Prop := fun x H Q => ∃ i, x = .int i ∧ Q (g i) H

section
variable {X : Cx} {a b c : Expr} {ta tb tc : TE} {pos : Pos}

theorem binT (ha : PE X a ta) (hb : PE X b tb) {pins : List (Addr × Obj)} {s : Shared} {σ : St} {H : Hp} {R : V → V → Hp → Prop} (I : Inv X pins σ H s)
    (h : ta σ H fun x H1 => tb σ H1 fun y H2 => R x y H2) {Q : Value → Shared → Prop} {f : Value → Value → Sem Value}
    (hf : ∀ v u s2 x y H2, Inv X pins σ H2 s2 → RelV x v → RelV y u → R x y H2 → wpAny (model X.prog X.w) X.A (f v u) Q X.xe s2) :
    wpAny (model X.prog X.w) X.A (eval a X.env) (fun v s₁ => wpAny (model X.prog X.w) X.A (eval b X.env) (fun u s₂ => wpAny (model X.prog X.w) X.A (f v u) Q X.xe s₂) X.xe s₁) X.xe s := by
  refine thn (ha pins s σ H _ I h) fun v s1 ⟨x, H1, I1, r1, q1⟩ => ?_
  refine thn (hb pins s1 σ H1 _ I1 q1) fun u s2 ⟨y, H2, I2, r2, q2⟩ => ?_
  exact hf v u s2 x y H2 I2 r1 r2 q2

theorem pe_op {op : Operator} {r : R2} (ho : OpR X (binaryOp op) r) (ha : PE X a ta) (hb : PE X b tb) : PE X (.BinOp a op b pos) (tOp r ta tb) := by
  intro pins s σ H Q I h
  exact wpAny_BinOp (binT ha hb I h fun v u s2 x y H2 I2 rx ry q => ho pins s2 σ H2 x y v u Q I2 rx ry q)
/-! ### ints -/
theorem opI {f : Value → Value → Sem Value} {C : Int → Int → Prop} {g : Int → Int → Int}
    (rule : ∀ (i j : Int) (t u : Tok) (s : Shared) (Q : Value → Shared → Prop) (E : Value → Shared → Prop), C i j → Q (.int (g i j) s.toks) { s with toks := s.toks + 1 } → wpAny (model X.prog X.w) X.A (f (.int i t) (.int j u)) Q E s) :
    OpR X f (rI C fun i j => .int (g i j)) := by
  intro pins s σ H x y v u Q I rx ry h
  obtain ⟨i, j, rfl, rfl, hc, q⟩ := h
  obtain ⟨t, rfl⟩ := rx
  obtain ⟨t', rfl⟩ := ry
  exact rule i j t t' s _ _ hc ⟨.int (g i j), H, I.tok _, ⟨_, rfl⟩, q⟩
theorem opI0 {f : Value → Value → Sem Value} {g : Int → Int → Int}
    (rule : ∀ (i j : Int) (t u : Tok) (s : Shared) (Q : Value → Shared → Prop) (E : Value → Shared → Prop), Q (.int (g i j) s.toks) { s with toks := s.toks + 1 } → wpAny (model X.prog X.w) X.A (f (.int i t) (.int j u)) Q E s) :
    OpR X f (rI0 fun i j => .int (g i j)) := by
  intro pins s σ H x y v u Q I rx ry h
  obtain ⟨i, j, rfl, rfl, q⟩ := h
  obtain ⟨t, rfl⟩ := rx
  obtain ⟨t', rfl⟩ := ry
  exact rule i j t t' s _ _ ⟨.int (g i j), H, I.tok _, ⟨_, rfl⟩, q⟩
theorem opB0 {f : Value → Value → Sem Value} {g : Int → Int → Bool}
    (rule : ∀ (i j : Int) (t u : Tok) (s : Shared) (Q : Value → Shared → Prop) (E : Value → Shared → Prop), Q (.bool (g i j)) s → wpAny (model X.prog X.w) X.A (f (.int i t) (.int j u)) Q E s) :
    OpR X f (rI0 fun i j => .bl (g i j)) := by
  intro pins s σ H x y v u Q I rx ry h
  obtain ⟨i, j, rfl, rfl, q⟩ := h
  obtain ⟨t, rfl⟩ := rx
  obtain ⟨t', rfl⟩ := ry
  exact rule i j t t' s _ _ ⟨.bl (g i j), H, I, rfl, q⟩

def CDiv (i j : Int) : Prop := 0 < j ∧ j < 1073741824
def CDivN (i j : Int) : Prop := j ≠ 0 ∧ j.natAbs < 1073741824
def CPow (i j : Int) : Prop := 0 ≤ j ∧ j ≤ 1000000 ∧ i.natAbs < 2 ^ 64
def CMul (i j : Int) : Prop := (-(2 ^ 64) < i ∧ i < 2 ^ 64) ∨ (-(2 ^ 64) < j ∧ j < 2 ^ 64)
theorem CMul.ok {i j : Int} (h : CMul i j) : IntMulOk i j := by
  rcases h with ⟨h1, h2⟩ | ⟨h1, h2⟩
  · exact .of_left (intBits_le_64 h1 h2)
  · exact .of_right (intBits_le_64 h1 h2)
theorem op_add : OpR X (binaryOp .Add) (rI0 fun i j => .int (i + j)) := opI0 fun _ _ _ _ _ _ _ q => add_int q
theorem op_sub : OpR X (binaryOp .Sub) (rI0 fun i j => .int (i - j)) := opI0 fun _ _ _ _ _ _ _ q => sub_int q
/-- // by a positive divisor -/
theorem op_fdiv : OpR X (binaryOp .FloorDiv) (rI CDiv fun i j => .int (i / j)) := opI fun i j _ _ _ _ _ hc q => by
  have h1 : (0 : Int) < j := hc.1
  have h2 : j < 1073741824 := hc.2
  exact floordiv_int (by omega) (by rw [Int.fdiv_eq_ediv_of_nonneg i (by omega)]; exact q) (.inl (PyProof.noPylong_small (by omega)))
/-- % by a positive divisor of any size -/
theorem op_mod : OpR X (binaryOp .Mod) (rI (fun _ j => 0 < j) fun i j => .int (i % j)) := opI fun i j _ _ _ _ _ hc q => by
  have h1 : (0 : Int) < j := hc
  exact mod_int' (by omega) (by rw [Int.fmod_eq_emod_of_nonneg i (by omega)]; exact q)
theorem op_pow : OpR X (binaryOp .Pow) (rI CPow fun i j => .int (i ^ j.toNat)) := opI fun _ _ _ _ _ _ _ hc q => pow_int_small hc.1 hc.2.1 hc.2.2 q
/-! ### bools among ints: n += (a < b) -/
end

/-! ### comparisons -/
/-- the scalars that == tells apart as data does -/
def scal : V → V → Bool
  | .non, .non => true | .non, .int _ => true | .int _, .non => true | .non, .bl _ => true | .bl _, .non => true | .non, .str _ => true | .str _, .non => true
  | .int _, .int _ => true | .bl _, .bl _ => true | .str _, .str _ => true | .byt _, .byt _ => true
  | .int _, .str _ => true | .str _, .int _ => true | .bl _, .str _ => true | .str _, .bl _ => true
  | _, _ => false
def rEq : R2 := fun x y H Q => scal x y = true ∧ Q (.bl (decide (x = y))) H
def rNe : R2 := fun x y H Q => scal x y = true ∧ Q (.bl (!decide (x = y))) H

theorem dec_int {i j : Int} : decide (V.int i = V.int j) = (i == j) := by
  rw [Bool.eq_iff_iff]
  simp
theorem dec_bl {i j : Bool} : decide (V.bl i = V.bl j) = (i == j) := by
  rw [Bool.eq_iff_iff]
  simp
theorem dec_str {i j : Str} : decide (V.str i = V.str j) = (i == j) := by
  rw [Bool.eq_iff_iff]
  simp
theorem dec_byt {i j : Array UInt8} : decide (V.byt i = V.byt j) = (i.toList == j.toList) := by
  rw [Bool.eq_iff_iff]
  cases i
  cases j
  simp

section
variable {X : Cx} {a b c : Expr} {ta tb tc : TE} {pos : Pos}
theorem fin_bl {pins : List (Addr × Obj)} {σ : St} {H : Hp} {s : Shared} {Q : VK} {k k' : Bool} (I : Inv X pins σ H s) (q : Q (.bl k) H) (e : k = k') : EP X pins σ Q (.bool k') s := by
  subst e
  exact ⟨.bl k, H, I, rfl, q⟩
theorem op_eq : OpR X (compareOp .Eq) rEq := by
  intro pins s σ H x y v u Q I rx ry h
  obtain ⟨hs, q⟩ := h
  cases x with
  | non =>
    cases rx
    cases y with
    | non => cases ry; exact PySem.EqNone.eq_none_none (fin_bl I q (by simp))
    | bl j => cases ry; exact PySem.EqNone.eq_none_bool (fin_bl I q (by simp))
    | int j => obtain ⟨t', rfl⟩ := ry; exact PySem.EqNone.eq_none_int (fin_bl I q (by simp))
    | str j => obtain ⟨t', rfl⟩ := ry; exact PySem.EqNone.eq_none_str (fin_bl I q (by simp))
    | _ => exact absurd (show false = true from hs) Bool.false_ne_true
  | bl i =>
    cases rx
    cases y with
    | non => cases ry; exact PySem.EqNone.eq_bool_none (fin_bl I q (by simp))
    | bl j => cases ry; exact eq_bool (fin_bl I q dec_bl)
    | str j => obtain ⟨t', rfl⟩ := ry; exact PySem.EqMixed.eq_bool_str (fin_bl I q (by simp))
    | _ => exact absurd (show false = true from hs) Bool.false_ne_true
  | int i =>
    obtain ⟨t, rfl⟩ := rx
    cases y with
    | non => cases ry; exact PySem.EqNone.eq_int_none (fin_bl I q (by simp))
    | int j => obtain ⟨t', rfl⟩ := ry; exact eq_int (fin_bl I q dec_int)
    | str j => obtain ⟨t', rfl⟩ := ry; exact PySem.EqMixed.eq_int_str (fin_bl I q (by simp))
    | _ => exact absurd (show false = true from hs) Bool.false_ne_true
  | str i =>
    obtain ⟨t, rfl⟩ := rx
    cases y with
    | non => cases ry; exact PySem.EqNone.eq_str_none (fin_bl I q (by simp))
    | bl j => cases ry; exact PySem.EqMixed.eq_str_bool (fin_bl I q (by simp))
    | int j => obtain ⟨t', rfl⟩ := ry; exact PySem.EqMixed.eq_str_int (fin_bl I q (by simp))
    | str j => obtain ⟨t', rfl⟩ := ry; exact eq_str (fin_bl I q dec_str)
    | _ => exact absurd (show false = true from hs) Bool.false_ne_true
  | byt i =>
    obtain ⟨t, rfl⟩ := rx
    cases y with
    | byt j => obtain ⟨t', rfl⟩ := ry; exact PySem.W.eq_bytes (fin_bl I q dec_byt)
    | _ => exact absurd (show false = true from hs) Bool.false_ne_true
  | _ => cases y <;> exact absurd (show false = true from hs) Bool.false_ne_true
theorem op_ne : OpR X (compareOp .NotEq) rNe := by
  intro pins s σ H x y v u Q I rx ry h
  obtain ⟨hs, q⟩ := h
  cases x with
  | non =>
    cases rx
    cases y with
    | non => cases ry; exact PySem.EqNone.ne_none_none (fin_bl I q (by simp))
    | bl j => cases ry; exact PySem.EqNone.ne_none_bool (fin_bl I q (by simp))
    | int j => obtain ⟨t', rfl⟩ := ry; exact PySem.EqNone.ne_none_int (fin_bl I q (by simp))
    | str j => obtain ⟨t', rfl⟩ := ry; exact PySem.EqNone.ne_none_str (fin_bl I q (by simp))
    | _ => exact absurd (show false = true from hs) Bool.false_ne_true
  | bl i =>
    cases rx
    cases y with
    | non => cases ry; exact PySem.EqNone.ne_bool_none (fin_bl I q (by simp))
    | bl j => cases ry; exact ne_bool (fin_bl I q (congrArg not dec_bl))
    | str j => obtain ⟨t', rfl⟩ := ry; exact PySem.EqMixed.ne_bool_str (fin_bl I q (by simp))
    | _ => exact absurd (show false = true from hs) Bool.false_ne_true
  | int i =>
    obtain ⟨t, rfl⟩ := rx
    cases y with
    | non => cases ry; exact PySem.EqNone.ne_int_none (fin_bl I q (by simp))
    | int j => obtain ⟨t', rfl⟩ := ry; exact ne_int (fin_bl I q (congrArg not dec_int))
    | str j => obtain ⟨t', rfl⟩ := ry; exact PySem.EqMixed.ne_int_str (fin_bl I q (by simp))
    | _ => exact absurd (show false = true from hs) Bool.false_ne_true
  | str i =>
    obtain ⟨t, rfl⟩ := rx
    cases y with
    | non => cases ry; exact PySem.EqNone.ne_str_none (fin_bl I q (by simp))
    | bl j => cases ry; exact PySem.EqMixed.ne_str_bool (fin_bl I q (by simp))
    | int j => obtain ⟨t', rfl⟩ := ry; exact PySem.EqMixed.ne_str_int (fin_bl I q (by simp))
    | str j => obtain ⟨t', rfl⟩ := ry; exact ne_str (fin_bl I q (congrArg not dec_str))
    | _ => exact absurd (show false = true from hs) Bool.false_ne_true
  | byt i =>
    obtain ⟨t, rfl⟩ := rx
    cases y with
    | byt j => obtain ⟨t', rfl⟩ := ry; exact PySem.W.ne_bytes (fin_bl I q (congrArg not dec_byt))
    | _ => exact absurd (show false = true from hs) Bool.false_ne_true
  | _ => cases y <;> exact absurd (show false = true from hs) Bool.false_ne_true

theorem op_lt : OpR X (compareOp .Lt) (rI0 fun i j => .bl (decide (i < j))) := opB0 fun _ _ _ _ _ _ _ q => lt_int q
theorem op_ge : OpR X (compareOp .GtE) (rI0 fun i j => .bl (decide (j ≤ i))) := opB0 fun _ _ _ _ _ _ _ q => ge_int q
/-- is None, is not None: the right side a value none -/
theorem op_isN : OpR X (compareOp .Is) (fun x y H Q => y = .non ∧ Q (.bl (decide (x = .non))) H) := by
  intro pins s σ H x y v u Q I rx ry h
  obtain ⟨rfl, q⟩ := h
  cases ry
  refine is_none_gen (fin_bl I q ?_)
  cases x <;> first
    | (cases rx; rfl)
    | (obtain ⟨t, rfl⟩ := rx; rfl)
theorem op_notN : OpR X (compareOp .IsNot) (fun x y H Q => y = .non ∧ Q (.bl (!decide (x = .non))) H) := by
  intro pins s σ H x y v u Q I rx ry h
  obtain ⟨rfl, q⟩ := h
  cases ry
  refine isnot_none_gen (fin_bl I q ?_)
  cases x <;> first
    | (cases rx; rfl)
    | (obtain ⟨t, rfl⟩ := rx; rfl)

/-- is, is not of two objects that are tracked lists or instances -/
def isObj : HO → Bool
  | .lst _ => true
  | .ins _ _ _ => true
  | _ => false
/-- two rules for one operation: by cases -/
theorem OpR.or {f : Value → Value → Sem Value} {r r' : R2} (h : OpR X f r) (h' : OpR X f r') : OpR X f (fun x y H Q => r x y H Q ∨ r' x y H Q) := by
  intro pins s σ H x y v u Q I rx ry q
  rcases q with q | q
  · exact h pins s σ H x y v u Q I rx ry q
  · exact h' pins s σ H x y v u Q I rx ry q

theorem nomark (b : Expr) {op : CmpOp} (h : op ≠ .In := by decide) (h2 : op ≠ .NotIn := by decide) : behindInMarks op b = false := by
  have e1 : (op == CmpOp.In) = false := by cases op <;> first | rfl | exact absurd rfl h
  have e2 : (op == CmpOp.NotIn) = false := by cases op <;> first | rfl | exact absurd rfl h2
  cases b <;> simp [behindInMarks, e1, e2]
/-- a comparison as a value; hm: nomark b, or (for in, not in) by with_unfolding_all rfl -/
theorem pe_cmpR {op : CmpOp} {r : R2} (ho : OpR X (compareOp op) r) (ha : PE X a ta) (hb : PE X b tb) (hm : behindInMarks op b = false) : PE X (.Compare a [op] [b] pos) (tOp r ta tb) := by
  intro pins s σ H Q I h
  exact wpAny_Compare1 (binT ha hb I h fun v u s2 x y H2 I2 rx ry q => ho pins s2 σ H2 x y v u Q I2 rx ry q) hm
/-- a reading of a value as a test -/
def tTest (t : TE) : TT := fun σ H Q => t σ H fun x H' => ∃ k, x = .bl k ∧ Q k H'
theorem pt_cmpR {op : CmpOp} {r : R2} (ho : OpR X (compareOp op) r) (ha : PE X a ta) (hb : PE X b tb) (hm : behindInMarks op b = false) : PT X (.Compare a [op] [b] pos) (tTest (tOp r ta tb)) := by
  intro pins s σ H Q I h
  refine wpAny_isTrue_Compare1 (thn (ha pins s σ H _ I h) fun v s1 ⟨x, H1, I1, r1, q1⟩ => thn (hb pins s1 σ H1 _ I1 q1) fun u s2 ⟨y, H2, I2, r2, q2⟩ =>
    thn (ho pins s2 σ H2 x y v u _ I2 r1 r2 q2) fun c s3 ⟨z, H3, I3, r3, k, e, q3⟩ => ?_) hm
  subst e
  cases r3
  exact wpAny_truthy_bool ⟨H3, I3, q3⟩
/-- a op1 b op2 c -/
def tChain (r r' : R2) (ta tb tc : TE) : TE := fun σ H Q => ta σ H fun x H1 => tb σ H1 fun y H2 => r x y H2 fun z H3 => ∃ k, z = .bl k ∧
  (if k = true then tc σ H3 fun w' H4 => r' y w' H4 Q else Q (.bl false) H3)
/-! ### truth -/
/-- a value's truth by the abstract heap -/
def TruV (K : PySem.W.Frag) (x : V) (H : Hp) (k : Bool) : Prop :=
  match x with
  | .non => k = false
  | .bl b => k = b
  | .int i => k = (i != 0)
  | .str y => y.length ≤ sizeLine ∧ k = ((y.length : Int) != 0)
  | .byt y => y.size ≤ sizeLine ∧ k = ((y.size : Int) != 0)
  | .ref p => (∃ xs, SqL K H p xs ∧ k = !xs.isEmpty) ∨ (∃ xs, SqT K H p xs ∧ k = !xs.isEmpty) ∨ ∃ kvs, H p = some (.dK kvs) ∧ k = !kvs.isEmpty
  | _ => False
theorem isEmpty_kv {κ : Type} {kvs : List (κ × V)} {vs : List (κ × Value)} (r : KV kvs vs) : (!vs.isEmpty) = !kvs.isEmpty := by
  cases r <;> rfl
theorem isEmpty_of {xs : List V} {its : List Value} (r : Vals xs its) : (!its.toArray.isEmpty) = !xs.isEmpty := by
  cases r <;> simp
theorem line63 : (sizeLine : Nat) < 2 ^ 63 := by rw [sizeLine_eq]; decide
theorem tru_ok : TruR X (fun x H Q => ∃ k, TruV X.K x H k ∧ Q k H) := by
  intro pins s σ H x v Q I rx h
  obtain ⟨k, e, q⟩ := h
  have hl := line63
  have hs : sizeLine = 16777216 := sizeLine_eq
  cases x with
  | non =>
    cases rx
    have e' : k = false := e
    subst e'
    exact truthy_none ⟨H, I, q⟩
  | bl b =>
    cases rx
    have e' : k = b := e
    subst e'
    exact wpAny_truthy_bool ⟨H, I, q⟩
  | int i =>
    obtain ⟨t, rfl⟩ := rx
    have e' : k = (i != 0) := e
    subst e'
    exact PySem.P.truthy_int ⟨H, I, q⟩
  | str y =>
    obtain ⟨t, rfl⟩ := rx
    obtain ⟨hy, e'⟩ : y.length ≤ sizeLine ∧ k = ((y.length : Int) != 0) := e
    subst e'
    exact PySem.P.truthy_str (by omega) ⟨H, I.tok _, q⟩
  | byt y =>
    obtain ⟨t, rfl⟩ := rx
    obtain ⟨hy, e'⟩ : y.size ≤ sizeLine ∧ k = ((y.size : Int) != 0) := e
    subst e'
    exact PySem.W.truthy_bytes (by omega) ⟨H, I.tok _, q⟩
  | ref p =>
    cases rx
    have e' : (∃ xs, SqL X.K H p xs ∧ k = !xs.isEmpty) ∨ (∃ xs, SqT X.K H p xs ∧ k = !xs.isEmpty) ∨ ∃ kvs, H p = some (.dK kvs) ∧ k = !kvs.isEmpty := e
    rcases e' with ⟨xs, hx, e'⟩ | ⟨xs, hx, e'⟩ | ⟨kvs, hx, e'⟩
    · subst e'
      obtain ⟨its, r, pl, hz⟩ := I.list hx
      have hlen := r.length
      exact wpAny_truthy_list pl.isList (by simp only [List.size_toArray]; omega) ⟨H, I.tok _, by rw [isEmpty_of r]; exact q⟩
    · subst e'
      obtain ⟨its, r, pl, hz⟩ := I.tuple hx
      have hlen := r.length
      exact truthy_tuple pl (by simp only [List.size_toArray]; omega) ⟨H, I.tok _, by rw [isEmpty_of r]; exact q⟩
    · subst e'
      obtain ⟨hz, hS, vs, r, m⟩ : kvs.length ≤ sizeLine ∧ (p == sysModules) = false ∧ ∃ vs, KV kvs vs ∧ s.heap.DictOf (mixKind X.prog X.w) p vs := I.hok p _ hx
      have hlen : kvs.length = vs.length := Paired.length r
      exact wpAny_truthy_dict hS m (by omega) ⟨H, I.tok _, by rw [isEmpty_kv r]; exact q⟩
  | _ => exact (show False from e).elim
/-- any expression whose test is its value's truth (a name, a call, a subscript, a field ..: he by fun _ => rfl) -/
theorem pt_truth (ha : PE X a ta) (he : ∀ whole, isTrue a X.env whole = (do let v ← whole; standAt a.pos; holding [v] (truthy v))) :
    PT X a (fun σ H Q => ta σ H fun x H' => ∃ k, TruV X.K x H' k ∧ Q k H') := by
  intro pins s σ H Q I h
  exact isTrue_plain (thn (ha pins s σ H _ I h) fun v s1 ⟨x, H1, I1, r1, q1⟩ => tru_ok pins s1 σ H1 x v Q I1 r1 q1) (he _)

/-! ### strs and bytes -/
def PlainIxT (b : Expr) : Prop := ∀ o i, subscripted b false o i = operate [o, i] (getItem o i)
/-! ### scalar builtins, by CallR -/
theorem vals1 {x : V} {us : List Value} (r : Vals [x] us) : ∃ u, us = [u] ∧ RelV x u := by
  cases r with
  | cons r1 r2 => cases r2; exact ⟨_, rfl, r1⟩
theorem vals2 {x y : V} {us : List Value} (r : Vals [x, y] us) : ∃ u w', us = [u, w'] ∧ RelV x u ∧ RelV y w' := by
  cases r with
  | cons r1 r2 =>
    cases r2 with
    | cons r3 r4 => cases r4; exact ⟨_, _, rfl, r1, r3⟩
theorem call_max2 (hc : X.calm = true) : CallR X (.builtin "max") (fun xs H Q => ∃ i j, xs = [.int i, .int j] ∧ Q (.int (if j > i then j else i)) H) := by
  intro pins s σ H xs us Q I r h
  obtain ⟨i, j, rfl, q⟩ := h
  obtain ⟨u, w', rfl, ⟨t, rfl⟩, ⟨t', rfl⟩⟩ := vals2 r
  refine max_two_ints (I.ok.hd hc) fun h' tk k => ⟨_, H, I.kept k, ?_, q⟩
  by_cases hj : j > i
  · rw [if_pos hj, if_pos hj]; exact ⟨_, rfl⟩
  · rw [if_neg hj, if_neg hj]; exact ⟨_, rfl⟩
/-- len of a str, a bytes, a list, a tuple -/
def LenV (K : PySem.W.Frag) (x : V) (H : Hp) (n : Nat) : Prop :=
  match x with
  | .str y => y.length ≤ sizeLine ∧ n = y.length
  | .byt y => y.size ≤ sizeLine ∧ n = y.size
  | .ref p => (∃ xs, SqL K H p xs ∧ n = xs.length) ∨ ∃ xs, SqT K H p xs ∧ n = xs.length
  | _ => False
end
end L2

namespace L2
open PySem PySem.Spec PyProof.Rows

/-! ### an instance, its attributes a map -/
structure ObjM (h : Heap) (x dx C : Addr) (mA : Str → Option Value) : Prop where
  obj : h.get? x = some (PySem.W.instObj C dx)
  ns : h.Ns1 dx mA
  ne : dx ≠ x

theorem lookIn_ns {h : Heap} {dx : Addr} {mA : Str → Option Value} (n : h.Ns1 dx mA) : ∃ od, h.get? dx = some od ∧ ∀ name, PySem.W.lookIn name od = some (mA name) := by
  obtain ⟨o, es, ep, ho, hd, hk, _, hm⟩ := n
  refine ⟨o, ho, fun name => ?_⟩
  have e := hm name
  unfold nsFind findBy at e
  rw [← Array.find?_toList] at e
  unfold PySem.W.lookIn
  rw [hd]
  dsimp only
  split
  · rename_i y q
    rw [q] at e
    exact congrArg some e
  · rename_i q
    rw [q] at e
    have a : es.toList.any (·.refKey) = false := by
      rw [List.any_eq_false]
      intro y hy
      obtain ⟨z, t, hkey⟩ := hk y (Array.mem_toList_iff.mp hy)
      simp [DictEntry.refKey, hkey]
    have a' : ¬ es.toList.any (·.refKey) = true := by rw [a]; exact Bool.false_ne_true
    rw [if_neg a']
    exact congrArg some e

theorem ObjM.look {h : Heap} {x dx C : Addr} {mA : Str → Option Value} (I : ObjM h x dx C mA) : ∃ od, PySem.W.InstAt h x (PySem.W.instObj C dx) C (some od) ∧ ∀ name, PySem.W.lookIn name od = some (mA name) :=
  let ⟨od, ho, hl⟩ := lookIn_ns I.ns
  ⟨od, ⟨I.obj, rfl, rfl, ho⟩, hl⟩

section
variable {prog : Program} {w : World} {A : Around} {E : Value → Shared → Prop} {s : Shared} {K : PySem.W.Frag} {x dx C f : Addr} {mA : Str → Option Value} {name : Str} {v : Value}

theorem get_map {expr : Bool} {Q : Value → Shared → Prop} (X : K.In s.heap) (I : ObjM s.heap x dx C mA) (hg : PySem.W.plainGet K C name = true) (hh : PySem.W.hasDictIn K C = true)
    (ha : PySem.W.findIn K (.ref C) name = some none) (hv : mA name = some v) (hv' : PySem.W.handedIn v = true) (h : Q v { s with toks := s.toks + 1 }) :
    wpAny (model prog w) A (getAttr (.ref x) name expr) Q E s := by
  obtain ⟨od, J, hl⟩ := I.look
  exact PySem.W.get_value X J (PySem.W.plainGet_of hg).1 (PySem.W.findObj_own hh ha rfl (by rw [hl, hv])) hv' h

theorem get_meth {pl : Sem Bool} {Q : Value × List Value → Shared → Prop} (X : K.In s.heap) (I : ObjM s.heap x dx C mA) (hg : PySem.W.plainGet K C name = true)
    (hf : PySem.W.findIn K (.ref C) name = some (some (.ref f))) (ht : PySem.W.isFn K (.ref f) = true) (hv : mA name = none) (h : Q (.ref f, [.ref x]) s) :
    wpAny (model prog w) A (getMethod (.ref x) name pl) Q E s := by
  obtain ⟨od, J, hl⟩ := I.look
  exact PySem.W.method_fn X J (PySem.W.plainGet_of hg).1 (PySem.W.plainGet_of hg).2 hf (beq_iff_eq.mp ht) (by show (PySem.W.lookIn name od).map (·.isSome) = some false; rw [hl, hv]; rfl) h

theorem set_map {ns : List Str} {Q : Unit → Shared → Prop} (X : K.In s.heap) (I : ObjM s.heap x dx C mA)
    (hs : PySem.W.findIn K (.ref C) "__setattr__" = some (some (.builtin "object.__setattr__"))) (hp : PySem.W.plainOver K C = true) (ht : PySem.W.takerIn K C name = some none) (hh : PySem.W.hasDictIn K C = true)
    (hw : PySem.Within mA ns) (hsz : ns.length ≤ sizeLine)
    (h : ∀ h', ObjM h' x dx C (fun y => if y = name then some v else mA y) → Heap.SameBut dx s.heap h' → Q () { s with heap := h', toks := s.toks + 2 }) :
    wpAny (model prog w) A (setAttr (.ref x) name v) Q E s := by
  obtain ⟨od, J, hl⟩ := I.look
  refine PySem.W.set_plain X J hs (PySem.W.osa_open (s := { s with toks := s.toks + 1 }) (r := none) X J hp ht fun b => ?_)
  obtain ⟨cd, hc, hd'⟩ := PySem.W.any_some hh
  have hx : s.heap.get? x = some ⟨.ref C, some dx, .plain, #[]⟩ := I.obj
  refine wpAny_bind (wpAny_pure (wpAny_bind (wpAny_bind (wpAny_loadPart hx (wpAny_bind (PySem.W.Looks.here (s := { s with toks := s.toks + 1 }) (PySem.W.looks_clsIn X hc) ?_))))))
  rw [hd']
  refine wpAny_pure (a := some dx) (wpAny_bind (wpAny_pure (wpAny_bind ?_)))
  refine wpAny_nsSet1 (s := { s with toks := s.toks + 1 }) I.ns fun h' hn2 hs2 => ?_
  obtain ⟨oD, esD, epD, hoD, hdD, hcD⟩ := hn2.count (PySem.Within.cons name v hw)
  refine wpAny_bind (wpAny_lookBehind hoD (by rw [hdD]; exact pastItsLine_dict (Nat.le_trans hcD (by rw [List.length_cons]; omega))) ?_)
  exact wpAny_pure (h _ ⟨(hs2.2 _ (Ne.symm I.ne)).trans I.obj, hn2, I.ne⟩ hs2)

/-- C(..): the dict at the heap's end, the instance behind it; then its __init__ -/
theorem make_map {R : Result → Shared → Prop} {vs : List Value} {kw : List (Str × Value)} (X : K.In s.heap) (hm : PySem.W.makesIn K C = true)
    (hi : PySem.W.findIn K (.ref C) "__init__" = some (some (.ref f))) (hf : PySem.W.typeIn K (.ref f) = some (.type "function"))
    (h : codeAny (model prog w) (A.under (.builtin "type.__call__" ⟨.ref C :: vs, kw⟩)) (.call (.ref f) ⟨.ref (s.heap.objs.size + 1) :: vs, kw⟩) (PySem.W.InitBack (s.heap.objs.size + 1) R)
      { s with heap := (s.heap.push PySem.W.emptyDict).push (PySem.W.instObj C s.heap.objs.size) }) :
    codeAny (model prog w) A (.call (.ref C) ⟨vs, kw⟩) R s := by
  obtain ⟨hh, g, d, t, os⟩ := s
  exact PySem.W.make_core (PySem.W.makes_of X hm) (PySem.W.looks_findIn X hi) (fun self => PySem.W.bind_fn X self hf) (.inl rfl) h
/-- C() where there is no __init__ but object's -/
theorem make_map0 {R : Result → Shared → Prop} (X : K.In s.heap) (hm : PySem.W.makesIn K C = true)
    (hi : PySem.W.findIn K (.ref C) "__init__" = some (some (.builtin "object.__init__")))
    (hb : ∀ self, PySem.W.Looks (model prog w) s.heap (bindSpecial (.builtin "object.__init__") self) (.builtin "object.__init__", [self]))
    (h : codeAny (model prog w) (A.under (.builtin "type.__call__" ⟨[.ref C], []⟩)) (.call (.builtin "object.__init__") ⟨[.ref (s.heap.objs.size + 1)], []⟩) (PySem.W.InitBack (s.heap.objs.size + 1) R)
      { s with heap := (s.heap.push PySem.W.emptyDict).push (PySem.W.instObj C s.heap.objs.size) }) :
    codeAny (model prog w) A (.call (.ref C) ⟨[], []⟩) R s := by
  obtain ⟨hh, g, d, t, os⟩ := s
  exact PySem.W.make_core (PySem.W.makes_of X hm) (PySem.W.looks_findIn X hi) hb (.inr ⟨rfl, rfl⟩) h
end

/-! ### the attributes as a list of pairs -/
def putF (f : Str) (v : V) : List (Str × V) → List (Str × V)
  | [] => [(f, v)]
  | (g, x) :: r => if g = f then (g, v) :: r else (g, x) :: putF f v r
theorem lookup_putF (f g : Str) (v : V) : ∀ fs : List (Str × V), (putF f v fs).lookup g = if g = f then some v else fs.lookup g
  | [] => by
    show List.lookup g [(f, v)] = _
    by_cases h : g = f
    · have hb : (g == f) = true := beq_iff_eq.mpr h
      simp only [List.lookup, hb, if_pos h]
    · have hb : (g == f) = false := beq_eq_false_iff_ne.mpr h
      simp only [List.lookup, hb, if_neg h]
  | (k, x) :: r => by
    have ih := lookup_putF f g v r
    rw [show putF f v ((k, x) :: r) = (if k = f then (k, v) :: r else (k, x) :: putF f v r) from rfl]
    by_cases hk : k = f
    · rw [if_pos hk]
      by_cases h : g = k
      · have hb : (g == k) = true := beq_iff_eq.mpr h
        simp only [List.lookup, hb, if_pos (h.trans hk)]
      · have hb : (g == k) = false := beq_eq_false_iff_ne.mpr h
        simp only [List.lookup, hb, if_neg (fun e : g = f => h (e.trans hk.symm))]
    · rw [if_neg hk]
      by_cases h : g = k
      · have hb : (g == k) = true := beq_iff_eq.mpr h
        simp only [List.lookup, hb, if_neg (fun e : g = f => hk (h.symm.trans e))]
      · have hb : (g == k) = false := beq_eq_false_iff_ne.mpr h
        simp only [List.lookup, hb]
        exact ih
theorem keys_putF (f : Str) (v : V) : ∀ fs : List (Str × V), f ∈ (putF f v fs).map (·.1) ∧ ∀ g, g ∈ fs.map (·.1) → g ∈ (putF f v fs).map (·.1)
  | [] => ⟨by simp [putF], fun g h => by simp at h⟩
  | (k, x) :: r => by
    obtain ⟨i1, i2⟩ := keys_putF f v r
    rw [show putF f v ((k, x) :: r) = (if k = f then (k, v) :: r else (k, x) :: putF f v r) from rfl]
    by_cases hk : k = f
    · rw [if_pos hk]
      subst hk
      exact ⟨by simp, fun g h => by simpa using h⟩
    · rw [if_neg hk]
      refine ⟨?_, fun g h => ?_⟩
      · rw [List.map_cons]
        exact List.mem_cons_of_mem _ i1
      · rw [List.map_cons] at h ⊢
        rcases List.mem_cons.mp h with e | e
        · exact List.mem_cons.mpr (.inl e)
        · exact List.mem_cons_of_mem _ (i2 g e)
theorem length_putF (f : Str) (v : V) : ∀ fs : List (Str × V), (putF f v fs).length ≤ fs.length + 1
  | [] => by simp [putF]
  | (k, x) :: r => by
    have ih := length_putF f v r
    rw [show putF f v ((k, x) :: r) = (if k = f then (k, v) :: r else (k, x) :: putF f v r) from rfl]
    by_cases hk : k = f
    · rw [if_pos hk, List.length_cons, List.length_cons]; omega
    · rw [if_neg hk, List.length_cons, List.length_cons]; omega

theorem RelO.some_of {v : V} {o : Option Value} (r : RelO (some v) o) : ∃ u, o = some u ∧ RelV v u := by
  cases o with
  | none => exact (show False from r).elim
  | some u => exact ⟨u, rfl, r⟩
theorem RelO.none_of {o : Option Value} (r : RelO none o) : o = none := by
  cases o with
  | none => rfl
  | some u => exact (show False from r).elim
theorem handed_of {v : V} {u : Value} (r : RelV v u) : PySem.W.handedIn u = true := by
  cases v with
  | non => cases (show u = Value.none from r); rfl
  | bl b => cases (show u = Value.bool b from r); rfl
  | int i => obtain ⟨t, e⟩ := (show ∃ t, u = Value.int i t from r); cases e; rfl
  | str x => obtain ⟨t, e⟩ := (show ∃ t, u = Value.str x t from r); cases e; rfl
  | byt b => obtain ⟨t, e⟩ := (show ∃ t, u = Value.bytes b t from r); cases e; rfl
  | flt b => obtain ⟨t, e⟩ := (show ∃ t, u = Value.float b t from r); cases e; rfl
  | ref a => cases (show u = Value.ref a from r); rfl
  | ty n => cases (show u = Value.type n from r); rfl

section
variable {P : Program} {w : World} {H H' : Hp} {h h' : Heap} {a C dx : Addr} {fs fs' : List (Str × V)}
theorem ins_get (hok : HOk P w H h) (e : H a = some (.ins C dx fs)) : ∃ mA, ObjM h a dx C mA ∧ (∀ f, RelO (fs.lookup f) (mA f)) ∧ PySem.Within mA (fs.map (·.1)) ∧ fs.length ≤ 1000 ∧ H dx = some (.own a) := by
  obtain ⟨d, z, ne, ob, mA, n, r, q⟩ := (show ObjOk P w H h a (.ins C dx fs) from hok a _ e)
  exact ⟨mA, ⟨ob, n, ne⟩, r, q, z, d⟩
end

/-! ### what of the text a class must have -/
structure Cls (K : PySem.W.Frag) (C : Addr) : Prop where
  pg : PySem.W.plainGet K C Str.empty = true
  hd : PySem.W.hasDictIn K C = true
  po : PySem.W.plainOver K C = true
  sa : PySem.W.findIn K (.ref C) "__setattr__" = some (some (.builtin "object.__setattr__"))
theorem Cls.get {K : PySem.W.Frag} {C : Addr} (c : Cls K C) (f : Str) : PySem.W.plainGet K C f = true := c.pg
/-- no class of it has the name -/
def NoAttr (K : PySem.W.Frag) (C : Addr) (f : Str) : Prop := PySem.W.findIn K (.ref C) f = some none
theorem NoAttr.taker {K : PySem.W.Frag} {C : Addr} {f : Str} (n : NoAttr K C f) : PySem.W.takerIn K C f = some none := by
  unfold PySem.W.takerIn
  rw [show PySem.W.findIn K (.ref C) f = some none from n]
  rfl
/-- a constant of the class -/
structure Con (K : PySem.W.Frag) (C : Addr) (f : Str) (v : V) (u : Value) : Prop where
  at_ : PySem.W.findIn K (.ref C) f = some (some u)
  rel : RelV v u
  get : PySem.W.specialIn K u "__get__" = some none
  cp : PySem.W.copiedNames.contains f = false
/-- a method: a plain def of the class or of one above it -/
structure Meth (K : PySem.W.Frag) (C : Addr) (m : Str) (f : Addr) : Prop where
  at_ : PySem.W.findIn K (.ref C) m = some (some (.ref f))
  fn : PySem.W.isFn K (.ref f) = true
  kp : PySem.W.keepIn K (.ref f) = true

section
variable {X : Cx} {pins : List (Addr × Obj)} {σ : St} {H : Hp} {s : Shared} {a C dx : Addr} {fs : List (Str × V)} {f : Str} {v : V} {A : Around} {E : Value → Shared → Prop}

theorem getattr_ok {b : Bool} {Q : Value → Shared → Prop} (I : Inv X pins σ H s) (e : H a = some (.ins C dx fs)) (c : Cls X.K C) (n : NoAttr X.K C f) (l : fs.lookup f = some v)
    (h : ∀ u s', Inv X pins σ H s' → RelV v u → Q u s') : wpAny (model X.prog X.w) A (getAttr (.ref a) f b) Q E s := by
  obtain ⟨mA, O, r, _, _, _⟩ := ins_get I.hok e
  obtain ⟨u, hu, ru⟩ := RelO.some_of (v := v) (o := mA f) (by rw [← l]; exact r f)
  exact get_map I.kIn O (c.get f) c.hd n hu (handed_of ru) (h u _ (I.tok _) ru)

theorem getmeth_ok {m : Str} {g : Addr} {pl : Sem Bool} {Q : Value × List Value → Shared → Prop} (I : Inv X pins σ H s) (e : H a = some (.ins C dx fs)) (c : Cls X.K C) (k : Meth X.K C m g) (l : fs.lookup m = none)
    (h : Q (.ref g, [.ref a]) s) : wpAny (model X.prog X.w) A (getMethod (.ref a) m pl) Q E s := by
  obtain ⟨mA, O, r, _, _, _⟩ := ins_get I.hok e
  have hn : mA m = none := RelO.none_of (by rw [← l]; exact r m)
  exact get_meth I.kIn O (c.get m) k.at_ k.fn hn h

theorem setattr_ok {y : V} {u : Value} {Q : Unit → Shared → Prop} (I : Inv X pins σ H s) (e : H a = some (.ins C dx fs)) (c : Cls X.K C) (n : NoAttr X.K C f) (hl : fs.length < 1000) (ry : RelV y u)
    (h : ∀ s', Inv X pins σ (upd H a (.ins C dx (putF f y fs))) s' → Q () s') : wpAny (model X.prog X.w) A (setAttr (.ref a) f u) Q E s := by
  obtain ⟨mA, O, r, wi, _, ho⟩ := ins_get I.hok e
  have hz : (fs.map (·.1)).length ≤ sizeLine := by rw [List.length_map, sizeLine_eq]; omega
  refine set_map I.kIn O c.sa c.po n.taker c.hd wi hz fun h' O' sb => h _ ?_
  have hd : ∃ o, h'.get? dx = some o := let ⟨o, _, _, e', _⟩ := O'.ns; ⟨o, e'⟩
  refine I.write (x := a) (e := dx) (by rw [e]; exact True.intro) (.inr ho) (fun b q hb z => (sb.2 b hb).trans z) hd ?_
  refine ⟨by rw [upd_ne O.ne]; exact ho, ?_, O.ne, O'.obj, _, O'.ns, fun g => ?_, fun g hg => ?_⟩
  · have := length_putF f y fs; omega
  · show RelO ((putF f y fs).lookup g) (if g = f then some u else mA g)
    rw [lookup_putF]
    by_cases q : g = f
    · rw [if_pos q, if_pos q]; exact ry
    · rw [if_neg q, if_neg q]; exact r g
  · by_cases q : g = f
    · rw [q]; exact (keys_putF f y fs).1
    · refine (keys_putF f y fs).2 g (wi g fun z => hg ?_)
      show (if g = f then some u else mA g) = none
      rw [if_neg q]; exact z

/-- a new instance, tracked, without attributes -/
theorem Inv.made (I : Inv X pins σ H s) : Inv X pins σ (upd (upd H s.heap.objs.size (.own (s.heap.objs.size + 1))) (s.heap.objs.size + 1) (.ins C s.heap.objs.size []))
    { s with heap := (s.heap.push PySem.W.emptyDict).push (PySem.W.instObj C s.heap.objs.size) } := by
  have e1 : (s.heap.push PySem.W.emptyDict).get? s.heap.objs.size = some PySem.W.emptyDict := Heap.get?_push_size s.heap rfl
  have e2 : ((s.heap.push PySem.W.emptyDict).push (PySem.W.instObj C s.heap.objs.size)).get? (s.heap.objs.size + 1) = some (PySem.W.instObj C s.heap.objs.size) := by
    have := Heap.get?_push_size (s.heap.push PySem.W.emptyDict) (o := PySem.W.instObj C s.heap.objs.size) rfl
    rwa [Heap.size_push] at this
  have e3 : (s.heap.push PySem.W.emptyDict).Ns s.heap.objs.size (fun _ => none) := ⟨PySem.W.emptyDict, #[], _, e1, rfl, (fun e he => absurd he (by simp)), fun _ => rfl⟩
  have I1 := I.laid (a := s.heap.objs.size) (o := .own (s.heap.objs.size + 1)) (h' := s.heap.push PySem.W.emptyDict) (t' := s.toks) (fun b u q => Heap.get?_push_of_some _ q) (Nat.le_refl _) ⟨_, e1⟩
  refine I1.laid (a := s.heap.objs.size + 1) (o := .ins C s.heap.objs.size []) (t' := s.toks) (fun b u q => Heap.get?_push_of_some _ q) (Nat.le_of_eq (Heap.size_push _ _)) ?_
  have ne : s.heap.objs.size ≠ s.heap.objs.size + 1 := Nat.ne_of_lt (Nat.lt_succ_self _)
  refine ⟨by rw [upd_ne ne, upd_same], Nat.zero_le _, ne, e2, fun _ => none, (Heap.Ns1.of_empty e3).at fun o q => Heap.get?_push_of_some _ q, fun _ => True.intro, fun y hy => absurd rfl hy⟩

/-- e.f where nothing but the object is asked: through attributeBase (super) and the last hold -/
theorem attr_of {prog : Program} {w : World} {env : Env} {e : Expr} {f : Str} {pos : Pos} {s : Shared} {Q : Value → Shared → Prop} (hb : attributeBase e f env (eval e env) = eval e env)
    (h : wpAny (model prog w) A (eval e env) (fun o s₁ => wpAny (model prog w) A (getAttr o f true) Q E s₁) E s) : wpAny (model prog w) A (eval (.Attribute e f pos) env) Q E s :=
  Attribute_any_ h (by rw [arm_eval_Attribute, hb])
end

/-! ### readings and rules -/
/-- e.f, an attribute of the instance -/
def tFld (K : PySem.W.Frag) (ta : TE) (f : Str) : TE := fun σ H Q => ta σ H fun x H1 => ∃ a C dx fs v, x = .ref a ∧ H1 a = some (.ins C dx fs) ∧ Cls K C ∧ NoAttr K C f ∧ fs.lookup f = some v ∧ Q v H1
/-- e.f, a constant of the class -/
def tCon (K : PySem.W.Frag) (ta : TE) (f : Str) : TE := fun σ H Q => ta σ H fun x H1 => ∃ a C dx fs v u, x = .ref a ∧ H1 a = some (.ins C dx fs) ∧ Cls K C ∧ Con K C f v u ∧ fs.lookup f = none ∧ Q v H1
/-- e.f = value -/
def sFld (K : PySem.W.Frag) (ta tv : TE) (f : Str) : TS := fun D σ H => tv σ H fun y H1 => ta σ H1 fun x H2 => ∃ a C dx fs, x = .ref a ∧ H2 a = some (.ins C dx fs) ∧ Cls K C ∧ NoAttr K C f ∧ fs.length < 1000 ∧
  D.nx σ (upd H2 a (.ins C dx (putF f y fs)))
/-- an augmented operator on two values -/
def InOp (X : Cx) (op : Operator) (rd : V → V → Hp → VK → Prop) : Prop :=
  ∀ (pins : List (Addr × Obj)) (s : Shared) (σ : St) (H : Hp) (x y : V) (u v : Value) (Q : VK), Inv X pins σ H s → RelV x u → RelV y v → rd x y H Q → wpAny (model X.prog X.w) X.A (inplaceOp op u v) (EP X pins σ Q) X.xe s
/-- e.f op= value -/
def sFldAug (K : PySem.W.Frag) (ta tv : TE) (rd : V → V → Hp → VK → Prop) (f : Str) : TS := fun D σ H => ta σ H fun x H1 => ∃ a C dx fs v, x = .ref a ∧ H1 a = some (.ins C dx fs) ∧ Cls K C ∧ NoAttr K C f ∧ fs.lookup f = some v ∧
  tv σ H1 fun y H2 => rd v y H2 fun z H3 => ∃ dx' fs', H3 a = some (.ins C dx' fs') ∧ fs'.length < 1000 ∧ D.nx σ (upd H3 a (.ins C dx' (putF f z fs')))

section
variable {X : Cx} {o e value : Expr} {f : Str} {pos pos' tpos : Pos} {ta tv : TE}
theorem pe_fld (he : PE X e ta) (hb : attributeBase e f X.env (eval e X.env) = eval e X.env) : PE X (.Attribute e f pos) (tFld X.K ta f) := by
  intro pins s σ H Q I h
  refine attr_of hb (thn (he pins s σ H _ I h) fun u s1 ⟨x, H1, I1, rx, a, C, dx, fs, v, ex, ea, c, n, l, q⟩ => ?_)
  subst ex
  obtain rfl : u = Value.ref a := rx
  exact getattr_ok I1 ea c n l fun u' s2 I2 ru => ⟨v, H1, I2, ru, q⟩
theorem ps_fld (ha : PE X o ta) (hv : PE X value tv) (hs : swapsWith value (some (.Attribute o f pos')) pos.line X.env = pure false) : PS X (.Assign [.Attribute o f pos'] value pos) (sFld X.K ta tv f) := by
  intro pins s σ H D I h
  refine plainObj_wpAny_Assign_Attribute (thn (hv pins s σ H _ I h) fun u s1 ⟨y, H1, I1, ry, q⟩ => thn (ha pins s1 σ H1 _ I1 q) fun ov s2 ⟨x, H2, I2, rx, a, C, dx, fs, ex, ea, c, n, l, q2⟩ => ?_) hs
  subst ex
  obtain rfl : ov = Value.ref a := rx
  exact setattr_ok I2 ea c n l ry fun s3 I3 => ⟨σ, _, I3, q2⟩
def rAdd : V → V → Hp → VK → Prop := fun x y H Q => ∃ i j, x = .int i ∧ y = .int j ∧ Q (.int (i + j)) H
def rSub : V → V → Hp → VK → Prop := fun x y H Q => ∃ i j, x = .int i ∧ y = .int j ∧ Q (.int (i - j)) H
end

/-! ### isinstance -/
section
variable {X : Cx} {pins : List (Addr × Obj)} {σ : St} {H : Hp} {s : Shared} {A : Around} {E : Value → Shared → Prop} {Q : Value → Shared → Prop} {c : Value} {b : Bool}
/-- the type of a value, as the fragment's deciders take it; for an instance its class -/
inductive TyOf (K : PySem.W.Frag) (H : Hp) : V → Value → Prop where
  | non : TyOf K H .non (.type "NoneType")
  | bl (x : Bool) : TyOf K H (.bl x) (.type "bool")
  | int (i : Int) : TyOf K H (.int i) (.type "int")
  | str (x : Str) : TyOf K H (.str x) (.type "str")
  | flt (x : UInt64) : TyOf K H (.flt x) (.type "float")
  | lst {a : Addr} {xs : List V} (e : H a = some (.lst xs)) : TyOf K H (.ref a) (.type "list")
  | frz {a : Addr} {o : Obj} {xs : List V} (e : H a = some (.frz o (.lst xs))) : TyOf K H (.ref a) (.type "list")
  | tup {a : Addr} {xs : List V} (e : H a = some (.tup xs)) : TyOf K H (.ref a) (.type "tuple")
  | dK {a : Addr} {kvs : List (Key × V)} (e : H a = some (.dK kvs)) : TyOf K H (.ref a) (.type "dict")
  | dT {a : Addr} {kvs : List ((List Int × Int) × V)} (e : H a = some (.dT kvs)) : TyOf K H (.ref a) (.type "dict")
  | ins {a C dx : Addr} {fs : List (Str × V)} (e : H a = some (.ins C dx fs)) (cl : Cls K C) (ha : PySem.W.findIn K (.ref C) "__class__" = some (some (.builtin "object.__class__")))
      (hn : PySem.W.specialIn K (.builtin "object.__class__") "__get__" = some (some (.builtin "getset_descriptor.__get__"))) (htk : PySem.W.takesIn K (.builtin "object.__class__") = some true)
      (hm : PySem.W.mroIn K C (.type "object") = some true) : TyOf K H (.ref a) (.ref C)
end
end L2

namespace L2
open PySem PySem.Spec PyProof.Rows

/-! ### room -/
structure Room (k : Nat) (A : Around) : Prop where
  hd : A.handled = none
  dp : A.depth + 3 * k + 5 < recursionLimit
  un : A.units + 16 * k + 200 < cLine
theorem Room.mono {j k : Nat} {A : Around} (r : Room k A) (h : j ≤ k) : Room j A := ⟨r.hd, by have := r.dp; omega, by have := r.un; omega⟩
theorem Room.deeper {k : Nat} {A : Around} (r : Room (k + 1) A) (env : Env) : Room k (A.deeper env) :=
  ⟨r.hd, by have := r.dp; show A.depth + 1 + 3 * k + 5 < _; omega, by have := r.un; show A.units + 3 + 16 * k + 200 < _; omega⟩
theorem Room.in1 {k : Nat} {A : Around} (r : Room (k + 1) A) : Room k A.in1 :=
  ⟨r.hd, by have := r.dp; show A.depth + 3 * k + 5 < _; omega, by have := r.un; show A.units + 1 + 16 * k + 200 < _; omega⟩
theorem make_depth {A : Around} {C : Addr} {us : List Value} {kw : List (Str × Value)} : (A.under (.builtin "type.__call__" ⟨.ref C :: us, kw⟩)).depth = A.depth + 1 := by
  first | rfl | simp [Around.under, Code.weight, Code.isCreation, Code.isGuard, Code.isCaller, Code.frames, Code.isFrame, guardIds]
theorem make_units {A : Around} {C : Addr} {us : List Value} {kw : List (Str × Value)} : (A.under (.builtin "type.__call__" ⟨.ref C :: us, kw⟩)).units = A.units + 1 := by
  first | rfl | simp [Around.under, Code.cUnits, Code.frames, Code.isFrame]
theorem Room.make {k : Nat} {A : Around} (r : Room (k + 1) A) (C : Addr) (us : List Value) (kw : List (Str × Value)) : Room k (A.under (.builtin "type.__call__" ⟨.ref C :: us, kw⟩)) :=
  ⟨r.hd, by have := r.dp; rw [make_depth]; omega, by have := r.un; rw [make_units]; omega⟩
theorem Room.depth {k : Nat} {A : Around} (r : Room k A) : A.depth < recursionLimit := by have := r.dp; omega
theorem Room.units {k : Nat} {A : Around} (r : Room k A) : A.units + 64 < cLine := by have := r.un; omega
/-! ### argument lists and displays -/
def tNil : TA := fun _ H Q => Q [] H
def tCons (ta : TE) (tr : TA) : TA := fun σ H Q => ta σ H fun x H1 => tr σ H1 fun xs H2 => Q (x :: xs) H2
section
variable {X : Cx} {e : Expr} {es : List Expr} {te : TE} {t : TA} {pos : Pos}
theorem pa_nil : PA X [] tNil := fun _ _ _ _ H Q I h => Calls.spliced_nil ⟨[], H, I, .nil, h⟩
theorem pa_cons (ha : PE X e te) (hr : PA X es t) (hs : starEach (e :: es) X.env = (false, eval e X.env) :: starEach es X.env := by rfl) : PA X (e :: es) (tCons te t) := by
  intro pos pins s σ H Q I h
  rw [hs]
  show wpAny _ _ (spliced ((false, eval e X.env) :: backTo pos (starEach es X.env))) _ _ s
  refine Calls.spliced_cons (thn (ha pins s σ H _ I h) fun u s1 ⟨x, H1, I1, r1, q1⟩ => ?_)
  exact thn (hr pos pins s1 σ H1 _ I1 q1) fun us s2 ⟨xs, H2, I2, r2, q2⟩ => ⟨x :: xs, H2, I2, .cons r1 r2, q2⟩

/-- a tuple, a list of written items -/
def tTup (t : TA) : TE := fun σ H Q => t σ H fun xs H1 => xs.length ≤ sizeLine ∧ ∀ p, H1 p = none → Q (.ref p) (upd H1 p (.tup xs))
def tLst (t : TA) : TE := fun σ H Q => t σ H fun xs H1 => xs.length ≤ sizeLine ∧ ∀ p, H1 p = none → Q (.ref p) (upd H1 p (.lst xs))
theorem pe_tup {x1} (h : PA X es t) : PE X (.Tuple es x1 pos) (tTup t) := by
  intro pins s σ H Q I hq
  refine wpAny_Tuple_spliced (thn (h pos pins s σ H _ I hq) fun us s1 ⟨xs, H1, I1, r, z, q⟩ => ⟨by rw [← r.length]; exact z, ?_⟩)
  have hf : H1 s1.heap.objs.size = none := I1.hok.fresh (Nat.le_refl _)
  refine ⟨.ref s1.heap.objs.size, upd H1 s1.heap.objs.size (.tup xs), I1.laid (t' := s1.toks) (fun b u e => Heap.get?_push_of_some _ e) (Nat.le_refl _) ?_, rfl, q _ hf⟩
  exact ⟨⟨z, ⟨_, Heap.get?_push_size _ rfl, rfl⟩⟩, us, r, ⟨_, Heap.get?_push_size _ rfl, rfl, _, rfl⟩⟩
theorem pe_lst (h : PA X es t) : PE X (.List es pos) (tLst t) := by
  intro pins s σ H Q I hq
  refine wpAny_List_spliced (thn (h pos pins s σ H _ I hq) fun us s1 ⟨xs, H1, I1, r, z, q⟩ => ⟨by rw [← r.length]; exact z, ?_⟩)
  have hf : H1 s1.heap.objs.size = none := I1.hok.fresh (Nat.le_refl _)
  refine ⟨.ref s1.heap.objs.size, upd H1 s1.heap.objs.size (.lst xs), I1.laid (t' := s1.toks) (fun b u e => Heap.get?_push_of_some _ e) (Nat.le_refl _) ?_, rfl, q _ hf⟩
  exact ⟨z, us, 0, r, Heap.get?_push_size _ rfl⟩
end

/-! ### what a def promises -/
/-- a def's promise: the bound arguments in the parameters' order, the heap, the wanted end, the wanted exception -/
abbrev Sp := List V → Hp → VK → XK → Prop
/-- how an exception lies behind a call (file 08 gives it): the callers' frames, abstract heap and state ahead of the call, the wish, the exception, the state -/
abbrev CXT := List Env → Hp → Shared → XK → Value → Shared → Prop

/-- the state at a call -/
structure Env0 (P : Program) (w : World) (K : PySem.W.Frag) (mg : Str → Option Value) (base : Heap) (A : Around) (outer : List Env) (s : Shared) (H : Hp) : Prop where
  frames : A.frames = some outer
  mod : Mod K mg base
  bs : ∀ b o, base.get? b = some o → s.heap.get? b = some o ∧ H b = none
  bsz : base.objs.size ≤ s.heap.objs.size
  funs : s.heap.FunFrames base outer
  frf : ∀ b ∈ frs outer, H b = none
  hok : HOk P w H s.heap
  bare : AllBare s.gens
/-- a call's end -/
def CE (outer : List Env) (P : Program) (w : World) (H : Hp) (s : Shared) (Q : VK) (u : Value) (s' : Shared) : Prop :=
  ∃ v H', s'.os = s.os ∧ AllBare s'.gens ∧ Un (frs outer) [] H H' s.heap s'.heap ∧ HOk P w H' s'.heap ∧ RelV v u ∧ Q v H'
def CR (CX : CXT) (outer : List Env) (P : Program) (w : World) (H : Hp) (s : Shared) (Q : VK) (E : XK) (r : Result) (s' : Shared) : Prop :=
  match r with
  | .ok (.ret u) => CE outer P w H s Q u s'
  | .ok _ => False
  | .error e => CX outer H s E e s'
structure FnOk (P : Program) (w : World) (K : PySem.W.Frag) (mg : Str → Option Value) (base : Heap) (CX : CXT) (k : Nat) (f : Addr) (fd : FuncData) (ps : List Str) (sp : Sp) : Prop where
  len : ∀ vs H Q E, sp vs H Q E → vs.length = ps.length
  run : ∀ (A : Around) (outer : List Env) (s : Shared) (H : Hp) (args : Args) (us : List Value) (vs : List V) (Q : VK) (E : XK), Room k A → Env0 P w K mg base A outer s H → BindsTo s fd args (ps.zip us) → Vals vs us → sp vs H Q E →
    codeAny (model P w) A (.call (.ref f) args) (CR CX outer P w H s Q E) s
theorem FnOk.mono {P : Program} {w : World} {K : PySem.W.Frag} {mg : Str → Option Value} {base : Heap} {CX : CXT} {j k : Nat} {f : Addr} {fd : FuncData} {ps : List Str} {sp : Sp} (F : FnOk P w K mg base CX j f fd ps sp) (h : j ≤ k) :
    FnOk P w K mg base CX k f fd ps sp := ⟨F.len, fun A outer s H args us vs Q E hr => F.run A outer s H args us vs Q E (hr.mono h)⟩
/-- a weaker promise -/
theorem FnOk.imp {P : Program} {w : World} {K : PySem.W.Frag} {mg : Str → Option Value} {base : Heap} {CX : CXT} {k : Nat} {f : Addr} {fd : FuncData} {ps : List Str} {sp sp' : Sp} (F : FnOk P w K mg base CX k f fd ps sp)
    (h : ∀ vs H Q E, sp' vs H Q E → sp vs H Q E) : FnOk P w K mg base CX k f fd ps sp' :=
  ⟨fun vs H Q E q => F.len vs H Q E (h _ _ _ _ q), fun A outer s H args us vs Q E hr he hb hv hs => F.run A outer s H args us vs Q E hr he hb hv (h _ _ _ _ hs)⟩

theorem Env0.make {P : Program} {w : World} {K : PySem.W.Frag} {mg : Str → Option Value} {base : Heap} {A : Around} {outer : List Env} {s : Shared} {H : Hp} (e : Env0 P w K mg base A outer s H) (C : Addr) (us : List Value) (kw : List (Str × Value)) :
    Env0 P w K mg base (A.under (.builtin "type.__call__" ⟨.ref C :: us, kw⟩)) outer s H := ⟨by first | exact e.frames | (simpa [Around.under, Code.envs, Code.isFrame, pushEnvs] using e.frames), e.mod, e.bs, e.bsz, e.funs, e.frf, e.hok, e.bare⟩
theorem Env0.in1 {P : Program} {w : World} {K : PySem.W.Frag} {mg : Str → Option Value} {base : Heap} {A : Around} {outer : List Env} {s : Shared} {H : Hp} (e : Env0 P w K mg base A outer s H) :
    Env0 P w K mg base A.in1 outer s H := ⟨e.frames, e.mod, e.bs, e.bsz, e.funs, e.frf, e.hok, e.bare⟩

section
variable {X : Cx} {pins : List (Addr × Obj)} {σ : St} {H : Hp} {s s' : Shared}
/-- from a body: what a callee wants -/
theorem Inv.env0 (I : Inv X pins σ H s) : Env0 X.prog X.w X.K X.mg X.base X.A X.stack s H :=
  ⟨I.ok.frames, I.ok.mod, I.bs, Nat.le_trans I.ok.bsz I.sz, I.stack, I.stkFree, I.hok, I.bare⟩
/-- behind a call -/
theorem Inv.after {Q : VK} {u : Value} (I : Inv X pins σ H s) (h : CE X.stack X.prog X.w H s Q u s') : EP X pins σ Q u s' := by
  obtain ⟨v, H', os, bare, un, hok, r, q⟩ := h
  obtain ⟨hh, g, d, t, os'⟩ := s'
  obtain rfl : os' = s.os := os
  exact ⟨v, H', I.call (h' := hh) (g' := g) (d' := d) (t' := t) (ch := []) un hok bare (fun b z => absurd z (by simp)), r, q⟩
end

/-! ### calls -/
/-- f(..): the written arguments, then the defaults dvs; E: what is wanted of an exception -/
def tCall (sp : Sp) (dvs : List V) (E : XK) (t : TA) : TE := fun σ H Q => t σ H fun vs H1 => sp (vs ++ dvs) H1 Q E
/-- o.m(..) of an instance of the class at C -/
def tMeth (C : Addr) (m : Str) (sp : Sp) (dvs : List V) (E : XK) (ta : TE) (t : TA) : TE := fun σ H Q => ta σ H fun x H1 => ∃ a dx fs, x = .ref a ∧ H1 a = some (.ins C dx fs) ∧ fs.lookup m = none ∧
  t σ H1 fun vs H2 => sp (x :: (vs ++ dvs)) H2 Q E
/-- C(..): a new instance and its dict, then __init__ -/
def tMake (C : Addr) (sp : Sp) (dvs : List V) (E : XK) (t : TA) : TE := fun σ H Q => t σ H fun vs H1 => ∀ x dx, H1 x = none → H1 dx = none → dx ≠ x →
  sp (.ref x :: (vs ++ dvs)) (upd (upd H1 dx (.own x)) x (.ins C dx [])) (fun v H2 => v = .non ∧ Q (.ref x) H2) E

/-- how the parameters are bound: us the positional arguments, kw the keywords' values by name, ds the defaults that fill up -/
def Binds (K : PySem.W.Frag) (fd : FuncData) (ps : List Str) (ds : List Value) : Prop :=
  ∀ (s : Shared) (us : List Value), K.In s.heap → (us ++ ds).length = ps.length → BindsTo s fd ⟨us, []⟩ (ps.zip (us ++ ds))
/-- every parameter is given -/
theorem Binds.all {K : PySem.W.Frag} {fd : FuncData} {ps : List Str} (h : ∀ us : List Value, us.length = ps.length → bindArgs fd ⟨us, []⟩ = pure (ps.zip us)) : Binds K fd ps [] := fun s us _ hl => by
  rw [List.append_nil] at hl ⊢
  exact .of_eq (h us hl)

/-- an exception of a callee reaches what this body wants of exceptions -/
def Passes (CX : CXT) (X : Cx) (E : XK) : Prop := ∀ (pins : List (Addr × Obj)) (σ : St) (H : Hp) (s : Shared) (e : Value) (s' : Shared), Inv X pins σ H s → CX X.stack H s E e s' → X.xe e s'

section
variable {X : Cx} {CX : CXT} {k : Nat} {f C : Addr} {fd : FuncData} {ps : List Str} {sp : Sp} {dvs : List V} {ds : List Value} {E : XK} {x m : Str} {p pos apos : Pos} {e o : Expr} {es : List Expr} {ta : TE} {t : TA}

/-- the callee runs -/
theorem run_fn {pins : List (Addr × Obj)} {σ : St} {H : Hp} {s : Shared} {Q : VK} {us : List Value} {vs : List V} (F : FnOk X.prog X.w X.K X.mg X.base CX k f fd ps sp) (hr : Room k X.A) (hb : Binds X.K fd ps ds) (hd : Vals dvs ds) (hx : Passes CX X E)
    (I : Inv X pins σ H s) (r : Vals vs us) (h : sp (vs ++ dvs) H Q E) : wpAny (model X.prog X.w) X.A (call (.ref f) us) (EP X pins σ Q) X.xe s := by
  have r2 : Vals (vs ++ dvs) (us ++ ds) := r.append hd
  have hl : (us ++ ds).length = ps.length := by rw [← r2.length]; exact F.len _ _ _ _ h
  refine wpAny_call (codeAny_mono (F.run X.A X.stack s H ⟨us, []⟩ (us ++ ds) (vs ++ dvs) Q E hr I.env0 (hb s us I.kIn hl) r2 h) fun r s' hq => ?_)
  cases r with
  | error e => exact hx pins σ H s e s' I hq
  | ok fl =>
    cases fl with
    | ret u => exact I.after hq
    | next => exact False.elim hq
    | brk => exact False.elim hq
    | cont => exact False.elim hq

theorem pe_call (F : FnOk X.prog X.w X.K X.mg X.base CX k f fd ps sp) (hr : Room k X.A) (hg : Gl X x) (hm : X.mg x = some (.ref f)) (hk : PySem.W.keepIn X.K (.ref f) = true) (hb : Binds X.K fd ps ds) (hd : Vals dvs ds) (hx : Passes CX X E)
    (ha : PA X (e :: es) t) (hdb : (x == ("__debug__" : Str)) = false := by decide) (he : starEach (e :: es) X.env = (false, eval e X.env) :: starEach es X.env := by rfl) (hpl : (backTo pos (starEach es X.env)).any (·.1) = false := by rfl) :
    PE X (.Call (.Name x p) (e :: es) [] pos) (tCall sp dvs E t) := by
  intro pins s σ H Q I h
  refine wpAny_Call_Name_kw (ld_glob I hg hm ?_ hdb)
  refine PySem.W.callWith_K (h₀ := X.base) I.ok.mod.kin hk (thn (ha pos pins s σ H _ I h) fun us s1 ⟨vs, H1, I1, r, q⟩ => ⟨I1.kIn, ?_⟩) he hpl
  exact run_fn F hr hb hd hx I1 r q
/-- o.m(e, ..) -/
theorem pe_meth {pl : Sem Bool} (he : PE X o ta) (c : Cls X.K C) (hm : Meth X.K C m f) (F : FnOk X.prog X.w X.K X.mg X.base CX k f fd ps sp) (hr : Room k X.A) (hb : Binds X.K fd ps ds) (hd : Vals dvs ds) (hx : Passes CX X E) (ha : PA X (e :: es) t)
    (hst : starEach (e :: es) X.env = (false, eval e X.env) :: starEach es X.env := by rfl) (hpl : (backTo pos (starEach es X.env)).any (·.1) = false := by rfl)
    (ht : eval (.Call (.Attribute o m apos) (e :: es) [] pos) X.env = (do
      let ov ← eval o X.env
      standAt apos.atName
      let (f, first) ← holding [ov] (getMethod ov m pl)
      callWith pos f first (backTo pos (starEach (e :: es) X.env)) (backToKw pos (keywordEach [] X.env))) := by rfl) :
    PE X (.Call (.Attribute o m apos) (e :: es) [] pos) (tMeth C m sp dvs E ta t) := by
  intro pins s σ H Q I h
  refine PySem.W.methodCall_KW (pl := pl) (thn (he pins s σ H _ I h) fun u s1 ⟨x, H1, I1, rx, a, dx, fs, ex, ea, l, q⟩ => ?_) ht
  subst ex
  obtain rfl : u = Value.ref a := rx
  refine getmeth_ok I1 ea c hm l ?_
  refine PySem.W.callWith_K (first := [.ref a]) (h₀ := X.base) I.ok.mod.kin hm.kp (thn (ha pos pins s1 σ H1 _ I1 q) fun us s2 ⟨vs, H2, I2, r, q2⟩ => ⟨I2.kIn, ?_⟩) hst hpl
  exact run_fn (us := .ref a :: us) (vs := .ref a :: vs) F hr hb hd hx I2 (.cons rfl r) q2
/-- what a class must have to be made -/
structure Mk (K : PySem.W.Frag) (C f : Addr) : Prop where
  makes : PySem.W.makesIn K C = true
  init : PySem.W.findIn K (.ref C) "__init__" = some (some (.ref f))
  fn : PySem.W.isFn K (.ref f) = true
  kp : PySem.W.keepIn K (.ref C) = true

theorem run_make {pins : List (Addr × Obj)} {σ : St} {H : Hp} {s : Shared} {Q : VK} {us : List Value} {vs : List V} (M : Mk X.K C f) (F : FnOk X.prog X.w X.K X.mg X.base CX k f fd ps sp) (hr : Room (k + 1) X.A) (hb : Binds X.K fd ps ds) (hd : Vals dvs ds)
    (hx : Passes CX X E) (I : Inv X pins σ H s) (r : Vals vs us)
    (h : ∀ x dx, H x = none → H dx = none → dx ≠ x → sp (.ref x :: (vs ++ dvs)) (upd (upd H dx (.own x)) x (.ins C dx [])) (fun v H2 => v = .non ∧ Q (.ref x) H2) E) :
    wpAny (model X.prog X.w) X.A (call (.ref C) us) (EP X pins σ Q) X.xe s := by
  have hq := h (s.heap.objs.size + 1) s.heap.objs.size (I.hok.fresh (Nat.le_succ _)) (I.hok.fresh (Nat.le_refl _)) (Nat.ne_of_lt (Nat.lt_succ_self _))
  have I2 := Inv.made (C := C) I
  have r2 : Vals (V.ref (s.heap.objs.size + 1) :: (vs ++ dvs)) (Value.ref (s.heap.objs.size + 1) :: (us ++ ds)) := .cons rfl (r.append hd)
  have hl : (Value.ref (s.heap.objs.size + 1) :: us ++ ds).length = ps.length := by
    have e := r2.length
    rw [F.len _ _ _ _ hq] at e
    exact e.symm
  refine wpAny_call (make_map (f := f) I.kIn M.makes M.init (beq_iff_eq.mp M.fn) (codeAny_mono (F.run _ X.stack _ _ ⟨Value.ref (s.heap.objs.size + 1) :: us, []⟩ (Value.ref (s.heap.objs.size + 1) :: (us ++ ds)) _ _ E (hr.make C us [])
    (I2.env0.make C us []) (hb _ (Value.ref (s.heap.objs.size + 1) :: us) I2.kIn hl) r2 hq) fun r s' hq' => ?_))
  cases r with
  | error e => exact hx pins σ _ _ e s' I2 hq'
  | ok fl =>
    cases fl with
    | ret u =>
      obtain ⟨v, H', I3, rv, ev, q3⟩ := I2.after hq'
      subst ev
      exact ⟨rv, ⟨V.ref (s.heap.objs.size + 1), H', I3, rfl, q3⟩⟩
    | next => exact False.elim hq'
    | brk => exact False.elim hq'
    | cont => exact False.elim hq'
theorem pe_make (M : Mk X.K C f) (F : FnOk X.prog X.w X.K X.mg X.base CX k f fd ps sp) (hr : Room (k + 1) X.A) (hg : Gl X x) (hm : X.mg x = some (.ref C)) (hb : Binds X.K fd ps ds) (hd : Vals dvs ds) (hx : Passes CX X E)
    (ha : PA X (e :: es) t) (hdb : (x == ("__debug__" : Str)) = false := by decide) (he : starEach (e :: es) X.env = (false, eval e X.env) :: starEach es X.env := by rfl) (hpl : (backTo pos (starEach es X.env)).any (·.1) = false := by rfl) :
    PE X (.Call (.Name x p) (e :: es) [] pos) (tMake C sp dvs E t) := by
  intro pins s σ H Q I h
  refine wpAny_Call_Name_kw (ld_glob I hg hm ?_ hdb)
  refine PySem.W.callWith_K (h₀ := X.base) I.ok.mod.kin M.kp (thn (ha pos pins s σ H _ I h) fun us s1 ⟨vs, H1, I1, r, q⟩ => ⟨I1.kIn, ?_⟩) he hpl
  exact run_make M F hr hb hd hx I1 r q
end

/-! ### keywords -/
/-- the values of the keywords, from the left -/
def PK (X : Cx) (kws : List Keyword) (t : TA) : Prop :=
  ∀ (pos : Pos) (pins : List (Addr × Obj)) (s : Shared) (σ : St) (H : Hp) (Q : List V → Hp → Prop), Inv X pins σ H s → t σ H Q → wpAny (model X.prog X.w) X.A (evalAll ((backToKw pos (keywordEach kws X.env)).map (·.2))) (AP X pins σ Q) X.xe s
section
variable {X : Cx} {CX : CXT} {k : Nat} {f C : Addr} {fd : FuncData} {ps ks : List Str} {sp : Sp} {E : XK} {x m : Str} {p pos apos kpos : Pos} {e o : Expr} {es : List Expr} {kws : List Keyword} {te ta : TE} {t tk : TA} {nm : Option Str}
/-- how a call with keywords binds: g puts the positional values us and the keywords' values ws (names ks) in the parameters' order, defaults among them -/
structure KBinds (K : PySem.W.Frag) (fd : FuncData) (ps ks : List Str) (g : List Value → List Value → List Value) (gV : List V → List V → List V) : Prop where
  to : ∀ (s : Shared) (us ws : List Value), K.In s.heap → (g us ws).length = ps.length → BindsTo s fd ⟨us, ks.zip ws⟩ (ps.zip (g us ws))
  rel : ∀ {vs : List V} {us : List Value} {zs : List V} {ws : List Value}, Vals vs us → Vals zs ws → Vals (gV vs zs) (g us ws)
def tCallK (sp : Sp) (gV : List V → List V → List V) (E : XK) (t tk : TA) : TE := fun σ H Q => t σ H fun vs H1 => tk σ H1 fun zs H2 => sp (gV vs zs) H2 Q E
variable {g : List Value → List Value → List Value} {gV : List V → List V → List V}
end

/-! ### a def's body keeps its promise -/
/-- names: the parameters first -/
structure FnScope (N P : List Str) (sc : Scope) : Prop where
  kind : sc.kind = .function
  co : sc.isCoroutine = false
  gen : sc.isGenerator = false
  nd : N.Nodup
  pre : N.take P.length = P
  par : ∀ x ∈ P, sc.names.lookup x = some .local ∨ sc.names.lookup x = some .cell
  nofree : ∀ y ∈ sc.names, y.2 ≠ .free

theorem bindL_out {kindOf : Str → Option NameKind} {x : Str} : ∀ {binds : List (Str × Value)} {m : Str → Option Value}, (∀ v, (x, v) ∉ binds) → bindL kindOf binds m x = m x
  | [], _, _ => rfl
  | (n, v) :: r, m, h => by
    unfold bindL
    rw [bindL_out fun w hw => h w (List.mem_cons_of_mem _ hw)]
    split
    · have : x ≠ n := by rintro rfl; exact h v List.mem_cons_self
      simp [this]
    · rfl
theorem bindC_out {kindOf : Str → Option NameKind} {x : Str} : ∀ {binds : List (Str × Value)} {m : Str → Option Value}, (∀ v, (x, v) ∉ binds) → bindC kindOf binds m x = m x
  | [], _, _ => rfl
  | (n, v) :: r, m, h => by
    unfold bindC
    rw [bindC_out fun w hw => h w (List.mem_cons_of_mem _ hw)]
    split
    · rfl
    · have : x ≠ n := by rintro rfl; exact h v List.mem_cons_self
      simp [this]
theorem bindL_get {kindOf : Str → Option NameKind} {x : Str} {v : Value} : ∀ {P : List Str} {vs : List Value} {i : Nat} {m : Str → Option Value}, P.Nodup → P[i]? = some x → vs[i]? = some v → kindOf x = some .local →
    bindL kindOf (P.zip vs) m x = some v
  | [], _, _, _, _, h, _, _ => by simp at h
  | _ :: _, [], _, _, _, _, h, _ => by simp at h
  | p :: P, w :: vs, 0, m, nd, h1, h2, hk => by
    simp at h1 h2; subst h1; subst h2
    show bindL kindOf ((p, w) :: P.zip vs) m p = _
    unfold bindL
    rw [bindL_out fun v hv => (List.nodup_cons.mp nd).1 (List.of_mem_zip hv).1, if_pos hk]
    simp
  | p :: P, w :: vs, i + 1, m, nd, h1, h2, hk => by
    show bindL kindOf ((p, w) :: P.zip vs) m x = _
    unfold bindL
    exact bindL_get (i := i) (List.nodup_cons.mp nd).2 (by simpa using h1) (by simpa using h2) hk
theorem bindC_get {kindOf : Str → Option NameKind} {x : Str} {v : Value} : ∀ {P : List Str} {vs : List Value} {i : Nat} {m : Str → Option Value}, P.Nodup → P[i]? = some x → vs[i]? = some v → kindOf x ≠ some .local →
    bindC kindOf (P.zip vs) m x = some v
  | [], _, _, _, _, h, _, _ => by simp at h
  | _ :: _, [], _, _, _, _, h, _ => by simp at h
  | p :: P, w :: vs, 0, m, nd, h1, h2, hk => by
    simp at h1 h2; subst h1; subst h2
    show bindC kindOf ((p, w) :: P.zip vs) m p = _
    unfold bindC
    rw [bindC_out fun v hv => (List.nodup_cons.mp nd).1 (List.of_mem_zip hv).1, if_neg hk]
    simp
  | p :: P, w :: vs, i + 1, m, nd, h1, h2, hk => by
    show bindC kindOf ((p, w) :: P.zip vs) m x = _
    unfold bindC
    exact bindC_get (i := i) (List.nodup_cons.mp nd).2 (by simpa using h1) (by simpa using h2) hk

/-- the names' values at the entry -/
def start (N : List Str) (vs : List V) : St := vs.map some ++ List.replicate (N.length - vs.length) none

/-- the context of a def's body, at its entry; an exception leaves the frame, then lies as CX says -/
def cxOf (CX : CXT) (P : Program) (w : World) (K : PySem.W.Frag) (mg : Str → Option Value) (base : Heap) (N : List Str) (qual : Str) (scope : Scope) (f : Addr) (cd : Value) (A : Around) (outer : List Env) (s : Shared) (H : Hp) (E : XK) : Cx where
  prog := P
  w := w
  K := K
  mg := mg
  base := base
  A := A.deeper (envOfC qual scope s.heap.objs.size f cd)
  N := N
  s₀ := s
  H₀ := H
  env := envOfC qual scope s.heap.objs.size f cd
  outer := outer
  stack := envOfC qual scope s.heap.objs.size f cd :: outer
  ex := []
  calm := true
  fn := fun _ => true
  pn := []
  xe := fun e s' => wpAny (model P w) (A.deeper (envOfC qual scope s.heap.objs.size f cd)) (leaving (envOfC qual scope s.heap.objs.size f cd) e) (fun _ s'' => CX outer H s E e s'') (fun e' s'' => CX outer H s E e' s'') s'

theorem cell_has {sc : Scope} {n : Nat} {x : Str} (h : sc.names.lookup x = some .cell) : ∃ c, (cellsFrom n sc.names []).lookup x = some c := by
  have q := PySem.W.cellsFrom_some sc.names n [] (.inl h)
  exact Option.isSome_iff_exists.mp q

theorem inv_start {CX : CXT} {P : Program} {w : World} {K : PySem.W.Frag} {mg : Str → Option Value} {base : Heap} {N ps : List Str} {qual : Str} {scope : Scope} {f : Addr} {cd : Value} {A : Around} {outer : List Env} {s s1 : Shared} {H : Hp} {E : XK} {us : List Value} {vs : List V}
    (S : FnScope N ps scope) (hd : A.handled = none) (e0 : Env0 P w K mg base A outer s H) (hl : vs.length = ps.length) (r : Vals vs us)
    (x : InCallC s s.heap.objs.size (bindL (envOfC qual scope s.heap.objs.size f cd).kindOf (ps.zip us) fun _ => none) (cellsFrom (s.heap.objs.size + 1) scope.names []) (bindC (envOfC qual scope s.heap.objs.size f cd).kindOf (ps.zip us) fun _ => none) s1) :
    Inv (cxOf CX P w K mg base N qual scope f cd A outer s H E) [] (start N vs) H s1 := by
  have hpl : ps.length ≤ N.length := by have := congrArg List.length S.pre; rw [List.length_take] at this; omega
  obtain ⟨h1, tk, rfl, hk⟩ := x.done
  have noA : ∀ b : Addr, b ∉ (cxOf CX P w K mg base N qual scope f cd A outer s H E).ex := fun b z => absurd (show b ∈ ([] : List Addr) from z) (by simp)
  refine ⟨⟨e0.mod, S.kind, rfl, rfl, Nat.le_refl _, fun y z c h1 h2 => ?_, fun y hy => ?_, fun y c _ h => ?_, fun _ => hd, Around.frames_deeper e0.frames, .inr ⟨rfl, rfl⟩, fun b z => absurd z (noA b), e0.bs, e0.bsz, fun b _ _ => noA b, fun b z => absurd z (noA b), e0.funs, e0.frf⟩,
    rfl, e0.bare, Un.kept hk, ⟨_, x.toInCall.ns, fun i y v h1 h2 h3 => ?_⟩, fun y c h => ⟨_, x.cell y c h⟩, e0.hok.fresh (Nat.le_refl _), fun y c h => ?_, fun p hp => absurd (show p ∈ ([] : List (Addr × Obj)) from hp) (by simp), e0.hok.kept hk, ?_⟩
  · exact name_of_addr x.apart (PySem.mem_of_lookup h1) (PySem.mem_of_lookup h2)
  · have hy : scope.names.lookup y = some .cell ∨ scope.names.lookup y = some .free := hy
    rcases hy with hy | hy
    · exact cell_has hy
    · exact absurd rfl (S.nofree _ (PySem.mem_of_lookup hy))
  · exact Nat.le_of_lt (x.above y c (PySem.mem_of_lookup h))
  · have hi : i < vs.length := by
      unfold start at h2
      by_cases hi : i < vs.length
      · exact hi
      · rw [List.getElem?_append_right (by simpa using hi)] at h2
        rw [List.getElem?_replicate] at h2
        split at h2 <;> cases h2
    have ha : vs[i]? = some v := by
      unfold start at h2
      rw [List.getElem?_append_left (by simpa using hi), List.getElem?_map] at h2
      cases e : vs[i]? with
      | none => rw [e] at h2; cases h2
      | some a => rw [e] at h2; cases h2; rfl
    obtain ⟨u, hu, rv⟩ := r.get ha
    have hp : ps[i]? = some y := by
      rw [← S.pre, List.getElem?_take_of_lt (by omega)]; exact h1
    have ndP : ps.Nodup := by rw [← S.pre]; exact S.nd.sublist (List.take_sublist _ _)
    refine ⟨u, rv, ?_⟩
    rcases S.par y (List.mem_of_getElem? hp) with k | k
    · exact .inl ⟨k, bindL_get ndP hp hu k⟩
    · obtain ⟨c, e⟩ := cell_has (n := s.heap.objs.size + 1) k
      refine .inr ⟨.inl k, c, e, ?_⟩
      have q := x.cell y c e
      rw [bindC_get ndP hp hu (by show scope.names.lookup y ≠ _; rw [k]; decide)] at q
      exact q
  · exact e0.hok.fresh (Nat.le_of_lt (x.above y c (PySem.mem_of_lookup h)))
  · unfold start
    show _ = N.length
    rw [List.length_append, List.length_map, List.length_replicate]
    omega

/-- THE RULE: a def (or a method) of the text, by its body. The body's reading t is chosen for each entry; it is run at the parameters' values -/
theorem fn_of {CX : CXT} {P : Program} {w : World} {K : PySem.W.Frag} {mg : Str → Option Value} {base : Heap} {k : Nat} {f : Addr} {name qual : Str} {params : Arguments} {body : List Stmt} {scope : Scope} {dV kV doc pm cdv ct oc : Value} {an od : Option Addr}
    {osl : Array (Option Value)} {N ps : List Str} {sp : Sp} (lk : K.lookup f = some ⟨oc, od, .func (PySem.W.fnOf name qual params body scope dV kV doc pm an cdv ct), osl⟩) (hcd : PySem.W.codeIn K cdv qual = true) (S : FnScope N ps scope)
    (len : ∀ vs H Q E, sp vs H Q E → vs.length = ps.length)
    (hbody : ∀ (A : Around) (outer : List Env) (s : Shared) (H : Hp) (vs : List V) (Q : VK) (E : XK), Room k (A.deeper (envOfC qual scope s.heap.objs.size f cdv)) → sp vs H Q E →
      ∃ t, PSs (cxOf CX P w K mg base N qual scope f cdv A outer s H E) body t ∧ t { nx := fun _ H' => Q .non H', rt := Q } (start N vs) H) :
    FnOk P w K mg base CX (k + 1) f (PySem.W.fnOf name qual params body scope dV kV doc pm an cdv ct) ps sp := by
  refine ⟨len, fun A outer s H args us vs Q E hr e0 hb r hsp => ?_⟩
  have hl := len _ _ _ _ hsp
  have KX : K.In s.heap := e0.mod.kin.keeps fun b o e => (e0.bs b o e).1
  have lim : s.heap.NoLimit := e0.mod.nolimit.keeps fun b o e => (e0.bs b o e).1
  have hkind : ∀ y ∈ ps.zip us, scope.names.lookup y.1 = some .local ∨ (scope.names.lookup y.1 = some .cell ∧ ((cellsFrom (s.heap.objs.size + 1) scope.names []).lookup y.1).isSome = true) := fun ⟨n, v⟩ hy => by
    rcases S.par n (List.of_mem_zip hy).1 with q | q
    · exact .inl q
    · exact .inr ⟨q, PySem.W.cellsFrom_some _ _ _ (.inl q)⟩
  refine codeAny_call_function hr.depth (KX _ _ lk) rfl S.co S.gen rfl (PySem.W.codeRec_of KX hcd) (hb _ _ _ _ ?_)
  refine wpAny_newFunctionEnv_cells S.kind hkind fun env he s1 x => ?_
  subst he
  refine ⟨lim.keeps x.toInCall.keep, codeAny_func ?_⟩
  obtain ⟨t, ht, hq⟩ := hbody A outer s H vs Q E (hr.deeper _) hsp
  have I : Inv (cxOf CX P w K mg base N qual scope f cdv A outer s H E) [] (start N vs) H s1 := inv_start S hr.hd e0 hl r x
  refine wpAny_mono (ht [] s1 (start N vs) H _ I hq) (fun fl s' hs => ?_) fun e s' hs => hs
  have fin : ∀ {σ' : St} {H' : Hp} {v : V} {u : Value}, Inv (cxOf CX P w K mg base N qual scope f cdv A outer s H E) [] σ' H' s' → RelV v u → Q v H' → CE outer P w H s Q u s' :=
    fun {σ' H' v u} J rv q => ⟨v, H', J.os, J.bare, J.base, J.hok, rv, q⟩
  cases fl with
  | ret u =>
    obtain ⟨v, σ', H', J, rv, q⟩ := hs
    exact fin J rv q
  | next =>
    obtain ⟨σ', H', J, q⟩ := hs
    exact fin (v := V.non) (u := Value.none) J rfl q
  | brk =>
    obtain ⟨_, _, _, q⟩ := hs
    exact False.elim q
  | cont =>
    obtain ⟨_, _, _, q⟩ := hs
    exact False.elim q
end L2

namespace L2
open PySem PySem.Spec PyProof.Rows
section
variable {X : Cx} {x : Str} {p pos : Pos} {e : Expr} {es : List Expr} {t : TA} {id T : String} {r : List V → Hp → VK → Prop}

def tCB (r : List V → Hp → VK → Prop) (t : TA) : TE := fun σ H Q => t σ H fun vs H1 => r vs H1 Q
/-- f(e, ..), f a built-in function -/
theorem pe_callB (hc : CallR X (.builtin id) r) (hg : Gl X x) (hm : X.mg x = none) (hv : bootBuiltins x = some (.builtin id)) (ha : PA X (e :: es) t) (hn : x ≠ "__name__" := by decide) (hdb : (x == ("__debug__" : Str)) = false := by decide)
    (he : starEach (e :: es) X.env = (false, eval e X.env) :: starEach es X.env := by rfl) (hpl : (backTo pos (starEach es X.env)).any (·.1) = false := by rfl) : PE X (.Call (.Name x p) (e :: es) [] pos) (tCB r t) := by
  intro pins s σ H Q I h
  refine wpAny_Call_Name_kw (ld_blt I hg hm hv ?_ hn hdb)
  exact PyProof.Rows.callWith_builtin1 (thn (ha pos pins s σ H _ I h) fun us s1 ⟨vs, H1, I1, r1, q1⟩ => hc pins s1 σ H1 vs us Q I1 r1 q1) he hpl
/-- T(e, ..), T a built-in type -/
theorem pe_callTy (hc : CallR X (.type T) r) (hg : Gl X x) (hm : X.mg x = none) (hv : bootBuiltins x = some (.type T)) (ha : PA X (e :: es) t) (hn : x ≠ "__name__" := by decide) (hdb : (x == ("__debug__" : Str)) = false := by decide)
    (he : starEach (e :: es) X.env = (false, eval e X.env) :: starEach es X.env := by rfl) (hpl : (backTo pos (starEach es X.env)).any (·.1) = false := by rfl) : PE X (.Call (.Name x p) (e :: es) [] pos) (tCB r t) := by
  intro pins s σ H Q I h
  refine wpAny_Call_Name_kw (ld_blt I hg hm hv ?_ hn hdb)
  exact PyProof.Rows.callWith_type1 (thn (ha pos pins s σ H _ I h) fun us s1 ⟨vs, H1, I1, r1, q1⟩ => hc pins s1 σ H1 vs us Q I1 r1 q1) he hpl
end
end L2

namespace HT
open PySem PyProof.Rows

/-- t < u of tuples of ints -/
def lexLt : List Int → List Int → Bool
  | [], [] => false
  | [], _ :: _ => true
  | _ :: _, [] => false
  | x :: xs, y :: ys => if x = y then lexLt xs ys else decide (x < y)
section
open PySem.SeqAt
open PySem.AutoSeq1 (wpAny_loadPart')
open PySem.MeetsSeq PySem.MeetsSeq2 PySem.MeetsSeq3

end

section
variable {prog : Program} {w : World} {A : Around} {E : Value → Shared → Prop} {s : Shared}

/-! ### t[a:b], not the whole -/
/-- a slice's bound as a place among n (d where it is left out) -/
def sIx (n d : Nat) : Option Int → Nat
  | none => d
  | some v => if v < 0 then (v + (n : Int)).toNat else min v.toNat n
theorem sIx_none (n d : Nat) : sIx n d none = d := rfl
theorem sIx_nat (n d k : Nat) : sIx n d (some (k : Int)) = min k n := by
  show (if (k : Int) < 0 then ((k : Int) + (n : Int)).toNat else min (k : Int).toNat n) = min k n
  rw [if_neg (by omega), Int.toNat_natCast]
end
end HT

namespace L2
open PySem PySem.Spec PyProof.Rows

/-! ### the parts of a slice -/
abbrev TO := St → Hp → (Option Int → Hp → Prop) → Prop
/-- a slice's part (left out, or an int) -/
def PO (X : Cx) (e : Option Expr) (t : TO) : Prop :=
  ∀ (pins : List (Addr × Obj)) (s : Shared) (σ : St) (H : Hp) (Q : Option Int → Hp → Prop), Inv X pins σ H s → t σ H Q →
    wpAny (model X.prog X.w) X.A (evalPart e X.env) (fun u s' => ∃ o H', Inv X pins σ H' s' ∧ IsPart u o ∧ Q o H') X.xe s
def tNoPart : TO := fun _ H Q => Q none H
def tPart (t : TE) : TO := fun σ H Q => t σ H fun x H1 => ∃ i, x = .int i ∧ Q (some i) H1

theorem intsAre_of {ns : List Int} : ∀ {us : List Value}, Vals (ns.map V.int) us → IntsAre us ns := by
  induction ns with
  | nil => intro us r; rw [List.map_nil] at r; cases r; exact .nil
  | cons n ns ih =>
    intro us r
    rw [List.map_cons] at r
    cases r with
    | cons r1 r2 =>
      obtain ⟨t, e⟩ := r1
      subst e
      exact .cons n t (ih r2)

section
variable {X : Cx} {e : Expr} {te : TE} {lo hi : Option Expr} {tl th : TO} {pos p2 : Pos}

theorem po_none : PO X none tNoPart := by
  intro pins s σ H Q I h
  rw [evalPart_none]
  exact wpAny_pure ⟨none, H, I, .none, h⟩
theorem po_some (h : PE X e te) : PO X (some e) (tPart te) := by
  intro pins s σ H Q I hw
  rw [evalPart_some]
  refine thn (h pins s σ H _ I hw) fun u s1 ⟨x, H1, I1, r1, q1⟩ => ?_
  obtain ⟨i, rfl, q⟩ := q1
  obtain ⟨t, rfl⟩ := r1
  exact ⟨some i, H1, I1, .int i t, q⟩

/-- what a slice of a value is, by values: the slice object stands at sl -/
def SlR (X : Cx) (r : V → Option Int → Option Int → Hp → VK → Prop) : Prop :=
  ∀ (pins : List (Addr × Obj)) (s : Shared) (σ : St) (H : Hp) (x : V) (v vl vu : Value) (lo hi : Option Int) (sl : Addr) (Q : VK), Inv X pins σ H s → RelV x v → s.heap.IsSliceOf sl vl vu .none → IsPart vl lo → IsPart vu hi → r x lo hi H Q →
    ∃ T id, typeLookup (.type T) "__getitem__" = pure (some (.builtin id)) ∧ s.TypeIs v T ∧ wpAny (model X.prog X.w) X.A (getItem v (.ref sl)) (EP X pins σ Q) X.xe s
theorem SlR.or {r r' : V → Option Int → Option Int → Hp → VK → Prop} (h : SlR X r) (h' : SlR X r') : SlR X (fun x lo hi H Q => r x lo hi H Q ∨ r' x lo hi H Q) := by
  intro pins s σ H x v vl vu lo hi sl Q I rx hs pl pu q
  rcases q with q | q
  · exact h pins s σ H x v vl vu lo hi sl Q I rx hs pl pu q
  · exact h' pins s σ H x v vl vu lo hi sl Q I rx hs pl pu q
def tSl (r : V → Option Int → Option Int → Hp → VK → Prop) (te : TE) (tl th : TO) : TE := fun σ H Q => te σ H fun x H1 => tl σ H1 fun l H2 => th σ H2 fun u H3 => r x l u H3 Q
/-- a[lo:hi], any a -/
theorem pe_slice {r : V → Option Int → Option Int → Hp → VK → Prop} (hr : SlR X r) (he : PE X e te) (hl : PO X lo tl) (hu : PO X hi th) : PE X (.Subscript e (.Slice lo hi none p2) pos) (tSl r te tl th) := by
  intro pins s σ H Q I h
  refine Subscript_ (thn (he pins s σ H _ I h) fun v s1 ⟨x, H1, I1, r1, q1⟩ => ?_)
  refine wpAny_Slice (thn (hl pins s1 σ H1 _ I1 q1) fun vl s2 ⟨l, H2, I2, pl, q2⟩ => thn (hu pins s2 σ H2 _ I2 q2) fun vu s3 ⟨u, H3, I3, pu, q3⟩ => ?_)
  rw [evalPart_none]
  refine wpAny_pure ?_
  have I4 : Inv X pins σ H3 { s3 with heap := s3.heap.push { cls := .type "slice", data := .fields #[vl, vu, .none] } } := I3.kept (t' := s3.toks) fun b ob q => Heap.get?_push_of_some _ q
  obtain ⟨T, id, hT, ht, hg⟩ := hr pins { s3 with heap := s3.heap.push { cls := .type "slice", data := .fields #[vl, vu, .none] } } σ H3 x v vl vu l u s3.heap.objs.size Q I4 r1 (Heap.IsSliceOf.new ..) pl pu q3
  show wpAny (model X.prog X.w) X.A (subscriptTail e (.Slice lo hi none p2) v (.ref s3.heap.objs.size)) (EP X pins σ Q) X.xe { s3 with heap := s3.heap.push { cls := .type "slice", data := .fields #[vl, vu, .none] } }
  exact tail_any (ops := [.ref s3.heap.objs.size, v]) ht hT hg (by with_unfolding_all rfl)

/-- the items of xs[lo:hi] -/
def cutV (xs : List V) (lo hi : Option Int) : List V := (xs.drop (HT.sIx xs.length 0 lo)).take (HT.sIx xs.length xs.length hi - HT.sIx xs.length 0 lo)
theorem cutV_length (xs : List V) (lo hi : Option Int) : (cutV xs lo hi).length ≤ xs.length := by
  unfold cutV
  rw [List.length_take, List.length_drop]
  omega
/-- t[lo:hi], not the whole of it (the whole would be t itself) -/
def rSlT (K : PySem.W.Frag) : V → Option Int → Option Int → Hp → VK → Prop := fun x lo hi H Q => ∃ a xs, x = .ref a ∧ SqT K H a xs ∧
  ¬ (HT.sIx xs.length 0 lo = 0 ∧ HT.sIx xs.length xs.length hi = xs.length) ∧ ∀ p, H p = none → Q (.ref p) (upd H p (.tup (cutV xs lo hi)))
/-! ### t < u, t + u -/
def rLtT (K : PySem.W.Frag) : R2 := fun x y H Q => ∃ a b ns ms, x = .ref a ∧ y = .ref b ∧ SqT K H a (ns.map V.int) ∧ SqT K H b (ms.map V.int) ∧ Q (.bl (HT.lexLt ns ms)) H
/-- t + u, t not empty: u empty gives t itself -/
def rCatT (K : PySem.W.Frag) : R2 := fun x y H Q => ∃ a b xs ys, x = .ref a ∧ y = .ref b ∧ SqT K H a xs ∧ SqT K H b ys ∧ xs ≠ [] ∧ xs.length + ys.length ≤ sizeLine ∧
  (ys = [] → Q (.ref a) H) ∧ (ys ≠ [] → ∀ p, H p = none → Q (.ref p) (upd H p (.tup (xs ++ ys))))
end
end L2

namespace L2
open PySem PySem.Spec PyProof.Rows

/-! ### places -/
/-- the place that an index of any sign means -/
def ixN (n : Nat) (i : Int) : Option Nat := if 0 ≤ i then (if i < n then some i.toNat else none) else if -(n : Int) ≤ i then some (i + n).toNat else none
def atI {α : Type} (xs : List α) (i : Int) : Option α := (ixN xs.length i).bind fun j => xs[j]?
theorem ixN_seq {n : Nat} {i : Int} {j : Nat} (h : ixN n i = some j) : seqIndex? i n = some j ∧ j < n ∧ -(n : Int) ≤ i ∧ i < n := by
  unfold ixN at h
  by_cases h0 : 0 ≤ i
  · rw [if_pos h0] at h
    by_cases h1 : i < n
    · rw [if_pos h1] at h
      have e : i.toNat = j := Option.some.inj h
      exact ⟨by rw [seqIndex_of h0 h1, e], by omega, by omega, h1⟩
    · rw [if_neg h1] at h; cases h
  · rw [if_neg h0] at h
    by_cases h1 : -(n : Int) ≤ i
    · rw [if_pos h1] at h
      have e : (i + n).toNat = j := Option.some.inj h
      exact ⟨by rw [seqIndex_neg (by omega) h1, e], by omega, h1, by omega⟩
    · rw [if_neg h1] at h; cases h
theorem atI_get {α : Type} {xs : List α} {i : Int} {v : α} (h : atI xs i = some v) : ∃ j, seqIndex? i xs.length = some j ∧ xs[j]? = some v ∧ j < xs.length ∧ -(xs.length : Int) ≤ i ∧ i < xs.length := by
  unfold atI at h
  cases e : ixN xs.length i with
  | none => rw [e] at h; cases h
  | some j =>
    rw [e] at h
    obtain ⟨h1, h2, h3, h4⟩ := ixN_seq e
    exact ⟨j, h1, h, h2, h3, h4⟩
theorem atI_nat {α : Type} {xs : List α} {j : Nat} {v : α} (h : xs[j]? = some v) : atI xs (j : Int) = some v := by
  have hj : j < xs.length := (List.getElem?_eq_some_iff.mp h).1
  have e : ixN xs.length (j : Int) = some j := by
    unfold ixN
    rw [if_pos (by omega), if_pos (by omega)]; simp
  unfold atI; rw [e]; exact h
/-! ### what may be subscripted -/
/-- what stands as an index of a plain subscript -/
def PlainIx (b : Expr) : Prop := ∀ o i, subscripted b false o i = operate [o, i] (getItem o i)
/-- a subscript by values -/
def IxR (X : Cx) (r : R2) : Prop :=
  ∀ (value slice : Expr) (pins : List (Addr × Obj)) (s : Shared) (σ : St) (H : Hp) (x y : V) (v u : Value) (Q : VK), Inv X pins σ H s → RelV x v → RelV y u → r x y H Q →
    subscripted slice false v u = operate [v, u] (getItem v u) → wpAny (model X.prog X.w) X.A (subscriptTail value slice v u) (EP X pins σ Q) X.xe s
/-- a call of a builtin's method by values: the receiver, the arguments -/
def MtR (X : Cx) (id : String) (r : V → List V → Hp → VK → Prop) : Prop :=
  ∀ (pins : List (Addr × Obj)) (s : Shared) (σ : St) (H : Hp) (x : V) (xs : List V) (v : Value) (us : List Value) (Q : VK), Inv X pins σ H s → RelV x v → Vals xs us → r x xs H Q →
    wpAny (model X.prog X.w) X.A (call (.builtin id) (v :: us)) (EP X pins σ Q) X.xe s
section
variable {X : Cx} {a b : Expr} {ta tb : TE} {pos : Pos}
theorem IxR.or {r r' : R2} (h : IxR X r) (h' : IxR X r') : IxR X (fun x y H Q => r x y H Q ∨ r' x y H Q) := by
  intro value slice pins s σ H x y v u Q I rx ry q hs
  rcases q with q | q
  · exact h value slice pins s σ H x y v u Q I rx ry q hs
  · exact h' value slice pins s σ H x y v u Q I rx ry q hs
theorem MtR.or {id : String} {r r' : V → List V → Hp → VK → Prop} (h : MtR X id r) (h' : MtR X id r') : MtR X id (fun x xs H Q => r x xs H Q ∨ r' x xs H Q) := by
  intro pins s σ H x xs v us Q I rx rs q
  rcases q with q | q
  · exact h pins s σ H x xs v us Q I rx rs q
  · exact h' pins s σ H x xs v us Q I rx rs q
/-- a[b] -/
theorem pe_ix {r : R2} (hr : IxR X r) (ha : PE X a ta) (hb : PE X b tb) (hs : PlainIx b) : PE X (.Subscript a b pos) (tOp r ta tb) := by
  intro pins s σ H Q I h
  exact Subscript_ (binT ha hb I h fun v u s2 x y H2 I2 rx ry q => hr a b pins s2 σ H2 x y v u Q I2 rx ry q (hs _ _))

def rIxL (K : PySem.W.Frag) : R2 := fun x y H Q => ∃ p xs i v, x = .ref p ∧ y = .int i ∧ SqL K H p xs ∧ atI xs i = some v ∧ Q v H
def rIxT (K : PySem.W.Frag) : R2 := fun x y H Q => ∃ p xs i v, x = .ref p ∧ y = .int i ∧ SqT K H p xs ∧ atI xs i = some v ∧ Q v H
def rIxS : R2 := fun x y H Q => ∃ z i c, x = .str z ∧ y = .int i ∧ z.length ≤ sizeLine ∧ atI z.cps.toList i = some c ∧ Q (.str ⟨#[c]⟩) H
theorem ix_list : IxR X (rIxL X.K) := by
  intro value slice pins s σ H x y v u Q I rx ry h hs
  obtain ⟨p, xs, i, z, rfl, rfl, hq, he, q⟩ := h
  cases rx
  obtain ⟨t, rfl⟩ := ry
  obtain ⟨its, r, pl, hz⟩ := I.list hq
  obtain ⟨j, h1, h2, h3, h4, h5⟩ := atI_get he
  obtain ⟨w, ew, rw'⟩ := r.get h2
  have hl := r.length
  have hn := line63
  have fin : EP X pins σ Q w s := ⟨z, H, I, rw', q⟩
  by_cases h0 : 0 ≤ i
  · have hj : i.toNat = j := by
      rw [seqIndex_of h0 h5] at h1
      exact Option.some.inj h1
    exact item_listR pl.isList h0 (by omega) (by rw [hj]; simpa using ew) fin hs
  · have hj : (i + (its.toArray.size : Int)).toNat = j := by
      rw [seqIndex_neg (by omega) h4] at h1
      rw [List.size_toArray, ← hl]
      exact Option.some.inj h1
    exact subscriptTail_builtinR (x := w) pl.isList.typeIs slot_list_getitem.lookup
      (wpAny_getItem_list_neg (Q := fun r s' => r = w ∧ EP X pins σ Q r s') pl.isList (by omega) (by rw [List.size_toArray] <;> omega) (by omega) (by rw [hj]; simpa using ew) ⟨rfl, fin⟩) hs
theorem ix_tup : IxR X (rIxT X.K) := by
  intro value slice pins s σ H x y v u Q I rx ry h hs
  obtain ⟨p, xs, i, z, rfl, rfl, hq, he, q⟩ := h
  cases rx
  obtain ⟨t, rfl⟩ := ry
  obtain ⟨its, r, pl, hz⟩ := I.tuple hq
  obtain ⟨j, h1, h2, h3, h4, h5⟩ := atI_get he
  obtain ⟨w, ew, rw'⟩ := r.get h2
  have hl := r.length
  have hn := line63
  have fin : EP X pins σ Q w s := ⟨z, H, I, rw', q⟩
  exact subscriptTail_builtinR (x := w) pl.typeIs slot_tuple_getitem.lookup
    (getItem_tuple (j := j) (Q := fun r s' => r = w ∧ EP X pins σ Q r s') pl (by omega) (by omega) (by rw [List.size_toArray, ← hl]; exact h1) (by simpa using ew) ⟨rfl, fin⟩) hs
/-- list, tuple or str -/
def rIx (K : PySem.W.Frag) : R2 := fun x y H Q => rIxL K x y H Q ∨ rIxT K x y H Q ∨ rIxS x y H Q
/-! ### xs[i] = v, any sign -/
/-- the list's object behind a store -/
theorem mapSeq_set (its : List Value) (n j : Nat) (u : Value) : Obj.mapSeq (·.setIfInBounds j u) { cls := .type "list", data := .seq its.toArray n } = { cls := .type "list", data := .seq (its.set j u).toArray n } := by
  simp [Obj.mapSeq]
theorem Inv.lst {pins : List (Addr × Obj)} {σ : St} {H : Hp} {s : Shared} {p : Addr} {xs : List V} (I : Inv X pins σ H s) (h : H p = some (.lst xs)) :
    ∃ (its : List Value) (n : Nat), Vals xs its ∧ s.heap.get? p = some { cls := .type "list", data := .seq its.toArray n } ∧ xs.length ≤ sizeLine := by
  obtain ⟨z, its, n, r, e⟩ := I.hok p _ h
  exact ⟨its, n, r, e, z⟩
/-- the list at p is written by an update of its object -/
theorem Inv.lstUpd {pins : List (Addr × Obj)} {σ : St} {H : Hp} {s : Shared} {p : Addr} {xs ys : List V} {its its' : List Value} {n n' : Nat} {f : Obj → Obj} (I : Inv X pins σ H s) (h : H p = some (.lst xs))
    (ho : s.heap.get? p = some { cls := .type "list", data := .seq its.toArray n }) (hf : f { cls := .type "list", data := .seq its.toArray n } = { cls := .type "list", data := .seq its'.toArray n' }) (r : Vals ys its') (hz : ys.length ≤ sizeLine) (t : Nat) :
    Inv X pins σ (upd H p (.lst ys)) { s with heap := s.heap.update p f, toks := t } := by
  have e : (s.heap.update p f).get? p = some { cls := .type "list", data := .seq its'.toArray n' } := by
    rw [Heap.get?_update_self f ho (by rw [hf] <;> rfl), hf]
  refine I.write (x := p) (e := p) (by rw [h]; trivial) (.inl rfl) (fun b u hb q => (Heap.get?_update_other _ _ (Ne.symm hb)).trans q) ⟨_, e⟩ ?_
  exact ⟨hz, its', n', r, e⟩
def rSetL : V → V → V → Hp → (Hp → Prop) → Prop := fun o i v H Q => ∃ p xs k j, o = .ref p ∧ i = .int k ∧ H p = some (.lst xs) ∧ ixN xs.length k = some j ∧ Q (upd H p (.lst (xs.set j v)))
theorem set_list : PSet X rSetL := by
  intro pins s σ H o i v ov iv u Q I ro ri rv h
  obtain ⟨p, xs, k, j, rfl, rfl, hp, hj, q⟩ := h
  cases ro
  obtain ⟨t, rfl⟩ := ri
  obtain ⟨its, n, r, ho, hz⟩ := I.lst hp
  obtain ⟨h1, h2, h3, h4⟩ := ixN_seq hj
  have hl := r.length
  have hn := line63
  have I' : Inv X pins σ (upd H p (.lst (xs.set j v))) { s with heap := s.heap.update p (Obj.mapSeq (·.setIfInBounds j u)) } :=
    I.lstUpd hp ho (mapSeq_set its n j u) (r.set rv j) (by rw [List.length_set]; exact hz) s.toks
  by_cases h0 : 0 ≤ k
  · have hk : k.toNat = j := by
      rw [seqIndex_of h0 h4] at h1
      exact Option.some.inj h1
    exact PySem.W.ki_setAt ho h0 (by omega) (by rw [List.size_toArray, ← hl]; exact h4) (by rw [hk]; exact ⟨_, I', q⟩)
  · have hk : (k + (its.toArray.size : Int)).toNat = j := by
      rw [seqIndex_neg (by omega) h3] at h1
      rw [List.size_toArray, ← hl]
      exact Option.some.inj h1
    exact PySem.W.ki_setBack ho (by omega) (by rw [List.size_toArray, ← hl]; exact h3) (by omega) (by rw [hk]; exact ⟨_, I', q⟩)

/-! ### slices -/
theorem slice_bounds (lo hi : Option Int) (n : Nat) : (sliceBounds lo hi none n).1 = ((HT.sIx n 0 lo : Nat) : Int) ∧ (sliceBounds lo hi none n).2.1 = ((HT.sIx n n hi : Nat) : Int) ∧ (sliceBounds lo hi none n).2.2 = 1 := by
  refine ⟨?_, ?_, rfl⟩
  · cases lo with
    | none => simp [sliceBounds, HT.sIx]
    | some i =>
      simp only [sliceBounds, HT.sIx, Option.getD_none, show (1 : Int) > 0 by decide, if_true]
      by_cases h : i < 0
      · simp only [h, if_true] <;> omega
      · simp only [h, if_false] <;> omega
  · cases hi with
    | none => simp [sliceBounds, HT.sIx]
    | some i =>
      simp only [sliceBounds, HT.sIx, Option.getD_none, show (1 : Int) > 0 by decide, if_true]
      by_cases h : i < 0
      · simp only [h, if_true] <;> omega
      · simp only [h, if_false] <;> omega
theorem slicePick_cut (its : List Value) (lo hi : Option Int) : slicePick its.toArray lo hi none = ((its.drop (HT.sIx its.length 0 lo)).take (HT.sIx its.length its.length hi - HT.sIx its.length 0 lo)).toArray := by
  obtain ⟨h1, h2, h3⟩ := slice_bounds lo hi its.toArray.size
  unfold slicePick
  rw [h1, h2, h3]
  simp only [sliceRange_one, pick_run, List.size_toArray] <;> rfl
/-- xs[lo:hi] of a list: a new list -/
def rSlL (K : PySem.W.Frag) : V → Option Int → Option Int → Hp → VK → Prop := fun x lo hi H Q => ∃ a xs, x = .ref a ∧ SqL K H a xs ∧ ∀ p, H p = none → Q (.ref p) (upd H p (.lst (cutV xs lo hi)))
theorem sl_list : SlR X (rSlL X.K) := by
  intro pins s σ H x v vl vu lo hi sl Q I rx hs pl pu h
  obtain ⟨a, xs, rfl, hx, q⟩ := h
  cases rx
  obtain ⟨its, r, ht, hz⟩ := I.list hx
  have hlen := r.length
  refine ⟨"list", _, slot_list_getitem.lookup, ht.isList.typeIs, ?_⟩
  refine wpAny_getItem_list_slice ht.isList hs pl pu .none (by simp) ?_ (by rw [List.size_toArray] <;> omega)
  rw [slicePick_cut, ← hlen]
  refine ⟨.ref s.heap.objs.size, _, I.laid (t' := s.toks) (o := .lst (cutV xs lo hi)) (fun b ob q => Heap.get?_push_of_some _ q) (Nat.le_refl _) ?_, rfl, q _ (I.hok.fresh (Nat.le_refl _))⟩
  exact ⟨Nat.le_trans (cutV_length xs lo hi) hz, _, 0, (r.drop (HT.sIx xs.length 0 lo)).take (HT.sIx xs.length xs.length hi - HT.sIx xs.length 0 lo), Heap.get?_push_size _ rfl⟩

/-! ### in, not in: flat items -/
def flatV : V → Bool
  | .non => true
  | .bl _ => true
  | .int _ => true
  | .str _ => true
  | _ => false
/-- == of flat values -/
def eqV : V → V → Bool
  | .non, .non => true
  | .bl a, .bl b => a == b
  | .bl a, .int b => (if a then 1 else 0) == b
  | .int a, .bl b => a == (if b then 1 else 0)
  | .int a, .int b => a == b
  | .str a, .str b => a == b
  | _, _ => false
theorem eqAt_V {A : Around} {s : Shared} {y x : V} {u v : Value} (ry : RelV y u) (rx : RelV x v) (fy : flatV y = true) (fx : flatV x = true) : SeqAt.EqAt A s u v (eqV y x) := by
  cases y with
  | non =>
    cases ry
    cases x with
    | non => cases rx; exact SeqAt.EqAt.same _
    | bl b => cases rx; exact SeqAt.EqAt.none_bool b
    | int b => obtain ⟨t, rfl⟩ := rx; exact SeqAt.EqAt.none_int b t
    | str b => obtain ⟨t, rfl⟩ := rx; exact SeqAt.EqAt.none_str b t
    | _ => exact absurd (show false = true from fx) Bool.false_ne_true
  | bl a =>
    cases ry
    cases x with
    | non => cases rx; exact SeqAt.EqAt.bool_none a
    | bl b => cases rx; exact SeqAt.EqAt.bool_bool a b
    | int b => obtain ⟨t, rfl⟩ := rx; exact SeqAt.EqAt.bool_int a b t
    | str b => obtain ⟨t, rfl⟩ := rx; exact SeqAt.EqAt.bool_str a b t
    | _ => exact absurd (show false = true from fx) Bool.false_ne_true
  | int a =>
    obtain ⟨t', rfl⟩ := ry
    cases x with
    | non => cases rx; exact SeqAt.EqAt.int_none a t'
    | bl b => cases rx; exact SeqAt.EqAt.int_bool a t' b
    | int b => obtain ⟨t, rfl⟩ := rx; exact SeqAt.EqAt.int_int a t' b t
    | str b => obtain ⟨t, rfl⟩ := rx; exact SeqAt.EqAt.int_str a t' b t
    | _ => exact absurd (show false = true from fx) Bool.false_ne_true
  | str a =>
    obtain ⟨t', rfl⟩ := ry
    cases x with
    | non => cases rx; exact SeqAt.EqAt.str_none a t'
    | bl b => cases rx; exact SeqAt.EqAt.str_bool a t' b
    | int b => obtain ⟨t, rfl⟩ := rx; exact SeqAt.EqAt.str_int a t' b t
    | str b => obtain ⟨t, rfl⟩ := rx; exact SeqAt.EqAt.str_str a t' b t
    | _ => exact absurd (show false = true from fx) Bool.false_ne_true
  | _ => exact absurd (show false = true from fy) Bool.false_ne_true
/-- the items' answers, read off the values (a value's own answer does not lean on its token) -/
def eqU (x : V) (u : Value) : Bool := match u with
  | .none => eqV .non x
  | .bool b => eqV (.bl b) x
  | .int i _ => eqV (.int i) x
  | .str z _ => eqV (.str z) x
  | _ => false
theorem eqU_of {x y : V} {u : Value} (r : RelV y u) (f : flatV y = true) : eqU x u = eqV y x := by
  cases y with
  | non => cases r; rfl
  | bl b => cases r; rfl
  | int i => obtain ⟨t, rfl⟩ := r; rfl
  | str z => obtain ⟨t, rfl⟩ := r; rfl
  | _ => exact absurd (show false = true from f) Bool.false_ne_true
theorem any_eqU {x : V} : ∀ {xs : List V} {us : List Value}, Vals xs us → xs.all flatV = true → us.any (eqU x) = xs.any fun y => eqV y x
  | _, _, .nil, _ => rfl
  | y :: xs, u :: us, .cons r t, f => by
    rw [List.all_cons, Bool.and_eq_true] at f
    rw [List.any_cons, List.any_cons, eqU_of r f.1, any_eqU t f.2]
theorem mem_eqAt {A : Around} {s : Shared} {x : V} {v : Value} (rx : RelV x v) (fx : flatV x = true) : ∀ {xs : List V} {us : List Value}, Vals xs us → xs.all flatV = true → ∀ u ∈ us, SeqAt.EqAt A s u v (eqU x u)
  | _, _, .nil, _ => fun u hu => by cases hu
  | y :: xs, u :: us, .cons r t, f => fun u' hu => by
    rw [List.all_cons, Bool.and_eq_true] at f
    rcases List.mem_cons.mp hu with rfl | hu
    · rw [eqU_of r f.1]; exact eqAt_V r rx f.1 fx
    · exact mem_eqAt rx fx t f.2 u' hu
def inV (x : V) (xs : List V) : Bool := xs.any fun y => eqV y x
/-- x in a list or tuple of flat items -/
def rIn (K : PySem.W.Frag) (neg : Bool) : R2 := fun x y H Q => ∃ p xs, y = .ref p ∧ (SqL K H p xs ∨ SqT K H p xs) ∧ flatV x = true ∧ xs.all flatV = true ∧ Q (.bl (if neg then !inV x xs else inV x xs)) H
theorem op_in_seq : OpR X (compareOp .In) (rIn X.K false) := by
  intro pins s σ H x y v u Q I rx ry h
  obtain ⟨p, xs, rfl, hq, fx, fs, q⟩ := h
  cases ry
  rcases hq with hq | hq
  · obtain ⟨its, r, pl, hz⟩ := I.list hq
    refine SeqAt.in_listAt (eqU x) pl.isList (fun w hw => mem_eqAt rx fx r fs w (by simpa using hw)) ⟨.bl _, H, I, rfl, ?_⟩
    rw [show its.toArray.any (eqU x) = its.any (eqU x) by simp, any_eqU r fs]
    exact q
  · obtain ⟨its, r, pl, hz⟩ := I.tuple hq
    refine SeqAt.in_tupleAt (eqU x) pl (fun w hw => mem_eqAt rx fx r fs w (by simpa using hw)) ⟨.bl _, H, I, rfl, ?_⟩
    rw [show its.toArray.any (eqU x) = its.any (eqU x) by simp, any_eqU r fs]
    exact q
/-! ### len, list(x), tuple(x) of any list or tuple that is read -/
theorem call_len_seq : CallR X (.builtin "len") (fun xs H Q => ∃ p ys, xs = [.ref p] ∧ (SqL X.K H p ys ∨ SqT X.K H p ys) ∧ Q (.int ys.length) H) := by
  intro pins s σ H xs us Q I r h
  obtain ⟨p, ys, rfl, hq, q⟩ := h
  obtain ⟨u, rfl, rx⟩ := vals1 r
  cases rx
  have hn := line63
  rcases hq with hq | hq
  · obtain ⟨its, r', pl, hz⟩ := I.list hq
    have hlen := r'.length
    exact Calls.call_len_list pl.isList (by simp only [List.size_toArray] <;> omega) ⟨.int ys.length, H, I.tok _, ⟨s.toks + 1, by rw [List.size_toArray, hlen]⟩, q⟩
  · obtain ⟨its, r', pl, hz⟩ := I.tuple hq
    have hlen := r'.length
    exact len_tuple pl (by simp only [List.size_toArray] <;> omega) ⟨.int ys.length, H, I.tok _, ⟨s.toks + 1, by rw [List.size_toArray, hlen]⟩, q⟩
theorem CallR.or {f : Value} {r r' : List V → Hp → VK → Prop} (h : CallR X f r) (h' : CallR X f r') : CallR X f (fun xs H Q => r xs H Q ∨ r' xs H Q) := by
  intro pins s σ H xs us Q I rs q
  rcases q with q | q
  · exact h pins s σ H xs us Q I rs q
  · exact h' pins s σ H xs us Q I rs q
theorem call_list_of : CallR X (.type "list") (fun xs H Q => ∃ p ys, xs = [.ref p] ∧ (SqL X.K H p ys ∨ SqT X.K H p ys) ∧ ∀ l, H l = none → Q (.ref l) (upd H l (.lst ys))) := by
  intro pins s σ H xs us Q I r h
  obtain ⟨p, ys, rfl, hq, q⟩ := h
  obtain ⟨u, rfl, rx⟩ := vals1 r
  cases rx
  have fin : ∀ (its : List Value), Vals ys its → ys.length ≤ sizeLine → ∀ (h' : Heap) (c' : Nat), (∀ b o', s.heap.get? b = some o' → h'.get? b = some o') →
      h'.get? s.heap.objs.size = some { cls := .type "list", dict := none, data := .seq its.toArray c', slots := #[] } → EP X pins σ Q (.ref s.heap.objs.size) { s with heap := h' } := fun its r' hz h' c' kp e =>
    ⟨.ref s.heap.objs.size, _, I.laid (t' := s.toks) kp (Nat.le_refl _) (show ObjOk X.prog X.w _ h' _ (.lst ys) from ⟨hz, its, c', r', e⟩), rfl, q _ (I.hok.fresh (Nat.le_refl _))⟩
  rcases hq with hq | hq
  · obtain ⟨its, r', pl, hz⟩ := I.list hq
    have hlen := r'.length
    obtain ⟨o, ho, hc, n, hd⟩ := pl.isList
    exact call_list_seq p (.inl rfl) ho hc hd (fun h' c' kp e => fin its r' hz h' c' kp e) (by simp only [List.size_toArray] <;> omega)
  · obtain ⟨its, r', pl, hz⟩ := I.tuple hq
    have hlen := r'.length
    obtain ⟨o, ho, hc, n, hd⟩ := pl
    exact call_list_seq p (.inr rfl) ho hc hd (fun h' c' kp e => fin its r' hz h' c' kp e) (by simp only [List.size_toArray] <;> omega)
theorem call_tuple_of : CallR X (.type "tuple") (fun xs H Q => ∃ p ys, xs = [.ref p] ∧ ((SqL X.K H p ys ∧ ∀ l, H l = none → Q (.ref l) (upd H l (.tup ys))) ∨ (SqT X.K H p ys ∧ Q (.ref p) H))) := by
  intro pins s σ H xs us Q I r h
  obtain ⟨p, ys, rfl, h⟩ := h
  obtain ⟨u, rfl, rx⟩ := vals1 r
  cases rx
  rcases h with ⟨hq, q⟩ | ⟨hq, q⟩
  · obtain ⟨its, r', pl, hz⟩ := I.list hq
    have hlen := r'.length
    refine call_tuple_list pl.isList (fun h' kp => ?_) (by simp only [List.size_toArray] <;> omega)
    have I1 : Inv X pins σ H { s with heap := h' } := I.kept (t' := s.toks) kp
    have I2 : Inv X pins σ (upd H h'.objs.size (.tup ys)) { s with heap := h'.push { cls := .type "tuple", data := .seq its.toArray } } :=
      I1.laid (t' := s.toks) (fun b o e => Heap.get?_push_of_some _ e) (Nat.le_refl _) (show ObjOk X.prog X.w _ _ _ (.tup ys) from ⟨⟨hz, ⟨_, Heap.get?_push_size _ rfl, rfl⟩⟩, its, r', IsTup.new _ _⟩)
    exact ⟨.ref h'.objs.size, _, I2, rfl, q _ (I1.hok.fresh (Nat.le_refl _))⟩
  · obtain ⟨its, r', pl, hz⟩ := I.tuple hq
    exact call_tuple_same pl ⟨.ref p, H, I, rfl, q⟩

/-! ### the call of a builtin's method: o.m(..) -/
/-- the value is of that builtin type -/
def tyV (K : PySem.W.Frag) (T : String) (x : V) (H : Hp) : Prop := match x with
  | .str _ => T = "str"
  | .int _ => T = "int"
  | .ref p => (T = "list" ∧ ∃ xs, SqL K H p xs) ∨ (T = "tuple" ∧ ((∃ o, K.lookup p = some o ∧ o.cls = .type "tuple" ∧ o.dict = none) ∨ ∃ xs, H p = some (.tup xs))) ∨
      (T = "dict" ∧ ((∃ kvs, H p = some (.dK kvs)) ∨ ∃ kvs, H p = some (.dT kvs))) ∨ (T = "set" ∧ ∃ S n, H p = some (.set S n))
  | _ => False
theorem tyV_is {pins : List (Addr × Obj)} {σ : St} {H : Hp} {s : Shared} {T : String} {x : V} {v : Value} (I : Inv X pins σ H s) (r : RelV x v) (ty : tyV X.K T x H) :
    s.TypeIs v T ∧ ∀ a, v = .ref a → ∃ ob, s.heap.get? a = some ob ∧ ob.dict = none := by
  cases x with
  | str z =>
    obtain ⟨t, rfl⟩ := r
    cases (show T = "str" from ty)
    exact ⟨typeIs_str s z t, fun _ e => nomatch e⟩
  | int i =>
    obtain ⟨t, rfl⟩ := r
    cases (show T = "int" from ty)
    exact ⟨typeIs_int s i t, fun _ e => nomatch e⟩
  | ref p =>
    cases r
    rcases ty with ⟨rfl, xs, hq⟩ | ⟨rfl, ⟨o, hk, hc, hd⟩ | ⟨ys, hk⟩⟩ | ⟨rfl, hk⟩ | ⟨rfl, S, n, hk⟩
    · obtain ⟨its, _, pl, _⟩ := I.list hq
      refine ⟨pl.isList.typeIs, fun a e => ?_⟩
      cases e
      obtain ⟨o, n, e, c, hd, _⟩ := pl
      exact ⟨o, e, hd⟩
    · refine ⟨⟨o, I.kIn p o hk, hc⟩, fun a e => ?_⟩
      cases e
      exact ⟨o, I.kIn _ o hk, hd⟩
    · obtain ⟨⟨_, o2, e2, d2⟩, _, _, ⟨o1, e1, c1, _⟩⟩ := (show ObjOk X.prog X.w H s.heap p (.tup ys) from I.hok p _ hk)
      refine ⟨⟨o1, e1, c1⟩, fun a ea => ?_⟩
      cases ea
      exact ⟨o2, e2, d2⟩
    · have z : ∃ o, s.heap.get? p = some o ∧ o.ExactDict := by
        rcases hk with ⟨kvs, hk⟩ | ⟨kvs, hk⟩
        · obtain ⟨_, _, _, _, o, _, _, e, ex, _⟩ := I.hok p _ hk
          exact ⟨o, e, ex⟩
        · obtain ⟨_, _, _, _, o, _, _, e, ex, _⟩ := I.hok p _ hk
          exact ⟨o, e, ex⟩
      obtain ⟨o, e, ex⟩ := z
      refine ⟨⟨o, e, ex.1⟩, fun a e2 => ?_⟩
      cases e2
      exact ⟨o, e, ex.2.1⟩
    · obtain ⟨o, _, _, _, e, ex, _⟩ := I.hok p _ hk
      refine ⟨⟨o, e, ex.1⟩, fun a e2 => ?_⟩
      cases e2
      exact ⟨o, e, ex.2.1⟩
  | _ => exact False.elim ty
def tBM0 (K : PySem.W.Frag) (T : String) (r : V → List V → Hp → VK → Prop) (to : TE) : TE := fun σ H Q => to σ H fun x H1 => tyV K T x H1 ∧ r x [] H1 Q
def tBM (K : PySem.W.Frag) (T : String) (r : V → List V → Hp → VK → Prop) (to : TE) (t : TA) : TE := fun σ H Q => to σ H fun x H1 => tyV K T x H1 ∧ t σ H1 fun xs H2 => r x xs H2 Q
variable {o e : Expr} {es : List Expr} {to : TE} {t : TA} {name : Str} {apos cpos : Pos} {T id : String} {r : V → List V → Hp → VK → Prop}
theorem pe_bm (pa : PlainAttrs T) (slot : Slot T name id) (hty : typeOf (.builtin id) = pure (.type "method_descriptor")) (hm : MtR X id r) (ho : PE X o to) (ha : PA X (e :: es) t)
    (hbase : attributeBase o name X.env (eval o X.env) = eval o X.env := by rfl)
    (hfew : ((backTo cpos (starEach (e :: es) X.env)).all (fun x => !x.1) && (backToKw cpos (keywordEach [] X.env)).all (fun x => x.1.isSome)
      && decide ((e :: es).length + ([] : List Keyword).length + (if ([] : List Keyword).isEmpty then 0 else 1) < 30)) = true := by rfl)
    (hline : (apos.endLine == cpos.line) = true := by rfl) (hs : starEach (e :: es) X.env = (false, eval e X.env) :: starEach es X.env := by rfl) (hplain : (backTo cpos (starEach es X.env)).any (·.1) = false := by rfl) :
    PE X (.Call (.Attribute o name apos) (e :: es) [] cpos) (tBM X.K T r to t) := by
  intro pins s σ H Q I h
  refine wpAny_Call_method_late hbase hfew hline rfl (thn (ho pins s σ H _ I h) fun v s1 ⟨x, H1, I1, r1, ty, q1⟩ => ?_)
  obtain ⟨h1, h2⟩ := tyV_is I1 r1 ty
  refine ⟨T, id, pa, slot, hty, h1, h2, ?_⟩
  have hA := ha cpos pins s1 σ H1 _ I1 q1
  rw [hs] at hA ⊢
  refine Calls.callWith_builtin (by show (false || (backTo cpos (starEach es X.env)).any (·.1)) = false; rw [hplain] <;> rfl) (Calls.evalArgs_plain ?_)
  exact thn hA fun us s2 ⟨vs, H2, I2, r2, q2⟩ => hm pins s2 σ H2 x vs v us Q I2 r1 r2 q2
/- xs.append(e), list.index on a module's tuple .. are MtR facts of 06m -/
end
end L2

namespace L2
open PySem PySem.Spec PyProof.Rows

def MtM (X : Cx) (id : String) (r : V → List V → Hp → VK → Prop) : Prop :=
  ∀ (pins : List (Addr × Obj)) (s : Shared) (σ : St) (H : Hp) (x : V) (xs : List V) (v : Value) (us : List Value) (Q : VK), Inv X pins σ H s → RelV x v → Vals xs us → r x xs H Q →
    wpAny (model X.prog X.w) X.A (call (.builtin id) (v :: us)) (EP X pins σ Q) X.xe s

/-! ### lists of values -/
theorem Vals.one : ∀ {x : V} {us : List Value}, Vals [x] us → ∃ u, us = [u] ∧ RelV x u
  | _, _, .cons r .nil => ⟨_, rfl, r⟩
theorem Vals.two : ∀ {x y : V} {us : List Value}, Vals [x, y] us → ∃ u v, us = [u, v] ∧ RelV x u ∧ RelV y v
  | _, _, _, .cons r (.cons q .nil) => ⟨_, _, rfl, r, q⟩
theorem Vals.zero : ∀ {us : List Value}, Vals [] us → us = []
  | _, .nil => rfl
theorem Vals.dropLast {xs : List V} {us : List Value} (h : Vals xs us) : Vals xs.dropLast us.dropLast := by
  induction h with
  | nil => exact .nil
  | cons r t ih =>
    cases t with
    | nil => exact .nil
    | cons q t' => exact .cons r ih
theorem Vals.eraseIdx : ∀ {xs : List V} {us : List Value} (i : Nat), Vals xs us → Vals (xs.eraseIdx i) (us.eraseIdx i)
  | _, _, _, .nil => .nil
  | _, _, 0, .cons _ t => t
  | _, _, i + 1, .cons r t => .cons r (Vals.eraseIdx i t)
theorem Vals.reverse {xs : List V} {us : List Value} (h : Vals xs us) : Vals xs.reverse us.reverse := by
  induction h with
  | nil => exact .nil
  | cons r t ih => rw [List.reverse_cons, List.reverse_cons]; exact Vals.append ih (.cons r .nil)
section
variable {X : Cx} {pins : List (Addr × Obj)} {σ : St} {H : Hp} {s : Shared} {l b : Addr} {xs ys zs : List V}

/-! ### the two steps: a tracked list is rewritten, a new list is laid -/
theorem Inv.lset {its its' : List Value} {n : Nat} {f : Array Value → Array Value} {t' : Nat} (I : Inv X pins σ H s) (hH : H l = some (.lst xs))
    (e : s.heap.get? l = some { cls := .type "list", data := .seq its.toArray n }) (hf : f its.toArray = its'.toArray) (hv : Vals ys its') (hz : ys.length ≤ sizeLine) :
    Inv X pins σ (upd H l (.lst ys)) { s with heap := s.heap.update l (Obj.mapSeq f), toks := t' } := by
  have q := PySem.IsL.update e f
  rw [hf] at q
  refine I.write (x := l) (e := l) (by rw [hH]; exact trivial) (.inl rfl) (fun b' u hb hu => (Heap.get?_update_other s.heap (Obj.mapSeq f) (Ne.symm hb)).trans hu) ⟨_, q⟩ ?_
  exact ⟨hz, its', _, hv, q⟩
theorem Inv.fresh (I : Inv X pins σ H s) : H s.heap.objs.size = none := I.hok.fresh (Nat.le_refl _)
theorem Inv.lstM (I : Inv X pins σ H s) (hH : H l = some (.lst xs)) : xs.length ≤ sizeLine ∧ ∃ (its : List Value) (n : Nat), Vals xs its ∧ xs.length = its.length ∧ s.heap.get? l = some { cls := .type "list", data := .seq its.toArray n } := by
  obtain ⟨z, its, n, r, e⟩ := I.hok l _ hH
  exact ⟨z, its, n, r, r.length, e⟩

end

section
variable {X : Cx}

/-! ### methods -/
def rAppend : V → List V → Hp → VK → Prop := fun x vs H Q => ∃ l xs y, x = .ref l ∧ vs = [y] ∧ H l = some (.lst xs) ∧ xs.length < sizeLine ∧ Q .non (upd H l (.lst (xs ++ [y])))
theorem mt_append : MtM X "list.append" rAppend := by
  intro pins s σ H x vs v us Q I rx rv h
  obtain ⟨l, xs, y, rfl, rfl, hH, hz, q⟩ := h
  cases rx
  obtain ⟨u, rfl, ru⟩ := rv.one
  obtain ⟨z, its, n, r, hl, e⟩ := I.lstM hH
  refine call_meets F.slot_list_append ⟨_, e, rfl⟩ F.entry_list_append (F.args_list_append_2 _ _) (PySem.list_append l its.toArray n u (by rw [List.size_toArray]; omega)) ⟨e, ?_⟩
  refine ⟨.non, _, I.lset (its' := its ++ [u]) hH e (by simp) (r.append (.cons ru .nil)) ?_, rfl, q⟩
  rw [List.length_append, List.length_singleton]
  omega

def rExtend : V → List V → Hp → VK → Prop := fun x vs H Q => ∃ l b xs zs, x = .ref l ∧ vs = [.ref b] ∧ H l = some (.lst xs) ∧ H b = some (.lst zs) ∧ xs.length + zs.length ≤ sizeLine ∧ Q .non (upd H l (.lst (xs ++ zs)))
def rPop : V → List V → Hp → VK → Prop := fun x vs H Q => ∃ l xs y, x = .ref l ∧ vs = [] ∧ H l = some (.lst xs) ∧ xs[xs.length - 1]? = some y ∧ Q y (upd H l (.lst xs.dropLast))
def rPopAt : V → List V → Hp → VK → Prop := fun x vs H Q => ∃ l xs i k y, x = .ref l ∧ vs = [.int i] ∧ H l = some (.lst xs) ∧ -(2 ^ 63) ≤ i ∧ i < 2 ^ 63 ∧ seqIndex? i xs.length = some k ∧ xs[k]? = some y ∧ Q y (upd H l (.lst (xs.eraseIdx k)))
def rReverse : V → List V → Hp → VK → Prop := fun x vs H Q => ∃ l xs, x = .ref l ∧ vs = [] ∧ H l = some (.lst xs) ∧ Q .non (upd H l (.lst xs.reverse))
def rClear : V → List V → Hp → VK → Prop := fun x vs H Q => ∃ l xs, x = .ref l ∧ vs = [] ∧ H l = some (.lst xs) ∧ Q .non (upd H l (.lst []))
/-! ### list + list, list += list, list * int -/
def rCat : R2 := fun x y H Q => ∃ l b xs zs, x = .ref l ∧ y = .ref b ∧ H l = some (.lst xs) ∧ H b = some (.lst zs) ∧ xs.length + zs.length ≤ sizeLine ∧ ∀ p, H p = none → Q (.ref p) (upd H p (.lst (xs ++ zs)))
/-- a list times an int (a negative one is nothing) -/
def rRep : R2 := fun x y H Q => ∃ l k xs, x = .ref l ∧ y = .int k ∧ H l = some (.lst xs) ∧ -(2 ^ 63) ≤ k ∧ k < 2 ^ 63 ∧ xs.length * k.toNat ≤ sizeLine ∧
  ∀ p, H p = none → Q (.ref p) (upd H p (.lst (List.replicate k.toNat xs).flatten))
/-! ### del xs[i] -/
end

/-! ### xs[a:b] = ys -/
section
variable {prog : Program} {w : World} {A : Around} {E : Value → Shared → Prop} {s : Shared}
end

section
variable {X : Cx}
end
end L2

namespace Att
open PySem PySem.W PySem.Calls PyProof.Rows

/-! ### the script -/
theorem ints_of_wellAll {P : Params} {h : Heap} : ∀ (ns : List Int) (vs : List Value), WellAll P h vs (ns.map WData.int) → IntsAre vs ns := by
  intro ns
  induction ns with
  | nil =>
    intro vs w
    rw [List.map_nil] at w
    cases w
    exact .nil
  | cons n ns ih =>
    intro vs w
    rw [List.map_cons] at w
    cases w with
    | cons a b =>
      cases a
      exact .cons _ _ (ih _ b)

theorem script_of {l : OpenLaw} {n : Nat} (hn : l.most = some n) {P : Params} {h : Heap} {args : List WData} {vals : List Value}
    (hpre : l.row.toRowW.claim.pre args = true) (hwl : WellAll P h vals args) :
    ∃ a vs ns, vals = [Value.ref a] ∧ args = [WData.list (ns.map WData.int)] ∧ h.get? a = some { cls := .type "list", data := .seq vs.toArray } ∧ IntsAre vs ns ∧ ns.length ≤ n := by
  have hsh : WShape.hasAll [] args [.list .int] = true := (pre_splitW hpre).1
  have hc : l.pre.holds [] { args := args } = true := (pre_splitW hpre).2
  obtain ⟨d, r, rfl, h1, h2⟩ := hasAllW_cons hsh
  obtain rfl := hasAllW_nil h2
  obtain ⟨xs, rfl, h3⟩ := hasW_list h1
  obtain ⟨ns, rfl⟩ := items_int h3
  have hlen : ns.length ≤ n := by
    unfold OpenLaw.pre at hc
    have h4 : (WTm.not (.lt (.lit (.int (n : Int))) (.len (.arg 0)))).holds [] { args := [.list (ns.map .int)] } = true := by
      have h4 := (holds_andW hc).1
      rw [hn] at h4
      exact h4
    have h5 := condW_of h4 (w_not (w_lt w_lit (w_len_list (w_arg rfl))))
    rw [List.length_map] at h5
    refine Nat.le_of_not_lt fun q => ?_
    have q' : (n : Int) < ((ns.length : Nat) : Int) := by omega
    first
      | (rw [decide_eq_true q'] at h5; exact absurd h5 (by decide))
      | (simp at h5; omega)
  cases hwl with
  | cons w1 w2 =>
    cases w2
    cases w1 with
    | list ho hall => exact ⟨_, _, ns, rfl, rfl, ho, ints_of_wellAll ns _ hall, hlen⟩

theorem post_true (l : OpenLaw) (args : List WData) : l.row.toRowW.claim.post args (.bool true) args = true :=
  postW_of (r := l.row.toRowW) (X := (true == true))
    (show WShape.has [] (.bool true) .bool = true by first | rfl | decide | simp [WShape.has, WShape.arms, WShape.armsAll])
    (show (WTm.eq .res (.lit (.bool true))).value [] { args := args, res := some (.bool true), after := args } = some (.bool (true == true)) from w_eq_bool (w_res rfl) w_lit) rfl

/-! ### the attachment: holds_open's last premise (the goal 'hc' behind k_head) from a wpAny of the law's body -/
/-! ### rules over ANY heap (no ledger) from facts about the written part K: the library's own take a ledger (News) for what they write -/
section
variable {prog : Program} {w : World} {A : Around} {E : Value → Shared → Prop} {s : Shared} {K : Frag}

/-! the whole heap as the ledger: makes every rule that writes through a ledger a rule over any heap -/
def noObjs (h : Heap) : Heap := { h with objs := #[] }
def ledger (h : Heap) (L d : Addr) : List (Addr × Obj) := (List.range h.objs.size).filterMap fun a => if a = L ∨ a = d then none else (h.get? a).map fun o => (a, o)
end
end Att

namespace L2
open PySem PySem.Spec PyProof.Rows

theorem vals_ints : ∀ {vs : List Value} {ns : List Int}, IntsAre vs ns → Vals (ns.map V.int) vs
  | _, _, .nil => .nil
  | _, _, .cons n t h => .cons ⟨t, rfl⟩ (vals_ints h)

/-- nothing is tracked but the script, known to the object (or it is an object of the module) -/
def Only (H : Hp) : Prop := ∀ b, H b = none ∨ ∃ o xs, H b = some (.frz o (.lst xs))

/-- THE HEAD: the law's promise, at the heap behind the top. F, the promise of the law's def, may use that base is part of the heap (so K.In base, base.Ns mainGlobals mg stand in Mod) -/
theorem law_call {P : Program} {w : World} {K : PySem.W.Frag} {mg mb : Str → Option Value} {CX : CXT} {k : Nat} {fa a : Addr} {fd : FuncData} {x : Str} {sp : Sp} {s₁ : Shared} {vs : List Value} {ns : List Int}
    (KX : K.In s₁.heap) (hns : s₁.heap.Ns mainGlobals mg) (hb : s₁.heap.Ns builtinsNs mb) (hbb : ∀ x : Str, x ≠ "__name__" → mb x = bootBuiltins x) (hlim : s₁.heap.NoLimit) (hg : s₁.gens = #[])
    (ha : s₁.heap.get? a = some { cls := .type "list", data := .seq vs.toArray }) (hi : IntsAre vs ns) (hl : ns.length ≤ sizeLine) (hr : Room k callerA)
    (F : ∀ base : Heap, K.In base → base.Ns mainGlobals mg → FnOk P w K mg base CX k fa fd [x] sp) (hbind : ∀ (s : Shared) (u : Value), BindsTo s fd ⟨[u], []⟩ [(x, u)])
    (hsp : ∀ H : Hp, Only H → SqL K H a (ns.map V.int) → sp [.ref a] H (fun v _ => v = .bl true) fun _ _ _ => False)
    (hCX : ∀ H e s', CX [] H s₁ (fun _ _ _ => False) e s' → False) :
    codeAny (model P w) callerA (.call (.ref fa) ⟨[.ref a], []⟩) (fun r s' => r = .ok (.ret (.bool true)) ∧ OldK s₁.heap s'.heap ∧ s'.os = s₁.os ∧ AllBare s'.gens) s₁ := by
  have rv := vals_ints hi
  have lenV := hi.length
  -- from an abstract heap in which nothing but the script may be tracked
  have core : ∀ H : Hp, Only H → SqL K H a (ns.map V.int) → HOk P w H s₁.heap → (∀ b, H b ≠ none → b = a) → (H a ≠ none → K.lookup a = none) →
      codeAny (model P w) callerA (.call (.ref fa) ⟨[.ref a], []⟩) (fun r s' => r = .ok (.ret (.bool true)) ∧ OldK s₁.heap s'.heap ∧ s'.os = s₁.os ∧ AllBare s'.gens) s₁ := by
    intro H hO hS hok hA hK
    have base_of : ∀ {b : Addr} {o : Obj}, s₁.heap.get? b = some o → H b = none → (hidT s₁.heap H).get? b = some o := fun e n => hidT_get e n
    have noA : ∀ {b : Addr} {o : Obj} {es : Array DictEntry} {ep : Nat}, s₁.heap.get? b = some o → o.data = .dict es ep → H b = none := fun {b o es ep} e d => by
      cases q : H b with
      | none => rfl
      | some u =>
        have e' : b = a := hA b (by rw [q]; simp)
        subst e'
        rw [ha] at e; cases e
        have d' : Data.seq vs.toArray _ = Data.dict es ep := d
        cases d'
    have nsK : ∀ {b : Addr} {m : Str → Option Value}, s₁.heap.Ns b m → (hidT s₁.heap H).Ns b m := fun {b m} ⟨o, es, ep, e, d, r⟩ => ⟨o, es, ep, base_of e (noA e d), d, r⟩
    have hKb : K.In (hidT s₁.heap H) := fun b o e => base_of (KX b o e) (by
      cases q : H b with
      | none => rfl
      | some u =>
        have e' : b = a := hA b (by rw [q]; simp)
        subst e'
        rw [hK (by rw [q]; simp)] at e; cases e)
    have hM : Mod K mg (hidT s₁.heap H) := ⟨hKb, nsK hns, ⟨mb, nsK hb, hbb⟩, let ⟨mc, h1, h2⟩ := hlim; ⟨mc, nsK h1, h2⟩⟩
    have e0 : Env0 P w K mg (hidT s₁.heap H) callerA [] s₁ H := ⟨rfl, hM, fun b o e => of_hidT e, Nat.le_of_eq (hidT_size _ _), trivial, fun b hb => absurd (show b ∈ ([] : List Addr) from hb) (by simp), hok, .of_eq hg⟩
    refine codeAny_mono ((F _ hKb (nsK hns)).run callerA [] s₁ H ⟨[.ref a], []⟩ [.ref a] [.ref a] _ _ hr e0 (hbind s₁ (.ref a)) (.cons rfl .nil) (hsp H hO hS)) fun r s' h => ?_
    cases r with
    | error e => exact (hCX H e s' h).elim
    | ok fl =>
      cases fl with
      | next => exact False.elim h
      | brk => exact False.elim h
      | cont => exact False.elim h
      | ret u =>
        obtain ⟨v, H', os, bare, un, hok', r', q⟩ := h
        have q' : v = .bl true := q
        subst q'
        obtain rfl : u = Value.bool true := r'
        refine ⟨rfl, OldK.of_keep fun b o e => ?_, os, bare⟩
        cases q : H b with
        | none => exact un.keep b o e q (by intro z; exact absurd (show b ∈ ([] : List Addr) from z) (by simp)) (by simp)
        | some u =>
          rcases hO b with z | ⟨ob, xs, z⟩
          · rw [q] at z; cases z
          · have z2 := un.frzs b ob _ z
            obtain ⟨e1, _⟩ := hok b _ z
            obtain ⟨e2, _⟩ := hok' b _ z2
            rw [e] at e1; cases e1
            exact e2
  cases hk : K.lookup a with
  | some o =>
    -- the script is one of the module's own objects
    have e := KX a o hk
    rw [ha] at e
    cases e
    refine core (fun _ => none) (fun _ => .inl rfl) (.inr ⟨_, vs.toArray, _, hk, rfl, rfl, rfl, by rw [List.size_toArray, lenV]; exact hl, by simpa using rv⟩) (fun b u z => by have z' : (none : Option HO) = some u := z; cases z') (fun b z => absurd rfl z) fun z => absurd rfl z
  | none =>
    refine core (fun b => if b = a then some (.frz { cls := .type "list", data := .seq vs.toArray } (.lst (ns.map V.int))) else none) (fun b => ?_) (.inl (.inr ⟨{ cls := .type "list", data := .seq vs.toArray }, if_pos rfl⟩)) (fun b u z => ?_) (fun b z => ?_) fun _ => hk
    · by_cases hb : b = a
      · exact .inr ⟨_, _, if_pos hb⟩
      · exact .inl (if_neg hb)
    · by_cases hb : b = a
      · have z' := (if_pos hb).symm.trans z
        cases z'
        subst hb
        exact ⟨ha, by rw [List.length_map]; exact hl, vs, _, rv, ha⟩
      · have z' := (if_neg hb).symm.trans z
        cases z'
    · by_cases hb : b = a
      · exact hb
      · exact absurd (if_neg hb) z
end L2

namespace L2
open PySem PySem.Spec PyProof.Rows

abbrev KOf {K : PySem.W.Frag} {h : Heap} (_ : K.In h) : PySem.W.Frag := K

end L2

/-! SHORT WORDS over the layer: a def of the text, its body, what a loop and a test want. -/
namespace L2
open PySem PySem.Spec PyProof.Rows

/-! ### the text by places -/
/-- the j-th statement of a class's body -/
def inClass (s : Stmt) (j : Nat) : Stmt := match s with
  | .ClassDef _ _ _ body _ _ _ _ _ _ _ => body.getD j (.Pass ⟨0, 0, 0, 0⟩)
  | _ => .Pass ⟨0, 0, 0, 0⟩
def defArgs (s : Stmt) : Arguments := match s with
  | .FunctionDef _ a _ _ _ _ _ _ _ _ => a
  | _ => { posonlyargs := [], args := [], vararg := none, kwonlyargs := [], kw_defaults := [], kwarg := none, defaults := [] }
def defBody (s : Stmt) : List Stmt := match s with
  | .FunctionDef _ _ b _ _ _ _ _ _ _ => b
  | _ => []
def defScope (s : Stmt) : Scope := match s with
  | .FunctionDef _ _ _ _ _ _ sc _ _ _ => sc
  | _ => { kind := .function, names := [], isGenerator := false, isCoroutine := false }

/-! ### no exception leaves a def -/
abbrev CX0 : CXT := fun _ _ _ _ _ _ => False
abbrev E0 : XK := fun _ _ _ => False
theorem pass0 {X : Cx} : Passes CX0 X E0 := fun _ _ _ _ _ _ _ h => h.elim

/-! ### a def (or method) of the text as it stands behind the top -/
structure Fun (K : PySem.W.Frag) (x qual : Str) (st : Stmt) (f : Addr) (fd : FuncData) : Prop where
  ex : ∃ (oc : Value) (od : Option Addr) (kV doc pm : Value) (an : Option Addr) (cdv ct : Value) (osl : Array (Option Value)),
    fd = PySem.W.fnOf x qual (defArgs st) (defBody st) (defScope st) .none kV doc pm an cdv ct ∧ K.lookup f = some ⟨oc, od, .func fd, osl⟩ ∧ PySem.W.codeIn K cdv qual = true
  kp : PySem.W.keepIn K (.ref f) = true
section
variable {P : Program} {w : World} {K : PySem.W.Frag} {mg : Str → Option Value} {base : Heap}
/-- THE RULE for a def: its body as a term of rules, and the reading of that term -/
theorem Fun.ok {x qual : Str} {st : Stmt} {f : Addr} {fd : FuncData} {N ps : List Str} {k : Nat} {sp : Sp} (F : Fun K x qual st f fd) (S : FnScope N ps (defScope st)) (len : ∀ vs H Q E, sp vs H Q E → vs.length = ps.length)
    (hbody : ∀ (cdv : Value) (A : Around) (outer : List Env) (s : Shared) (H : Hp) (vs : List V) (Q : VK) (E : XK), Room k (A.deeper (envOfC qual (defScope st) s.heap.objs.size f cdv)) → sp vs H Q E →
      ∃ t, PSs (cxOf CX0 P w K mg base N qual (defScope st) f cdv A outer s H E).nox (defBody st) t ∧ t { nx := fun _ H' => Q .non H', rt := Q } (start N vs) H) : FnOk P w K mg base CX0 (k + 1) f fd ps sp := by
  obtain ⟨oc, od, kV, doc, pm, an, cdv, ct, osl, rfl, lk, hcd⟩ := F.ex
  refine fn_of lk hcd S len fun A outer s H vs Q E hr hsp => ?_
  obtain ⟨t, h, q⟩ := hbody cdv A outer s H vs Q E hr hsp
  exact ⟨t, h.nox, q⟩
/-- how its arguments bind (no defaults): h is «fun _ _ _ _ _ _ us hl => match us, hl with | [_, _], _ => rfl», one _ a parameter -/
theorem Fun.binds {x qual : Str} {st : Stmt} {f : Addr} {fd : FuncData} {ps : List Str} (F : Fun K x qual st f fd)
    (h : ∀ (kV doc pm : Value) (an : Option Addr) (cdv ct : Value) (us : List Value), us.length = ps.length → bindArgs (PySem.W.fnOf x qual (defArgs st) (defBody st) (defScope st) .none kV doc pm an cdv ct) ⟨us, []⟩ = pure (ps.zip us)) : Binds K fd ps [] := by
  obtain ⟨oc, od, kV, doc, pm, an, cdv, ct, osl, rfl, lk, hcd⟩ := F.ex
  exact .all (h kV doc pm an cdv ct)
theorem fun_mk {x qual : Str} {st : Stmt} {f : Addr} {oc : Value} {od an : Option Addr} {osl : Array (Option Value)} {kV doc pm cdv ct : Value} (l : K.lookup f = some ⟨oc, od, .func (PySem.W.fnOf x qual (defArgs st) (defBody st) (defScope st) .none kV doc pm an cdv ct), osl⟩)
    (c : PySem.W.codeIn K cdv qual = true) (k : PySem.W.keepIn K (.ref f) = true) : Fun K x qual st f (PySem.W.fnOf x qual (defArgs st) (defBody st) (defScope st) .none kV doc pm an cdv ct) := ⟨⟨oc, od, kV, doc, pm, an, cdv, ct, osl, rfl, l, c⟩, k⟩
end
theorem small1000 {n : Nat} (h : n ≤ 1000) : n < sizeLine := Nat.lt_of_le_of_lt h (by decide)

/-! ### expressions in short: the name that stands in the i-th slot -/
section
variable {X : Cx}
theorem pv (i : Nat) {x : Str} {pos : Pos} (hN : X.N[i]? = some x := by rfl) (hv : Vis X.env.scope x := by first | exact Or.inl rfl | exact Or.inr (Or.inl rfl) | exact Or.inr (Or.inr rfl)) (hd : (x == ("__debug__" : Str)) = false := by decide)
    (hcd : (x == ("__classdict__" : Str)) = false := by decide) : PE X (.Name x pos) (tVar i) := pe_var hN hv hd hcd
end

/-! ### tests -/
theorem ite2 {c A B : Prop} [Decidable c] (h1 : c → A) (h2 : ¬ c → B) : if c then A else B := by
  by_cases h : c
  · rw [if_pos h]
    exact h1 h
  · rw [if_neg h]
    exact h2 h
/-! ### heaps -/
/-- all that was tracked is as it was -/
def Same (H H' : Hp) : Prop := ∀ b o, H b = some o → H' b = some o
theorem Same.refl (H : Hp) : Same H H := fun _ _ h => h
theorem Same.trans {H H1 H2 : Hp} (a : Same H H1) (b : Same H1 H2) : Same H H2 := fun c o h => b c o (a c o h)
theorem Same.free {H H' : Hp} (e : Same H H') {l : Addr} (h : H' l = Option.none) : H l = Option.none := by
  cases q : H l with
  | none => rfl
  | some o =>
    rw [e l o q] at h
    cases h
theorem Same.seq {K : PySem.W.Frag} {H H' : Hp} {a : Addr} {xs : List V} (e : Same H H') (h : SqL K H a xs) : SqL K H' a xs := by
  rcases h with (h | ⟨o, h⟩) | h
  · exact .inl (.inl (e _ _ h))
  · exact .inl (.inr ⟨o, e _ _ h⟩)
  · exact .inr h

end L2

set_option Elab.async false
set_option linter.all false
set_option maxRecDepth 100000
set_option maxHeartbeats 4000000
namespace L2
open PySem PySem.Spec PyProof.Rows

/-! ### comprehensions -/
def closL (cells : List (Str × Addr)) : List (Str × NameKind) → List (Str × Addr) → List (Str × Addr)
  | [], cs => cs
  | (n, k) :: r, cs => if k == NameKind.free then closL cells r ((n, (cells.lookup n).getD 0) :: cs) else closL cells r cs
theorem closL_sub {cells : List (Str × Addr)} {x : Str} {c : Addr} : ∀ {names : List (Str × NameKind)} {cs : List (Str × Addr)}, (closL cells names cs).lookup x = some c →
    cs.lookup x = some c ∨ ((x, NameKind.free) ∈ names ∧ c = (cells.lookup x).getD 0)
  | [], cs, h => .inl h
  | (n, k) :: r, cs, h => by
    unfold closL at h
    by_cases hk : (k == NameKind.free) = true
    · rw [if_pos hk] at h
      rcases closL_sub h with h1 | ⟨h1, h2⟩
      · rw [List.lookup_cons] at h1
        by_cases hx : (x == n) = true
        · rw [hx] at h1
          have e : x = n := eq_of_beq hx
          have e2 : k = NameKind.free := eq_of_beq hk
          subst e e2
          exact .inr ⟨List.mem_cons_self, (Option.some.inj h1).symm⟩
        · have hx' : (x == n) = false := by simpa using hx
          rw [hx'] at h1
          exact .inl h1
      · exact .inr ⟨List.mem_cons_of_mem _ h1, h2⟩
    · rw [if_neg hk] at h
      rcases closL_sub h with h1 | ⟨h1, h2⟩
      · exact .inl h1
      · exact .inr ⟨List.mem_cons_of_mem _ h1, h2⟩
theorem closL_keep {cells : List (Str × Addr)} {x : Str} : ∀ {names : List (Str × NameKind)} {cs : List (Str × Addr)}, (∃ c, cs.lookup x = some c) → ∃ c, (closL cells names cs).lookup x = some c
  | [], cs, h => h
  | (n, k) :: r, cs, h => by
    unfold closL
    by_cases hk : (k == NameKind.free) = true
    · rw [if_pos hk]
      refine closL_keep ?_
      rw [List.lookup_cons]
      cases hx : x == n with
      | true => exact ⟨_, rfl⟩
      | false => exact h
    · rw [if_neg hk]
      exact closL_keep h
theorem closL_has {cells : List (Str × Addr)} {x : Str} : ∀ {names : List (Str × NameKind)} {cs : List (Str × Addr)}, (x, NameKind.free) ∈ names → ∃ c, (closL cells names cs).lookup x = some c
  | [], cs, h => by cases h
  | (n, k) :: r, cs, h => by
    unfold closL
    rcases List.mem_cons.mp h with e | h
    · have e1 : x = n := congrArg Prod.fst e
      have e2 : NameKind.free = k := congrArg Prod.snd e
      subst e1 e2
      rw [if_pos (by decide)]
      refine closL_keep ⟨(cells.lookup x).getD 0, ?_⟩
      rw [List.lookup_cons, beq_self_eq_true]
    · by_cases hk : (k == NameKind.free) = true
      · rw [if_pos hk]
        exact closL_has h
      · rw [if_neg hk]
        exact closL_has h
theorem relabel_free {env : Env} : ∀ {names : List (Str × NameKind)} {x : Str} {k' : NameKind}, (∀ y ∈ names, y.2 ≠ NameKind.cell) → k' ≠ .local → (k' = .cell ∨ k' = .free) →
    (names.map fun (n, k) => if (k == NameKind.free && env.scope.kind == .function && env.kindOf n == some .cell) then (n, NameKind.cell) else (n, k)).lookup x = some k' → (x, NameKind.free) ∈ names
  | [], _, _, _, _, _, h => by simp at h
  | (n, k) :: r, x, k', hc, hl, hk', h => by
    have ih := @relabel_free env r x k' (fun y hy => hc y (List.mem_cons_of_mem _ hy)) hl hk'
    have h0 : List.lookup x ((if (k == NameKind.free && env.scope.kind == .function && env.kindOf n == some .cell) = true then (n, NameKind.cell) else (n, k)) :: (r.map fun (n, k) => if (k == NameKind.free && env.scope.kind == .function && env.kindOf n == some .cell) then (n, NameKind.cell) else (n, k))) = some k' := h
    by_cases hcnd : (k == NameKind.free && env.scope.kind == .function && env.kindOf n == some .cell) = true
    · rw [if_pos hcnd, List.lookup_cons] at h0
      have e2 : k = NameKind.free := by
        have q := (Bool.and_eq_true_iff.mp (Bool.and_eq_true_iff.mp hcnd).1).1
        exact eq_of_beq q
      cases hx : x == n with
      | true =>
        have e : x = n := eq_of_beq hx
        subst e e2
        exact List.mem_cons_self
      | false =>
        rw [hx] at h0
        exact List.mem_cons_of_mem _ (ih h0)
    · rw [if_neg hcnd, List.lookup_cons] at h0
      cases hx : x == n with
      | true =>
        rw [hx] at h0
        have e : x = n := eq_of_beq hx
        have e3 : k = k' := Option.some.inj h0
        subst e e3
        rcases hk' with z | z
        · exact absurd z (hc _ List.mem_cons_self)
        · subst z
          exact List.mem_cons_self
      | false =>
        rw [hx] at h0
        exact List.mem_cons_of_mem _ (ih h0)

structure CompSc (sc scope : Scope) (N tgs : List Str) (fr : List Nat) : Prop where
  kind : scope.kind = .function
  nocell : ∀ y ∈ scope.names, y.2 ≠ NameKind.cell
  loc : ∀ y ∈ scope.names, y.2 = NameKind.local → scope.names.lookup y.1 = some NameKind.local
  free : ∀ y ∈ scope.names, y.2 = NameKind.free → sc.names.lookup y.1 = some NameKind.cell
  frs : ∀ j ∈ fr, (N[j]?.bind fun x => scope.names.lookup x) = some NameKind.free

def compN (N tgs : List Str) (fr : List Nat) : List Str := tgs ++ fr.map fun j => (N[j]?).getD ⟨#[]⟩
def compFr (fr : List Nat) (σ : St) : St := fr.map fun j => (σ[j]?).getD none
def compSt (n : Nat) (fr : List Nat) (σ : St) : St := List.replicate n none ++ compFr fr σ

def compCx (X : Cx) (Nc : List Str) (scope : Scope) (C : Addr) (s2 : Shared) (H2 : Hp) (fp : List Addr) : Cx :=
  { X with N := Nc, s₀ := s2, H₀ := H2, env := compEnvC scope (closL X.env.cells scope.names []) C X.env, outer := X.stack, ex := fp, fn := fun _ => false, pn := [], xe := fun _ _ => False }

def PTs (X : Cx) (ifs : List Expr) (t : TT) : Prop :=
  ∀ (pins : List (Addr × Obj)) (s : Shared) (σ : St) (H : Hp) (Q : Bool → Hp → Prop), Inv X pins σ H s → t σ H Q →
    wpAny (model X.prog X.w) X.A (forIn ifs true fun c r => if r = true then do let ok ← isTrue c X.env (eval c X.env); pure (ForInStep.yield ok) else pure (ForInStep.yield r)) (TP X pins σ Q) X.xe s
def tYes : TT := fun _ H Q => Q true H
theorem pts_nil {X : Cx} : PTs X [] tYes := fun _ _ _ H _ I h => wpAny_tests_nil ⟨H, I, h⟩
theorem pts_one {X : Cx} {c : Expr} {t : TT} (h : PT X c t) : PTs X [c] t := fun pins s σ H Q I hq => wpAny_tests_one (h pins s σ H Q I hq)

section
variable {prog : Program} {w : World} {A : Around} {R : Result → Shared → Prop} {s : Shared}
theorem compLoop_any {elt target iter : Expr} {ifs : List Expr} {scope : Scope} {pos : Pos} {it acc : Value} {env : Env} (I : Nat → Shared → Prop)
    (turn : ∀ n s, I n s → wpAny (model prog w) A (pyNext it) (fun r s₁ => match r with
      | none => R (.ok .next) s₁
      | some v => wpAny (model prog w) A (letOwnedTupleGo target it v) (fun _ s₁' => wpAny (model prog w) A (assign target env v) (fun _ s₂ =>
          wpAny (model prog w) A (forIn ifs true fun c r => if r = true then do let ok ← isTrue c env (eval c env); pure (ForInStep.yield ok) else pure (ForInStep.yield r)) (fun ok s₃ =>
            if ok = true then wpAny (model prog w) A (eval elt env) (fun x s₄ =>
              wpAny (model prog w) A (call (.builtin "list.append") [acc, x]) (fun _ s₅ => ∃ m, m < n ∧ I m s₅) (fun _ _ => False) s₄) (fun _ _ => False) s₃
            else ∃ m, m < n ∧ I m s₃) (fun _ _ => False) s₂) (fun _ _ => False) s₁') (fun _ _ => False) s₁) (fun _ _ => False) s)
    (n : Nat) (h : I n s) :
    codeAny (model prog w) A (.compLoop (.ListComp elt [⟨target, iter, ifs, 0⟩] scope pos) 0 it acc env) R s := by
  refine codeAny_loop rfl I (fun n s hI => ?_) n h
  show wpAny _ A ((compTurn (.ListComp elt [⟨target, iter, ifs, 0⟩] scope pos) 0 it acc env).onRaise (fun x => do noteFrame x env; theTreesLotGoes x)) _ _ s
  refine wpAny_noted ?_
  rw [compTurn_list]
  refine wpAny_bind (wpAny_standAt (wpAny_bind (wpAny_mono (turn n s hI) (fun r s₁ h₁ => ?_) fun _ _ h' => h'.elim)))
  cases r with
  | none => exact wpAny_pure h₁
  | some v =>
    refine wpAny_bind (wpAny_mono h₁ (fun _ s₁' h₁' => ?_) fun _ _ h' => h'.elim)
    refine wpAny_bind (wpAny_mono h₁' (fun _ s₂ h₂ => wpAny_bind (wpAny_mono h₂ (fun ok s₃ h₃ => ?_) fun _ _ h' => h'.elim)) fun _ _ h' => h'.elim)
    cases ok with
    | false => exact wpAny_pure ⟨rfl, h₃⟩
    | true =>
      exact wpAny_bind (wpAny_bind (wpAny_mono h₃ (fun x s₄ h₄ => wpAny_bind (wpAny_mono h₄ (fun _ s₅ h₅ => wpAny_pure (wpAny_pure ⟨rfl, h₅⟩)) fun _ _ h' => h'.elim)) fun _ _ h' => h'.elim))
end

/-- the comprehension's turns, from the heap H1 behind the iterator's making; D: the list that is built -/
def CompRun (n : Nat) (fr : List Nat) (J : It) (g : TG) (tt : TT) (te : TE) (σ : St) (D : Addr) (H1 : Hp) (Q : Hp → Prop) : Prop :=
  ∃ W : Nat → Nat → List V → Hp → Prop, (∃ m, W 0 m [] (upd H1 D (.lst []))) ∧ ∀ i m ys H', W i m ys H' →
    (J.stop i H' ∧ Q H') ∨ (J.go i H' ∧ ∀ x H2, J.yld i H' x H2 → g x (compSt n fr σ) H2 fun σ3 H3 => (∃ zs : St, zs.length = n ∧ σ3 = zs ++ compFr fr σ) ∧ tt σ3 H3 fun b H4 =>
      if b = true then te σ3 H4 fun y H5 => H5 D = some (.lst ys) ∧ ys.length < sizeLine ∧ ∃ m', m' < m ∧ W (i + 1) m' (ys ++ [y]) (upd H5 D (.lst (ys ++ [y])))
      else ∃ m', m' < m ∧ W (i + 1) m' ys H4)
def tComp (n : Nat) (fr : List Nat) (wi : TI) (g : TG) (tt : TT) (te : TE) : TE := fun σ H Q => wi σ H fun J H1 => ∀ D, H1 D = none → CompRun n fr J g tt te σ D H1 (Q (.ref D))
def tCompSet (n : Nat) (fr : List Nat) (wi : TI) (g : TG) (tt : TT) (te : TE) (i : Nat) : TS := fun D σ H => wi σ H fun J H1 => ∀ l, H1 l = none → CompRun n fr J g tt te σ l H1 (D.nx (σ.set i (some (.ref l))))

section
variable {X : Cx} {tg iter elt : Expr} {ifs : List Expr} {scope sc : Scope} {tgs : List Str} {fr : List Nat} {wi : TI} {g : TG} {tt : TT} {te : TE} {pos : Pos}

theorem comp_core {pins : List (Addr × Obj)} {σ : St} {H2 : Hp} {s2 : Shared} {it : Addr} {fp : List Addr} {tn : Nat → Heap → Prop} {J : It} {RR : Value → Addr → Result → Shared → Prop} {E : Value → Shared → Prop} {Qf : Hp → Prop}
    (hsc : X.env.scope = sc) (S : CompSc sc scope X.N tgs fr) (hc : X.calm = true)
    (hg : ∀ C s2 H2 fp, PG (compCx X (compN X.N tgs fr) scope C s2 H2 fp) tg g) (ht : ∀ C s2 H2 fp, PTs (compCx X (compN X.N tgs fr) scope C s2 H2 fp) ifs tt) (he : ∀ C s2 H2 fp, PE (compCx X (compN X.N tgs fr) scope C s2 H2 fp) elt te)
    (I2 : Inv X pins σ H2 s2) (T : Turn X.prog X.w X.K tg J fp it tn) (st2 : tn 0 s2.heap) (f2 : ∀ b ∈ fp, FpOk X pins H2 b)
    (run : CompRun tgs.length fr J g tt te σ s2.heap.objs.size H2 Qf)
    (hRR : ∀ (C : Addr) (H3 : Hp) (s4 : Shared), Inv X pins σ H3 s4 → FpOk X pins H3 C → (∃ m, s4.heap.Ns C m) → Qf H3 → RR (.ref s2.heap.objs.size) C (.ok .next) s4) :
    wpAny (model X.prog X.w) X.A (newList []) (fun acc s₃ => wpAny (model X.prog X.w) X.A (newFunctionEnv scope X.env.globals (closL X.env.cells scope.names []) [] X.env.qual none .none (some X.env)) (fun cenv s₄ =>
      codeAny (model X.prog X.w) X.A (.compStart (.ListComp elt [⟨tg, iter, ifs, 0⟩] scope pos) 0 (.ref it) acc { cenv with scope := relabel scope X.env }) (RR acc cenv.locals) s₄) E s₃) E s2 := by
  refine wpAny_newObj_type (wpAny_newFunctionEnv S.nocell (by intro y hy; simp at hy) (fun h₁ hns₁ hsb₁ => ?_) S.kind)
  dsimp only at hns₁ hsb₁ ⊢
  generalize hG2 : s2.heap.push { cls := .type "list", dict := none, data := .seq ([] : List Value).toArray } = G2 at hns₁ hsb₁ ⊢
  have hC : G2.objs.size = s2.heap.objs.size + 1 := by rw [← hG2, Heap.size_push]
  have hDC : s2.heap.objs.size ≠ G2.objs.size := by rw [hC]; exact Nat.ne_of_lt (Nat.lt_succ_self _)
  have hle : s2.heap.objs.size ≤ G2.objs.size := by rw [hC]; exact Nat.le_succ _
  have below : ∀ b, b < s2.heap.objs.size → b ≠ G2.objs.size ∧ b ≠ s2.heap.objs.size := fun b hb => ⟨Nat.ne_of_lt (Nat.lt_of_lt_of_le hb hle), Nat.ne_of_lt hb⟩
  have old : ∀ b o, s2.heap.get? b = some o → h₁.get? b = some o := fun b o e => hsb₁.extBut b o (below b (Heap.lt_size e)).1 (Heap.get?_push_of_some _ (hG2 ▸ Heap.get?_push_of_some _ e))
  have accO : h₁.get? s2.heap.objs.size = some { cls := .type "list", data := .seq ([] : List Value).toArray 0 } := hsb₁.extBut _ _ hDC (Heap.get?_push_of_some _ (hG2 ▸ Heap.get?_push_size _ rfl))
  have hfree0 : ∀ y ∈ scope.names, y.2 = NameKind.free → ∃ c, X.env.cells.lookup y.1 = some c := fun y hy e => I2.ok.has y.1 (.inl (by show X.env.scope.names.lookup y.1 = _; rw [hsc]; exact S.free y hy e))
  have subC : ∀ x c, (closL X.env.cells scope.names []).lookup x = some c → X.env.cells.lookup x = some c := fun x c e => by
    rcases closL_sub e with z | ⟨z1, z2⟩
    · simp at z
    · obtain ⟨c', e'⟩ := hfree0 _ z1 rfl
      rw [z2, e']
      rfl
  have cellLt : ∀ x c, X.env.cells.lookup x = some c → c < s2.heap.objs.size := fun x c e => by
    obtain ⟨v, q⟩ := I2.cell x c e
    exact q.lt
  have fpLt : ∀ b ∈ fp, b < s2.heap.objs.size := fun b hb => by
    obtain ⟨o, e, _⟩ := T.obj 0 _ st2 b hb
    exact Heap.lt_size e
  have ok3 : (compCx X (compN X.N tgs fr) scope G2.objs.size s2 H2 fp).Ok := by
    refine ⟨I2.ok.mod, S.kind, I2.ok.glob, I2.ok.blt, hle, fun x y c e1 e2 => I2.ok.inj x y c (subC x c e1) (subC y c e2), fun x hx => ?_, fun x c z _ => absurd z Bool.false_ne_true, I2.ok.hd, I2.ok.frames, .inl rfl,
      fun b hb => ⟨(below b (fpLt b hb)).1, fun x c e => (f2 b hb).2.2.2.2.1 x c (subC x c e)⟩, I2.bs, Nat.le_trans I2.ok.bsz I2.sz, fun b o e hb => ?_, fun b hb z => ?_, I2.stack, I2.stkFree⟩
    · rcases hx with hx | hx
      · exact closL_has (relabel_free (env := X.env) S.nocell (by decide) (.inl rfl) hx)
      · exact closL_has (relabel_free (env := X.env) S.nocell (by decide) (.inr rfl) hx)
    · rcases (f2 b hb).2.2.2.1 with z | z
      · exact I2.ok.noex b o e z
      · exact absurd (Nat.lt_of_lt_of_le (Heap.lt_size e) (Nat.le_trans I2.ok.bsz z)) (Nat.lt_irrefl _)
    · rcases List.mem_cons.mp (I2.stkSub b z) with z | z
      · exact (f2 b hb).2.1 z
      · exact (f2 b hb).2.2.1 z
  have I3 : Inv (compCx X (compN X.N tgs fr) scope G2.objs.size s2 H2 fp) [] (compSt tgs.length fr σ) (upd H2 s2.heap.objs.size (.lst [])) { s2 with heap := h₁, toks := s2.toks + ([] : List (Str × Value)).length } := by
    refine ⟨ok3, rfl, I2.bare, Un.laid old (Nat.le_refl _) I2.fresh, ⟨_, hns₁, fun i x v e1 e2 e3 => ?_⟩, fun x c e => ?_, ?_, fun x c e => ?_, fun p hp => absurd (show p ∈ ([] : List (Addr × Obj)) from hp) (by simp), I2.hok.laid old (Nat.le_refl _) ⟨Nat.zero_le _, [], 0, .nil, accO⟩, ?_⟩
    · -- a name of the comprehension that has a value at the start is one of the def's cells
      have hi : tgs.length ≤ i := by
        refine Nat.le_of_not_lt fun hlt => ?_
        unfold compSt at e2
        rw [List.getElem?_append_left (by simpa using hlt), List.getElem?_replicate, if_pos hlt] at e2
        cases e2
      have e2' : (compFr fr σ)[i - tgs.length]? = some (some v) := by
        unfold compSt at e2
        rw [List.getElem?_append_right (by simpa using hi)] at e2
        simpa using e2
      have e1' : (fr.map fun j => (X.N[j]?).getD ⟨#[]⟩)[i - tgs.length]? = some x := by
        have e1 : (compN X.N tgs fr)[i]? = some x := e1
        unfold compN at e1
        rw [List.getElem?_append_right hi] at e1
        exact e1
      unfold compFr at e2'
      rw [List.getElem?_map] at e1' e2'
      cases ej : fr[i - tgs.length]? with
      | none => rw [ej] at e1'; cases e1'
      | some j =>
        rw [ej] at e1' e2'
        have e1j : (X.N[j]?).getD ⟨#[]⟩ = x := Option.some.inj e1'
        have e2j : (σ[j]?).getD none = some v := Option.some.inj e2'
        have hfr := S.frs j (List.mem_of_getElem? ej)
        cases eN : X.N[j]? with
        | none => rw [eN] at hfr; cases hfr
        | some x' =>
          rw [eN] at hfr e1j
          have ex : x' = x := e1j
          subst ex
          have hfx : scope.names.lookup x' = some NameKind.free := hfr
          have hσ : σ[j]? = some (some v) := by
            cases eσ : σ[j]? with
            | none => rw [eσ] at e2j; cases e2j
            | some o => rw [eσ] at e2j; exact congrArg some e2j
          have hmem := PySem.mem_of_lookup hfx
          have hkc : X.env.scope.names.lookup x' = some NameKind.cell := by rw [hsc]; exact S.free _ hmem rfl
          obtain ⟨m, hn, hl⟩ := I2.loc
          obtain ⟨u, ru, lk⟩ := hl j x' v eN hσ (.inr (.inl hkc))
          refine ⟨u, ru, .inr ⟨?_, ?_⟩⟩
          · have e3 : (relabel scope X.env).names.lookup x' = some NameKind.local ∨ (relabel scope X.env).names.lookup x' = some NameKind.cell ∨ (relabel scope X.env).names.lookup x' = some NameKind.free := e3
            rcases e3 with z | z | z
            · exfalso
              -- a free name is not relabelled as a local
              have key : ∀ (names : List (Str × NameKind)), names.lookup x' = some NameKind.free → (names.map fun (n, k) => if (k == NameKind.free && X.env.scope.kind == .function && X.env.kindOf n == some .cell) then (n, NameKind.cell) else (n, k)).lookup x' ≠ some NameKind.local := by
                intro names
                induction names with
                | nil => intro h; simp at h
                | cons p r ih =>
                  obtain ⟨n, k⟩ := p
                  intro h h2
                  have h2 : List.lookup x' ((if (k == NameKind.free && X.env.scope.kind == .function && X.env.kindOf n == some .cell) = true then (n, NameKind.cell) else (n, k)) :: (r.map fun (n, k) => if (k == NameKind.free && X.env.scope.kind == .function && X.env.kindOf n == some .cell) then (n, NameKind.cell) else (n, k))) = some NameKind.local := h2
                  rw [List.lookup_cons] at h
                  cases hx : x' == n with
                  | true =>
                    rw [hx] at h
                    have ek : k = NameKind.free := Option.some.inj h
                    subst ek
                    split at h2
                    · rw [List.lookup_cons, hx] at h2; cases h2
                    · rw [List.lookup_cons, hx] at h2; cases h2
                  | false =>
                    rw [hx] at h
                    split at h2
                    · rw [List.lookup_cons, hx] at h2; exact ih h h2
                    · rw [List.lookup_cons, hx] at h2; exact ih h h2
              exact key scope.names hfx z
            · exact .inl z
            · exact .inr z
          · obtain ⟨c, ec⟩ := closL_has (cells := X.env.cells) (cs := []) hmem
            rcases lk with ⟨k1, _⟩ | ⟨_, c', ec', ic⟩
            · have k1 : X.env.scope.names.lookup x' = some NameKind.local := k1
              rw [hkc] at k1; cases k1
            · have q := subC _ _ ec
              rw [ec'] at q
              have q' : c' = c := Option.some.inj q
              subst q'
              exact ⟨_, ec, ic.keeps old⟩
    · obtain ⟨v, q⟩ := I2.cell x c (subC x c e)
      exact ⟨v, q.keeps old⟩
    · show upd H2 s2.heap.objs.size (.lst []) G2.objs.size = none
      rw [upd_ne hDC.symm]
      exact I2.hok.fresh hle
    · rw [upd_ne (Nat.ne_of_lt (cellLt x c (subC x c e)))]
      exact I2.freeC x c (subC x c e)
    · unfold compSt compFr
      show _ = (compN X.N tgs fr).length
      unfold compN
      simp
  obtain ⟨W, ⟨m0, w0⟩, turn⟩ := run
  have stat : ∀ {H' : Hp}, (∀ b ∈ fp, H' b = none) → ∀ b ∈ fp, FpOk (compCx X (compN X.N tgs fr) scope G2.objs.size s2 H2 fp) [] H' b := fun hn b hb =>
    ⟨hn b hb, (below b (fpLt b hb)).1, ok3.exfs b hb, .inl hb, (ok3.exf b hb).2, fun p hp => absurd (show p ∈ ([] : List (Addr × Obj)) from hp) (by simp)⟩
  have fr3 : ∀ b ∈ fp, upd H2 s2.heap.objs.size (.lst []) b = none := fun b hb => by rw [upd_ne (below b (fpLt b hb)).2]; exact (f2 b hb).1
  have st3 : tn 0 h₁ := T.keep 0 _ _ st2 fun b _ o e => old b o e
  have fin : ∀ {H3 : Hp} {s4 : Shared}, Inv (compCx X (compN X.N tgs fr) scope G2.objs.size s2 H2 fp) [] (compSt tgs.length fr σ) H3 s4 → Qf H3 → RR (.ref s2.heap.objs.size) G2.objs.size (.ok .next) s4 := fun {H3 s4} I4 q => by
    obtain ⟨m, hn, _⟩ := id I4.loc
    have ub : Un (frs X.stack) fp H2 H3 s2.heap s4.heap := I4.base
    refine hRR G2.objs.size H3 s4 (I2.call' (ch := fp) (s' := s4) I4.os ub I4.hok I4.bare fun b hb => ⟨(f2 b hb).2.2.2.1, (f2 b hb).2.1, (f2 b hb).2.2.2.2.1, (f2 b hb).2.2.2.2.2⟩) (I2.fpOk hle I4.free) ⟨m, hn⟩ q
  have loop : ∀ s₃ : Shared, s₃ = { s2 with heap := h₁, toks := s2.toks + ([] : List (Str × Value)).length } →
      codeAny (model X.prog X.w) X.A (.compLoop (.ListComp elt [⟨tg, iter, ifs, 0⟩] scope pos) 0 (.ref it) (.ref s2.heap.objs.size) (compEnvC scope (closL X.env.cells scope.names []) G2.objs.size X.env)) (RR (.ref s2.heap.objs.size) G2.objs.size) s₃ := by
    rintro s₃ rfl
    refine compLoop_any (fun n s' => ∃ i ys H', Inv (compCx X (compN X.N tgs fr) scope G2.objs.size s2 H2 fp) [] (compSt tgs.length fr σ) H' s' ∧ tn i s'.heap ∧ (∀ b ∈ fp, H' b = none) ∧ W i n ys H') ?_ m0 ⟨0, [], _, I3, st3, fr3, w0⟩
    rintro n s5 ⟨i, ys, H3, J3, sti, fri, w3⟩
    rcases turn i n ys H3 w3 with ⟨stop, q⟩ | ⟨go, step⟩
    · refine wpAny_mono (T.done (compCx X (compN X.N tgs fr) scope G2.objs.size s2 H2 fp) rfl rfl rfl hc i [] s5 _ H3 (fun _ _ => False) J3 (stat fri) sti stop) (fun r s6 ⟨hr, J4⟩ => ?_) (fun _ _ f => f)
      subst hr
      exact fin J4 q
    · refine wpAny_mono (T.item (compCx X (compN X.N tgs fr) scope G2.objs.size s2 H2 fp) rfl rfl rfl hc i [] s5 _ H3 (fun _ _ => False) J3 (stat fri) sti go) (fun r s6 ⟨u, hr, h6⟩ => ?_) (fun _ _ f => f)
      subst hr
      refine wpAny_mono h6 (fun _ s7 ⟨x, H7, J7, r7, y7, st7, fr7⟩ => ?_) (fun _ _ f => f)
      have J7' := J7.pinned (stat fr7) (T.obj _ _ st7)
      refine wpAny_mono (hg G2.objs.size s2 H2 fp _ s7 _ H7 x u _ J7' r7 (step x H7 y7)) (fun _ s8 ⟨σ8, H8, J8, ⟨zs, hz, e8⟩, q8⟩ => ?_) (fun _ _ f => f)
      have again : ∀ {H9 : Hp} {s9 : Shared} {ys' : List V}, Inv (compCx X (compN X.N tgs fr) scope G2.objs.size s2 H2 fp) ([] ++ pinsAt fp s7.heap) σ8 H9 s9 → (∃ m', m' < n ∧ W (i + 1) m' ys' H9) →
          ∃ m, m < n ∧ ∃ i ys H', Inv (compCx X (compN X.N tgs fr) scope G2.objs.size s2 H2 fp) [] (compSt tgs.length fr σ) H' s9 ∧ tn i s9.heap ∧ (∀ b ∈ fp, H' b = none) ∧ W i m ys H' := fun {H9 s9 ys'} J9 ⟨m', hm, w9⟩ => by
        refine ⟨m', hm, i + 1, ys', H9, J9.unpinned.weak ?_ ?_, T.keep _ _ _ st7 fun b hb o e => (J9.pin (b, o) (List.mem_append_right _ (List.mem_append_right _ (mem_pinsAt hb e)))).1, fun b hb => ?_, w9⟩
        · rw [e8]; unfold compSt; simp [hz]
        · intro k v ek
          rw [e8]
          unfold compSt at ek
          by_cases hk : k < tgs.length
          · rw [List.getElem?_append_left (by simpa using hk), List.getElem?_replicate, if_pos hk] at ek
            cases ek
          · rw [List.getElem?_append_right (by simpa using hk)] at ek
            rw [List.getElem?_append_right (by omega), hz]
            simpa using ek
        · obtain ⟨o, e, d⟩ := T.obj _ _ st7 b hb
          exact (J9.pin (b, o) (List.mem_append_right _ (List.mem_append_right _ (mem_pinsAt hb e)))).2.1
      refine wpAny_mono (ht G2.objs.size s2 H2 fp _ s8 σ8 H8 _ J8 q8) (fun ok s9 ⟨H9, J9, q9⟩ => ?_) (fun _ _ f => f)
      cases ok with
      | false =>
        rw [if_neg Bool.false_ne_true] at q9 ⊢
        exact again J9 q9
      | true =>
        rw [if_pos rfl] at q9 ⊢
        refine wpAny_mono (he G2.objs.size s2 H2 fp _ s9 σ8 H9 _ J9 q9) (fun y s10 ⟨v10, H10, J10, r10, hD, hlen, q10⟩ => ?_) (fun _ _ f => f)
        refine wpAny_mono (mt_append (X := compCx X (compN X.N tgs fr) scope G2.objs.size s2 H2 fp) _ s10 σ8 H10 (.ref s2.heap.objs.size) [v10] (.ref s2.heap.objs.size) [y] (fun _ H11 => H11 = upd H10 s2.heap.objs.size (.lst (ys ++ [v10]))) J10 rfl (.cons r10 .nil) ⟨_, ys, v10, rfl, rfl, hD, hlen, rfl⟩) (fun _ s11 ⟨_, H11, J11, _, e11⟩ => ?_) (fun _ _ f => f)
        subst e11
        exact again J11 q10
  exact codeAny_compStart_list (loop _ rfl) (T.self _ 0 _ _ _ st3 (loop _ rfl))

theorem pe_comp (hi : PI X tg iter wi) (sc : Scope) (hsc : X.env.scope = sc) (S : CompSc sc scope X.N tgs fr) (hc : X.calm = true) (hclos : closureFor scope X.env = pure (closL X.env.cells scope.names []))
    (hg : ∀ C s2 H2 fp, PG (compCx X (compN X.N tgs fr) scope C s2 H2 fp) tg g) (ht : ∀ C s2 H2 fp, PTs (compCx X (compN X.N tgs fr) scope C s2 H2 fp) ifs tt) (he : ∀ C s2 H2 fp, PE (compCx X (compN X.N tgs fr) scope C s2 H2 fp) elt te)
    (hs : ∀ x, foldedSetIterable iter X.env x = pure x := by intro _; rfl) : PE X (.ListComp elt [⟨tg, iter, ifs, 0⟩] scope pos) (tComp tgs.length fr wi g tt te) := by
  intro pins s σ H Q I h
  rw [eval_ListComp]
  refine wpAny_comprehension_free (use := none) rfl hs hclos S.kind S.loc (wpAny_mono (hi pins s σ H _ I h) (fun v s1 h1 => wpAny_mono h1 (fun itv s2 h2 => ?_) fun _ _ e => e) fun _ _ e => e)
  obtain ⟨it, fp, tn, J, H2, e, I2, T, st2, f2, R2⟩ := h2
  subst e
  refine comp_core (RR := fun acc C => compPost (model X.prog X.w) X.A X.xe none (EP X pins σ Q) acc C) hsc S hc hg ht he I2 T st2 f2 (R2 _ I2.fresh) ?_
  intro C H3 s4 I4 fC ⟨m, hn⟩ q
  refine ⟨m, hn, fun h' hs' => ⟨.ref s2.heap.objs.size, H3, ?_, rfl, q⟩⟩
  obtain ⟨hh, gg, dd, tt', oo⟩ := s4
  exact I4.turned (h' := h') (t' := tt') (it := C) (fun b o hb e => hs'.extBut b o hb e) fC.1 fC.2.1 fC.2.2.2.1 fC.2.2.2.2.1 fC.2.2.2.2.2

theorem ps_setComp {i : Nat} {y : Str} {py spos : Pos} (hN : X.N.Nodup) (hiy : X.N[i]? = some y) (hi : PI X tg iter wi) (sc : Scope) (hsc : X.env.scope = sc) (S : CompSc sc scope X.N tgs fr) (hc : X.calm = true)
    (hclos : closureFor scope X.env = pure (closL X.env.cells scope.names []))
    (hg : ∀ C s2 H2 fp, PG (compCx X (compN X.N tgs fr) scope C s2 H2 fp) tg g) (ht : ∀ C s2 H2 fp, PTs (compCx X (compN X.N tgs fr) scope C s2 H2 fp) ifs tt) (he : ∀ C s2 H2 fp, PE (compCx X (compN X.N tgs fr) scope C s2 H2 fp) elt te)
    (hy : X.env.scope.names.lookup y = some NameKind.local)
    (hsw : swapsWith (.ListComp elt [⟨tg, iter, ifs, 0⟩] scope pos) (some (.Name y py)) spos.line X.env = pure true)
    (hs : ∀ x, foldedSetIterable iter X.env x = pure x := by intro _; rfl) :
    PS X (.Assign [.Name y py] (.ListComp elt [⟨tg, iter, ifs, 0⟩] scope pos) spos) (tCompSet tgs.length fr wi g tt te i) := by
  intro pins s σ H D I h
  rw [exec_Assign_Name_used _ _ _ _ hsw]
  refine wpAny_bind (wpAny_standAt (wpAny_bind ?_))
  show wpAny _ X.A (do let _ ← comprehension (.ListComp elt [⟨tg, iter, ifs, 0⟩] scope pos) scope X.env _ (newList []) false (eval iter X.env) (some (assign (.Name y py) X.env))) _ _ s
  refine wpAny_bind (wpAny_mono (wpAny_comprehension_free (use := some (assign (.Name y py) X.env)) (Q := fun _ s' => SP X pins D .next s') rfl hs hclos S.kind S.loc
    (wpAny_mono (hi pins s σ H _ I h) (fun v s1 h1 => wpAny_mono h1 (fun itv s2 h2 => ?_) fun _ _ e => e) fun _ _ e => e)) (fun _ s' hq => wpAny_pure (wpAny_pure hq)) fun _ _ e => e)
  obtain ⟨it, fp, tn, J, H2, e, I2, T, st2, f2, R2⟩ := h2
  subst e
  refine comp_core (RR := fun acc C => compPost (model X.prog X.w) X.A X.xe (some (assign (.Name y py) X.env)) (fun _ s' => SP X pins D .next s') acc C) hsc S hc hg ht he I2 T st2 f2 (R2 _ I2.fresh) ?_
  intro C H3 s4 I4 fC ⟨m, hn⟩ q
  refine wpAny_assign_Name (store_ok2 (v := .ref s2.heap.objs.size) I4 hN hiy (.inl hy) rfl (fun s5 I5 ⟨a, hsb, ha⟩ => ?_) (.inr hy))
  have hLC : C ≠ a := by
    rcases ha with z | z
    · rw [z]; exact fC.2.1
    · exact fun z2 => fC.2.2.2.2.1 y a z z2.symm
  refine ⟨m, hn.sameBut hsb hLC, fun h' hs' => ⟨_, H3, ?_, q⟩⟩
  obtain ⟨hh, gg, dd, tt', oo⟩ := s5
  exact I5.turned (h' := h') (t' := tt') (it := C) (fun b o hb e => hs'.extBut b o hb e) fC.1 fC.2.1 fC.2.2.2.1 fC.2.2.2.2.1 fC.2.2.2.2.2
end
end L2

set_option Elab.async false
set_option linter.all false
set_option maxRecDepth 100000
set_option maxHeartbeats 4000000
namespace L2
open PySem PySem.Spec PyProof.Rows
open PySem.Builtin.Int (intBits)

/-! ### products of great numbers -/
section
variable {X : Cx}
theorem op_mulO : OpR X (binaryOp .Mult) (rI IntMulOk fun i j => .int (i * j)) := opI fun _ _ _ _ _ _ _ hc q => mul_int q hc
end
theorem mulOk {a b : Int} {m n : Nat} (ha : intBits a ≤ m) (hb : intBits b ≤ n) (h : m + n ≤ 134217728) : IntMulOk a b := PyProof.Rows.mulOk_of_bits ha hb h
theorem bits_ediv {a b : Int} {m : Nat} (hb : 0 < b) (ha : intBits a ≤ m) : intBits (a / b) ≤ m := by
  rw [← Int.fdiv_eq_ediv_of_nonneg a (Int.le_of_lt hb)]
  exact bits_fdiv ha
/-! ### isinstance of a built-in class -/
def kitB (T C : String) : Option Bool := if (Value.type T == Value.type C) = true then some true else if PySem.W.kitMeta C = true then (fastBuiltinMro T).map (·.contains (Value.type C)) else none
section
variable {X : Cx}
/-- isinstance(x, C): x of the built-in type T -/
def rIsi (K : PySem.W.Frag) : List V → Hp → VK → Prop := fun xs H Q => ∃ x T C b, xs = [x, .ty C] ∧ TyOf K H x (.type T) ∧ kitB T C = some b ∧ Q (.bl b) H
end

/-! ### data: what a value is, through the heap -/
mutual
def Rp (H : Hp) : PyData → V → Prop
  | .none, v => v = .non
  | .bool b, v => v = .bl b
  | .int i, v => v = .int i
  | .tuple ds, v => ∃ a xs, v = .ref a ∧ H a = some (.tup xs) ∧ RpAll H ds xs
  | .list ds, v => ∃ a xs, v = .ref a ∧ H a = some (.lst xs) ∧ RpAll H ds xs
  | .str x, v => v = .str x ∧ PyData.strOk x = true
  | .dict _, _ => False
def RpAll (H : Hp) : List PyData → List V → Prop
  | [], vs => vs = []
  | d :: ds, vs => ∃ x xs, vs = x :: xs ∧ Rp H d x ∧ RpAll H ds xs
end
mutual
theorem rp_can {H : Hp} : ∀ (d : PyData) (v : V), Rp H d v → d.canLay0 = true
  | .none, _, _ => rfl
  | .bool _, _, _ => rfl
  | .int _, _, _ => rfl
  | .tuple ds, _, h => by
    unfold Rp at h
    obtain ⟨a, xs, _, _, h⟩ := h
    exact rpAll_can ds xs h
  | .list ds, _, h => by
    unfold Rp at h
    obtain ⟨a, xs, _, _, h⟩ := h
    exact rpAll_can ds xs h
  | .str x, v, h => by
    unfold Rp at h
    exact h.2
  | .dict _, _, h => by unfold Rp at h; exact h.elim
theorem rpAll_can {H : Hp} : ∀ (ds : List PyData) (vs : List V), RpAll H ds vs → PyData.canLayAll0 ds = true
  | [], _, _ => rfl
  | d :: ds, vs, h => by
    unfold RpAll at h
    obtain ⟨x, xs, _, h1, h2⟩ := h
    show (d.canLay0 && PyData.canLayAll0 ds) = true
    rw [rp_can d x h1, rpAll_can ds xs h2]
    rfl
end
section
variable {X : Cx} {pins : List (Addr × Obj)} {σ : St} {H : Hp} {s : Shared}
mutual
theorem rp_reads (I : Inv X pins σ H s) : ∀ (d : PyData) (v : V) (u : Value), Rp H d v → RelV v u → ∃ as, Reads s.heap u d as
  | .none, v, u, h, r => by
    unfold Rp at h
    subst h
    cases r
    exact ⟨_, .none⟩
  | .bool b, v, u, h, r => by
    unfold Rp at h
    subst h
    cases r
    exact ⟨_, .bool b⟩
  | .int i, v, u, h, r => by
    unfold Rp at h
    subst h
    obtain ⟨t, rfl⟩ := r
    exact ⟨_, .int i t⟩
  | .tuple ds, v, u, h, r => by
    unfold Rp at h
    obtain ⟨a, xs, rfl, ha, h⟩ := h
    cases r
    obtain ⟨_, its, rv, p⟩ := I.hok a _ ha
    obtain ⟨o, h1, h2, n, h3⟩ := p
    obtain ⟨as, q⟩ := rpAll_reads I ds xs its h rv
    exact ⟨_, .tuple h1 h2 h3 (by simpa using q)⟩
  | .list ds, v, u, h, r => by
    unfold Rp at h
    obtain ⟨a, xs, rfl, ha, h⟩ := h
    cases r
    obtain ⟨_, its, n, rv, p⟩ := I.hok a _ ha
    obtain ⟨as, q⟩ := rpAll_reads I ds xs its h rv
    exact ⟨_, .list p rfl rfl (by simpa using q)⟩
  | .str x, v, u, h, r => by
    unfold Rp at h
    obtain ⟨rfl, _⟩ := h
    obtain ⟨t, rfl⟩ := r
    exact ⟨_, .str x t⟩
  | .dict _, _, _, h, _ => by unfold Rp at h; exact h.elim
theorem rpAll_reads (I : Inv X pins σ H s) : ∀ (ds : List PyData) (vs : List V) (us : List Value), RpAll H ds vs → Vals vs us → ∃ as, ReadsAll s.heap us ds as
  | [], vs, us, h, r => by
    unfold RpAll at h
    subst h
    cases r
    exact ⟨_, .nil⟩
  | d :: ds, vs, us, h, r => by
    unfold RpAll at h
    obtain ⟨x, xs, rfl, h1, h2⟩ := h
    cases r with
    | cons r1 r2 =>
      obtain ⟨as, q1⟩ := rp_reads I d x _ h1 r1
      obtain ⟨bs, q2⟩ := rpAll_reads I ds xs _ h2 r2
      exact ⟨_, .cons q1 q2⟩
end
end
section
variable {X : Cx} {k : Nat}
def rEqD (neg : Bool) : R2 := fun x y H Q => ∃ d e : PyData, Rp H d x ∧ Rp H e y ∧ d.depth ≤ 60 ∧ Q (.bl (if neg then !PyData.eqv d e else PyData.eqv d e)) H
theorem op_eqD (hr : Room k X.A) : OpR X (compareOp .Eq) (rEqD false) := by
  intro pins s σ H x y v u Q I rx ry h
  obtain ⟨d, e, h1, h2, hd, q⟩ := h
  obtain ⟨as, q1⟩ := rp_reads I d x v h1 rx
  obtain ⟨bs, q2⟩ := rp_reads I e y u h2 ry
  have hu := hr.units
  exact PySem.SeqAt.compareEq_reads q1 q2 (rp_can d x h1) (rp_can e y h2) (by omega) ⟨.bl (PyData.eqv d e), H, I, rfl, q⟩
theorem op_neD (hr : Room k X.A) : OpR X (compareOp .NotEq) (rEqD true) := by
  intro pins s σ H x y v u Q I rx ry h
  obtain ⟨d, e, h1, h2, hd, q⟩ := h
  obtain ⟨as, q1⟩ := rp_reads I d x v h1 rx
  obtain ⟨bs, q2⟩ := rp_reads I e y u h2 ry
  have hu := hr.units
  exact PySem.SeqAt.compareNe_reads q1 q2 (rp_can d x h1) (rp_can e y h2) (by omega) ⟨.bl (!PyData.eqv d e), H, I, rfl, q⟩
end
theorem rp_ints {H : Hp} : ∀ ns : List Int, RpAll H (ns.map PyData.int) (ns.map V.int)
  | [] => by unfold RpAll; rfl
  | n :: ns => by
    show RpAll H (PyData.int n :: ns.map PyData.int) (V.int n :: ns.map V.int)
    unfold RpAll
    exact ⟨_, _, rfl, by unfold Rp; rfl, rp_ints ns⟩

/-! ### more of heaps -/
theorem Same.new {H H' : Hp} {p : Addr} {o : HO} (e : Same H H') (h : H p = none) : Same H (upd H' p o) := fun b u q => by
  rw [upd_ne (ne_of_none q h)]
  exact e b u q
theorem Same.upd {H : Hp} {p : Addr} {o : HO} (h : H p = none) : Same H (upd H p o) := (Same.refl H).new h

/-! ### the law's head, with the numbers' sizes -/
theorem walk_ofB {l : PySem.W.OpenLaw} {n k : Nat} {q : Program} {loose : List Str} {XP : (Str → Option Value) → Heap → Prop} {YP : World → Heap → Prop} {d : DefRec} {K : Params → PySem.W.Frag} {CX : World → CXT} {sp : World → Sp} {x : Str}
    (hn : l.most = some n) (hn2 : n ≤ sizeLine) (hdf : d.params.defaults = []) (hr : Room k callerA)
    (hY : ∀ (w : World) (h : Heap), YP w h → (K w.params).In h)
    (F : ∀ (w : World) (mg : Str → Option Value) (fa : Addr) (h : Heap), (K w.params).In h → h.Ns mainGlobals mg → mg d.name = some (.ref fa) →
      ∃ fd : FuncData, (∀ (s : Shared) (u : Value), BindsTo s fd ⟨[u], []⟩ [(x, u)]) ∧
        ∀ base : Heap, (K w.params).In base → base.Ns mainGlobals mg → FnOk l.prog w (K w.params) mg base (CX w) k fa fd [x] (sp w))
    (hsp : ∀ (w : World) (H : Hp) (a : Addr) (ns : List Int), ns.length ≤ n → (∀ z ∈ ns, intBits z ≤ 2 ^ 20) → Only H → SqL (K w.params) H a (ns.map V.int) → sp w [.ref a] H (fun v _ => v = .bl true) fun _ _ _ => False)
    (hCX : ∀ (w : World) (H : Hp) (s : Shared) (e : Value) (s' : Shared), CX w [] H s (fun _ _ _ => False) e s' → False) :
    PySem.W.WalkO q loose XP YP l.row.toRowW d [] (fun f vs => PySem.call f vs) := by
  intro w s₀ s₁ mg mb G Y fa o pm cd doc dV kV ho hd hcd hD hmg hg args vals as hpre hlay hrd hwl hlo
  obtain rfl : dV = .none := PySem.W.Dflts.none hD hdf
  obtain rfl : kV = .none := PySem.W.Dflts.noKw hD
  obtain ⟨a, vs, ns, rfl, rfl, hobj, hints, hlen⟩ := Att.script_of hn hpre hwl
  have big : ∀ z ∈ ns, intBits z ≤ 2 ^ 20 := fun z hz => by
    have l1 := (PySem.W.layW_cons hlay).1
    have l2 := PySem.W.layableW_item l1 (.int z) (List.mem_map.mpr ⟨z, hz, rfl⟩)
    have l3 := (PySem.W.layableW_iff.mp l2).2.2
    simpa only [PySem.W.WData.weight, Builtin.Int.intBits] using l3
  have KX := hY w _ Y
  obtain ⟨fd, hb, hF⟩ := F w mg fa _ KX G.T.g hmg
  refine PySem.W.enter_call (codeAny_mono (law_call KX G.T.g G.T.b G.T.builtins G.T.nolimit hg hobj hints (Nat.le_trans hlen hn2) hr hF hb (fun H hO hS => hsp w H a ns hlen big hO hS) fun H e s' => hCX w H s₁ e s') fun r s' hq => ?_)
  obtain ⟨rfl, h2, h3, h4⟩ := hq
  exact ⟨.inl ⟨.bool true, .bool true, [], rfl, fun _ => rfl, .bool true, Att.post_true l _, fun _ => ⟨List.Pairwise.nil, fun _ hm => (nomatch hm)⟩⟩, h2, h3, h4⟩
end L2

set_option Elab.async false
set_option linter.all false
set_option maxRecDepth 100000
set_option maxHeartbeats 4000000
namespace L2
open PySem PySem.Spec PyProof.Rows
open PySem.Builtin.Int (intBits)

section
variable {X : Cx} {tg : Expr}
/-! ### an item of a list or a tuple -/
def rIxQ (K : PySem.W.Frag) : R2 := fun x y H Q => ∃ p xs i v, x = .ref p ∧ y = .int i ∧ (SqL K H p xs ∨ SqT K H p xs) ∧ atI xs i = some v ∧ Q v H
theorem ix_sq (K : PySem.W.Frag) (hK : X.K = K := by rfl) : IxR X (rIxQ K) := by
  subst hK
  intro value slice pins s σ H x y v u Q I rx ry h hs
  obtain ⟨p, xs, i, z, e1, e2, h | h, ea, q⟩ := h
  · exact ix_list value slice pins s σ H x y v u Q I rx ry ⟨p, xs, i, z, e1, e2, h, ea, q⟩ hs
  · exact ix_tup value slice pins s σ H x y v u Q I rx ry ⟨p, xs, i, z, e1, e2, h, ea, q⟩ hs
/-! ### rules of the layer with the text's part K told, for a comprehension's inside -/
def rLen (K : PySem.W.Frag) : List V → Hp → VK → Prop := fun xs H Q => ∃ p ys, xs = [.ref p] ∧ (SqL K H p ys ∨ SqT K H p ys) ∧ Q (.int ys.length) H
theorem call_lenK (K : PySem.W.Frag) (hK : X.K = K := by rfl) : CallR X (.builtin "len") (rLen K) := by
  subst hK
  exact call_len_seq
theorem op_inK (K : PySem.W.Frag) (hK : X.K = K := by rfl) : OpR X (compareOp .In) (rIn K false) := by
  subst hK
  exact op_in_seq
theorem sl_listK (K : PySem.W.Frag) (hK : X.K = K := by rfl) : SlR X (rSlL K) := by
  subst hK
  exact sl_list
theorem pg_tupK (K : PySem.W.Frag) {es : List Expr} {kk : Nat} {t : TGs} {n : Nat} {pos : Pos} (hc : X.calm = true) (h : PGs X es t) (hK : X.K = K := by rfl)
    (hn : (assignEach es X.env).length = n := by rfl) (hst : (assignEach es X.env).findIdx? (·.1) = none := by rfl) : PG X (.Tuple es kk pos) (gTup K n t) := by
  subst hK
  exact pg_tup hc h hn hst
/-! ### a walk over a list or a tuple -/
def iSq (K : PySem.W.Frag) (tl : TE) : TI := fun σ H R => tl σ H fun x H1 => ∃ a, x = .ref a ∧ (((∃ xs, SqL K H1 a xs) ∧ R (Itl K a) H1) ∨ ((∃ xs, SqT K H1 a xs) ∧ R (Itt K a) H1))
theorem pi_sq {l : Expr} {tl : TE} (hl : PE X l tl) : PI X tg l (iSq X.K tl) := by
  intro pins s σ H R I h
  refine thn (hl pins s σ H _ I h) fun v s1 ⟨x, H1, I1, r1, q1⟩ => ?_
  obtain ⟨a, e, q1⟩ := q1
  subst e
  cases r1
  rcases q1 with ⟨⟨xs, hq⟩, q⟩ | ⟨⟨xs, hq⟩, q⟩
  · obtain ⟨its, rv, p, hz⟩ := I1.list hq
    refine wpAny_pyIter_list p.isList ?_
    refine ⟨s1.heap.objs.size, [s1.heap.objs.size], _, _, H1, rfl, I1.kept (t' := s1.toks) fun b o e => Heap.get?_push_of_some _ e, turn_list a _, ⟨_, Heap.get?_push_size _ rfl, rfl, rfl⟩, fun b hb => ?_, q⟩
    have e : b = s1.heap.objs.size := by simpa using hb
    subst e
    exact I1.fpOk (Nat.le_refl _) (I1.hok.fresh (Nat.le_refl _))
  · obtain ⟨its, rv, p, hz⟩ := I1.tuple hq
    refine wpAny_pyIter_tuple (show s1.heap.IsTuple a its.toArray from p) ?_
    refine ⟨s1.heap.objs.size, [s1.heap.objs.size], _, _, H1, rfl, I1.kept (t' := s1.toks) fun b o e => Heap.get?_push_of_some _ e, turn_tuple a _, ⟨_, Heap.get?_push_size _ rfl, rfl, rfl⟩, fun b hb => ?_, q⟩
    have e : b = s1.heap.objs.size := by simpa using hb
    subst e
    exact I1.fpOk (Nat.le_refl _) (I1.hok.fresh (Nat.le_refl _))
end

/-! ### the turns of a comprehension: the forms one uses -/
theorem comp_range {fr : List Nat} {te : TE} {σ : St} {D : Addr} {H1 : Hp} {Q : Hp → Prop} {lo : Int} {cnt : Nat} (Pv : Nat → List V → Hp → Prop) (h0 : Pv 0 [] (upd H1 D (.lst [])))
    (hs : ∀ i ys H, i < cnt → Pv i ys H → ∀ Qe : VK, (∀ y H5, H5 D = some (.lst ys) → ys.length < sizeLine → Pv (i + 1) (ys ++ [y]) (upd H5 D (.lst (ys ++ [y]))) → Qe y H5) → te (some (.int (lo + i)) :: compFr fr σ) H Qe)
    (hd : ∀ ys H, Pv cnt ys H → Q H) : CompRun 1 fr (Itr lo cnt) (gName 0) tYes te σ D H1 Q := by
  refine ⟨fun i m ys H => m = cnt - i ∧ i ≤ cnt ∧ Pv i ys H, ⟨cnt, by simp, Nat.zero_le _, h0⟩, ?_⟩
  rintro i m ys H' ⟨rfl, hi, p⟩
  by_cases hlt : i < cnt
  · refine .inr ⟨hlt, fun x H2 y => ?_⟩
    obtain ⟨e, y⟩ := y
    subst e y
    refine ⟨⟨[some (.int (lo + i))], rfl, rfl⟩, ?_⟩
    simp only [tYes, ↓reduceIte]
    exact hs i ys _ hlt p _ fun y H5 hD hz pv => ⟨hD, hz, cnt - (i + 1), by omega, rfl, hlt, pv⟩
  · have e : i = cnt := by omega
    subst e
    exact .inl ⟨Nat.le_refl _, hd ys H' p⟩
theorem comp_list {K : PySem.W.Frag} {a : Addr} {xs : List V} {fr : List Nat} {te : TE} {σ : St} {D : Addr} {H1 : Hp} {Q : Hp → Prop} (Pv : Nat → List V → Hp → Prop) (h0 : Pv 0 [] (upd H1 D (.lst [])))
    (hl : ∀ i ys H, i ≤ xs.length → Pv i ys H → SqL K H a xs)
    (hs : ∀ i x ys H, xs[i]? = some x → Pv i ys H → ∀ Qe : VK, (∀ y H5, H5 D = some (.lst ys) → ys.length < sizeLine → Pv (i + 1) (ys ++ [y]) (upd H5 D (.lst (ys ++ [y]))) → Qe y H5) → te (some x :: compFr fr σ) H Qe)
    (hd : ∀ ys H, Pv xs.length ys H → Q H) : CompRun 1 fr (Itl K a) (gName 0) tYes te σ D H1 Q := by
  refine ⟨fun i m ys H => m = xs.length - i ∧ i ≤ xs.length ∧ Pv i ys H, ⟨xs.length, by simp, Nat.zero_le _, h0⟩, ?_⟩
  rintro i m ys H' ⟨rfl, hi, p⟩
  have q := hl i ys H' hi p
  by_cases hlt : i < xs.length
  · refine .inr ⟨⟨xs, xs[i], q, by simp [hlt]⟩, fun x H2 y => ?_⟩
    obtain ⟨e, y⟩ := y
    subst e
    refine ⟨⟨[some x], rfl, rfl⟩, ?_⟩
    simp only [tYes, ↓reduceIte]
    exact hs i x ys _ (y xs q) p _ fun y H5 hD hz pv => ⟨hD, hz, xs.length - (i + 1), by omega, rfl, hlt, pv⟩
  · have e : i = xs.length := by omega
    subst e
    exact .inl ⟨⟨xs, q, Nat.le_refl _⟩, hd ys H' p⟩
theorem comp_tup {K : PySem.W.Frag} {a : Addr} {xs : List V} {fr : List Nat} {te : TE} {σ : St} {D : Addr} {H1 : Hp} {Q : Hp → Prop} (Pv : Nat → List V → Hp → Prop) (h0 : Pv 0 [] (upd H1 D (.lst [])))
    (hl : ∀ i ys H, i ≤ xs.length → Pv i ys H → SqT K H a xs)
    (hs : ∀ i x ys H, xs[i]? = some x → Pv i ys H → ∀ Qe : VK, (∀ y H5, H5 D = some (.lst ys) → ys.length < sizeLine → Pv (i + 1) (ys ++ [y]) (upd H5 D (.lst (ys ++ [y]))) → Qe y H5) → te (some x :: compFr fr σ) H Qe)
    (hd : ∀ ys H, Pv xs.length ys H → Q H) : CompRun 1 fr (Itt K a) (gName 0) tYes te σ D H1 Q := by
  refine ⟨fun i m ys H => m = xs.length - i ∧ i ≤ xs.length ∧ Pv i ys H, ⟨xs.length, by simp, Nat.zero_le _, h0⟩, ?_⟩
  rintro i m ys H' ⟨rfl, hi, p⟩
  have q := hl i ys H' hi p
  by_cases hlt : i < xs.length
  · refine .inr ⟨⟨xs, xs[i], q, by simp [hlt]⟩, fun x H2 y => ?_⟩
    obtain ⟨e, y⟩ := y
    subst e
    refine ⟨⟨[some x], rfl, rfl⟩, ?_⟩
    simp only [tYes, ↓reduceIte]
    exact hs i x ys _ (y xs q) p _ fun y H5 hD hz pv => ⟨hD, hz, xs.length - (i + 1), by omega, rfl, hlt, pv⟩
  · have e : i = xs.length := by omega
    subst e
    exact .inl ⟨⟨xs, q, Nat.le_refl _⟩, hd ys H' p⟩

/-! ### the script's cells -/
def cellI (ns : List Int) (k : Int) : Int := (ns[k.toNat]?).getD 0
theorem atI_int {ns : List Int} {k : Int} (h0 : 0 ≤ k) (h : k < ns.length) : atI (ns.map V.int) k = some (.int (cellI ns k)) := by
  obtain ⟨j, rfl⟩ : ∃ j : Nat, k = j := ⟨k.toNat, by omega⟩
  have hj : j < ns.length := by omega
  refine atI_nat ?_
  unfold cellI
  rw [List.getElem?_map, Int.toNat_natCast, List.getElem?_eq_getElem hj]
  rfl
theorem cellI_out {ns : List Int} {k : Int} (h0 : 0 ≤ k) (h : ¬ k < ns.length) : cellI ns k = 0 := by
  unfold cellI
  rw [List.getElem?_eq_none (by omega)]
  rfl
theorem cellI_bits {ns : List Int} {k : Int} (hb : ∀ z ∈ ns, intBits z ≤ 2 ^ 20) : intBits (cellI ns k) ≤ 2 ^ 20 := by
  unfold cellI
  cases e : ns[k.toNat]? with
  | none => show intBits 0 ≤ 2 ^ 20; decide
  | some n => exact hb n (List.mem_of_getElem? e)
theorem SqT.same {K : PySem.W.Frag} {H H' : Hp} {a : Addr} {xs : List V} (e : Same H H') (h : SqT K H a xs) : SqT K H' a xs := by
  rcases h with (h | ⟨o, h⟩) | h
  · exact .inl (.inl (e _ _ h))
  · exact .inl (.inr ⟨o, e _ _ h⟩)
  · exact .inr h
theorem ite_t {c : Bool} {A B : Prop} (hc : c = true) (h : A) : if c = true then A else B := by rw [if_pos hc]; exact h
theorem ite_f {c : Bool} {A B : Prop} (hc : c = false) (h : B) : if c = true then A else B := by rw [if_neg (by rw [hc]; exact Bool.false_ne_true)]; exact h
theorem lenOk {xs : List V} (h : xs.length ≤ 1000 := by simp) : xs.length ≤ sizeLine := Nat.le_of_lt (small1000 h)
theorem small63 {n : Nat} (h : n ≤ 1000) : n ≤ sizeLine := Nat.le_of_lt (small1000 h)
end L2

set_option Elab.async false
set_option linter.all false
set_option maxRecDepth 100000
set_option maxHeartbeats 4000000
namespace L2
open PySem PySem.Spec PyProof.Rows
open PySem.Builtin.Int (intBits)

/-! ### tuples of ints, pairs -/
def dT (ws : List Int) : PyData := .tuple (ws.map PyData.int)
def dL (ws : List Int) : PyData := .list (ws.map PyData.int)
def dP (d e : PyData) : PyData := .tuple [d, e]
def dO : Option Int → PyData
  | none => .none
  | some i => .int i
def vO : Option Int → V
  | none => .non
  | some i => .int i
theorem rp_int {H : Hp} (i : Int) : Rp H (.int i) (.int i) := by unfold Rp; rfl
theorem rp_non {H : Hp} : Rp H .none .non := by unfold Rp; rfl
theorem rp_dT {H : Hp} {t : Addr} {ws : List Int} (h : H t = some (.tup (ws.map V.int))) : Rp H (dT ws) (.ref t) := by
  unfold dT Rp
  exact ⟨t, _, rfl, h, rp_ints ws⟩
theorem rp_dL {H : Hp} {t : Addr} {ws : List Int} (h : H t = some (.lst (ws.map V.int))) : Rp H (dL ws) (.ref t) := by
  unfold dL Rp
  exact ⟨t, _, rfl, h, rp_ints ws⟩
theorem rp_dP {H : Hp} {p : Addr} {d e : PyData} {x y : V} (h : H p = some (.tup [x, y])) (hd : Rp H d x) (he : Rp H e y) : Rp H (dP d e) (.ref p) := by
  unfold dP Rp
  refine ⟨p, _, rfl, h, ?_⟩
  unfold RpAll
  refine ⟨x, _, rfl, hd, ?_⟩
  unfold RpAll
  refine ⟨y, _, rfl, he, ?_⟩
  unfold RpAll
  rfl
theorem depthAll_ints : ∀ ws : List Int, PyData.depthAll (ws.map PyData.int) = 0
  | [] => rfl
  | w :: ws => by
    show max (PyData.depth (.int w)) (PyData.depthAll (ws.map PyData.int)) = 0
    rw [depthAll_ints ws]
    rfl
theorem depth_dT (ws : List Int) : (dT ws).depth = 1 := by
  show PyData.depthAll (ws.map PyData.int) + 1 = 1
  rw [depthAll_ints]
theorem depth_dL (ws : List Int) : (dL ws).depth = 1 := by
  show PyData.depthAll (ws.map PyData.int) + 1 = 1
  rw [depthAll_ints]
theorem depth_dP (d e : PyData) : (dP d e).depth = max d.depth e.depth + 1 := by
  show max d.depth (max e.depth 0) + 1 = _
  rw [Nat.max_zero]
theorem eqvAll_ints : ∀ xs ys : List Int, PyData.eqvAll (xs.map PyData.int) (ys.map PyData.int) = decide (xs = ys)
  | [], [] => rfl
  | x :: xs, y :: ys => by
    show (PyData.eqv (.int x) (.int y) && PyData.eqvAll (xs.map PyData.int) (ys.map PyData.int)) = _
    rw [eqvAll_ints xs ys]
    show ((x == y) && decide (xs = ys)) = _
    by_cases h1 : x = y <;> by_cases h2 : xs = ys <;> simp [h1, h2]
  | [], _ :: _ => rfl
  | _ :: _, [] => rfl
theorem eqv_dT (xs ys : List Int) : PyData.eqv (dT xs) (dT ys) = decide (xs = ys) := eqvAll_ints xs ys
theorem eqv_dL (xs ys : List Int) : PyData.eqv (dL xs) (dL ys) = decide (xs = ys) := eqvAll_ints xs ys
theorem eqv_dP (a b c d : PyData) : PyData.eqv (dP a b) (dP c d) = (PyData.eqv a c && PyData.eqv b d) := by
  show (PyData.eqv a c && (PyData.eqv b d && true)) = _
  rw [Bool.and_true]
end L2

set_option Elab.async false
set_option linter.all false
set_option maxRecDepth 100000
set_option maxHeartbeats 4000000
namespace L2
open PySem PySem.Spec PyProof.Rows
open PySem.Builtin.Int (intBits)

section
variable {X : Cx} {pins : List (Addr × Obj)} {σ : St} {H : Hp} {s : Shared} {h' : Heap}
/-- records of ours (at ch) have turned, a new object is laid at T -/
theorem Inv.turnLaid {ch : List Addr} {T : Addr} {o : HO} {t' : Nat} (I : Inv X pins σ H s) (hch : ∀ b ∈ ch, FpOk X pins H b) (k : ∀ b ob, b ∉ ch → s.heap.get? b = some ob → h'.get? b = some ob)
    (hT : s.heap.objs.size ≤ T) (new : ObjOk X.prog X.w (upd H T o) h' T o) : Inv X pins σ (upd H T o) { s with heap := h', toks := t' } := by
  have hn : H T = none := I.hok.fresh hT
  have off : ∀ b u, H b = some u → b ∉ ch := fun b u e hb => by
    have z := (hch b hb).1
    rw [e] at z
    cases z
  refine I.call (g' := s.gens) (d' := s.drawn) (t' := t') (ch := ch) ⟨fun b ob e _ _ hc => k b ob hc e, fun b ob e _ _ hc => ⟨ob.slots, k b ob hc e⟩, fun b ob e n hc => ?_, fun b ob e hc => ⟨ob, k b ob hc e⟩, fun b xs e => ?_, fun b ob u e => ?_, fun b ps e => ⟨#[], ?_⟩⟩ (fun b u e => ?_) I.bare
    (fun b hb => ⟨(hch b hb).2.2.2.1, (hch b hb).2.1, (hch b hb).2.2.2.2.1, (hch b hb).2.2.2.2.2⟩)
  · rw [upd_ne (Nat.ne_of_lt (Nat.lt_of_lt_of_le (Heap.lt_size e) hT))]
    exact n
  · rw [upd_ne (ne_of_none e hn)]
    exact e
  · rw [upd_ne (ne_of_none e hn)]
    exact e
  · rw [upd_ne (ne_of_none e hn), e]
    simp
  · by_cases hb : b = T
    · subst hb
      rw [upd_same] at e
      cases e
      exact new
    · rw [upd_ne hb] at e
      refine (I.hok b u e).stay (fun c v hc q => k c v ?_ q) (fun c q => ?_) fun c xs q => ?_
      · rcases hc with rfl | hc
        · exact off _ _ e
        · exact off _ _ hc
      · rw [upd_ne (ne_of_none q hn)]
        exact q
      · rw [upd_ne (ne_of_none q hn)]
        exact q
/-- records of ours (at ch) have turned -/
theorem Inv.turnMany {ch : List Addr} {t' : Nat} (I : Inv X pins σ H s) (hch : ∀ b ∈ ch, FpOk X pins H b) (k : ∀ b ob, b ∉ ch → s.heap.get? b = some ob → h'.get? b = some ob) : Inv X pins σ H { s with heap := h', toks := t' } := by
  have off : ∀ b u, H b = some u → b ∉ ch := fun b u e hb => by
    have z := (hch b hb).1
    rw [e] at z
    cases z
  refine I.call (g' := s.gens) (d' := s.drawn) (t' := t') (ch := ch) ⟨fun b ob e _ _ hc => k b ob hc e, fun b ob e _ _ hc => ⟨ob.slots, k b ob hc e⟩, fun b ob e n hc => n, fun b ob e hc => ⟨ob, k b ob hc e⟩, fun b xs e => e, fun b ob u e => e, fun b ps e => ⟨#[], by rw [e]; simp⟩⟩ (fun b u e => ?_) I.bare
    (fun b hb => ⟨(hch b hb).2.2.2.1, (hch b hb).2.1, (hch b hb).2.2.2.2.1, (hch b hb).2.2.2.2.2⟩)
  refine (I.hok b u e).stay (fun c v hc q => k c v ?_ q) (fun c q => q) fun c xs q => q
  rcases hc with rfl | hc
  · exact off _ _ e
  · exact off _ _ hc
end

/-! ### zip of two lists, unpacked -/
def Itz (K : PySem.W.Frag) (l1 l2 : Addr) : It :=
  ⟨fun i H => ∃ xs ys x y, SqL K H l1 xs ∧ SqL K H l2 ys ∧ xs[i]? = some x ∧ ys[i]? = some y,
   fun i H v H' => ∃ T x y, v = .ref T ∧ H T = none ∧ H' = upd H T (.tup [x, y]) ∧ (∀ xs, SqL K H l1 xs → xs[i]? = some x) ∧ ∀ ys, SqL K H l2 ys → ys[i]? = some y,
   fun i H => ∃ xs ys, SqL K H l1 xs ∧ SqL K H l2 ys ∧ (xs.length ≤ i ∨ ys.length ≤ i)⟩
theorem turn_zip {P : Program} {w : World} {K : PySem.W.Frag} {elts : List Expr} {kk : Nat} {pos : Pos} {z TI TO i1 i2 l1 l2 : Addr} (D : ZipApart z TI TO i1 i2 l1 l2) :
    Turn P w K (.Tuple elts kk pos) (Itz K l1 l2) [z, TI, TO, i1, i2] z (fun i h => IsZip h z TI TO .none ∧ IsPair h TI (.ref i1) (.ref i2) ∧ (∃ a b, IsPair h TO a b) ∧ h.IsListIter i1 l1 i ∧ h.IsListIter i2 l2 i) where
  mem := List.mem_cons_self
  obj := fun i h ⟨hz, hTI, ⟨a, b, hTO⟩, h1, h2⟩ c hc => by
    obtain ⟨o1, e1, c1, d1⟩ := h1
    obtain ⟨o2, e2, c2, d2⟩ := h2
    simp only [List.mem_cons, List.not_mem_nil, or_false] at hc
    rcases hc with rfl | rfl | rfl | rfl | rfl
    · exact ⟨_, hz, fun v q => by cases q⟩
    · exact ⟨_, hTI, fun v q => by cases q⟩
    · exact ⟨_, hTO, fun v q => by cases q⟩
    · exact ⟨_, e1, fun v q => by rw [d1] at q; cases q⟩
    · exact ⟨_, e2, fun v q => by rw [d2] at q; cases q⟩
  keep := fun i h h' ⟨hz, hTI, ⟨a, b, hTO⟩, ⟨o1, e1, c1⟩, ⟨o2, e2, c2⟩⟩ hk =>
    ⟨hk z (by simp) _ hz, hk TI (by simp) _ hTI, ⟨a, b, hk TO (by simp) _ hTO⟩, ⟨o1, hk i1 (by simp) _ e1, c1⟩, ⟨o2, hk i2 (by simp) _ e2, c2⟩⟩
  item := by
    intro X hP hw hK hc i pins s σ H E I hfp ⟨hz, hTI, ⟨a, b, hTO⟩, h1, h2⟩ ⟨xs, ys, x, y, q1, q2, ex, ey⟩
    subst hP hw hK
    obtain ⟨its1, r1, p1, z1⟩ := I.list q1
    obtain ⟨its2, r2, p2, z2⟩ := I.list q2
    obtain ⟨u1, eu1, ru1⟩ := r1.get ex
    obtain ⟨u2, eu2, ru2⟩ := r2.get ey
    refine wpAny_pyNext_zip_item D hz hTI hTO h1 h2 p1.isList p2.isList (by simpa using eu1) (by simpa using eu2) fun h' a1 a2 a3 a4 a5 a6 hk => ⟨_, rfl, ?_⟩
    refine wpAny_letOwnedTupleGo_zip a1 fun h'' hz'' hs'' => ?_
    have hzlt : z < s.heap.objs.size := Heap.lt_size hz
    have nz : s.heap.objs.size ≠ z := Nat.ne_of_gt hzlt
    have hTp : IsPair h'' s.heap.objs.size u1 u2 := hs''.extBut _ _ nz a5
    refine ⟨.ref s.heap.objs.size, upd H s.heap.objs.size (.tup [x, y]), I.turnLaid (t' := s.toks) (ch := [z, TI, TO, i1, i2]) hfp (fun c o hc e => ?_) (Nat.le_refl _) ?_, rfl, ⟨_, x, y, rfl, I.fresh, rfl, fun xs' q => ?_, fun ys' q => ?_⟩, ⟨hz'', ?_, ⟨u1, u2, ?_⟩, ?_, ?_⟩, fun c hc => ?_⟩
    · simp only [List.mem_cons, List.not_mem_nil, or_false, not_or] at hc
      obtain ⟨c1, c2, c3, c4, c5⟩ := hc
      exact hs''.extBut _ _ c1 (hk c o c1 c3 c4 c5 e)
    · exact ⟨⟨Nat.le_trans (by decide : 2 ≤ 1000) (small63 (Nat.le_refl _)), _, hTp, rfl⟩, [u1, u2], .cons ru1 (.cons ru2 .nil), ⟨_, hTp, rfl, 0, rfl⟩⟩
    · rw [I.list_inj q q1]
      exact ex
    · rw [I.list_inj q q2]
      exact ey
    · exact hs''.extBut _ _ D.TIz (hk TI _ D.TIz D.TITO D.TIi1 D.TIi2 hTI)
    · exact hs''.extBut _ _ D.TOz a2
    · obtain ⟨o, e, c⟩ := a3
      exact ⟨o, hs''.extBut _ _ D.i1z e, c⟩
    · obtain ⟨o, e, c⟩ := a4
      exact ⟨o, hs''.extBut _ _ D.i2z e, c⟩
    · rw [upd_ne]
      · exact (hfp c hc).1
      · have lt : c < s.heap.objs.size := by
          obtain ⟨o1, e1, _⟩ := h1
          obtain ⟨o2, e2, _⟩ := h2
          simp only [List.mem_cons, List.not_mem_nil, or_false] at hc
          rcases hc with rfl | rfl | rfl | rfl | rfl
          · exact hzlt
          · exact Heap.lt_size hTI
          · exact Heap.lt_size hTO
          · exact Heap.lt_size e1
          · exact Heap.lt_size e2
        exact Nat.ne_of_lt lt
  done := by
    intro X hP hw hK hc i pins s σ H E I hfp ⟨hz, hTI, ⟨a, b, hTO⟩, h1, h2⟩ ⟨xs, ys, q1, q2, he⟩
    subst hP hw hK
    obtain ⟨its1, r1, p1, z1⟩ := I.list q1
    obtain ⟨its2, r2, p2, z2⟩ := I.list q2
    have l1 := r1.length
    have l2 := r2.length
    refine wpAny_pyNext_zip_end (I.ok.hd hc) D hz hTI hTO h1 h2 p1.isList p2.isList ?_ fun h' hk => ⟨rfl, I.turnMany (t' := s.toks) (ch := [z, TI, TO, i1, i2]) hfp fun c o hc e => ?_⟩
    · rcases he with he | he
      · exact .inl (by simp; omega)
      · exact .inr (by simp; omega)
    · simp only [List.mem_cons, List.not_mem_nil, or_false, not_or] at hc
      obtain ⟨c1, c2, c3, c4, c5⟩ := hc
      exact hk c o c1 c3 c4 c5 e
  self := fun A i s Q E ⟨hz, _⟩ hQ => wpAny_pyIter_zip hz hQ
section
variable {X : Cx}
def iZip (K : PySem.W.Frag) (ta : TA) : TI := fun σ H R => ta σ H fun vs H1 => ∃ a b, vs = [.ref a, .ref b] ∧ (∃ xs, SqL K H1 a xs) ∧ (∃ ys, SqL K H1 b ys) ∧ R (Itz K a b) H1
theorem pi_zip {elts : List Expr} {kk : Nat} {tpos : Pos} {a b : Expr} {ta : TA} {p pos : Pos} (hg : Gl X "zip") (hm : X.mg "zip" = none) (ha : PA X [a, b] ta) (hs : starEach [a, b] X.env = [(false, eval a X.env), (false, eval b X.env)] := by rfl) (hs2 : starEach [b] X.env = [(false, eval b X.env)] := by rfl) :
    PI X (.Tuple elts kk tpos) (.Call (.Name "zip" p) [a, b] [] pos) (iZip X.K ta) := by
  intro pins s σ H R I h
  refine Call_ (ld_blt I hg hm boot_zip (PyProof.Rows.callWith_type1 (thn (ha pos pins s σ H _ I h) fun us s1 ⟨vs, H1, I1, r1, q1⟩ => ?_) (by rw [hs, hs2]) (by rw [hs2]; rfl)))
  obtain ⟨l1, l2, e, ⟨xs, hx⟩, ⟨ys, hy⟩, q⟩ := q1
  subst e
  obtain ⟨u1, u2, rfl, ru1, ru2⟩ := vals2 r1
  cases ru1
  cases ru2
  obtain ⟨its1, rr1, p1, z1⟩ := I1.list hx
  obtain ⟨its2, rr2, p2, z2⟩ := I1.list hy
  have lt1 : l1 < s1.heap.objs.size := by obtain ⟨o, e, _⟩ := p1.isList; exact Heap.lt_size e
  have lt2 : l2 < s1.heap.objs.size := by obtain ⟨o, e, _⟩ := p2.isList; exact Heap.lt_size e
  refine call_zip_2 p1.isList p2.isList fun h' a1 a2 a3 a4 a5 a6 hk => ?_
  refine wpAny_pyIter_zip a1 ?_
  have I2 : Inv X pins σ H1 { s1 with heap := h' } := I1.kept (t' := s1.toks) hk
  refine ⟨s1.heap.objs.size + 4, [s1.heap.objs.size + 4, s1.heap.objs.size + 2, s1.heap.objs.size + 3, s1.heap.objs.size, s1.heap.objs.size + 1], _, _, H1, rfl, I2, turn_zip (zipApart_new lt1 lt2), ⟨a1, a2, ⟨_, _, a3⟩, a4, a5⟩, fun c hc => ?_, q⟩
  have hle : s1.heap.objs.size ≤ c := by
    simp only [List.mem_cons, List.not_mem_nil, or_false] at hc
    rcases hc with rfl | rfl | rfl | rfl | rfl <;> omega
  exact I1.fpOk hle (I1.hok.fresh hle)
end

/-! ### enumerate of a list, unpacked -/
def Ite (K : PySem.W.Frag) (l : Addr) : It :=
  ⟨fun i H => ∃ xs x, SqL K H l xs ∧ xs[i]? = some x,
   fun i H v H' => ∃ T x, v = .ref T ∧ H T = none ∧ H' = upd H T (.tup [.int i, x]) ∧ ∀ xs, SqL K H l xs → xs[i]? = some x,
   fun i H => ∃ xs, SqL K H l xs ∧ xs.length ≤ i⟩
section
variable {X : Cx}
def iEnum (K : PySem.W.Frag) (ta : TA) : TI := fun σ H R => ta σ H fun vs H1 => ∃ a, vs = [.ref a] ∧ (∃ xs, SqL K H1 a xs) ∧ R (Ite K a) H1
end
end L2

set_option Elab.async false
set_option linter.all false
set_option maxRecDepth 100000
set_option maxHeartbeats 4000000
namespace L2
open PySem PySem.Spec PyProof.Rows
open PySem.Builtin.Int (intBits)
section
variable {X : Cx}
/-! ### the least, the greatest of a list of ints -/
theorem call_minL (hc : X.calm = true) : CallR X (.builtin "min") (fun xs H Q => ∃ (p : Addr) (ns : List Int), xs = [.ref p] ∧ SqL X.K H p (ns.map V.int) ∧ 0 < ns.length ∧ ∀ m : Int, m ∈ ns → (∀ a ∈ ns, m ≤ a) → Q (.int m) H) := by
  intro pins s σ H vs us Q I r q
  obtain ⟨p, ns, rfl, hq, hne, q⟩ := q
  obtain ⟨u, rfl, rx⟩ := vals1 r
  cases rx
  obtain ⟨its, rv, pl, hz⟩ := I.list hq
  have hi := intsAre_of rv
  obtain ⟨ys, ey⟩ := hi.allInts.items
  have hns : ns = ys.toList.map (·.1) := by
    have e1 := hi.numsOf
    have e2 := nums_intItems ys
    rw [← ey] at e2
    exact e1.symm.trans e2
  have hsz : 0 < ys.size := by
    rw [hns, List.length_map, Array.length_toList] at hne
    exact hne
  have hl := pl.isList
  rw [ey] at hl
  refine min_intList (I.ok.hd hc) hl hsz fun v g' tk hv hk => ?_
  obtain ⟨t, rfl⟩ := intItems_at hv
  obtain ⟨b1, b2⟩ := argBest_lt (numAt ys) (ys.size - 1)
  refine ⟨.int _, H, I.kept hk, ⟨t, rfl⟩, q _ ?_ fun a ha => ?_⟩
  · rw [hns, numAt_eq]
    exact getD_mem (by rw [List.length_map, Array.length_toList]; omega)
  · rw [hns] at ha
    obtain ⟨j, hj, rfl⟩ := mem_getD ha
    rw [List.length_map, Array.length_toList] at hj
    rw [← numAt_eq]
    exact b2 j (by omega)
end
/-! ### the place of an int in a list of ints -/
section
variable {X : Cx}
def rIndex (K : PySem.W.Frag) : V → List V → Hp → VK → Prop := fun x vs H Q => ∃ (l : Addr) (ns : List Int) (y : Int) (j : Nat), x = .ref l ∧ vs = [.int y] ∧ SqL K H l (ns.map V.int) ∧ ns[j]? = some y ∧ (∀ m, m < j → ns[m]? ≠ some y) ∧ Q (.int (j : Nat)) H
theorem all_flat_ints : ∀ ns : List Int, (ns.map V.int).all flatV = true
  | [] => rfl
  | n :: ns => by
    show (flatV (V.int n) && (ns.map V.int).all flatV) = true
    rw [all_flat_ints ns]
    rfl
end
/-! ### a def with defaults -/
structure FunD (K : PySem.W.Frag) (x qual : Str) (st : Stmt) (f : Addr) (fd : FuncData) : Prop where
  ex : ∃ (oc : Value) (od : Option Addr) (dV kV doc pm : Value) (an : Option Addr) (cdv ct : Value) (osl : Array (Option Value)),
    fd = PySem.W.fnOf x qual (defArgs st) (defBody st) (defScope st) dV kV doc pm an cdv ct ∧ K.lookup f = some ⟨oc, od, .func fd, osl⟩ ∧ PySem.W.codeIn K cdv qual = true
section
variable {P : Program} {w : World} {K : PySem.W.Frag} {mg : Str → Option Value} {base : Heap}
theorem FunD.ok {x qual : Str} {st : Stmt} {f : Addr} {fd : FuncData} {N ps : List Str} {k : Nat} {sp : Sp} (F : FunD K x qual st f fd) (S : FnScope N ps (defScope st)) (len : ∀ vs H Q E, sp vs H Q E → vs.length = ps.length)
    (hbody : ∀ (cdv : Value) (A : Around) (outer : List Env) (s : Shared) (H : Hp) (vs : List V) (Q : VK) (E : XK), Room k (A.deeper (envOfC qual (defScope st) s.heap.objs.size f cdv)) → sp vs H Q E →
      ∃ t, PSs (cxOf CX0 P w K mg base N qual (defScope st) f cdv A outer s H E).nox (defBody st) t ∧ t { nx := fun _ H' => Q .non H', rt := Q } (start N vs) H) : FnOk P w K mg base CX0 (k + 1) f fd ps sp := by
  obtain ⟨oc, od, dV, kV, doc, pm, an, cdv, ct, osl, rfl, lk, hcd⟩ := F.ex
  refine fn_of lk hcd S len fun A outer s H vs Q E hr hsp => ?_
  obtain ⟨t, h, q⟩ := hbody cdv A outer s H vs Q E hr hsp
  exact ⟨t, h.nox, q⟩
end
end L2

set_option Elab.async false
set_option linter.all false
set_option maxRecDepth 100000
set_option maxHeartbeats 4000000
namespace L2
open PySem PySem.Spec PyProof.Rows
open PySem.Builtin.Int (intBits)
/-! ### for over a zip, by what holds between two turns -/
theorem for_zip {K : PySem.W.Frag} {c d : Addr} {xs ys : List V} {g : TG} {tb : TS} {D : Ends} {σ : St} {H : Hp} (hlen : xs.length = ys.length) (Pv : Nat → St → Hp → Prop) (h0 : Pv 0 σ H) (hl : ∀ i σ H, i ≤ xs.length → Pv i σ H → SqL K H c xs ∧ SqL K H d ys)
    (hs : ∀ i x y T σ H, xs[i]? = some x → ys[i]? = some y → Pv i σ H → H T = none → g (.ref T) σ (upd H T (.tup [x, y])) fun σ2 H2 => tb { D with nx := Pv (i + 1), ct := Pv (i + 1), bk := D.nx } σ2 H2) (hd : ∀ σ H, Pv xs.length σ H → D.nx σ H) :
    ∃ W : Nat → Nat → St → Hp → Prop, (∃ m, W 0 m σ H) ∧ ∀ i m σ H, W i m σ H →
      ((Itz K c d).stop i H ∧ D.nx σ H) ∨ ((Itz K c d).go i H ∧ ∃ N : St → Hp → Prop, (∀ σ' H', N σ' H' → ∃ m', m' < m ∧ W (i + 1) m' σ' H') ∧ ∀ x H', (Itz K c d).yld i H x H' → g x σ H' fun σ2 H2 => tb { D with nx := N, ct := N, bk := D.nx } σ2 H2) := by
  refine ⟨fun i m σ H => m = xs.length - i ∧ i ≤ xs.length ∧ Pv i σ H, ⟨xs.length, by simp, Nat.zero_le _, h0⟩, ?_⟩
  rintro i m σ H ⟨rfl, hi, p⟩
  obtain ⟨q1, q2⟩ := hl i σ H hi p
  by_cases hlt : i < xs.length
  · have hlt2 : i < ys.length := by omega
    refine .inr ⟨⟨xs, ys, xs[i], ys[i], q1, q2, by simp [hlt], by simp [hlt2]⟩, Pv (i + 1), fun σ' H' p' => ⟨xs.length - (i + 1), by omega, rfl, hlt, p'⟩, fun v H' y => ?_⟩
    obtain ⟨T, x, z, rfl, hT, rfl, e1, e2⟩ := y
    exact hs i x z T σ H (e1 xs q1) (e2 ys q2) p hT
  · have e : i = xs.length := by omega
    subst e
    exact .inl ⟨⟨xs, ys, q1, q2, .inl (Nat.le_refl _)⟩, hd σ H p⟩
end L2

set_option Elab.async false
set_option linter.all false
set_option maxRecDepth 100000
set_option maxHeartbeats 4000000
namespace L2
open PySem PySem.Spec PyProof.Rows
open PySem.Builtin.Int (intBits)
/-! ### and, or, if whose ways meet: the second part is told by its value; an if by what holds behind it -/
section
variable {X : Cx} {a b c : Expr} {rest : List Expr} {ta tb : TE} {tA tB' : TT} {t u : TS} {pos : Pos}
def tAndX (ta tb : TE) : TE := fun σ H Q => ta σ H fun x H1 => ∃ c d : Bool, x = .bl c ∧ (c = true → ∀ Q' : VK, Q' (.bl d) H1 → tb σ H1 Q') ∧ Q (.bl (c && d)) H1
def tOrX (ta tb : TE) : TE := fun σ H Q => ta σ H fun x H1 => ∃ c d : Bool, x = .bl c ∧ (c = false → ∀ Q' : VK, Q' (.bl d) H1 → tb σ H1 Q') ∧ Q (.bl (c || d)) H1
theorem pe_andX (ha : PE X a ta) (hb : PE X (.BoolOp .And (b :: rest) pos) tb) : PE X (.BoolOp .And (a :: b :: rest) pos) (tAndX ta tb) := by
  intro pins s σ H Q I h
  refine BoolOp_and (thn (ha pins s σ H _ I h) fun v s1 ⟨x, H1, I1, r1, q1⟩ => ?_)
  obtain ⟨c, d, rfl, q0, q1⟩ := q1
  cases r1
  refine wpAny_truthy_bool ?_
  cases c with
  | true => exact hb pins s1 σ H1 Q I1 (q0 rfl Q q1)
  | false => exact ⟨.bl false, H1, I1, rfl, q1⟩
def tAndT (t u : TT) : TT := fun σ H Q => t σ H fun c H1 => ∃ d : Bool, (c = true → ∀ Q' : Bool → Hp → Prop, Q' d H1 → u σ H1 Q') ∧ Q (c && d) H1
def tOrT (t u : TT) : TT := fun σ H Q => t σ H fun c H1 => ∃ d : Bool, (c = false → ∀ Q' : Bool → Hp → Prop, Q' d H1 → u σ H1 Q') ∧ Q (c || d) H1
theorem pw_andX (ha : PT X a tA) (hb : PW X (.BoolOp .And (b :: rest) pos) tB') : PW X (.BoolOp .And (a :: b :: rest) pos) (tAndT tA tB') := by
  intro wh pins s σ H Q I h
  refine isTrue_and (thn (ha pins s σ H _ I h) fun c s1 ⟨H1, I1, d, q0, q1⟩ => ?_)
  cases c with
  | true => exact hb wh pins s1 σ H1 Q I1 (q0 rfl Q q1)
  | false => exact ⟨H1, I1, q1⟩
theorem pw_orX (ha : PT X a tA) (hb : PW X (.BoolOp .Or (b :: rest) pos) tB') : PW X (.BoolOp .Or (a :: b :: rest) pos) (tOrT tA tB') := by
  intro wh pins s σ H Q I h
  refine isTrue_or (thn (ha pins s σ H _ I h) fun c s1 ⟨H1, I1, d, q0, q1⟩ => ?_)
  cases c with
  | true => exact ⟨H1, I1, q1⟩
  | false => exact hb wh pins s1 σ H1 Q I1 (q0 rfl Q q1)
theorem SP.mono {pins : List (Addr × Obj)} {D D' : Ends} {f : Flow} {s' : Shared} (h : SP X pins D f s') (hn : ∀ σ H, D.nx σ H → D'.nx σ H) (hr : ∀ v H, D.rt v H → D'.rt v H) (hb : ∀ σ H, D.bk σ H → D'.bk σ H) (hc : ∀ σ H, D.ct σ H → D'.ct σ H) : SP X pins D' f s' := by
  cases f with
  | next => obtain ⟨σ', H', I, q⟩ := h; exact ⟨σ', H', I, hn _ _ q⟩
  | brk => obtain ⟨σ', H', I, q⟩ := h; exact ⟨σ', H', I, hb _ _ q⟩
  | cont => obtain ⟨σ', H', I, q⟩ := h; exact ⟨σ', H', I, hc _ _ q⟩
  | ret v => obtain ⟨x, σ', H', I, r, q⟩ := h; exact ⟨x, σ', H', I, r, hr _ _ q⟩
def tIfJ (c : TT) (t u : TS) : TS := fun D σ H => c σ H fun b H1 => ∃ N : St → Hp → Prop, (b = true → t { D with nx := N } σ H1) ∧ (b = false → u { D with nx := N } σ H1) ∧ ∀ σ' H', N σ' H' → D.nx σ' H'
theorem ps_ifJ {c : Expr} {a b : List Stmt} {tc : TT} (hc : PT X c tc) (ha : PSs X a t) (hb : PSs X b u) : PS X (.If c a b pos) (tIfJ tc t u) := by
  intro pins s σ H D I h
  refine wpAny_If (thn (hc pins s σ H _ I h) fun d s1 ⟨H1, I1, N, q1, q2, q3⟩ => ?_)
  cases d with
  | true => exact thn (ha pins s1 σ H1 _ I1 (q1 rfl)) fun f s2 q => q.mono q3 (fun _ _ z => z) (fun _ _ z => z) fun _ _ z => z
  | false => exact thn (hb pins s1 σ H1 _ I1 (q2 rfl)) fun f s2 q => q.mono q3 (fun _ _ z => z) (fun _ _ z => z) fun _ _ z => z
end
end L2

set_option Elab.async false
set_option linter.all false
set_option maxRecDepth 100000
set_option maxHeartbeats 4000000
namespace L2
open PySem PySem.Spec PyProof.Rows
open PySem.Builtin.Int (intBits)
/-! ### iterators over a list (false) or a tuple (true) -/
section
variable {P : Program} {w : World} {A : Around} {E : Value → Shared → Prop} {s : Shared}
/-- a tuple's iterator tells the next one -/
theorem nextT_item {I T : Addr} {k : Nat} {vs : Array Value} {v : Value} {Q : Value → Shared → Prop} (hI : s.heap.IsTupleIter I T k) (hT : s.heap.IsTuple T vs) (hv : vs[k]? = some v)
    (q : ∀ h', h'.IsTupleIter I T (k + 1) → Heap.SameBut I s.heap h' → Q v { s with heap := h' }) : wpAny (model P w) A (Builtin.SmallTypes.nextOf (.ref I)) Q E s := by
  obtain ⟨oI, eI, cI, dI⟩ := id hI
  obtain ⟨oT, eT, _, nT, dT'⟩ := hT
  unfold Builtin.SmallTypes.nextOf
  refine wpAny_bind (wpAny_callSpecial?_slot (name := Str.ofString "__next__") hI.typeIs F.slot_tuple_iterator_next (wpAny_call_entry F.slot_tuple_iterator_next hI.typeIs F.entry_tuple_iterator_next ?_ (F.args_tuple_iterator_next_1 _)))
  show wpAny _ _ (field (.ref I) 0 >>= _) _ _ s
  refine wpAny_bind (wpAny_field eI dI (x := .ref T) rfl ?_)
  show wpAny _ _ (if (Value.ref T == Value.none) = true then _ else _) _ _ s
  rw [if_neg (show ¬ ((Value.ref T == Value.none) = true) from Bool.false_ne_true)]
  show wpAny _ _ (field (.ref I) 1 >>= _) _ _ s
  refine wpAny_bind (wpAny_field eI dI (x := .int k 0) rfl ?_)
  show wpAny _ _ (seqItems? (.ref T) >>= _) _ _ s
  refine wpAny_bind (wpAny_seqItems eT dT' ?_)
  simp only [Int.toNat_natCast, hv]
  refine wpAny_bind (wpAny_setField eI dI (by simp) (wpAny_pure ⟨v, rfl, wpAny_pure (q _ ⟨_, Heap.get?_update_self _ eI (Obj.isFreed_of_fields (Obj.data_mapFields dI _)), (Obj.cls_mapFields ..).trans cI, ?_⟩ (Heap.SameBut.update ..))⟩))
  rw [Obj.data_mapFields dI]
  simp [rawInt]
theorem nextT_end {I T : Addr} {k : Nat} {vs : Array Value} {Q : Value → Shared → Prop} (no : A.handled = none) (hI : s.heap.IsTupleIter I T k) (hT : s.heap.IsTuple T vs) (hv : vs[k]? = none)
    (q : ∀ h' e, Heap.ExtBut I s.heap h' → (∃ o, h'.get? e = some o ∧ o.cls = .type "StopIteration") → E (.ref e) { s with heap := h' }) : wpAny (model P w) A (Builtin.SmallTypes.nextOf (.ref I)) Q E s := by
  obtain ⟨oI, eI, cI, dI⟩ := id hI
  obtain ⟨oT, eT, _, nT, dT'⟩ := hT
  unfold Builtin.SmallTypes.nextOf
  refine wpAny_bind (wpAny_callSpecial?_slot (name := Str.ofString "__next__") hI.typeIs F.slot_tuple_iterator_next (wpAny_call_entry F.slot_tuple_iterator_next hI.typeIs F.entry_tuple_iterator_next ?_ (F.args_tuple_iterator_next_1 _)))
  show wpAny _ _ (field (.ref I) 0 >>= _) _ _ s
  refine wpAny_bind (wpAny_field eI dI (x := .ref T) rfl ?_)
  show wpAny _ _ (if (Value.ref T == Value.none) = true then _ else _) _ _ s
  rw [if_neg (show ¬ ((Value.ref T == Value.none) = true) from Bool.false_ne_true)]
  show wpAny _ _ (field (.ref I) 1 >>= _) _ _ s
  refine wpAny_bind (wpAny_field eI dI (x := .int k 0) rfl ?_)
  show wpAny _ _ (seqItems? (.ref T) >>= _) _ _ s
  refine wpAny_bind (wpAny_seqItems eT dT' ?_)
  simp only [Int.toNat_natCast, hv]
  refine wpAny_bind (wpAny_rule (wpAny_bind (wpAny_setField eI dI (by simp) ?_)))
  show wpAny _ _ (newExc (.type "StopIteration") [] >>= fun _ => _) _ _ _
  refine wpAny_bind ?_
  simp only [newExc, newTuple]
  refine wpAny_bind (wpAny_newObj_type (wpAny_bind (m := firstArgMember _ _) (wpAny_of_eq (a := Value.none) (by first | rfl | (simp only [firstArgMember]; rfl)) (wpAny_newObj_type ?_ (by size_fits)))) (by size_fits))
  simp only [raiseNew]
  refine wpAny_bind (wpAny_handled ?_)
  first | rw [show A.in1.handled = none from no] | rw [no]
  refine wpAny_bind (wpAny_pure (wpAny_throw (q _ _ (((Heap.SameBut.update ..).extBut.push _).push _) ⟨_, Heap.get?_push_size _ rfl, rfl⟩)))
end
theorem drawsT {P : Program} {w : World} {A : Around} (no : A.handled = none) (I T : Addr) (ne : T ≠ I) (vs : Array Value) : Draws P w A I [I, T] vs.size (fun i v => vs[i]? = some v) (fun i h => h.IsTupleIter I T i ∧ h.IsTuple T vs) where
  live := fun _ _ st => let ⟨o, e, _⟩ := st.1; ⟨o, e⟩
  frame := fun _ _ _ st k => ⟨st.1.at fun o e => k I (by simp) o e, let ⟨o, e, r⟩ := st.2; ⟨o, k T (by simp) o e, r⟩⟩
  item := fun i s Q E hi st q => nextT_item st.1 st.2 (v := vs[i]) (by simp [hi]) fun h' st' sb => q _ h' s.toks (by simp [hi]) ⟨st', st.2.extBut sb.extBut ne⟩ sb
  done := fun s Q E st q => nextT_end no st.1 st.2 (by simp) q
def IsIt : Bool → Heap → Addr → Addr → Nat → Prop
  | true, h, I, T, i => h.IsTupleIter I T i
  | false, h, I, T, i => h.IsListIter I T i
def IsSq : Bool → Heap → Addr → Array Value → Prop
  | true, h, T, vs => h.IsTuple T vs
  | false, h, T, vs => h.IsList T vs
def itNm : Bool → String
  | true => "tuple_iterator"
  | false => "list_iterator"
def Sq : Bool → PySem.W.Frag → Hp → Addr → List V → Prop
  | true, K, H, a, xs => SqT K H a xs
  | false, K, H, a, xs => SqL K H a xs
theorem draws_it {P : Program} {w : World} {A : Around} (no : A.handled = none) (b : Bool) (I T : Addr) (ne : T ≠ I) (vs : Array Value) : Draws P w A I [I, T] vs.size (fun i v => vs[i]? = some v) (fun i h => IsIt b h I T i ∧ IsSq b h T vs) := by
  cases b
  · exact Draws.list no I T ne vs
  · exact drawsT no I T ne vs
theorem IsIt.data {b : Bool} {h : Heap} {I T : Addr} {i : Nat} (x : IsIt b h I T i) : ∃ o, h.get? I = some o ∧ o.cls = .type (itNm b) ∧ o.data = .fields #[.ref T, .int i 0] := by cases b <;> exact x
theorem IsIt.of {b : Bool} {h : Heap} {I T : Addr} {i : Nat} (x : ∃ o, h.get? I = some o ∧ o.cls = .type (itNm b) ∧ o.data = .fields #[.ref T, .int i 0]) : IsIt b h I T i := by cases b <;> exact x
theorem IsIt.at' {b : Bool} {h h' : Heap} {I T : Addr} {i : Nat} (x : IsIt b h I T i) (k : ∀ o, h.get? I = some o → h'.get? I = some o) : IsIt b h' I T i := by
  obtain ⟨o, e, r⟩ := x.data
  exact .of ⟨o, k _ e, r⟩
theorem IsSq.at' {b : Bool} {h h' : Heap} {T : Addr} {vs : Array Value} (x : IsSq b h T vs) (k : ∀ o, h.get? T = some o → h'.get? T = some o) : IsSq b h' T vs := by
  cases b <;> exact let ⟨o, e, r⟩ := x; ⟨o, k _ e, r⟩
theorem IsSq.lt {b : Bool} {h : Heap} {T : Addr} {vs : Array Value} (x : IsSq b h T vs) : T < h.objs.size := by
  cases b <;> exact let ⟨_, e, _⟩ := x; Heap.lt_size e
theorem IsIt.lt {b : Bool} {h : Heap} {I T : Addr} {i : Nat} (x : IsIt b h I T i) : I < h.objs.size := by
  obtain ⟨_, e, _⟩ := x.data
  exact Heap.lt_size e
theorem IsIt.ne {b c : Bool} {h : Heap} {I T : Addr} {i : Nat} {vs : Array Value} (x : IsIt b h I T i) (y : IsSq c h T vs) : T ≠ I := by
  rintro rfl
  obtain ⟨o, e, k, _⟩ := x.data
  cases c <;> (obtain ⟨o', e', k', _⟩ := y; rw [e] at e'; cases e'; rw [k] at k'; cases b <;> simp [itNm] at k')
section
variable {X : Cx} {pins : List (Addr × Obj)} {σ : St} {H : Hp} {s : Shared}
theorem Inv.sq {b : Bool} {a : Addr} {xs : List V} (I : Inv X pins σ H s) (q : Sq b X.K H a xs) : ∃ us, Vals xs us ∧ IsSq b s.heap a us.toArray := by
  cases b
  · obtain ⟨us, r, p, _⟩ := I.list q
    exact ⟨us, r, p.isList⟩
  · obtain ⟨us, r, p, _⟩ := I.tuple q
    exact ⟨us, r, p⟩
theorem Inv.sq_inj {b : Bool} {a : Addr} {xs ys : List V} (I : Inv X pins σ H s) (q : Sq b X.K H a xs) (r : Sq b X.K H a ys) : xs = ys := by
  cases b
  · exact I.list_inj q r
  · exact I.tuple_inj q r
end
end L2

set_option Elab.async false
set_option linter.all false
set_option maxRecDepth 100000
set_option maxHeartbeats 4000000
namespace L2
open PySem PySem.Spec PyProof.Rows
open PySem.Builtin.Int (intBits)
open AutoSeq1 (wpAny_loadPart')
/-! ### zip and enumerate of lists and tuples, each by two draws -/
structure Far (z TI TO i1 i2 l1 l2 : Nat) : Prop where
  a : TI ≠ z
  b : TO ≠ z
  c : i1 ≠ z
  d : i2 ≠ z
  e : TI ≠ TO
  f : TI ≠ i1
  g : TI ≠ i2
  h : TO ≠ i1
  i : TO ≠ i2
  j : i1 ≠ i2
  k1 : l1 ≠ z ∧ l1 ≠ TO ∧ l1 ≠ i1 ∧ l1 ≠ i2
  k2 : l2 ≠ z ∧ l2 ≠ TO ∧ l2 ≠ i1 ∧ l2 ≠ i2
section
variable {P : Program} {w : World} {A : Around} {E : Value → Shared → Prop} {s : Shared}
abbrev zh1 (b1 : Bool) (h : Heap) (l1 : Addr) : Heap := h.push { cls := .type (itNm b1), data := .fields #[.ref l1, .int 0 0] }
abbrev zh2 (b1 b2 : Bool) (h : Heap) (l1 l2 : Addr) : Heap := (zh1 b1 h l1).push { cls := .type (itNm b2), data := .fields #[.ref l2, .int 0 0] }
abbrev zh3 (b1 b2 : Bool) (h : Heap) (l1 l2 : Addr) : Heap := (zh2 b1 b2 h l1 l2).push { cls := .type "tuple", data := .seq #[.ref h.objs.size, .ref (zh1 b1 h l1).objs.size] }
abbrev zh4 (b1 b2 : Bool) (h : Heap) (l1 l2 : Addr) : Heap := (zh3 b1 b2 h l1 l2).push { cls := .type "tuple", data := .seq #[.none, .none] }
abbrev zh5 (b1 b2 : Bool) (h : Heap) (l1 l2 : Addr) : Heap := (zh4 b1 b2 h l1 l2).push { cls := .type "zip", data := .fields #[.none, .bool false, .bool false, .ref (zh2 b1 b2 h l1 l2).objs.size, .ref (zh3 b1 b2 h l1 l2).objs.size] }
end
end L2

set_option Elab.async false
set_option linter.all false
set_option maxRecDepth 100000
set_option maxHeartbeats 4000000
namespace L2
open PySem PySem.Spec PyProof.Rows
open PySem.Builtin.Int (intBits)
open AutoSeq1 (wpAny_loadPart')
section
variable {P : Program} {w : World} {A : Around} {E : Value → Shared → Prop} {s : Shared}
end
/-! ### zip, unpacked -/
def Itzx (K : PySem.W.Frag) (b1 b2 : Bool) (l1 l2 : Addr) : It :=
  ⟨fun i H => ∃ xs ys x y, Sq b1 K H l1 xs ∧ Sq b2 K H l2 ys ∧ xs[i]? = some x ∧ ys[i]? = some y,
   fun i H v H' => ∃ T x y, v = .ref T ∧ H T = none ∧ H' = upd H T (.tup [x, y]) ∧ (∀ xs, Sq b1 K H l1 xs → xs[i]? = some x) ∧ ∀ ys, Sq b2 K H l2 ys → ys[i]? = some y,
   fun i H => ∃ xs ys, Sq b1 K H l1 xs ∧ Sq b2 K H l2 ys ∧ (xs.length = i ∨ (i < xs.length ∧ ys.length = i))⟩
section
variable {X : Cx}
def iZipx (K : PySem.W.Frag) (ta : TA) : TI := fun σ H R => ta σ H fun vs H1 => ∃ (b1 b2 : Bool) (a b : Addr), vs = [.ref a, .ref b] ∧ (∃ xs, Sq b1 K H1 a xs) ∧ (∃ ys, Sq b2 K H1 b ys) ∧ R (Itzx K b1 b2 a b) H1
end
/-! ### enumerate, unpacked -/
def Itex (K : PySem.W.Frag) (b : Bool) (l : Addr) : It :=
  ⟨fun i H => ∃ xs x, Sq b K H l xs ∧ xs[i]? = some x,
   fun i H v H' => ∃ T x, v = .ref T ∧ H T = none ∧ H' = upd H T (.tup [.int i, x]) ∧ ∀ xs, Sq b K H l xs → xs[i]? = some x,
   fun i H => ∃ xs, Sq b K H l xs ∧ xs.length = i⟩
theorem turn_enumx {P : Program} {w : World} {K : PySem.W.Frag} {elts : List Expr} {kk : Nat} {pos : Pos} {b : Bool} {e it l : Addr} (hne : e ≠ it) (hel : e ≠ l) :
    Turn P w K (.Tuple elts kk pos) (Itex K b l) [e, it] e (fun i h => (∃ old, IsEnum h e it i old) ∧ IsIt b h it l i) where
  mem := List.mem_cons_self
  obj := fun i h ⟨⟨old, he⟩, h1⟩ c hc => by
    obtain ⟨o1, e1, c1, d1⟩ := h1.data
    simp only [List.mem_cons, List.not_mem_nil, or_false] at hc
    rcases hc with rfl | rfl
    · exact ⟨_, he, fun v q => by cases q⟩
    · exact ⟨_, e1, fun v q => by rw [d1] at q; cases q⟩
  keep := fun i h h' ⟨⟨old, he⟩, h1⟩ hk => ⟨⟨old, hk e (by simp) _ he⟩, h1.at' fun o q => hk it (by simp) o q⟩
  item := by
    intro X hP hw hK hc i pins s σ H E I hfp ⟨⟨old, he⟩, h1⟩ ⟨xs, x, q1, ex⟩
    subst hP hw hK
    obtain ⟨its1, r1, p1⟩ := I.sq q1
    obtain ⟨u1, eu1, ru1⟩ := r1.get ex
    have lt1 : i < its1.toArray.size := by
      have := (List.getElem?_eq_some_iff.mp eu1).1
      simpa using this
    refine wpAny_pyNext_enum_itemD (draws_it (A := X.A.in1) (I.ok.hd hc) b it l (h1.ne p1) its1.toArray) he ⟨h1, p1⟩ lt1 hne (by simp [hne, hel]) fun u h' tk eu a1 a2 a3 a4 hk => ⟨_, rfl, ?_⟩
    have e2 : u = u1 := Option.some.inj (eu.symm.trans (by simpa using eu1))
    subst e2
    refine wpAny_letOwnedTupleGo_enum a1 fun h'' hz'' hs'' => ?_
    have hzlt : e < s.heap.objs.size := Heap.lt_size he
    have hTp : h''.get? s.heap.objs.size = some { cls := .type "tuple", data := .seq #[.int i tk, u] } := hs''.extBut _ _ (Nat.ne_of_gt hzlt) a3
    refine ⟨.ref s.heap.objs.size, upd H s.heap.objs.size (.tup [.int i, x]), I.turnLaid (t' := tk + 1) (ch := [e, it]) hfp (fun c o hc ec => ?_) (Nat.le_refl _) ?_, rfl, ⟨_, x, rfl, I.fresh, rfl, fun xs' q => ?_⟩, ⟨⟨u, ?_⟩, ?_⟩, fun c hc => ?_⟩
    · simp only [List.mem_cons, List.not_mem_nil, or_false, not_or] at hc
      exact hs''.extBut _ _ hc.1 (hk c o hc.1 hc.2 ec)
    · exact ⟨⟨Nat.le_trans (by decide : 2 ≤ 1000) (small63 (Nat.le_refl _)), _, hTp, rfl⟩, [.int i tk, u], .cons ⟨_, rfl⟩ (.cons ru1 .nil), ⟨_, hTp, rfl, 0, rfl⟩⟩
    · rw [I.sq_inj q q1]
      exact ex
    · have z := hz''
      rw [show ((i : Int) + 1) = ((i + 1 : Nat) : Int) by omega] at z
      exact z
    · exact a2.1.at' fun o eo => hs''.extBut _ _ (Ne.symm hne) eo
    · rw [upd_ne]
      · exact (hfp c hc).1
      · simp only [List.mem_cons, List.not_mem_nil, or_false] at hc
        rcases hc with rfl | rfl
        · exact Nat.ne_of_lt hzlt
        · exact Nat.ne_of_lt h1.lt
  done := by
    intro X hP hw hK hc i pins s σ H E I hfp ⟨⟨old, he⟩, h1⟩ ⟨xs, q1, hl⟩
    subst hP hw hK
    obtain ⟨its1, r1, p1⟩ := I.sq q1
    have n1 := r1.length
    have n2 : i = its1.toArray.size := by simp only [List.size_toArray]; omega
    subst n2
    refine wpAny_pyNext_enum_endD (draws_it (A := X.A.in1) (I.ok.hd hc) b it l (h1.ne p1) its1.toArray) he ⟨h1, p1⟩ fun h' hk => ⟨rfl, I.turnMany (t' := s.toks) (ch := [e, it]) hfp fun c o hc ec => ?_⟩
    simp only [List.mem_cons, List.not_mem_nil, or_false, not_or] at hc
    exact hk c o hc.2 ec
  self := fun A i s Q E ⟨⟨old, he⟩, _⟩ hQ => wpAny_pyIter_enum he hQ
theorem enumT_meets (l : Addr) (items : Array Value) (n : Nat) (dct : Option Addr) (sl : Array (Option Value)) :
    Meets (Builtin.«enumerate.__new__» ⟨[.type "enumerate", .ref l], []⟩) (fun _ R s => s.heap.get? l = some { cls := .type "tuple", dict := dct, data := .seq items n, slots := sl } ∧
      R (.ok (.ret (.ref (zh1 true s.heap l).objs.size))) { s with heap := (zh1 true s.heap l).push { cls := .type "enumerate", data := .fields #[.none, .bool false, .ref s.heap.objs.size, rawInt 0, .none, .none] } }) :=
  .of_wp fun prog w A R s h => by
    obtain ⟨hp, g, d, tk, os⟩ := s
    obtain ⟨hl, h⟩ := h
    have hsub := sub_enumerate
    have hT : Heap.IsTuple (Shared.heap ⟨hp, g, d, tk, os⟩) l items := ⟨_, hl, rfl, n, rfl⟩
    wp_walk using wpAny_loadPart' hl
    refine wpAny_stack_any fun st => wpAny_pure ?_
    split
    · rename_i c _ _ _ _ _
      cases (c == Value.type "enumerate")
      · wp_walk using wpAny_loadPart' hl, wpAny_pyIter_tuple hT
        exact ⟨_, rfl, h⟩
      · wp_walk using wpAny_loadPart' hl, wpAny_pyIter_tuple hT
        exact ⟨_, rfl, h⟩
    · wp_walk using wpAny_loadPart' hl, wpAny_pyIter_tuple hT
      exact ⟨_, rfl, h⟩
theorem enumT_call {P : Program} {w : World} {A : Around} {E : Value → Shared → Prop} {s : Shared} {l : Addr} {items : Array Value} {Q : Value → Shared → Prop} (hT : s.heap.IsTuple l items)
    (h : ∀ h', IsEnum h' (s.heap.objs.size + 1) s.heap.objs.size 0 .none → h'.IsTupleIter s.heap.objs.size l 0 → (∀ b o, s.heap.get? b = some o → h'.get? b = some o) → Q (.ref (s.heap.objs.size + 1)) { s with heap := h' }) :
    wpAny (model P w) A (call (.type "enumerate") [.ref l]) Q E s := by
  obtain ⟨⟨c, dct, dt, sl⟩, hl, hc, n, hd⟩ := hT
  have hc' : c = .type "tuple" := hc
  have hd' : dt = .seq items n := hd
  subst hc' hd'
  refine callType_new F.called_enumerate (by decide) (F.typeCall_enumerate_1 _) (F.newCall_enumerate_1 _) (fun obj => F.args_object_init_2 obj _) F.entry_enumerate_new (enumT_meets l items n dct sl) ⟨hl, ?_⟩
  have hz : (zh1 true s.heap l).objs.size = s.heap.objs.size + 1 := Heap.size_push ..
  show _ ∧ _
  rw [hz]
  have he := Heap.get?_push_size (zh1 true s.heap l) (o := { cls := .type "enumerate", data := .fields #[.none, .bool false, .ref s.heap.objs.size, rawInt 0, .none, .none] }) rfl
  rw [hz] at he
  exact ⟨⟨_, he, rfl⟩, h _ he ⟨_, Heap.get?_push_of_some _ (Heap.get?_push_size _ rfl), rfl, rfl⟩ fun b o x => Heap.get?_push_of_some _ (Heap.get?_push_of_some _ x)⟩
section
variable {X : Cx}
def iEnumx (K : PySem.W.Frag) (ta : TA) : TI := fun σ H R => ta σ H fun vs H1 => ∃ (b : Bool) (a : Addr), vs = [.ref a] ∧ (∃ xs, Sq b K H1 a xs) ∧ R (Itex K b a) H1
theorem pi_enumx {elts : List Expr} {kk : Nat} {tpos : Pos} {a : Expr} {ta : TA} {p pos : Pos} (hg : Gl X "enumerate") (hm : X.mg "enumerate" = none) (ha : PA X [a] ta) (hs : starEach [a] X.env = [(false, eval a X.env)] := by rfl) :
    PI X (.Tuple elts kk tpos) (.Call (.Name "enumerate" p) [a] [] pos) (iEnumx X.K ta) := by
  intro pins s σ H R I h
  refine Call_ (ld_blt I hg hm boot_enumerate (PyProof.Rows.callWith_type1 (thn (ha pos pins s σ H _ I h) fun us s1 ⟨vs, H1, I1, r1, q1⟩ => ?_) hs rfl))
  obtain ⟨b, l1, e, ⟨xs, hx⟩, q⟩ := q1
  subst e
  obtain ⟨u1, rfl, ru1⟩ := vals1 r1
  cases ru1
  obtain ⟨its1, rr1, p1⟩ := I1.sq hx
  have lt1 := p1.lt
  have fin : ∀ h', IsEnum h' (s1.heap.objs.size + 1) s1.heap.objs.size 0 .none → IsIt b h' s1.heap.objs.size l1 0 → (∀ b o, s1.heap.get? b = some o → h'.get? b = some o) →
      wpAny (model X.prog X.w) X.A (pyIter (.ref (s1.heap.objs.size + 1))) (PIE X pins σ (.Tuple elts kk tpos) R) X.xe { s1 with heap := h' } := fun h' a1 a2 hk => by
    refine wpAny_pyIter_enum a1 ?_
    have I2 : Inv X pins σ H1 { s1 with heap := h' } := I1.kept (t' := s1.toks) hk
    refine ⟨s1.heap.objs.size + 1, [s1.heap.objs.size + 1, s1.heap.objs.size], _, _, H1, rfl, I2, turn_enumx (Nat.ne_of_gt (Nat.lt_succ_self _)) (Nat.ne_of_gt (Nat.lt_succ_of_lt lt1)), ⟨⟨_, a1⟩, a2⟩, fun c hc => ?_, q⟩
    have hle : s1.heap.objs.size ≤ c := by
      simp only [List.mem_cons, List.not_mem_nil, or_false] at hc
      rcases hc with rfl | rfl <;> omega
    exact I1.fpOk hle (I1.hok.fresh hle)
  cases b with
  | false => exact call_enumerate_list p1 fun h' a1 a2 a3 hk => fin h' a1 a2 hk
  | true => exact enumT_call p1 fun h' a1 a2 hk => fin h' a1 a2 hk
end
end L2

set_option Elab.async false
set_option linter.all false
set_option maxRecDepth 100000
set_option maxHeartbeats 4000000
namespace L2
open PySem PySem.Spec PyProof.Rows
open PySem.Builtin.Int (intBits)
/-! ### loops and comprehensions over zip and enumerate, by what holds between two turns -/
/-- two names, each stored -/
abbrev gTwo (K : PySem.W.Frag) : TG := gTup K 2 (gCons (gName 0) (gCons (gName 1) gNil))
theorem comp_enumx {K : PySem.W.Frag} {b1 : Bool} {c : Addr} {xs : List V} {fr : List Nat} {tt : TT} {te : TE} {σ : St} {D : Addr} {H1 : Hp} {Q : Hp → Prop} (Pv : Nat → List V → Hp → Prop) (h0 : Pv 0 [] (upd H1 D (.lst [])))
    (hl : ∀ i zs H, i ≤ xs.length → Pv i zs H → Sq b1 K H c xs)
    (hs : ∀ i x T zs H, xs[i]? = some x → Pv i zs H → H T = none → tt (some (.int i) :: some x :: compFr fr σ) (upd H T (.tup [.int i, x])) fun b H4 =>
      if b = true then te (some (.int i) :: some x :: compFr fr σ) H4 fun v H5 => H5 D = some (.lst zs) ∧ zs.length < sizeLine ∧ Pv (i + 1) (zs ++ [v]) (upd H5 D (.lst (zs ++ [v]))) else Pv (i + 1) zs H4)
    (mt : ∀ σ H Q Q', (∀ b H', Q b H' → Q' b H') → tt σ H Q → tt σ H Q') (me : ∀ σ H Q Q', (∀ v H', Q v H' → Q' v H') → te σ H Q → te σ H Q')
    (hd : ∀ zs H, Pv xs.length zs H → Q H) : CompRun 2 fr (Itex K b1 c) (gTwo K) tt te σ D H1 Q := by
  refine ⟨fun i m zs H => m = xs.length - i ∧ i ≤ xs.length ∧ Pv i zs H, ⟨xs.length, by simp, Nat.zero_le _, h0⟩, ?_⟩
  rintro i m zs H' ⟨rfl, hi, p⟩
  have q1 := hl i zs H' hi p
  by_cases hlt : i < xs.length
  · refine .inr ⟨⟨xs, xs[i], q1, by simp [hlt]⟩, fun v H2 y => ?_⟩
    obtain ⟨T, x, rfl, hT, rfl, e1⟩ := y
    refine ⟨T, _, rfl, SqT.of upd_same, rfl, _, _, rfl, x, _, rfl, rfl, ⟨[some (.int i), some x], rfl, rfl⟩, ?_⟩
    refine mt _ _ _ _ ?_ (hs i x T zs H' (e1 xs q1) p hT)
    intro b H4 q
    cases b with
    | false => exact ⟨xs.length - (i + 1), by omega, rfl, hlt, q⟩
    | true => exact me _ _ _ _ (fun v H5 ⟨r1, r2, r3⟩ => ⟨r1, r2, xs.length - (i + 1), by omega, rfl, hlt, r3⟩) q
  · have e : i = xs.length := by omega
    subst e
    exact .inl ⟨⟨xs, q1, rfl⟩, hd zs H' p⟩
end L2

set_option Elab.async false
set_option linter.all false
set_option maxRecDepth 100000
set_option maxHeartbeats 4000000
namespace L2
open PySem PySem.Spec PyProof.Rows
open PySem.Builtin.Int (intBits)
/-! ### and, or whose ways meet in a predicate N: the second part may lay objects -/
section
variable {X : Cx} {a b : Expr} {rest : List Expr} {ta tb : TE} {tA tB' : TT} {pos : Pos}
def tAndY (ta tb : TE) : TE := fun σ H Q => ta σ H fun x H1 => ∃ (c : Bool) (N : Bool → Hp → Prop), x = .bl c ∧ (c = false → N false H1) ∧ (c = true → tb σ H1 fun y H2 => ∃ d : Bool, y = .bl d ∧ N d H2) ∧ ∀ d H2, N d H2 → Q (.bl d) H2
def tOrY (ta tb : TE) : TE := fun σ H Q => ta σ H fun x H1 => ∃ (c : Bool) (N : Bool → Hp → Prop), x = .bl c ∧ (c = true → N true H1) ∧ (c = false → tb σ H1 fun y H2 => ∃ d : Bool, y = .bl d ∧ N d H2) ∧ ∀ d H2, N d H2 → Q (.bl d) H2
def tAndU (t u : TT) : TT := fun σ H Q => t σ H fun c H1 => ∃ N : Bool → Hp → Prop, (c = false → N false H1) ∧ (c = true → u σ H1 N) ∧ ∀ d H2, N d H2 → Q d H2
def tOrU (t u : TT) : TT := fun σ H Q => t σ H fun c H1 => ∃ N : Bool → Hp → Prop, (c = true → N true H1) ∧ (c = false → u σ H1 N) ∧ ∀ d H2, N d H2 → Q d H2
end
end L2

set_option Elab.async false
set_option linter.all false
set_option maxRecDepth 100000
set_option maxHeartbeats 4000000
namespace L2
open PySem PySem.Spec PyProof.Rows
open PySem.Builtin.Int (intBits)
/-! ### list(reversed(xs)) -/
section
variable {P : Program} {w : World} {A : Around} {E : Value → Shared → Prop} {s : Shared}
end
section
variable {X : Cx}
def tListRev (K : PySem.W.Frag) (ta : TA) : TE := fun σ H Q => ta σ H fun vs H1 => ∃ l xs, vs = [.ref l] ∧ SqL K H1 l xs ∧ ∀ d, H1 d = none → Q (.ref d) (upd H1 d (.lst xs.reverse))
end
end L2

set_option Elab.async false
set_option linter.all false
set_option maxRecDepth 100000
set_option maxHeartbeats 4000000
namespace L2
open PySem PySem.Spec PyProof.Rows
open PySem.Builtin.Int (intBits)
/-! ### a // b, b of at most nine thousand bits -/
section
variable {X : Cx}
def CDivB (i j : Int) : Prop := 0 < j ∧ intBits j ≤ 8999
/-! ### the sum of a list of ints -/
end
/-! ### for over range(a, b, c), c from 1 on -/
section
variable {X : Cx} {tg : Expr}
def ItS (lo c : Int) (n : Nat) : It := ⟨fun i _ => i < n, fun i H x H' => H' = H ∧ x = .int (lo + i * c), fun i _ => n ≤ i⟩
/-- how many -/
def stepN (a b c : Int) : Nat := if a < b then ((b - a - 1) / c + 1).toNat else 0
def iRng3 (ta : TA) : TI := fun σ H R => ta σ H fun vs H1 => ∃ i j c : Int, vs = [.int i, .int j, .int c] ∧ (-(2 ^ 60) ≤ i ∧ i < 2 ^ 60 ∧ -(2 ^ 60) ≤ j ∧ j < 2 ^ 60) ∧ (0 < c ∧ c < 2 ^ 30) ∧ R (ItS i c (stepN i j c)) H1
end
end L2

set_option Elab.async false
set_option linter.all false
set_option maxRecDepth 100000
set_option maxHeartbeats 4000000
namespace L2
open PySem PySem.Spec PyProof.Rows
/-! ### exceptions: how they lie, how they pass a def, how they are raised -/
theorem ObjOk.here {P : Program} {w : World} {H : Hp} {h : Heap} {a : Addr} {o : HO} (x : ObjOk P w H h a o) : ∃ ob, h.get? a = some ob := by
  cases o with
  | lst xs => obtain ⟨_, _, _, _, e⟩ := x; exact ⟨_, e⟩
  | tup xs => obtain ⟨_, _, _, o, e, _⟩ := x; exact ⟨_, e⟩
  | dK kvs => obtain ⟨_, _, _, _, o, _, _, e, _⟩ := x; exact ⟨_, e⟩
  | dT kvs => obtain ⟨_, _, _, _, o, _, _, e, _⟩ := x; exact ⟨_, e⟩
  | set S n => obtain ⟨o, _, _, _, e, _⟩ := x; exact ⟨_, e⟩
  | ins C dx fs => obtain ⟨_, _, _, e, _⟩ := x; exact ⟨_, e⟩
  | own y => exact x
  | xd fs => obtain ⟨mA, ⟨od, es, ep, e, c⟩, r⟩ := x; exact ⟨_, e⟩
  | rng lo hi => obtain ⟨t, u, v, e⟩ := x; exact ⟨_, e⟩
  | frz ob u => exact ⟨_, x.1⟩
  | tbl ps => exact ⟨_, (show h.get? a = some _ from x)⟩
  | met f y => exact ⟨_, (show h.get? a = some _ from x)⟩
  | ext φ => exact x.2.1
theorem HOk.off {P : Program} {w : World} {H : Hp} {h : Heap} {a : Addr} (ok : HOk P w H h) (e : h.get? a = none) : H a = none := by
  cases q : H a with
  | none => rfl
  | some u =>
    obtain ⟨ob, z⟩ := (ok a u q).here
    rw [e] at z
    cases z

/-- the exception at a, of the class cls -/
def isExc (a : Addr) (cls : Value) (h : Heap) : Prop := ∃ o vs, h.get? a = some o ∧ o.cls = cls ∧ o.data = .fields vs
def isRec (a : Addr) (h : Heap) : Prop := ∃ o vs, h.get? a = some o ∧ o.data = .fields vs
theorem ext_exc {P : Program} {w : World} {H : Hp} {h : Heap} {a : Addr} {cls : Value} (x : isExc a cls h) : ObjOk P w H h a (.ext (isExc a cls)) := by
  refine ⟨x, ?_, ?_⟩
  · obtain ⟨o, _, e, _⟩ := x
    exact ⟨o, e⟩
  · rintro h1 h2 ⟨o, vs, e, c⟩ k
    exact ⟨o, vs, k o e, c⟩
/-- its traceback's first entry stands at T, no frame holds it -/
def TrAt (h : Heap) (a T : Addr) : Prop := ∃ oe vs oT ts a0, h.get? a = some oe ∧ oe.data = .fields vs ∧ vs[0]? = some a0 ∧ vs[1]? = some (.ref T) ∧ T ≠ a ∧ h.get? T = some oT ∧ oT.data = .fields ts ∧ ts[3]? = some .none
/-- an exception flies: fr the frames, H and h as they were ahead of it, H' and h' now -/
structure Fly (P : Program) (w : World) (fr : List Addr) (H : Hp) (h : Heap) (H' : Hp) (h' : Heap) (a T : Addr) (cls : Value) : Prop where
  un : Un fr [] H H' h h'
  ok : HOk P w H' h'
  exc : H' a = some (.ext (isExc a cls))
  off : H' T = none
  new : h.get? T = none
  tr : TrAt h' a T
/-- how an exception lies behind a call -/
def CX1 (P : Program) (w : World) : CXT := fun outer H s E e s' => ∃ (a T : Addr) (cls : Value) (H' : Hp), e = .ref a ∧ s'.os = s.os ∧ AllBare s'.gens ∧ Fly P w (frs outer) H s.heap H' s'.heap a T cls ∧ E cls none H'

/-- what a step of the traceback leaves: all is kept but the frames' slots, the exception, the entries of its traceback -/
theorem noted {P : Program} {w : World} {fr old : List Addr} {H H' : Hp} {h h' h2 : Heap} {a T : Addr} {cls : Value} (u : Un fr [] H H' h h') (ok : HOk P w H' h') (hfr : ∀ b ∈ fr, H' b = none)
    (frd : ∀ b ∈ fr, ∃ o, h'.get? b = some o ∧ ∀ vs, o.data ≠ .fields vs) (ha : H' a = some (.ext (isExc a cls))) (hold : ∀ b ∈ old, H' b = none ∧ h.get? b = none)
    (st : (PySem.W.hideAll h' (fr ++ a :: old)).StaysIn h2) (sl : h'.UpToSlots h2) (xa : isExc a cls h2) (xT : isRec T h2) (nT : (PySem.W.hideAll h' (fr ++ a :: old)).get? T = none) (na : T ≠ a) :
    Un fr [] H H' h h2 ∧ HOk P w H' h2 ∧ H' T = none ∧ h.get? T = none := by
  have hT : H' T = none ∧ h.get? T = none := by
    cases q : h'.get? T with
    | none =>
      refine ⟨ok.off q, ?_⟩
      cases z : h.get? T with
      | none => rfl
      | some o =>
        obtain ⟨o', e⟩ := u.there T o z (by simp)
        rw [q] at e
        cases e
    | some o =>
      by_cases hm : T ∈ fr ++ a :: old
      · rcases List.mem_append.mp hm with z | z
        · obtain ⟨o1, e1, d1⟩ := frd T z
          obtain ⟨sl', e2⟩ := sl T o1 e1 d1
          obtain ⟨o3, vs, e3, d3⟩ := xT
          rw [e2] at e3
          cases e3
          exact absurd d3 (d1 vs)
        · rcases List.mem_cons.mp z with z | z
          · exact absurd z na
          · exact hold T z
      · have := PySem.W.hideAll_get _ q hm
        rw [nT] at this
        cases this
  have keepT : ∀ b o u', h'.get? b = some o → H' b = some u' → b ≠ a → h2.get? b = some o := fun b o u' e q n1 => by
    refine st b o (PySem.W.hideAll_get _ e fun hm => ?_)
    rcases List.mem_append.mp hm with z | z
    · rw [hfr b z] at q
      cases q
    · rcases List.mem_cons.mp z with z | z
      · exact n1 z
      · rw [(hold b z).1] at q
        cases q
  have keepN : ∀ b o o', h.get? b = some o → h'.get? b = some o' → H' b = none → b ∉ fr → h2.get? b = some o' := fun b o o' e e' q n => by
    refine st b o' (PySem.W.hideAll_get _ e' fun hm => ?_)
    rcases List.mem_append.mp hm with z | z
    · exact n z
    · rcases List.mem_cons.mp z with z | z
      · rw [z, ha] at q
        cases q
      · rw [(hold b z).2] at e
        cases e
  refine ⟨⟨fun b o e q n _ => keepN b o o e (u.keep b o e q n (by simp)) (u.free b o e q (by simp)) n, fun b o e q n _ => ?_, fun b o e q _ => u.free b o e q (by simp), fun b o e _ => ?_, u.tups, u.frzs, u.tbls⟩, fun b v q => ?_, hT⟩
  · obtain ⟨sl1, e1⟩ := u.slot b o e q n (by simp)
    obtain ⟨o2, e2, d2⟩ := frd b n
    rw [e1] at e2
    cases e2
    obtain ⟨sl3, e3⟩ := sl b _ e1 d2
    exact ⟨sl3, e3⟩
  · obtain ⟨o', e'⟩ := u.there b o e (by simp)
    cases q : H' b with
    | none =>
      by_cases n : b ∈ fr
      · obtain ⟨o1, e1, d1⟩ := frd b n
        obtain ⟨sl', e2⟩ := sl b o1 e1 d1
        exact ⟨_, e2⟩
      · exact ⟨_, keepN b o o' e e' q n⟩
    | some v =>
      by_cases n1 : b = a
      · obtain ⟨o2, _, e2, _⟩ := xa
        rw [n1]
        exact ⟨_, e2⟩
      · exact ⟨_, keepT b o' v e' q n1⟩
  · by_cases n1 : b = a
    · subst n1
      rw [ha] at q
      cases q
      exact ext_exc xa
    · refine (ok b v q).stay (fun c x hc e => ?_) (fun c e => e) fun c xs e => e
      rcases hc with z | z
      · subst z
        exact keepT c x v e q n1
      · refine keepT c x _ e z fun e2 => ?_
        rw [e2, ha] at z
        cases z
section
variable {X : Cx} {pins : List (Addr × Obj)} {σ : St} {H : Hp} {s : Shared}
theorem Inv.frd (I : Inv X pins σ H s) : ∀ b ∈ frs X.stack, ∃ o, s.heap.get? b = some o ∧ ∀ vs, o.data ≠ .fields vs := fun b hb => (I.stack.mem hb).2
theorem Fly.cls {P : Program} {w : World} {fr : List Addr} {H H' : Hp} {h h' : Heap} {a T : Addr} {cls : Value} (F : Fly P w fr H h H' h' a T cls) : isExc a cls h' := (F.ok a _ F.exc).1
/-- behind a step of the traceback -/
theorem Fly.on {P : Program} {w : World} {fr old : List Addr} {H H' : Hp} {h h' h2 : Heap} {a : Addr} {cls a0 : Value} (un : Un fr [] H H' h h') (ok : HOk P w H' h') (exc : H' a = some (.ext (isExc a cls))) (hfr : ∀ b ∈ fr, H' b = none)
    (frd : ∀ b ∈ fr, ∃ o, h'.get? b = some o ∧ ∀ vs, o.data ≠ .fields vs) (hold : ∀ b ∈ old, H' b = none ∧ h.get? b = none)
    (st : (PySem.W.hideAll h' (fr ++ a :: old)).StaysIn h2) (sl : h'.UpToSlots h2) (tr : h2.TracedW (PySem.W.hideAll h' (fr ++ a :: old)) a cls a0) : ∃ T, Fly P w fr H h H' h2 a T cls := by
  obtain ⟨oe, vs, T, oT, ts, q1, ⟨q2, q3⟩, q4, q5, q6, q7, q8, q9, q10⟩ := tr
  obtain ⟨u, k, n1, n2⟩ := noted (T := T) un ok hfr frd exc hold st sl ⟨oe, vs, q1, q2, q4⟩ ⟨oT, ts, q8, q9⟩ q6 q7
  exact ⟨T, u, k, exc, n1, n2, oe, vs, oT, ts, a0, q1, q4, q3, q5, q7, q8, q9, q10⟩
end
section
variable {P : Program} {w : World} {K : PySem.W.Frag} {mg : Str → Option Value} {base : Heap} {N : List Str} {qual : Str} {scope : Scope} {f : Addr} {cd : Value} {A : Around} {outer : List Env} {s₀ : Shared} {H₀ : Hp} {E : XK}
/-- which wishes about exceptions a context takes -/
def PassR (X : Cx) (R : St → XK → Prop) : Prop := ∀ (pins : List (Addr × Obj)) (σ : St) (H : Hp) (s : Shared) (e : Value) (s' : Shared) (E : XK), R σ E → Inv X pins σ H s → CX1 X.prog X.w X.stack H s E e s' → X.xe e s'
/-- a def's body lets pass what its own wish takes -/
def RD (E : XK) : St → XK → Prop := fun _ E1 => ∀ c d H, E1 c d H → E c d H
/-- a new exception, made in a context, reaches its wish -/
def RaiseR (X : Cx) (E : XK) : Prop := ∀ (pins : List (Addr × Obj)) (σ : St) (H : Hp) (s : Shared) (h' : Heap) (e : Addr) (cls : Value) (vs : List Value), Inv X pins σ H s → Heap.MadeExcOf s.heap h' e cls vs →
  (∀ H2, Same H H2 → E cls none H2) → X.xe (.ref e) { s with heap := h' }
end
end L2

set_option Elab.async false
set_option linter.all false
set_option maxRecDepth 100000
set_option maxHeartbeats 4000000
namespace L2
open PySem PySem.Spec PyProof.Rows
/-- an own class right or farther under ValueError, made as that one is -/
def ExcC (K : PySem.W.Frag) (C : Addr) : Prop := PySem.W.excIn K C [.type "ValueError", .type "Exception", .type "BaseException", .type "object"] "ValueError.__new__" = true
section
variable {X : Cx} {x : Str} {C : Addr} {p np cpos pos : Pos} {e : Expr} {es : List Expr} {t : TA} {E : XK}
/-- raise C(..) -/
def tRaise (C : Addr) (t : TA) (E : XK) : TS := fun _ σ H => t σ H fun vs H1 => vs.length ≤ sizeLine ∧ ∀ H2, Same H1 H2 → E (.ref C) none H2
/-! ### a call that may raise -/
variable {k : Nat} {f : Addr} {fd : FuncData} {ps : List Str} {sp : Sp} {dvs : List V} {ds : List Value} {R : St → XK → Prop}
def tCallE (sp : Sp) (dvs : List V) (R : St → XK → Prop) (t : TA) : TE := fun σ H Q => t σ H fun vs H1 => ∃ E, R σ E ∧ sp (vs ++ dvs) H1 Q E
end
section
variable {P : Program} {w : World} {K : PySem.W.Frag} {mg : Str → Option Value} {base : Heap} {x qual : Str} {st : Stmt} {f : Addr} {fd : FuncData} {N ps : List Str} {k : Nat} {sp : Sp}
end
end L2

set_option Elab.async false
set_option linter.all false
set_option maxRecDepth 100000
set_option maxHeartbeats 4000000
namespace L2
open PySem PySem.Spec PyProof.Rows
open PySem.W (Looks)
/-! ### try .. except (classes that are not it): ..  except C as n: .. -/
/-- a tuple of names of own classes, none of them a class of what is of the class C -/
inductive NotIts (X : Cx) (C : Addr) : List Expr → List Addr → Prop
  | nil : NotIts X C [] []
  | cons {x : Str} {p : Pos} {c : Addr} {es : List Expr} {cs : List Addr} (hg : Gl X x) (hm : X.mg x = some (.ref c)) (hd : (x == ("__debug__" : Str)) = false)
      (hb : PySem.W.subIn X.K (.ref c) (.type "BaseException") = some true) (hn : PySem.W.subIn X.K (.ref C) (.ref c) = some false) (he : ∀ env : Env, starEach (.Name x p :: es) env = (false, eval (.Name x p) env) :: starEach es env) (r : NotIts X C es cs) : NotIts X C (.Name x p :: es) (c :: cs)
section
variable {X : Cx} {pins : List (Addr × Obj)} {σ : St} {H : Hp} {s : Shared} {C : Addr}
theorem NotIts.len {es : List Expr} {cs : List Addr} (r : NotIts X C es cs) : cs.length = es.length := by
  induction r with
  | nil => rfl
  | cons _ _ _ _ _ _ _ ih => simp [ih]
def rIsiX (K : PySem.W.Frag) : List V → Hp → VK → Prop := fun xs H Q => ∃ (a : Addr) (t c : Value) (v : V), xs = [.ref a, v] ∧ H a = some (.ext (isExc a t)) ∧ (∀ u, RelV v u → u = c) ∧ PySem.W.kitOne K t c = some true ∧ Q (.bl true) H
end
/-! ### the rule -/
abbrev Cx.at (X : Cx) (A : Around) : Cx := { X with A := A, calm := false, xe := fun _ _ => False }
abbrev Cx.in_ (X : Cx) (pn : List (Addr × Obj)) (W : Value → Shared → Prop) : Cx := { X with pn := pn, xe := W }
section
variable {X : Cx} {pins : List (Addr × Obj)} {σ : St} {H : Hp} {s : Shared}
theorem Inv.at (I : Inv X pins σ H s) {A : Around} (hA : A.frames = X.A.frames) : Inv (X.at A) pins σ H s :=
  ⟨⟨I.ok.mod, I.ok.kind, I.ok.glob, I.ok.blt, I.ok.above, I.ok.inj, I.ok.has, I.ok.cab, fun z => (nomatch z), hA.trans I.ok.frames, I.ok.stk, I.ok.exf, I.ok.bs, I.ok.bsz, I.ok.noex, I.ok.exfs, I.ok.funs, I.ok.frf⟩, I.os, I.bare, I.base, I.loc, I.cell, I.free, I.freeC, I.pin, I.hok, I.len⟩
theorem Inv.in_ {W : Value → Shared → Prop} (I : Inv X pins σ H s) : Inv (X.in_ (X.pn ++ pins) W) [] σ H s :=
  ⟨⟨I.ok.mod, I.ok.kind, I.ok.glob, I.ok.blt, I.ok.above, I.ok.inj, I.ok.has, I.ok.cab, I.ok.hd, I.ok.frames, I.ok.stk, I.ok.exf, I.ok.bs, I.ok.bsz, I.ok.noex, I.ok.exfs, I.ok.funs, I.ok.frf⟩, I.os, I.bare, I.base, I.loc, I.cell, I.free, I.freeC,
    fun p hp => I.pin p (by rwa [List.append_nil] at hp), I.hok, I.len⟩
theorem Inv.out {W : Value → Shared → Prop} {pins' : List (Addr × Obj)} (ok : X.Ok) (I : Inv (X.in_ (X.pn ++ pins) W) pins' σ H s) : Inv X pins σ H s :=
  ⟨ok, I.os, I.bare, I.base, I.loc, I.cell, I.free, I.freeC, fun p hp => I.pin p (List.mem_append_left _ hp), I.hok, I.len⟩
theorem SP.out {W : Value → Shared → Prop} {D : Ends} {f : Flow} {s' : Shared} (ok : X.Ok) (h : SP (X.in_ (X.pn ++ pins) W) [] D f s') : SP X pins D f s' := by
  cases f with
  | next => obtain ⟨σ', H', I, q⟩ := h; exact ⟨σ', H', I.out ok, q⟩
  | brk => obtain ⟨σ', H', I, q⟩ := h; exact ⟨σ', H', I.out ok, q⟩
  | cont => obtain ⟨σ', H', I, q⟩ := h; exact ⟨σ', H', I.out ok, q⟩
  | ret u => obtain ⟨v, σ', H', I, r, q⟩ := h; exact ⟨v, σ', H', I.out ok, r, q⟩
theorem Fly.kept {P : Program} {w : World} {fr : List Addr} {H H' : Hp} {h h' h2 : Heap} {a T : Addr} {cls : Value} (F : Fly P w fr H h H' h' a T cls) (k : ∀ b o, h'.get? b = some o → h2.get? b = some o) : Fly P w fr H h H' h2 a T cls := by
  obtain ⟨oe, vs, oT, ts, a0, e1, d1, h0, h1, nT, e2, d2, h3⟩ := F.tr
  exact ⟨F.un.trans (Un.kept k), F.ok.kept k, F.exc, F.off, F.new, oe, vs, oT, ts, a0, k _ _ e1, d1, h0, h1, nT, k _ _ e2, d2, h3⟩
/-- what the handlers take: the class C -/
def RT (tu : TS) (C : Addr) (i : Nat) (D : Ends) : St → XK → Prop := fun σ1 E => ∀ cls H', E cls none H' → cls = .ref C ∧ ∀ a, H' a = some (.ext (isExc a (.ref C))) →
  tu { nx := fun σ' H4 => D.nx (σ'.set i none) H4, rt := fun _ _ => False } (σ1.set i (some (.ref a))) H'
def tTry (tb : (St → XK → Prop) → TS) (tu : TS) (C : Addr) (i : Nat) : TS := fun D σ H => tb (RT tu C i D) D σ H
theorem NotIts.all {C : Addr} {es : List Expr} {cs : List Addr} (r : NotIts X C es cs) : ∀ c ∈ cs, PySem.W.subIn X.K (.ref c) (.type "BaseException") = some true ∧ PySem.W.subIn X.K (.ref C) (.ref c) = some false := by
  induction r with
  | nil => exact fun _ z => nomatch z
  | cons _ _ _ hb hn _ _ ih =>
    intro c hc
    rcases List.mem_cons.mp hc with e | hc
    · rw [e]
      exact ⟨hb, hn⟩
    · exact ih c hc
end
end L2

set_option Elab.async false
set_option linter.all false
set_option maxRecDepth 100000
set_option maxHeartbeats 4000000
namespace L2
open PySem PySem.Spec PyProof.Rows
section
variable {X : Cx}
/-! ### b is True, b is False -/
end
end L2

set_option Elab.async false
set_option linter.all false
set_option maxRecDepth 100000
set_option maxHeartbeats 400000
namespace L2
open PySem PySem.Spec PyProof.Rows
/-! ### max(xs, default=d) -/
/-- m is the greatest of the first j + 1 numbers -/
def TopTo (val : Nat → Int) (j : Nat) (m : Int) : Prop := (∃ i, i ≤ j ∧ m = val i) ∧ ∀ i, i ≤ j → val i ≤ m
theorem TopTo.up {val : Nat → Int} {j : Nat} {m : Int} (h : TopTo val j m) (b : m < val (j + 1)) : TopTo val (j + 1) (val (j + 1)) := by
  refine ⟨⟨j + 1, Nat.le_refl _, rfl⟩, fun i hi => ?_⟩
  rcases Nat.lt_or_ge j i with z | z
  · have e : i = j + 1 := by omega
    rw [e]
    omega
  · have := h.2 i z
    omega
theorem TopTo.same {val : Nat → Int} {j : Nat} {m : Int} (h : TopTo val j m) (b : ¬ m < val (j + 1)) : TopTo val (j + 1) m := by
  obtain ⟨⟨i0, z0, e0⟩, h2⟩ := h
  refine ⟨⟨i0, by omega, e0⟩, fun i hi => ?_⟩
  rcases Nat.lt_or_ge j i with z | z
  · have e : i = j + 1 := by omega
    rw [e]
    omega
  · exact h2 i z
section
variable {prog : Program} {w : World} {A : Around} {R : Result → Shared → Prop} {I S : Addr} {fp wr : List Addr} {n : Nat} {P : Nat → Value → Prop} {St : Nat → Heap → Prop} {val : Nat → Int}
end
end L2

set_option Elab.async false
set_option linter.all false
set_option maxRecDepth 100000
set_option maxHeartbeats 400000
namespace L2
open PySem PySem.Spec PyProof.Rows
section
variable {prog : Program} {w : World} {A : Around} {E : Value → Shared → Prop} {s : Shared} {l : Addr}
end
section
variable {X : Cx} {p pos kpos : Pos} {e d : Expr} {t : TA} {td : TE} {x : Str}
/-- what max(xs, default=d) tells -/
def tMaxD (K : PySem.W.Frag) (t : TA) (td : TE) : TE := fun σ H Q => t σ H fun vs H1 => tCons td tNil σ H1 fun ys H2 => ∃ (a : Addr) (ns : List Int) (dv : Int), vs = [.ref a] ∧ ys = [.int dv] ∧ SqL K H2 a (ns.map V.int) ∧
  ∀ m : Int, (ns = [] → m = dv) → (ns ≠ [] → m ∈ ns ∧ ∀ b ∈ ns, b ≤ m) → Q (.int m) H2
end
end L2

set_option Elab.async false
set_option linter.all false
set_option maxRecDepth 100000
set_option maxHeartbeats 400000
namespace L2
open PySem PySem.Spec PyProof.Rows PySem.SeqAt
/-- x < y tells b, and nothing changes -/
def LtAt (A : Around) (s : Shared) (x y : Value) (b : Bool) : Prop := ∀ (prog : Program) (w : World) (E : Value → Shared → Prop) (Q : Value → Shared → Prop), Q (.bool b) s → wpAny (model prog w) A (richCompare .Lt x y) Q E s
theorem tup_lt (l b : Addr) (xs ys : Array Value) (n n2 : Nat) (dd dd2 : Option Addr) (sl sl2 : Array (Option Value)) (e : Nat → Bool) (r : Bool) :
    Meets (Builtin.«tuple.__lt__» ⟨[.ref l, .ref b], []⟩)
      (fun A R s => s.heap.get? l = some { cls := .type "tuple", dict := dd, data := .seq xs n, slots := sl } ∧ s.heap.get? b = some { cls := .type "tuple", dict := dd2, data := .seq ys n2, slots := sl2 } ∧
        (∀ j (h1 : j < xs.size) (h2 : j < ys.size), EqAt A.in1 s xs[j] ys[j] (e j)) ∧ (∀ j (h1 : j < xs.size) (h2 : j < ys.size), (∀ i, i < j → e i = true) → e j = false → LtAt A.in1 s xs[j] ys[j] r) ∧
        ((∀ j, j < min xs.size ys.size → e j = true) → r = decide (xs.size < ys.size)) ∧ R (.ok (.ret (.bool r))) s) :=
  .of_wp fun prog w A R s h => by
    obtain ⟨hp, g, d, tk, os⟩ := s
    obtain ⟨hl, hb, he, hf, hz, h⟩ := h
    have f2 := AutoSeq1.sub_tuple_tuple
    have hZ : (xs.toList.zip ys.toList).length = min xs.size ys.size := by simp
    wp_walk using wpAny_loadPart' hl, wpAny_loadPart' hb, wpAny_forIn_list _ (fun rest b s' => b.1 = none ∧ s' = ⟨hp, g, d, tk, os⟩ ∧ ∃ i, rest = (xs.toList.zip ys.toList).drop i ∧ ∀ k, k < i → k < min xs.size ys.size → e k = true) _
    case turn =>
      rintro ⟨y, x⟩ rest b s' ⟨hb', rfl, i, hq, hR⟩
      have hlt : i < (xs.toList.zip ys.toList).length := by
        apply Classical.byContradiction
        intro z
        rw [List.drop_of_length_le (by omega)] at hq
        cases hq
      have h1 : i < xs.size := by omega
      have h2 : i < ys.size := by omega
      rw [List.drop_eq_getElem_cons hlt] at hq
      injection hq with hyx hrest
      have hy : y = xs[i] := by simpa using congrArg Prod.fst hyx
      have hx : x = ys[i] := by simpa using congrArg Prod.snd hyx
      subst hy hx
      refine wpAny_bind (he i h1 h2 prog w _ _ ?_)
      cases hy : e i with
      | true =>
        wp_walk
        refine ⟨rfl, rfl, i + 1, hrest, fun k hk hk2 => ?_⟩
        by_cases z : k = i
        · rw [z]
          exact hy
        · exact hR k (by omega) hk2
      | false =>
        have hl2 := hf i h1 h2 (fun k hk => hR k hk (by omega)) hy prog w
        wp_walk using hl2 _ _
        exact ⟨_, rfl, h⟩
    case fin =>
      rintro ⟨b1, b2⟩ s' ⟨hb', rfl, i, hq, hR⟩
      simp only at hb'
      subst hb'
      have hge : min xs.size ys.size ≤ i := by
        apply Classical.byContradiction
        intro z
        rw [List.drop_eq_getElem_cons (by omega)] at hq
        cases hq
      have hr := hz fun j hj => hR j (by omega) hj
      wp_walk
      refine ⟨_, rfl, ?_⟩
      rw [hr] at h
      simpa [Builtin.Tuple.tupleCompareSizes] using h
    case h =>
      exact ⟨rfl, rfl, 0, rfl, fun k hk => absurd hk (Nat.not_lt_zero k)⟩
/-! ### the order of nested tuples of ints -/
mutual
def ltv : PyData → PyData → Bool
  | .int a, .int b => decide (a < b)
  | .tuple xs, .tuple ys => ltvAll xs ys
  | _, _ => false
def ltvAll : List PyData → List PyData → Bool
  | [], [] => false
  | [], _ :: _ => true
  | _ :: _, [] => false
  | x :: xs, y :: ys => if PyData.eqv x y then ltvAll xs ys else ltv x y
end
mutual
def Cmpb : PyData → PyData → Prop
  | .int _, .int _ => True
  | .tuple xs, .tuple ys => CmpbAll xs ys
  | _, _ => False
def CmpbAll : List PyData → List PyData → Prop
  | x :: xs, y :: ys => Cmpb x y ∧ CmpbAll xs ys
  | _, _ => True
end
theorem ltv_sizes : ∀ (xs ys : List PyData), (∀ j, j < min xs.length ys.length → pairEq xs ys j = true) → ltvAll xs ys = decide (xs.length < ys.length)
  | [], [], _ => rfl
  | [], y :: ys, _ => by simp [ltvAll]
  | x :: xs, [], _ => by simp [ltvAll]
  | x :: xs, y :: ys, h => by
    have h0 : PyData.eqv x y = true := h 0 (by simp only [List.length_cons]; omega)
    have ih := ltv_sizes xs ys fun j hj => h (j + 1) (by simp only [List.length_cons]; omega)
    rw [ltvAll, if_pos h0, ih]
    simp
mutual
theorem lt_reads : ∀ (da db : PyData) (A : Around) (s : Shared) (a b : Value) (as bs : List Addr), Reads s.heap a da as → Reads s.heap b db bs → da.canLay0 = true → db.canLay0 = true → Cmpb da db →
    A.units + min da.depth db.depth < cLine → LtAt A s a b (ltv da db)
  | .int x, db, A, s, _, _, _, _, ra, rb, _, _, hc, hu => by
    cases db with
    | int y =>
      cases ra with
      | int _ t =>
        cases rb with
        | int _ u =>
          intro prog w E Q h
          exact richCompare_gives (op := .Lt) (typeIs_int s _ t) (typeIs_int s _ u) F.slot_int_lt F.entry_int_lt (F.args_int_lt_2 _ _) (gives_int_lt _ _ t u) (fun z => nomatch z) h
    | none => exact hc.elim
    | bool _ => exact hc.elim
    | str _ => exact hc.elim
    | list _ => exact hc.elim
    | tuple _ => exact hc.elim
    | dict _ => exact hc.elim
  | .tuple xs, db, A, s, _, _, _, _, ra, rb, ha, hb, hc, hu => by
    cases db with
    | tuple ys =>
      cases ra with
      | @tuple l o vs n _ as₁ h1 h2 h3 h4 =>
        cases rb with
        | @tuple l' o' vs' n' _ bs₁ k1 k2 k3 k4 =>
          obtain ⟨oc, od, odt, osl⟩ := o
          obtain ⟨oc', od', odt', osl'⟩ := o'
          simp only at h2 h3 k2 k3
          subst h2 h3 k2 k3
          have n1 : vs.size = xs.length := by simpa using ReadsAll.length _ _ _ h4
          have n2 : vs'.size = ys.length := by simpa using ReadsAll.length _ _ _ k4
          intro prog w E Q h
          refine richCompare_meets_room (op := .Lt) ⟨_, h1, rfl⟩ ⟨_, k1, rfl⟩ F.slot_tuple_lt F.entry_tuple_lt (F.args_tuple_lt_2 _ _) (tup_lt l l' vs vs' n n' od od' osl osl' (pairEq xs ys) (ltvAll xs ys)) ⟨h1, k1, fun j j1 j2 => ?_, fun j j1 j2 f1 f2 => ?_, fun f => ?_, (fun z => nomatch z), h⟩ (room_here hu)
          · have := eqAt_readsAll xs ys A.in1 s vs.toList vs'.toList _ _ h4 k4 ha hb (room_in hu) j (by simpa using j1) (by simpa using j2)
            simpa using this
          · have := lt_readsAll xs ys A.in1 s vs.toList vs'.toList _ _ h4 k4 ha hb hc (room_in hu) j (by simpa using j1) (by simpa using j2) f1 f2
            simpa using this
          · rw [n1, n2] at f ⊢
            exact ltv_sizes xs ys f
    | none => exact hc.elim
    | bool _ => exact hc.elim
    | str _ => exact hc.elim
    | list _ => exact hc.elim
    | int _ => exact hc.elim
    | dict _ => exact hc.elim
  | .none, _, _, _, _, _, _, _, _, _, _, _, hc, _ => hc.elim
  | .bool _, _, _, _, _, _, _, _, _, _, _, _, hc, _ => hc.elim
  | .str _, _, _, _, _, _, _, _, _, _, _, _, hc, _ => hc.elim
  | .list _, _, _, _, _, _, _, _, _, _, _, _, hc, _ => hc.elim
  | .dict _, _, _, _, _, _, _, _, _, _, _, _, hc, _ => hc.elim
theorem lt_readsAll : ∀ (xs ys : List PyData) (A : Around) (s : Shared) (vs ws : List Value) (as bs : List Addr), ReadsAll s.heap vs xs as → ReadsAll s.heap ws ys bs → PyData.canLayAll0 xs = true → PyData.canLayAll0 ys = true → CmpbAll xs ys →
    A.units + min (PyData.depthAll xs) (PyData.depthAll ys) < cLine → ∀ j (h1 : j < vs.length) (h2 : j < ws.length), (∀ i, i < j → pairEq xs ys i = true) → pairEq xs ys j = false → LtAt A s vs[j] ws[j] (ltvAll xs ys)
  | [], _, _, _, _, _, _, _, ra, _, _, _, _, _, j, h1, _, _, _ => by cases ra; exact absurd h1 (Nat.not_lt_zero _)
  | _ :: _, [], _, _, _, _, _, _, _, rb, _, _, _, _, j, _, h2, _, _ => by cases rb; exact absurd h2 (Nat.not_lt_zero _)
  | x :: xs, y :: ys, A, s, _, _, _, _, ra, rb, ca, cb, hc, hu, j, h1, h2, f1, f2 => by
    cases ra with
    | cons r1 r2 =>
      cases rb with
      | cons q1 q2 =>
        have ca1 : x.canLay0 = true ∧ PyData.canLayAll0 xs = true := by simpa [PyData.canLayAll0] using ca
        have cb1 : y.canLay0 = true ∧ PyData.canLayAll0 ys = true := by simpa [PyData.canLayAll0] using cb
        have hd : A.units + min x.depth y.depth < cLine ∧ A.units + min (PyData.depthAll xs) (PyData.depthAll ys) < cLine := by
          simp only [PyData.depthAll] at hu
          omega
        cases j with
        | zero =>
          have e : ltvAll (x :: xs) (y :: ys) = ltv x y := by
            have f3 : PyData.eqv x y = false := f2
            rw [ltvAll, f3]
            rfl
          rw [e]
          exact lt_reads x y A s _ _ _ _ r1 q1 ca1.1 cb1.1 hc.1 hd.1
        | succ j =>
          have e : ltvAll (x :: xs) (y :: ys) = ltvAll xs ys := by
            have f3 : PyData.eqv x y = true := f1 0 (Nat.succ_pos _)
            rw [ltvAll, f3]
            rfl
          rw [e]
          exact lt_readsAll xs ys A s _ _ _ _ r2 q2 ca1.2 cb1.2 hc.2 hd.2 j (Nat.lt_of_succ_lt_succ h1) (Nat.lt_of_succ_lt_succ h2) (fun i hi => f1 (i + 1) (Nat.succ_lt_succ hi)) f2
end
section
variable {X : Cx} {k : Nat}
def rLtD : R2 := fun x y H Q => ∃ d e : PyData, Rp H d x ∧ Rp H e y ∧ Cmpb d e ∧ d.depth ≤ 60 ∧ Q (.bl (ltv d e)) H
end
end L2

set_option Elab.async false
set_option linter.all false
set_option maxRecDepth 100000
set_option maxHeartbeats 400000
namespace L2
open PySem PySem.Spec PyProof.Rows
section
variable {X : Cx}
/-- t + u of two tuples, also of an empty t; u is a tracked one and not empty -/
def rCatE (K : PySem.W.Frag) : R2 := fun x y H Q => ∃ a b xs ys, x = .ref a ∧ y = .ref b ∧ SqT K H a xs ∧ H b = some (.tup ys) ∧ ys ≠ [] ∧ xs.length + ys.length ≤ sizeLine ∧
  ∀ p H', Same H H' → H' p = some (.tup (xs ++ ys)) → Q (.ref p) H'
end
end L2

set_option Elab.async false
set_option linter.all false
set_option maxRecDepth 100000
set_option maxHeartbeats 400000
namespace L2
open PySem PySem.Spec PyProof.Rows
/-! ### reversed(t) of a tuple -/
def RvIt (h : Heap) (a t : Addr) (i : Int) : Prop := ∃ o, h.get? a = some o ∧ o.cls = .type "reversed" ∧ o.data = .fields #[.ref t, rawInt i]
section
variable {prog : Program} {w : World} {A : Around} {E : Value → Shared → Prop} {s : Shared}
theorem RvIt.ty {a t : Addr} {i : Int} (x : RvIt s.heap a t i) : s.TypeIs (.ref a) "reversed" := let ⟨o, ho, hc, _⟩ := x; ⟨o, ho, hc⟩
theorem RvIt.at {h h' : Heap} {a t : Addr} {i : Int} (x : RvIt h a t i) (e : ∀ o, h.get? a = some o → h'.get? a = some o) : RvIt h' a t i := let ⟨o, ho, r⟩ := x; ⟨o, e _ ho, r⟩
end
end L2

set_option Elab.async false
set_option linter.all false
set_option maxRecDepth 100000
set_option maxHeartbeats 400000
namespace L2
open PySem PySem.Spec PyProof.Rows
def rvdObj (t : Addr) (i : Int) : Obj := { cls := .type "reversed", data := .fields #[.ref t, rawInt i] }
section
variable {prog : Program} {w : World} {A : Around} {E : Value → Shared → Prop} {s : Shared}
end
/-- the items of a tuple, from the last to the first -/
def Itv (K : PySem.W.Frag) (a : Addr) (xs : List V) : It :=
  ⟨fun i H => SqT K H a xs ∧ i < xs.length, fun i H x H' => H' = H ∧ xs.reverse[i]? = some x, fun i H => SqT K H a xs ∧ xs.length ≤ i⟩
def iRev (K : PySem.W.Frag) (ta : TA) : TI := fun σ H R => ta σ H fun vs H1 => ∃ t xs, vs = [.ref t] ∧ SqT K H1 t xs ∧ R (Itv K t xs) H1
section
variable {X : Cx} {tg : Expr}
end
end L2

set_option Elab.async false
set_option linter.all false
set_option maxRecDepth 100000
set_option maxHeartbeats 400000
namespace L2
open PySem PySem.Spec PyProof.Rows
section
variable {P : Program} {w : World} {A : Around} {E : Value → Shared → Prop} {s : Shared}
end
section
variable {X : Cx}
def tTupRev (K : PySem.W.Frag) (ta : TA) : TE := fun σ H Q => ta σ H fun vs H1 => ∃ l xs, vs = [.ref l] ∧ SqL K H1 l xs ∧ ∀ d, H1 d = none → Q (.ref d) (upd H1 d (.tup xs.reverse))
end
end L2

set_option Elab.async false
set_option linter.all false
set_option maxRecDepth 100000
set_option maxHeartbeats 4000000
namespace L2
open PySem PySem.Spec PyProof.Rows
/-! ### any(xs), all(xs) of a list of truths -/
section
variable {X : Cx}
end
end L2

set_option Elab.async false
set_option linter.all false
set_option maxRecDepth 100000
set_option maxHeartbeats 4000000
namespace L2
open PySem PySem.Spec PyProof.Rows
/-! ### a, b = a list of that length -/
section
variable {prog : Program} {w : World} {A : Around} {E : Value → Shared → Prop} {I : Addr} {fp wr : List Addr} {St : Nat → Heap → Prop} {items : Array Value}
end
section
variable {X : Cx} {pos : Pos}
def gLst (K : PySem.W.Frag) (n : Nat) (t : TGs) : TG := fun v σ H Q => ∃ a xs, v = .ref a ∧ SqL K H a xs ∧ xs.length = n ∧ t xs σ H Q
end
end L2

set_option Elab.async false
set_option linter.all false
set_option maxRecDepth 100000
set_option maxHeartbeats 4000000
namespace L2
open PySem PySem.Spec PyProof.Rows
open PySem.W (Looks)
/-! ### try, and one handler for a class above the raised ones -/
section
variable {prog : Program} {w : World} {A : Around} {E : Value → Shared → Prop} {K : PySem.W.Frag} {x C : Addr} {h : Heap} {g : Array GenState} {d : Drawn} {t : Nat} {os : OsState}
/-- what the kept part says of an own exception class -/
structure ExcK (K : PySem.W.Frag) (C : Addr) : Prop where
  ga : PySem.W.findIn K (.ref C) "__getattribute__" = some (some (.builtin "BaseException.__getattribute__"))
  gt : PySem.W.findIn K (.ref C) "__getattr__" = some none
  cl : PySem.W.findIn K (.ref C) "__class__" = some (some (.builtin "object.__class__"))
  gs : PySem.W.specialIn K (.builtin "object.__class__") "__get__" = some (some (.builtin "getset_descriptor.__get__"))
  tk : PySem.W.takesIn K (.builtin "object.__class__") = some true
  ob : PySem.W.mroIn K C (.type "object") = some true
  be : PySem.W.subIn K (.ref C) (.type "BaseException") = some true
end
section
variable {X : Cx}
def rIsiE (K : PySem.W.Frag) : List V → Hp → VK → Prop := fun xs H Q => ∃ (a C : Addr) (c : Value) (v : V) (b : Bool), xs = [.ref a, v] ∧ H a = some (.ext (isExc a (.ref C))) ∧ (∀ u, RelV v u → u = c) ∧ ExcK K C ∧ PySem.W.kitOne K (.ref C) c = some b ∧ Q (.bl b) H
end
end L2

set_option Elab.async false
set_option linter.all false
set_option maxRecDepth 100000
set_option maxHeartbeats 4000000
namespace L2
open PySem PySem.Spec PyProof.Rows
open PySem.W (Looks)
section
variable {X : Cx}
/-- what the one handler takes: classes under Y -/
def RT1 (K : PySem.W.Frag) (tu : TS) (Y : Addr) (i : Nat) (D : Ends) : St → XK → Prop := fun σ1 E => ∀ cls H', E cls none H' → ∃ C, cls = .ref C ∧ PySem.W.subIn K (.ref C) (.ref Y) = some true ∧ ∀ a, H' a = some (.ext (isExc a (.ref C))) →
  tu { nx := fun σ' H4 => D.nx (σ'.set i none) H4, rt := fun _ _ => False } (σ1.set i (some (.ref a))) H'
def tTry1 (K : PySem.W.Frag) (tb : (St → XK → Prop) → TS) (tu : TS) (Y : Addr) (i : Nat) : TS := fun D σ H => tb (RT1 K tu Y i D) D σ H
end
end L2

set_option Elab.async false
set_option linter.all false
set_option maxRecDepth 100000
set_option maxHeartbeats 4000000
namespace L2
open PySem PySem.Spec PyProof.Rows
open PySem.Builtin.Int (intBits)
section
variable {X : Cx}
/-! ### n.bit_length(), a << n -/
def CShl (i j : Int) : Prop := 0 ≤ j ∧ ((intBits i : Nat) : Int) + j ≤ 2 ^ 27
end
end L2

set_option Elab.async false
set_option linter.all false
set_option maxRecDepth 100000
set_option maxHeartbeats 4000000
namespace L2
open PySem PySem.Spec PyProof.Rows
open PySem.Builtin.Int (intBits)
/-! ### the least, the greatest of a tuple of ints -/
section
variable {prog : Program} {w : World} {A : Around} {E : Value → Shared → Prop} {s : Shared} {l : Addr} {xs : Array (Int × Tok)}
theorem iter_intTup {Q : Value → Shared → Prop} (hl : s.heap.IsTuple l (intItems xs))
    (h : ∀ s₂ : Shared, s₂ = { s with heap := s.heap.push { cls := .type "tuple_iterator", data := .fields #[.ref l, .int 0 0] } } →
      (s₂.heap.IsTupleIter s.heap.objs.size l 0 ∧ s₂.heap.IsTuple l (intItems xs)) → (∀ b ∈ [s.heap.objs.size, l], b < s₂.heap.objs.size) → l ≠ s.heap.objs.size → Q (.ref s.heap.objs.size) s₂) :
    wpAny (model prog w) A (pyIter (.ref l)) Q E s := by
  have hlt : l < s.heap.objs.size := by obtain ⟨_, e, _⟩ := hl; exact Heap.lt_size e
  refine wpAny_pyIter_tuple hl (h _ rfl ⟨⟨_, Heap.get?_push_size _ rfl, rfl, rfl⟩, ?_⟩ (fun b hb => ?_) (Nat.ne_of_lt hlt))
  · exact hl.at fun o e => Heap.get?_push_of_some _ e
  show b < (s.heap.push _).objs.size
  rw [Heap.size_push]
  rcases List.mem_cons.mp hb with rfl | hb
  · exact Nat.lt_succ_self _
  · rcases List.mem_cons.mp hb with rfl | hb
    · exact Nat.lt_succ_of_lt hlt
    · cases hb
theorem old_keptT {h' : Heap} (hk : ∀ b o, b ∉ [s.heap.objs.size] → (s.heap.push { cls := .type "tuple_iterator", data := .fields #[.ref l, .int 0 0] }).get? b = some o → h'.get? b = some o) :
    ∀ b o, s.heap.get? b = some o → h'.get? b = some o := fun b o e => by
  refine hk b o (fun hm => ?_) (Heap.get?_push_of_some _ e)
  rcases List.mem_cons.mp hm with e1 | hm
  · exact absurd (e1 ▸ Heap.lt_size e) (Nat.lt_irrefl _)
  · cases hm
theorem min_intTup {Q : Value → Shared → Prop} (hh : A.handled = none) (hl : s.heap.IsTuple l (intItems xs)) (hne : 0 < xs.size)
    (h : ∀ v h' tk, (intItems xs)[argBest (fun i j => decide (numAt xs i < numAt xs j)) (xs.size - 1)]? = some v → (∀ b o, s.heap.get? b = some o → h'.get? b = some o) → Q v { s with heap := h', toks := tk }) :
    wpAny (model prog w) A (call (.builtin "min") [.ref l]) Q E s := by
  refine call_min_walk (iter_intTup hl fun s₂ e st hfp hlI => ?_)
  subst e
  refine ⟨_, _, _, _, _, _, _, rfl, Walks.tuple (A := A.in1) hh _ l hlI (intItems xs), st, hfp, by simpa [intItems] using hne, CmpOf.ints_lt (numAt xs) (fun _ _ => intItems_at), fun v h' tk hP hk => ?_⟩
  exact h v h' tk (by simpa [intItems] using hP) (old_keptT hk)
end
section
variable {X : Cx}
theorem call_minT (hc : X.calm = true) : CallR X (.builtin "min") (fun xs H Q => ∃ (p : Addr) (ns : List Int), xs = [.ref p] ∧ SqT X.K H p (ns.map V.int) ∧ 0 < ns.length ∧ ∀ m : Int, m ∈ ns → (∀ a ∈ ns, m ≤ a) → Q (.int m) H) := by
  intro pins s σ H vs us Q I r q
  obtain ⟨p, ns, rfl, hq, hne, q⟩ := q
  obtain ⟨u, rfl, rx⟩ := vals1 r
  cases rx
  obtain ⟨its, rv, pl, hz⟩ := I.tuple hq
  have hi := intsAre_of rv
  obtain ⟨ys, ey⟩ := hi.allInts.items
  have hns : ns = ys.toList.map (·.1) := by
    have e1 := hi.numsOf
    have e2 := nums_intItems ys
    rw [← ey] at e2
    exact e1.symm.trans e2
  have hsz : 0 < ys.size := by
    rw [hns, List.length_map, Array.length_toList] at hne
    exact hne
  have hl : s.heap.IsTuple p its.toArray := pl
  rw [ey] at hl
  refine min_intTup (I.ok.hd hc) hl hsz fun v g' tk hv hk => ?_
  obtain ⟨t, rfl⟩ := intItems_at hv
  obtain ⟨b1, b2⟩ := argBest_lt (numAt ys) (ys.size - 1)
  refine ⟨.int _, H, I.kept hk, ⟨t, rfl⟩, q _ ?_ fun a ha => ?_⟩
  · rw [hns, numAt_eq]
    exact getD_mem (by rw [List.length_map, Array.length_toList]; omega)
  · rw [hns] at ha
    obtain ⟨j, hj, rfl⟩ := mem_getD ha
    rw [List.length_map, Array.length_toList] at hj
    rw [← numAt_eq]
    exact b2 j (by omega)
/-- of a list or of a tuple -/
theorem call_minS (K : PySem.W.Frag) (hc : X.calm = true) (hK : X.K = K := by rfl) : CallR X (.builtin "min") (fun xs H Q => ∃ (p : Addr) (ns : List Int), xs = [.ref p] ∧ (SqL K H p (ns.map V.int) ∨ SqT K H p (ns.map V.int)) ∧ 0 < ns.length ∧ ∀ m : Int, m ∈ ns → (∀ a ∈ ns, m ≤ a) → Q (.int m) H) := by
  subst hK
  intro pins s σ H vs us Q I r q
  obtain ⟨p, ns, rfl, hq | hq, hne, q⟩ := q
  · exact call_minL hc pins s σ H _ us Q I r ⟨p, ns, rfl, hq, hne, q⟩
  · exact call_minT hc pins s σ H _ us Q I r ⟨p, ns, rfl, hq, hne, q⟩
end
/-! ### slices and sums of tuples -/
section
variable {X : Cx}
/-- t + u of two tuples, either may be empty -/
def rCatA (K : PySem.W.Frag) : R2 := fun x y H Q => ∃ a b xs ys, x = .ref a ∧ y = .ref b ∧ H a = some (.tup xs) ∧ H b = some (.tup ys) ∧ xs.length + ys.length ≤ sizeLine ∧
  ∀ p H', Same H H' → H' p = some (.tup (xs ++ ys)) → Q (.ref p) H'
end
/-! ### the object of a class that has no __init__ of its own -/
structure MkN (K : PySem.W.Frag) (C : Addr) : Prop where
  makes : PySem.W.makesIn K C = true
  init : PySem.W.findIn K (.ref C) "__init__" = some (some (.builtin "object.__init__"))
  kp : PySem.W.keepIn K (.ref C) = true
def tMakeN (C : Addr) : TE := fun σ H Q => ∀ x dx, H x = none → H dx = none → dx ≠ x → Q (.ref x) (upd (upd H dx (.own x)) x (.ins C dx []))
section
variable {X : Cx} {C : Addr} {x : Str} {p pos : Pos}
theorem run_makeN {pins : List (Addr × Obj)} {σ : St} {H : Hp} {s : Shared} {Q : VK} (M : MkN X.K C) (I : Inv X pins σ H s)
    (h : ∀ x dx, H x = none → H dx = none → dx ≠ x → Q (.ref x) (upd (upd H dx (.own x)) x (.ins C dx []))) :
    wpAny (model X.prog X.w) X.A (call (.ref C) []) (EP X pins σ Q) X.xe s := by
  have hq := h (s.heap.objs.size + 1) s.heap.objs.size (I.hok.fresh (Nat.le_succ _)) (I.hok.fresh (Nat.le_refl _)) (Nat.ne_of_lt (Nat.lt_succ_self _))
  have I2 := Inv.made (C := C) I
  have Y := PySem.W.makes_of (M := model X.prog X.w) I.kIn M.makes
  have e2 : ((s.heap.push PySem.W.emptyDict).push (PySem.W.instObj C s.heap.objs.size)).get? (s.heap.objs.size + 1) = some (PySem.W.instObj C s.heap.objs.size) := by
    have := Heap.get?_push_size (s.heap.push PySem.W.emptyDict) (o := PySem.W.instObj C s.heap.objs.size) rfl
    rwa [Heap.size_push] at this
  refine wpAny_call (make_map0 I.kIn M.makes M.init (fun self => PySem.W.Looks.of_pure (PySem.W.oi_bind self)) ?_)
  have t1 : PySem.W.Looks (model X.prog X.w) ((s.heap.push PySem.W.emptyDict).push (PySem.W.instObj C s.heap.objs.size)) (typeOf (.ref (s.heap.objs.size + 1))) (.ref C) := (PySem.W.Looks.ld e2).andThen .now
  have t2 : PySem.W.Looks (model X.prog X.w) ((s.heap.push PySem.W.emptyDict).push (PySem.W.instObj C s.heap.objs.size)) (isInstance (.ref (s.heap.objs.size + 1)) (.type "object")) true := t1.andThen (Y.top.keeps fun b o e => Heap.get?_push_of_some _ (Heap.get?_push_of_some _ e))
  refine codeAny_call_builtin PySem.W.oi_plain PySem.W.entry_oi (@PySem.W.check_slot (model X.prog X.w) _ _ _ "object.__init__" "object" "__init__" (.ref (s.heap.objs.size + 1)) [] [] _ PySem.W.oi_kind PySem.W.oi_split t2 (PySem.W.oi_args (.ref (s.heap.objs.size + 1))) ?_)
  rw [PySem.W.oi_run]
  exact wpAny_pure (And.intro rfl ⟨V.ref (s.heap.objs.size + 1), _, I2, rfl, hq⟩)
theorem pe_makeN (M : MkN X.K C) (hg : Gl X x) (hm : X.mg x = some (.ref C)) (hdb : (x == ("__debug__" : Str)) = false := by decide) : PE X (.Call (.Name x p) [] [] pos) (tMakeN C) := by
  intro pins s σ H Q I h
  refine wpAny_Call_Name_kw (ld_glob I hg hm ?_ hdb)
  exact PySem.W.callWith_K0 I.kIn M.kp (run_makeN M I h)
end
end L2

set_option Elab.async false
set_option linter.all false
set_option maxRecDepth 100000
set_option maxHeartbeats 4000000
namespace L2
open PySem PySem.Spec PyProof.Rows
open PySem.Builtin.Int (intBits)
/-! ### isinstance of a caught one, several classes at once -/
section
variable {K : PySem.W.Frag} {x C : Addr}
end
section
variable {X : Cx}
def rIsiT (K : PySem.W.Frag) : List V → Hp → VK → Prop := fun xs H Q => ∃ (a C tp : Addr) (as : List Addr) (b : Bool), xs = [.ref a, .ref tp] ∧ H a = some (.ext (isExc a (.ref C))) ∧ H tp = some (.tup (as.map V.ref)) ∧ ExcK K C ∧ ExcC K C ∧
  PySem.W.kitAny K (.ref C) (as.map Value.ref) = some b ∧ Q (.bl b) H
end
/-! ### the place of an int in a tuple of ints -/
theorem tuple_indexAt (l : Addr) (items : Array Value) (n : Nat) (dd : Option Addr) (sl : Array (Option Value)) (x : Value) (e : Value → Bool) (j : Nat) (hj : j < items.size)
    (hit : e items[j] = true) (hno : ∀ m (hm : m < items.size), m < j → e items[m] = false) :
    Meets (Builtin.«tuple.index» ⟨[.ref l, x], []⟩)
      (fun A R s => s.heap.get? l = some { cls := .type "tuple", dict := dd, data := .seq items n, slots := sl } ∧ (∀ y, y ∈ items → PySem.SeqAt.EqAt A.in1 s y x (e y)) ∧ R (.ok (.ret (.int j s.toks))) { s with toks := s.toks + 1 }) := by
  intro prog w A R s h
  obtain ⟨hl, he, h⟩ := h
  unfold Builtin.«tuple.index»
  refine wpAny_bind (wpAny_of_eq (show selfAndSome "tuple.index" "index" 1 3 { pos := [Value.ref l, x] } = pure (Value.ref l, [x]) from rfl) ?_)
  refine wpAny_bind (wpAny_tupleItemsOf hl rfl ?_)
  refine wpAny_bind (wpAny_pure (wpAny_bind (wpAny_pure (wpAny_bind ?_))))
  rw [Nat.min_self, Std.Legacy.Range.forIn_eq_forIn_range']
  refine wpAny_forIn_list _ (fun rest b s' => b = (none, ()) ∧ s' = s ∧ ∃ i, rest = List.range' i (items.size - i) ∧ i ≤ j) _ ?_ ?_ _ _ ⟨rfl, rfl, 0, by simp [Std.Legacy.Range.size], Nat.zero_le _⟩
  · rintro k rest b s' ⟨rfl, rfl, i, hr, hij⟩
    have hi : i < items.size := by omega
    rw [show items.size - i = (items.size - i - 1) + 1 by omega, List.range'_succ] at hr
    obtain ⟨rfl, rfl⟩ := List.cons.inj hr
    rw [Array.getElem?_eq_getElem hi]
    refine wpAny_bind (he _ (Array.getElem_mem hi) prog w _ _ ?_)
    by_cases e1 : k = j
    · subst e1
      rw [hit]
      refine wpAny_bind (wpAny_bind (wpAny_mkInt ?_))
      exact wpAny_pure (wpAny_pure (wpAny_pure h))
    · rw [hno k hi (by omega)]
      refine wpAny_pure ⟨rfl, rfl, k + 1, ?_, by omega⟩
      rw [show items.size - (k + 1) = items.size - k - 1 by omega]
  · rintro b s' ⟨rfl, rfl, i, hr, hij⟩
    have : items.size - i = 0 := by
      have := congrArg List.length hr
      simpa using this.symm
    omega

section
variable {X : Cx}
def rIndexT (K : PySem.W.Frag) : V → List V → Hp → VK → Prop := fun x vs H Q => ∃ (l : Addr) (ns : List Int) (y : Int) (j : Nat), x = .ref l ∧ vs = [.int y] ∧ SqT K H l (ns.map V.int) ∧ ns[j]? = some y ∧ (∀ m, m < j → ns[m]? ≠ some y) ∧ Q (.int (j : Nat)) H
theorem mt_indexT : MtM X "tuple.index" (rIndexT X.K) := by
  intro pins s σ H x vs v us Q I rx rv h
  obtain ⟨l, ns, y, j, rfl, rfl, hq, hj, hno, q⟩ := h
  cases rx
  obtain ⟨u, rfl, ru⟩ := rv.one
  obtain ⟨its, r, ⟨⟨oc, od, odt, osl⟩, e, hc, n, hd⟩, hz⟩ := I.tuple hq
  simp only at hc hd
  subst hc hd
  have hlen := r.length
  rw [List.length_map] at hlen
  have hjn : j < ns.length := (List.getElem?_eq_some_iff.mp hj).1
  have hat : ∀ m (hm : m < its.toArray.size), eqU (.int y) its.toArray[m] = decide (ns[m]? = some y) := by
    intro m hm
    have hm' : m < ns.length := by
      rw [List.size_toArray] at hm
      omega
    have e1 : (ns.map V.int)[m]? = some (V.int ns[m]) := by rw [List.getElem?_map, List.getElem?_eq_getElem hm']; rfl
    obtain ⟨w, ew, rw'⟩ := r.get e1
    have e2 : its.toArray[m] = w := by
      have := (List.getElem?_eq_some_iff.mp ew).2
      simpa using this
    rw [e2, eqU_of rw' rfl, List.getElem?_eq_getElem hm']
    show (ns[m] == y) = _
    by_cases z : ns[m] = y <;> simp [z]
  refine call_meets F.slot_tuple_index ⟨_, e, rfl⟩ F.entry_tuple_index (F.args_tuple_index_2 _ _) (tuple_indexAt l its.toArray n od osl u (eqU (.int y)) j (by rw [List.size_toArray]; omega) ?_ ?_) ⟨e, fun z hz' => ?_, ?_⟩
  · rw [hat j (by rw [List.size_toArray]; omega), hj]
    simp
  · intro m hm hmj
    rw [hat m hm]
    exact decide_eq_false (hno m hmj)
  · exact mem_eqAt ru rfl r (all_flat_ints ns) z (by simpa using hz')
  · exact ⟨.int (j : Nat), H, I.tok _, ⟨_, rfl⟩, q⟩
end
section
variable {X : Cx}
end
end L2

set_option Elab.async false
set_option linter.all false
set_option maxRecDepth 100000
set_option maxHeartbeats 4000000
namespace L2
open PySem PySem.Spec PyProof.Rows
open PySem.Builtin.Int (intBits)
/-! ### range(a, b, -1) -/
section
variable {X : Cx} {tg : Expr}
def iRngD (ta : TA) : TI := fun σ H R => ta σ H fun vs H1 => ∃ i j : Int, vs = [.int i, .int j, .int (-1)] ∧ (-(2 ^ 60) ≤ i ∧ i < 2 ^ 60 ∧ -(2 ^ 60) ≤ j ∧ j < 2 ^ 60) ∧ R (ItS i (-1) (i - j).toNat) H1
end
end L2

set_option Elab.async false
set_option linter.all false
set_option maxRecDepth 100000
namespace L2
open PySem PySem.Spec PyProof.Rows
/-! ### lists of pairs as tables -/
section
variable {κ : Type} [DecidableEq κ]
def valV (kvs : List (κ × V)) (k : κ) : Option V := (kvs.find? fun kv => decide (kv.1 = k)).map (·.2)
/-- in its place, or at the end -/
def putK (kvs : List (κ × V)) (k : κ) (v : V) : List (κ × V) :=
  if (kvs.any fun kv => decide (kv.1 = k)) = true then kvs.map (fun kv => if kv.1 = k then (kv.1, v) else kv) else kvs ++ [(k, v)]
def dropK (kvs : List (κ × V)) (k : κ) : List (κ × V) := kvs.filter fun kv => decide (kv.1 ≠ k)

theorem valV_nil {k : κ} : valV ([] : List (κ × V)) k = none := rfl
theorem valV_pos {p : κ × V} {r : List (κ × V)} {k : κ} (e : p.1 = k) : valV (p :: r) k = some p.2 := by simp [valV, List.find?_cons, e]
theorem valV_neg {p : κ × V} {r : List (κ × V)} {k : κ} (e : ¬ p.1 = k) : valV (p :: r) k = valV r k := by simp [valV, List.find?_cons, e]
theorem valV_any (k : κ) : ∀ kvs : List (κ × V), (kvs.any fun kv => decide (kv.1 = k)) = (valV kvs k).isSome
  | [] => rfl
  | p :: r => by
    rw [List.any_cons]
    by_cases e : p.1 = k
    · simp only [valV_pos e, decide_eq_true e, Bool.true_or, Option.isSome_some]
    · rw [valV_neg e, decide_eq_false e, Bool.false_or]; exact valV_any k r
theorem valV_map (k j : κ) (y : V) : ∀ kvs : List (κ × V), valV (kvs.map fun kv => if kv.1 = k then (kv.1, y) else kv) j = (valV kvs j).map fun x => if j = k then y else x
  | [] => rfl
  | p :: r => by
    have ih := valV_map k j y r
    rw [List.map_cons]
    by_cases h : p.1 = k
    · rw [if_pos h]
      by_cases e : p.1 = j
      · rw [valV_pos (p := (p.1, y)) e, valV_pos e, Option.map_some, if_pos (e.symm.trans h)]
      · rw [valV_neg (p := (p.1, y)) e, valV_neg e, ih]
    · rw [if_neg h]
      by_cases e : p.1 = j
      · rw [valV_pos (p := p) e, valV_pos e, Option.map_some, if_neg (fun z => h (e.trans z))]
      · rw [valV_neg (p := p) e, valV_neg e, ih]
theorem valV_snoc (k j : κ) (y : V) : ∀ kvs : List (κ × V), valV kvs k = none → valV (kvs ++ [(k, y)]) j = if j = k then some y else valV kvs j
  | [], _ => by
    by_cases e : k = j
    · rw [if_pos e.symm]; exact valV_pos (p := (k, y)) e
    · rw [if_neg (fun z => e z.symm)]; exact valV_neg (p := (k, y)) e
  | p :: r, hn => by
    rw [List.cons_append]
    have hk : ¬ p.1 = k := fun z => by rw [valV_pos z] at hn; cases hn
    rw [valV_neg hk] at hn
    have ih := valV_snoc k j y r hn
    by_cases e : p.1 = j
    · rw [valV_pos e, valV_pos e, if_neg (fun z => hk (e.trans z))]
    · rw [valV_neg e, valV_neg e, ih]
theorem valV_put (kvs : List (κ × V)) (k j : κ) (y : V) : valV (putK kvs k y) j = if j = k then some y else valV kvs j := by
  unfold putK
  by_cases a : (kvs.any fun kv => decide (kv.1 = k)) = true
  · rw [if_pos a, valV_map]
    rw [valV_any] at a
    by_cases e : j = k
    · obtain ⟨x, hx⟩ := Option.isSome_iff_exists.mp a
      rw [if_pos e, e, hx, Option.map_some, if_pos rfl]
    · rw [if_neg e]
      cases valV kvs j with
      | none => rfl
      | some x => rw [Option.map_some, if_neg e]
  · rw [if_neg a]
    refine valV_snoc k j y kvs ?_
    rw [valV_any] at a
    cases q : valV kvs k with
    | none => rfl
    | some x => rw [q] at a; exact (a rfl).elim
theorem length_putK (kvs : List (κ × V)) (k : κ) (v : V) : (putK kvs k v).length ≤ kvs.length + 1 := by
  unfold putK
  split
  · rw [List.length_map]; omega
  · rw [List.length_append, List.length_cons, List.length_nil]; omega
theorem RelO.isSome_eq {o : Option V} {u : Option Value} (r : RelO o u) : o.isSome = u.isSome := by
  cases o with
  | none => cases u with
    | none => rfl
    | some _ => exact (show False from r).elim
  | some _ => cases u with
    | none => exact (show False from r).elim
    | some _ => rfl
theorem RelO.getD {o : Option V} {u : Option Value} {d : V} {d' : Value} (r : RelO o u) (rd : RelV d d') : RelV (o.getD d) (u.getD d') := by
  cases o with
  | none => cases u with
    | none => exact rd
    | some _ => exact (show False from r).elim
  | some _ => cases u with
    | none => exact (show False from r).elim
    | some _ => exact r

/-- raw tables of the same keys -/
theorem KV.val {kvs : List (κ × V)} {vs : List (κ × Value)} (r : KV kvs vs) (k : κ) : RelO (valV kvs k) (valueAt vs k) := by
  unfold KV at r
  induction r with
  | nil => exact True.intro
  | @cons p q ps qs h t ih =>
    obtain ⟨h1, h2⟩ := h
    by_cases e : p.1 = k
    · have e' : q.1 = k := h1.symm.trans e
      have b : valueAt (q :: qs) k = some q.2 := by simp [valueAt, List.find?_cons, e']
      rw [valV_pos e, b]; exact h2
    · have e' : ¬ q.1 = k := fun z => e (h1.trans z)
      have b : valueAt (q :: qs) k = valueAt qs k := by simp [valueAt, List.find?_cons, e']
      rw [valV_neg e, b]; exact ih
theorem KV.any {kvs : List (κ × V)} {vs : List (κ × Value)} (r : KV kvs vs) (k : κ) : (kvs.any fun kv => decide (kv.1 = k)) = vs.any fun kv => decide (kv.1 = k) := by
  unfold KV at r
  induction r with
  | nil => rfl
  | cons h t ih => rw [List.any_cons, List.any_cons, ih, h.1]
theorem KV.repl {kvs : List (κ × V)} {vs : List (κ × Value)} (r : KV kvs vs) (k : κ) {y : V} {u : Value} (ry : RelV y u) :
    KV (kvs.map fun kv => if kv.1 = k then (kv.1, y) else kv) (vs.map fun kv => if kv.1 = k then (kv.1, u) else kv) := by
  unfold KV at r ⊢
  induction r with
  | nil => exact .nil
  | @cons p q ps qs h t ih =>
    rw [List.map_cons, List.map_cons]
    refine .cons ?_ ih
    obtain ⟨h1, h2⟩ := h
    by_cases e : p.1 = k
    · rw [if_pos e, if_pos (h1.symm.trans e)]; exact ⟨h1, ry⟩
    · rw [if_neg e, if_neg (fun z => e (h1.trans z))]; exact ⟨h1, h2⟩
theorem KV.put {kvs : List (κ × V)} {vs : List (κ × Value)} (r : KV kvs vs) (k : κ) {y : V} {u : Value} (ry : RelV y u) : KV (putK kvs k y) (stored vs k u) := by
  unfold putK stored
  rw [r.any k]
  by_cases e : (vs.any fun kv => decide (kv.1 = k)) = true
  · rw [if_pos e, if_pos e]; exact r.repl k ry
  · rw [if_neg e, if_neg e]; exact Paired.snoc r ⟨rfl, ry⟩
theorem KV.drop {kvs : List (κ × V)} {vs : List (κ × Value)} (r : KV kvs vs) (k : κ) : KV (dropK kvs k) (without vs k) := by
  unfold KV at r ⊢
  unfold dropK without
  induction r with
  | nil => exact .nil
  | @cons p q ps qs h t ih =>
    obtain ⟨h1, h2⟩ := h
    rw [List.filter_cons, List.filter_cons]
    by_cases e : p.1 = k
    · have a : ¬ decide (p.1 ≠ k) = true := by simp [e]
      have b : ¬ decide (q.1 ≠ k) = true := by simp [h1.symm.trans e]
      rw [if_neg a, if_neg b]; exact ih
    · have e' : ¬ q.1 = k := fun z => e (h1.trans z)
      have a : decide (p.1 ≠ k) = true := by simp [e]
      have b : decide (q.1 ≠ k) = true := by simp [e']
      rw [if_pos a, if_pos b]; exact .cons ⟨h1, h2⟩ ih
theorem KV.keys {kvs : List (κ × V)} {vs : List (κ × Value)} (r : KV kvs vs) : kvs.map (·.1) = vs.map (·.1) := by
  unfold KV at r
  induction r with
  | nil => rfl
  | cons h t ih => rw [List.map_cons, List.map_cons, ih, h.1]
theorem KV.length {kvs : List (κ × V)} {vs : List (κ × Value)} (r : KV kvs vs) : kvs.length = vs.length := Paired.length r
end


/-! ### a tracked dict, its keys ints and texts or tuples of these -/
theorem kV_is {P : Program} {w : World} {k : Key} {u : Value} (r : RelV (kV k) u) : (mixKind P w).is k u = true := by
  cases k with
  | inl i => obtain ⟨t, e⟩ := (show ∃ t, u = Value.int i t from r); subst e; exact mixKind_int P w i t
  | inr x => obtain ⟨t, e⟩ := (show ∃ t, u = Value.str x t from r); subst e; exact mixKind_str P w x t
/-- raw entries of a dict with tuple keys -/
abbrev KT (H : Hp) : List ((List Int × Int) × V) → List ((List Int × Int) × Addr × Value) → Prop := Paired fun p q => p.1 = q.1 ∧ StH H q.2.1 p.1 ∧ RelV p.2 q.2.2
theorem KT.val {H : Hp} {kvs : List ((List Int × Int) × V)} {xs : List ((List Int × Int) × Addr × Value)} (r : KT H kvs xs) (k : (List Int × Int)) : RelO (valV kvs k) ((atKey xs k).map (·.2)) := by
  induction r with
  | nil => exact True.intro
  | @cons p q ps qs h t ih =>
    obtain ⟨h1, _, h2⟩ := h
    by_cases e : p.1 = k
    · have e' : q.1 = k := h1.symm.trans e
      have b : atKey (q :: qs) k = some q.2 := by simp [atKey, List.find?_cons, e']
      rw [valV_pos e, b]; exact h2
    · have e' : ¬ q.1 = k := fun z => e (h1.trans z)
      have b : atKey (q :: qs) k = atKey qs k := by simp [atKey, List.find?_cons, e']
      rw [valV_neg e, b]; exact ih
theorem KT.repl {H : Hp} {kvs : List ((List Int × Int) × V)} {xs : List ((List Int × Int) × Addr × Value)} (r : KT H kvs xs) (k : (List Int × Int)) {y : V} {u : Value} (ry : RelV y u) :
    KT H (kvs.map fun kv => if kv.1 = k then (kv.1, y) else kv) (xs.map (putAt k u)) := by
  induction r with
  | nil => exact .nil
  | @cons p q ps qs h t ih =>
    rw [List.map_cons, List.map_cons]
    refine .cons ?_ ih
    obtain ⟨h1, h2, h3⟩ := h
    unfold putAt
    by_cases e : p.1 = k
    · rw [if_pos e, if_pos (h1.symm.trans e)]; exact ⟨h1, h2, ry⟩
    · rw [if_neg e, if_neg (fun z => e (h1.trans z))]; exact ⟨h1, h2, h3⟩
theorem KT.put {H : Hp} {kvs : List ((List Int × Int) × V)} {xs : List ((List Int × Int) × Addr × Value)} (r : KT H kvs xs) (k : (List Int × Int)) {b : Addr} {y : V} {u : Value} (hb : StH H b k) (ry : RelV y u) :
    KT H (putK kvs k y) (storedH xs k b u) := by
  have e : (kvs.any fun kv => decide (kv.1 = k)) = (atKey xs k).isSome := by
    rw [valV_any, (r.val k).isSome_eq, Option.isSome_map]
  unfold putK storedH
  rw [e]
  by_cases q : (atKey xs k).isSome = true
  · rw [if_pos q, if_pos q]; exact r.repl k ry
  · rw [if_neg q, if_neg q]; exact Paired.snoc r ⟨rfl, hb, ry⟩
theorem KT.keeps {H H' : Hp} {kvs : List ((List Int × Int) × V)} {xs : List ((List Int × Int) × Addr × Value)} (r : KT H kvs xs) (ht : ∀ b ys, H b = some (.tup ys) → H' b = some (.tup ys)) : KT H' kvs xs :=
  Paired.mapP r fun _ _ z => ⟨z.1, z.2.1.up ht, z.2.2⟩

section
variable {P : Program} {w : World} {H : Hp} {h : Heap} {a : Addr}
theorem rd_of {u : HO} (ok : HOk P w H h) (e : Rd H a u) : ObjOk P w H h a u := e.ok ok
theorem dk_rd {kvs : List (Key × V)} (ok : HOk P w H h) (e : Rd H a (.dK kvs)) : kvs.length ≤ sizeLine ∧ (a == sysModules) = false ∧ ∃ vs, KV kvs vs ∧ h.DictOf (mixKind P w) a vs :=
  show ObjOk P w H h a (.dK kvs) from rd_of ok e
theorem dk_of {kvs : List (Key × V)} (ok : HOk P w H h) (e : H a = some (.dK kvs)) : kvs.length ≤ sizeLine ∧ (a == sysModules) = false ∧ ∃ vs, KV kvs vs ∧ h.DictOf (mixKind P w) a vs := dk_rd ok (.inl e)
/-- a tracked tuple of ints and texts is a key -/
theorem ints_are {P : Program} {w : World} : ∀ {ks : List Int} {us : List Value}, Vals (ks.map V.int) us → ItemsAre (intKind P w) ks us
  | [], us, r => by
    cases r
    exact .nil
  | k :: ks, us, r => by
    cases r with
    | cons h t =>
      obtain ⟨tk, rfl⟩ := h
      exact .cons (by simp [intKind, Value.isInt]) (ints_are t)
theorem stand_room {P : Program} {w : World} {A : Around} (hu : A.units + 20 < cLine) : (standKind P w).room A.in1 := by
  first | (show A.units + 1 + 8 < cLine; omega) | (show A.units + 8 < cLine; omega)
theorem key_of {ks : List Int × Int} (ok : HOk P w H h) (e : StH H a ks) : (standKind P w).is h ks a := by
  obtain ⟨u, e1, e2⟩ := e
  obtain ⟨_, its, r, o, h1, h2, n, h3⟩ := (show ObjOk P w H h a (.tup [.ref u, .int ks.2]) from ok a _ e1)
  obtain ⟨_, its2, r2, o2, g1, g2, m, g3⟩ := (show ObjOk P w H h u (.tup (ks.1.map V.int)) from ok u _ e2)
  cases r with
  | cons r1 rr =>
    cases rr with
    | cons r3 rr =>
      cases rr
      cases (show _ = Value.ref u from r1)
      obtain ⟨t, rfl⟩ := r3
      exact ⟨o, n, u, t, h1, h2, h3, o2, its2.toArray, m, g1, g2, g3, by simpa using ints_are r2⟩
theorem dt_rd {kvs : List ((List Int × Int) × V)} (ok : HOk P w H h) (e : Rd H a (.dT kvs)) : kvs.length ≤ sizeLine ∧ (a == sysModules) = false ∧
    ∃ xs, KT H kvs xs ∧ h.DictOfH (standKind P w) a xs := by
  obtain ⟨z, y, xs, r, o, es, ep, h1, h2, h3, h4, h5⟩ := (show ObjOk P w H h a (.dT kvs) from rd_of ok e)
  refine ⟨z, y, xs, r, o, es, ep, h1, h2, h3, h4, fun x hx => ?_, h5⟩
  have all : ∀ {l : List ((List Int × Int) × V)} {m : List ((List Int × Int) × Addr × Value)}, KT H l m → ∀ x ∈ m, (standKind P w).is h x.1 x.2.1 := by
    intro l m q
    induction q with
    | nil => intro x hx; exact nomatch hx
    | @cons p q ps qs hq t ih =>
      intro x hx
      rcases List.mem_cons.mp hx with e | hx
      · subst e
        exact key_of ok (by rw [← hq.1]; exact hq.2.1)
      · exact ih x hx
  exact all r x hx
theorem dt_of {kvs : List ((List Int × Int) × V)} (ok : HOk P w H h) (e : H a = some (.dT kvs)) : kvs.length ≤ sizeLine ∧ (a == sysModules) = false ∧
    ∃ xs, KT H kvs xs ∧ h.DictOfH (standKind P w) a xs := dt_rd ok (.inl e)
end

/-- what the dict at a holds at the key y -/
def DGet (H : Hp) (a : Addr) (y : V) (r : Option V) : Prop :=
  (∃ kvs k, Rd H a (.dK kvs) ∧ y = kV k ∧ r = valV kvs k) ∨ ∃ kvs k b, Rd H a (.dT kvs) ∧ y = .ref b ∧ StH H b k ∧ r = valV kvs k
/-- the heap behind a[y] = v -/
def DPut (H : Hp) (a : Addr) (y v : V) (H' : Hp) : Prop :=
  (∃ kvs k, H a = some (.dK kvs) ∧ y = kV k ∧ kvs.length < sizeLine ∧ H' = upd H a (.dK (putK kvs k v))) ∨
  ∃ kvs k b, H a = some (.dT kvs) ∧ y = .ref b ∧ StH H b k ∧ kvs.length < sizeLine ∧ H' = upd H a (.dT (putK kvs k v))
theorem DGet.k {H : Hp} {a : Addr} {kvs : List (Key × V)} {k : Key} (e : H a = some (.dK kvs)) : DGet H a (kV k) (valV kvs k) := .inl ⟨kvs, k, .inl e, rfl, rfl⟩
theorem DGet.t {H : Hp} {a b : Addr} {kvs : List ((List Int × Int) × V)} {k : (List Int × Int)} (e : H a = some (.dT kvs)) (eb : StH H b k) : DGet H a (.ref b) (valV kvs k) := .inr ⟨kvs, k, b, .inl e, rfl, eb, rfl⟩
theorem DPut.k {H : Hp} {a : Addr} {kvs : List (Key × V)} {k : Key} {v : V} (e : H a = some (.dK kvs)) (hl : kvs.length < sizeLine) : DPut H a (kV k) v (upd H a (.dK (putK kvs k v))) := .inl ⟨kvs, k, e, rfl, hl, rfl⟩
theorem DPut.t {H : Hp} {a b : Addr} {kvs : List ((List Int × Int) × V)} {k : (List Int × Int)} {v : V} (e : H a = some (.dT kvs)) (eb : StH H b k) (hl : kvs.length < sizeLine) :
    DPut H a (.ref b) v (upd H a (.dT (putK kvs k v))) := .inr ⟨kvs, k, b, e, rfl, eb, hl, rfl⟩


section
variable {X : Cx} {pins : List (Addr × Obj)} {σ : St} {H : Hp} {s : Shared} {a : Addr} {y v : V} {u r : Value} {o : Option V} {A : Around} {E : Value → Shared → Prop}

theorem Inv.big (I : Inv X pins σ H s) : sysModules < s.heap.objs.size := by
  have h : mainGlobals < s.heap.objs.size := (I.mod.glob.keeps I.bk).lt
  exact Nat.lt_trans (by decide) h

/-- d[y], there -/
theorem d_getItem {Q : Value → Shared → Prop} (hu : A.units + 20 < cLine) (I : Inv X pins σ H s) (g : DGet H a y (some v)) (ry : RelV y u) (h : ∀ w' s', Inv X pins σ H s' → RelV v w' → Q w' s') :
    wpAny (model X.prog X.w) A (getItem (.ref a) u) Q E s := by
  rcases g with ⟨kvs, k, e, ey, l⟩ | ⟨kvs, k, b, e, ey, eb, l⟩
  · subst ey
    obtain ⟨z, hd, vs, rel, dd⟩ := dk_rd I.hok e
    obtain ⟨w', hw, rw'⟩ := RelO.some_of (v := v) (o := valueAt vs k) (by rw [l]; exact rel.val k)
    exact wpAny_getItem_of (kV_is ry) dd.mapOf hw (h w' _ (I.tok _) rw')
  · subst ey
    cases (show u = Value.ref b from ry)
    obtain ⟨z, hd, xs, rel, dd⟩ := dt_rd I.hok e
    obtain ⟨w', hw, rw'⟩ := RelO.some_of (v := v) (o := (atKey xs k).map (·.2)) (by rw [l]; exact rel.val k)
    obtain ⟨p, hp, hp2⟩ := Option.map_eq_some_iff.mp hw
    refine wpAny_getItem_heap (stand_room hu) (key_of I.hok eb) dd hp ?_
    rw [hp2]
    exact h w' _ (I.tok _) rw'
/-- y in d -/
theorem d_in {Q : Value → Shared → Prop} (hu : A.units + 20 < cLine) (I : Inv X pins σ H s) (g : DGet H a y o) (ry : RelV y u) (h : ∀ s', Inv X pins σ H s' → Q (.bool o.isSome) s') :
    wpAny (model X.prog X.w) A (compareOp .In u (.ref a)) Q E s := by
  rcases g with ⟨kvs, k, e, ey, l⟩ | ⟨kvs, k, b, e, ey, eb, l⟩
  · subst ey
    obtain ⟨z, hd, vs, rel, dd⟩ := dk_rd I.hok e
    refine wpAny_in_of (kV_is ry) hd dd.mapOf ?_
    rw [← (rel.val k).isSome_eq, ← l]
    exact h _ (I.tok _)
  · subst ey
    cases (show u = Value.ref b from ry)
    obtain ⟨z, hd, xs, rel, dd⟩ := dt_rd I.hok e
    refine wpAny_in_heap (stand_room hu) (key_of I.hok eb) hd dd ?_
    have q := (rel.val k).isSome_eq
    rw [Option.isSome_map] at q
    rw [← q, ← l]
    exact h _ (I.tok _)
theorem d_notIn {Q : Value → Shared → Prop} (hu : A.units + 20 < cLine) (I : Inv X pins σ H s) (g : DGet H a y o) (ry : RelV y u) (h : ∀ s', Inv X pins σ H s' → Q (.bool (!o.isSome)) s') :
    wpAny (model X.prog X.w) A (compareOp .NotIn u (.ref a)) Q E s := by
  rcases g with ⟨kvs, k, e, ey, l⟩ | ⟨kvs, k, b, e, ey, eb, l⟩
  · subst ey
    obtain ⟨z, hd, vs, rel, dd⟩ := dk_rd I.hok e
    refine wpAny_notIn_of (kV_is ry) hd dd.mapOf ?_
    rw [← (rel.val k).isSome_eq, ← l]
    exact h _ (I.tok _)
  · subst ey
    cases (show u = Value.ref b from ry)
    obtain ⟨z, hd, xs, rel, dd⟩ := dt_rd I.hok e
    refine wpAny_notIn_heap (stand_room hu) (key_of I.hok eb) hd dd ?_
    have q := (rel.val k).isSome_eq
    rw [Option.isSome_map] at q
    rw [← q, ← l]
    exact h _ (I.tok _)
/-- a dict's object is replaced -/
theorem d_write {h' : Heap} {t' : Nat} {ob : HO} (I : Inv X pins σ H s) (mu : Mut (H a)) (hs : Heap.SameBut a s.heap h') (he : ∃ q, h'.get? a = some q) (new : ObjOk X.prog X.w (upd H a ob) h' a ob) :
    Inv X pins σ (upd H a ob) { s with heap := h', toks := t' } :=
  I.write (x := a) (e := a) mu (.inl rfl) (fun b q hb z => (hs.2 b hb).trans z) he new
theorem dk_new {P : Program} {w : World} {H' : Hp} {h' : Heap} {kvs : List (Key × V)} {vs : List (Key × Value)} (z : kvs.length ≤ sizeLine) (hd : (a == sysModules) = false) (rel : KV kvs vs) (dd : h'.DictOf (mixKind P w) a vs) :
    ObjOk P w H' h' a (.dK kvs) := ⟨z, hd, vs, rel, dd⟩
/-- d[y] = v -/
theorem d_setItem {H' : Hp} {Q : Unit → Shared → Prop} (hu : A.units + 20 < cLine) (I : Inv X pins σ H s) (g : DPut H a y v H') (ry : RelV y u) (rv : RelV v r) (h : ∀ s', Inv X pins σ H' s' → Q () s') :
    wpAny (model X.prog X.w) A (setItem (.ref a) u r) Q E s := by
  rcases g with ⟨kvs, k, e, ey, l, eH⟩ | ⟨kvs, k, b, e, ey, eb, l, eH⟩
  · subst ey eH
    obtain ⟨z, hd, vs, rel, dd⟩ := dk_of I.hok e
    have hz : vs.length ≤ sizeLine := by rw [← rel.length]; exact z
    have hl : (putK kvs k v).length ≤ sizeLine := by have := length_putK kvs k v; omega
    refine wpAny_setItem_pairs (hsz := hz) (kV_is ry) dd fun h' dd' hs => h _ ?_
    have he : ∃ q, h'.get? a = some q := let ⟨q, _, _, hq, _⟩ := dd'; ⟨q, hq⟩
    exact d_write I (by rw [e]; exact True.intro) hs he (dk_new hl hd (rel.put k rv) dd')
  · subst ey eH
    cases (show u = Value.ref b from ry)
    obtain ⟨z, hd, xs, rel, dd⟩ := dt_of I.hok e
    have hz : xs.length ≤ sizeLine := by rw [← Paired.length rel]; exact z
    have hl : (putK kvs k v).length ≤ sizeLine := by have := length_putK kvs k v; omega
    refine wpAny_setItem_heap (hsz := hz) (stand_room hu) (key_of I.hok eb) dd fun h' dd' hs => h _ ?_
    obtain ⟨q, es, ep, hq, h2, h3, h4, _, h5⟩ := dd'
    refine d_write I (by rw [e]; exact True.intro) hs ⟨q, hq⟩ ⟨hl, hd, _, (rel.put k eb rv).keeps fun c ys ec => ?_, q, es, ep, hq, h2, h3, h4, h5⟩
    rw [upd_ne (ne_of ec e (fun z => nomatch z))]
    exact ec
end

section
variable {X : Cx} {pins : List (Addr × Obj)} {σ : St} {H : Hp} {s : Shared} {a : Addr} {kvs : List (Key × V)} {k : Key} {u : Value} {A : Around} {E : Value → Shared → Prop}
end


/-! ### readings and rules -/
/-- the element of a subscription, not a slice -/
def NoSl (i : Expr) : Prop := ∀ ov iv, subscripted i false ov iv = operate [ov, iv] (getItem ov iv)
theorem subD_of {prog : Program} {w : World} {A : Around} {E : Value → Shared → Prop} {s : Shared} {env : Env} {value slice : Expr} {pos : Pos} {T id : String} {Q : Value → Shared → Prop}
    (hl : typeLookup (.type T) "__getitem__" = pure (some (.builtin id))) (hs : NoSl slice)
    (h : wpAny (model prog w) A (eval value env) (fun o s₁ => wpAny (model prog w) A (eval slice env) (fun i s₂ => s₂.TypeIs o T ∧ wpAny (model prog w) A (getItem o i) Q E s₂) E s₁) E s) :
    wpAny (model prog w) A (eval (.Subscript value slice pos) env) Q E s := by
  refine Subscript_ (wpAny_mono h (fun o s₁ h₁ => wpAny_mono h₁ (fun i s₂ h₂ => ?_) fun _ _ x => x) fun _ _ x => x)
  obtain ⟨hT, h₂⟩ := h₂
  unfold subscriptTail
  refine wpAny_bind ?_
  rw [getitemInPython_of_ne hT.not_modules]
  refine wpAny_bind (wpAny_specialOf hT hl ?_)
  have fin : wpAny (model prog w) A (subscripted slice false o i) (fun r s₃ => wpAny (model prog w) A (letTemporaryGo value o r >>= fun _ => pure r) Q E s₃) E s₂ := by
    rw [hs o i]
    exact wpAny_operating (wpAny_mono h₂ (fun r s₃ h₃ => wpAny_bind (wpAny_letTemporaryGo (wpAny_pure h₃))) fun _ _ x => x)
  first
    | exact wpAny_pure (wpAny_bind fin)
    | exact wpAny_bind (wpAny_pure (wpAny_bind fin))
    | exact wpAny_bind fin

theorem dict_typeIs {X : Cx} {pins : List (Addr × Obj)} {σ : St} {H : Hp} {s : Shared} {a : Addr} {y : V} {o : Option V} (I : Inv X pins σ H s) (g : DGet H a y o) : s.TypeIs (.ref a) "dict" := by
  rcases g with ⟨kvs, k, e, _, _⟩ | ⟨kvs, k, b, e, _, _, _⟩
  · obtain ⟨_, _, vs, _, dd⟩ := dk_rd I.hok e
    exact dd.typeIs
  · obtain ⟨_, _, xs, _, dd⟩ := dt_rd I.hok e
    exact dd.typeIs
/-- d[y] -/
def tDGet (td ty : TE) : TE := fun σ H Q => td σ H fun x H1 => ty σ H1 fun y H2 => ∃ a v, x = .ref a ∧ DGet H2 a y (some v) ∧ Q v H2
/-- y in d, y not in d -/
def tDIn (ty td : TE) : TE := fun σ H Q => ty σ H fun y H1 => td σ H1 fun x H2 => ∃ a o, x = .ref a ∧ DGet H2 a y o ∧ Q (.bl o.isSome) H2
def tDNotIn (ty td : TE) : TE := fun σ H Q => ty σ H fun y H1 => td σ H1 fun x H2 => ∃ a o, x = .ref a ∧ DGet H2 a y o ∧ Q (.bl (!o.isSome)) H2
/-- d[y] = v -/
def sDPut (td ty tv : TE) : TS := fun D σ H => tv σ H fun v H1 => td σ H1 fun x H2 => ty σ H2 fun y H3 => ∃ a H4, x = .ref a ∧ DPut H3 a y v H4 ∧ D.nx σ H4
/-- d[y] op= v -/
def sDAug (td ty tv : TE) (rd : V → V → Hp → VK → Prop) : TS := fun D σ H => td σ H fun x H1 => ty σ H1 fun y H2 => ∃ a v, x = .ref a ∧ DGet H2 a y (some v) ∧
  tv σ H2 fun y2 H3 => rd v y2 H3 fun z H4 => ∃ H5, DPut H4 a y z H5 ∧ D.nx σ H5
/-- del d[y] -/
def sDDel (td ty : TE) : TS := fun D σ H => td σ H fun x H1 => ty σ H1 fun y H2 => ∃ a kvs k, x = .ref a ∧ H2 a = some (.dK kvs) ∧ y = kV k ∧ (valV kvs k).isSome = true ∧ D.nx σ (upd H2 a (.dK (dropK kvs k)))

section
variable {X : Cx} {o i e value : Expr} {pos pos' tpos : Pos} {td ty tv : TE}
theorem pe_dget (hu : X.A.units + 20 < cLine) (ho : PE X o td) (hi : PE X i ty) (hs : NoSl i) : PE X (.Subscript o i pos) (tDGet td ty) := by
  intro pins s σ H Q I h
  refine subD_of PySem.F.slot_dict_getitem.lookup hs (thn (ho pins s σ H _ I h) fun u s1 ⟨x, H1, I1, rx, q1⟩ => thn (hi pins s1 σ H1 _ I1 q1) fun iv s2 ⟨y, H2, I2, ry, a, v, ex, g, q2⟩ => ?_)
  subst ex
  obtain rfl : u = Value.ref a := rx
  exact ⟨dict_typeIs I2 g, d_getItem hu I2 g ry fun w' s3 I3 rw' => ⟨v, H2, I3, rw', q2⟩⟩
theorem pc_din (hu : X.A.units + 20 < cLine) (hi : PE X i ty) (ho : PE X o td) : PC X .In i o (tDIn ty td) := by
  intro pins s σ H Q I h
  refine thn (hi pins s σ H _ I h) fun iv s1 ⟨y, H1, I1, ry, q1⟩ => thn (ho pins s1 σ H1 _ I1 q1) fun u s2 ⟨x, H2, I2, rx, a, ov, ex, g, q2⟩ => ?_
  subst ex
  obtain rfl : u = Value.ref a := rx
  exact d_in hu I2 g ry fun s3 I3 => ⟨.bl ov.isSome, H2, I3, rfl, q2⟩
theorem pc_dnotin (hu : X.A.units + 20 < cLine) (hi : PE X i ty) (ho : PE X o td) : PC X .NotIn i o (tDNotIn ty td) := by
  intro pins s σ H Q I h
  refine thn (hi pins s σ H _ I h) fun iv s1 ⟨y, H1, I1, ry, q1⟩ => thn (ho pins s1 σ H1 _ I1 q1) fun u s2 ⟨x, H2, I2, rx, a, ov, ex, g, q2⟩ => ?_
  subst ex
  obtain rfl : u = Value.ref a := rx
  exact d_notIn hu I2 g ry fun s3 I3 => ⟨.bl (!ov.isSome), H2, I3, rfl, q2⟩
theorem ps_dput (hu : X.A.units + 20 < cLine) (ho : PE X o td) (hi : PE X i ty) (hv : PE X value tv) (hs : swapsWith value (some (.Subscript o i pos')) pos.line X.env = pure false) :
    PS X (.Assign [.Subscript o i pos'] value pos) (sDPut td ty tv) := by
  intro pins s σ H D I h
  refine wpAny_Assign_Subscript (thn (hv pins s σ H _ I h) fun r s1 ⟨v, H1, I1, rv, q1⟩ => thn (ho pins s1 σ H1 _ I1 q1) fun u s2 ⟨x, H2, I2, rx, q2⟩ => thn (hi pins s2 σ H2 _ I2 q2) fun iv s3 ⟨y, H3, I3, ry, a, H4, ex, g, q3⟩ => ?_) hs
  subst ex
  obtain rfl : u = Value.ref a := rx
  exact d_setItem hu I3 g ry rv fun s4 I4 => ⟨σ, H4, I4, q3⟩
end


/-! ### displays -/
theorem dt_empty {P : Program} {w : World} {H : Hp} (h : Heap) (hb : sysModules < h.objs.size) : ObjOk P w H (h.push { cls := .type "dict", data := .dict #[] }) h.objs.size (.dT []) :=
  ⟨Nat.zero_le _, beq_eq_false_iff_ne.mpr (Ne.symm (Nat.ne_of_lt hb)), [], .nil, _, #[], 0, Heap.get?_push_size _ rfl, ⟨rfl, rfl, rfl⟩, rfl, rfl, List.nodup_nil⟩
/-- {}, to be a dict of the kind that is wanted -/
def tDNewK : TE := fun _ H Q => ∀ p, H p = none → Q (.ref p) (upd H p (.dK []))
def tDNewT : TE := fun _ H Q => ∀ p, H p = none → Q (.ref p) (upd H p (.dT []))
section
variable {X : Cx} {pos : Pos}
theorem pe_dnewT : PE X (.Dict [] [] pos) tDNewT := fun pins s σ H Q I h =>
  wpAny_Dict_empty ⟨.ref s.heap.objs.size, _, I.laid (a := s.heap.objs.size) (o := .dT []) (t' := s.toks) (fun _ _ q => Heap.get?_push_of_some _ q) (Nat.le_refl _) (dt_empty s.heap I.big), rfl, h _ (I.hok.fresh (Nat.le_refl _))⟩
end

/-- the pairs of a display, from the left -/
def tPairs : List (TE × TE) → St → Hp → (List (V × V) → Hp → Prop) → Prop
  | [], _, H, Q => Q [] H
  | (tk, tv) :: r, σ, H, Q => tk σ H fun x H1 => tv σ H1 fun y H2 => tPairs r σ H2 fun ps H3 => Q ((x, y) :: ps) H3
abbrev VV : List (V × V) → List (Value × Value) → Prop := Paired fun p q => RelV p.1 q.1 ∧ RelV p.2 q.2
def PPs (X : Cx) (pos : Pos) (keys : List (Option Expr)) (values : List Expr) (trs : List (TE × TE)) : Prop :=
  ∀ (pins : List (Addr × Obj)) (s : Shared) (σ : St) (H : Hp) (Q : List (V × V) → Hp → Prop), Inv X pins σ H s → tPairs trs σ H Q →
    wpAny (model X.prog X.w) X.A (evalPairs (pairTrees keys values X.env pos)) (fun vs s' => ∃ ps H', Inv X pins σ H' s' ∧ VV ps vs ∧ Q ps H') X.xe s
def mergeK (kvs more : List (Key × V)) : List (Key × V) := more.foldl (fun acc kv => putK acc kv.1 kv.2) kvs
/-- {k: v, ..} with keys ints and texts; the new dict stands empty while the pairs are made -/
def tDisp (trs : List (TE × TE)) : TE := fun σ H Q => ∀ p, H p = none → tPairs trs σ (upd H p (.dK [])) fun ps H2 => H2 p = some (.dK []) ∧ ∃ kvs : List (Key × V), ps = kvs.map (fun kv => (kV kv.1, kv.2)) ∧ kvs.length ≤ 15 ∧ Q (.ref p) (upd H2 p (.dK (mergeK [] kvs)))
/-! ### methods -/
/-- a method call o.m(e) of a built-in, with one argument: what must be seen of the text -/
structure M1 (X : Cx) (o : Expr) (m : Str) (apos : Pos) (e : Expr) (cpos : Pos) : Prop where
  base : attributeBase o m X.env (eval o X.env) = eval o X.env
  few : ((backTo cpos (starEach [e] X.env)).all (fun x => !x.1) && (backToKw cpos (keywordEach [] X.env)).all (fun x => x.1.isSome)
    && decide (([e] : List Expr).length + ([] : List Keyword).length + (if ([] : List Keyword).isEmpty then 0 else 1) < 30)) = true
  line : (apos.endLine == cpos.line) = true
  trees : backTo cpos (starEach [e] X.env) = [(false, eval e X.env)]
structure M2 (X : Cx) (o : Expr) (m : Str) (apos : Pos) (e f : Expr) (cpos : Pos) : Prop where
  base : attributeBase o m X.env (eval o X.env) = eval o X.env
  few : ((backTo cpos (starEach [e, f] X.env)).all (fun x => !x.1) && (backToKw cpos (keywordEach [] X.env)).all (fun x => x.1.isSome)
    && decide (([e, f] : List Expr).length + ([] : List Keyword).length + (if ([] : List Keyword).isEmpty then 0 else 1) < 30)) = true
  line : (apos.endLine == cpos.line) = true
  trees : backTo cpos (starEach [e, f] X.env) = [(false, eval e X.env), (false, eval f X.env)]

/-- a is a dict, whatever its keys -/
def IsD (H : Hp) (a : Addr) : Prop := (∃ kvs, Rd H a (.dK kvs)) ∨ ∃ kvs, Rd H a (.dT kvs)
section
variable {X : Cx} {pins : List (Addr × Obj)} {σ : St} {H : Hp} {s : Shared} {a : Addr} {y d : V} {u r : Value} {o : Option V} {A : Around} {E : Value → Shared → Prop}
end

def tDGet1 (td ty : TE) : TE := fun σ H Q => td σ H fun x H1 => ∃ a, x = .ref a ∧ IsD H1 a ∧ ty σ H1 fun y H2 => ∃ o, DGet H2 a y o ∧ Q (o.getD .non) H2
def tDGet2 (td ty tx : TE) : TE := fun σ H Q => td σ H fun x H1 => ∃ a, x = .ref a ∧ IsD H1 a ∧ ty σ H1 fun y H2 => tx σ H2 fun z H3 => ∃ o, DGet H3 a y o ∧ Q (o.getD z) H3
/-- d.pop(k): there; d.pop(k, x): there or not -/
def tDPop1 (td ty : TE) : TE := fun σ H Q => td σ H fun x H1 => ∃ a, x = .ref a ∧ IsD H1 a ∧ ty σ H1 fun y H2 => ∃ kvs k v, H2 a = some (.dK kvs) ∧ y = kV k ∧ valV kvs k = some v ∧ Q v (upd H2 a (.dK (dropK kvs k)))
def tDPop2 (td ty tx : TE) : TE := fun σ H Q => td σ H fun x H1 => ∃ a, x = .ref a ∧ IsD H1 a ∧ ty σ H1 fun y H2 => tx σ H2 fun z H3 => ∃ kvs k, H3 a = some (.dK kvs) ∧ y = kV k ∧
  (∀ v, valV kvs k = some v → Q v (upd H3 a (.dK (dropK kvs k)))) ∧ (valV kvs k = none → Q z H3)
section
variable {X : Cx} {o e f : Expr} {apos cpos : Pos} {td ty tx : TE}
end

/-! ### dict(d): a copy -/
section
variable {X : Cx} {pins : List (Addr × Obj)} {σ : St} {H : Hp} {s : Shared} {a : Addr} {kvs : List (Key × V)} {A : Around} {E : Value → Shared → Prop}
end


section
variable {X : Cx} {pins : List (Addr × Obj)} {σ : St} {H : Hp} {s : Shared} {a : Addr} {y : V} {u : Value} {A : Around} {E : Value → Shared → Prop}
end
end L2

namespace L2
open PySem PySem.Spec PyProof.Rows
/-! ### a dict's pairs: keys that differ -/
section
variable {κ : Type} [DecidableEq κ]
end
end L2

set_option Elab.async false
set_option linter.all false
set_option maxRecDepth 100000
set_option maxHeartbeats 4000000
namespace L2
open PySem PySem.Spec PyProof.Rows
open PySem.Builtin.Int (intBits)
/-! ### d.items(), by the entries themselves (whatever the keys are) -/
section
variable {P : Program} {w : World} {A : Around} {E : Value → Shared → Prop} {s : Shared}
end
end L2

set_option Elab.async false
set_option linter.all false
set_option maxRecDepth 100000
set_option maxHeartbeats 4000000
namespace L2
open PySem PySem.Spec PyProof.Rows
open PySem.Builtin.Int (intBits)
/-! ### texts: sep.join(xs), which type a text has -/
section
variable {X : Cx}
/-- sep.join(xs), xs a list of texts -/
def rJoin (K : PySem.W.Frag) : V → List V → Hp → VK → Prop := fun x xs H Q => ∃ (sep : Str) (a : Addr) (zs : List Str), x = .str sep ∧ xs = [.ref a] ∧ SqL K H a (zs.map V.str) ∧ zs.length ≤ 500 ∧ (∀ z ∈ zs, z.length ≤ 30000) ∧ sep.length ≤ 500 ∧ Q (.str (Txt.join sep zs)) H
/-- isinstance(x, c), x an own instance that is one -/
def rIsiO (K : PySem.W.Frag) : List V → Hp → VK → Prop := fun xs H Q => ∃ (a C dx : Addr) (fs : List (Str × V)) (c : Value) (v : V), xs = [.ref a, v] ∧ H a = some (.ins C dx fs) ∧ (∀ u, RelV v u → u = c) ∧ PySem.W.kitOne K (.ref C) c = some true ∧ Q (.bl true) H
/-- a + b of lists, also of ones that are only read -/
def rCatS (K : PySem.W.Frag) : R2 := fun x y H Q => ∃ a b xs ys, x = .ref a ∧ y = .ref b ∧ SqL K H a xs ∧ SqL K H b ys ∧ xs.length + ys.length ≤ sizeLine ∧ ∀ p, H p = none → Q (.ref p) (upd H p (.lst (xs ++ ys)))
/-- a call that is the one or the other -/
theorem pe_either {e : Expr} {t u : TE} (h : PE X e t) (g : PE X e u) : PE X e (fun σ H Q => t σ H Q ∨ u σ H Q) := by
  intro pins s σ H Q I z
  rcases z with z | z
  · exact h pins s σ H Q I z
  · exact g pins s σ H Q I z
end
end L2

set_option Elab.async false
set_option linter.all false
set_option maxRecDepth 100000
set_option maxHeartbeats 4000000
namespace L2
open PySem PySem.Spec PyProof.Rows
theorem ent_upd : entryFor table "dict.update.loop" = some Builtin.«dict.update.loop» := entryFor_of_tree (by kernel_rfl)
theorem pl_upd : plainId "dict.update.loop" = true := by decide +kernel
section
variable {P : Program} {w : World} {A : Around} {R : Result → Shared → Prop} {K : Type} [DecidableEq K] {knd : HeapKind P w K}
def storeAll (ps : Nat → K × Addr × Value) (xs : List (K × Addr × Value)) (i k : Nat) : List (K × Addr × Value) := (List.range' i k).foldl (fun xs j => storedH xs (ps j).1 (ps j).2.1 (ps j).2.2) xs
theorem storedH_len {xs : List (K × Addr × Value)} {k : K} {a : Addr} {v : Value} : (storedH xs k a v).length ≤ xs.length + 1 := by
  cases h : atKey xs k with
  | none =>
    rw [storedH_new h, List.length_append]
    exact Nat.le_refl _
  | some p =>
    unfold storedH
    simp [h]
/-- dict(xs) of a list of pairs, from the i-th on -/
theorem upd_go {l I d : Addr} {items : Array Value} {ps : Nat → K × Addr × Value} {h0 : Heap} (no : A.in1.handled = none) (hu : knd.room A.in1) (hlI : l ≠ I) (hdI : d ≠ I) (hdl : d ≠ l)
    (hit : ∀ j v, items[j]? = some v → ∃ t o n, v = .ref t ∧ t ≠ I ∧ t ≠ d ∧ h0.get? t = some o ∧ o.cls = .type "tuple" ∧ o.data = .seq #[.ref (ps j).2.1, (ps j).2.2] n)
    (hks : ∀ j, j < items.size → ∀ h : Heap, (∀ b o, b ≠ I → b ≠ d → h0.get? b = some o → h.get? b = some o) → knd.is h (ps j).1 (ps j).2.1) (hxs : ∀ (h h' : Heap) (j : Nat) xs, h.IsListIter I l j → h.DictOfH knd d xs → (∀ b o, b ≠ I → h.get? b = some o → h'.get? b = some o) → h'.DictOfH knd d xs) :
    ∀ (k i : Nat) (s : Shared) (xs : List (K × Addr × Value)) (tk : Tok), items.size = i + k → (s.heap.IsListIter I l i ∧ s.heap.IsList l items) → s.heap.DictOfH knd d xs → (∀ b o, b ≠ I → b ≠ d → h0.get? b = some o → s.heap.get? b = some o) → xs.length + k ≤ sizeLine →
      (∀ h' tk', h'.DictOfH knd d (storeAll ps xs i k) → (∀ b o, b ≠ I → b ≠ d → s.heap.get? b = some o → h'.get? b = some o) → R (.ok (.ret .none)) { s with heap := h', toks := tk' }) →
      codeAny (model P w) A (.builtin "dict.update.loop" ⟨[.ref d, .ref I, .int i tk, .none], []⟩) R s := by
  have W := Walks.list (prog := P) (w := w) (A := A.in1) no I l hlI items
  intro k
  induction k with
  | zero =>
    intro i s xs tk hk hst hm hf hz hR
    refine codeAny_builtin ent_upd ?_
    rw [Around.under_plainId pl_upd _]
    show wpAny (model P w) A.in1 (pyNext (.ref I) >>= _) _ _ s
    have ei : i = items.size := by omega
    refine wpAny_bind (W.done s _ _ (ei ▸ hst) fun h1 tk1 k1 => ?_)
    show wpAny (model P w) A.in1 (Builtin.Dict.addKeywords d [] >>= _) _ _ _
    refine wpAny_bind ?_
    unfold Builtin.Dict.addKeywords
    refine wpAny_pure (wpAny_pure ?_)
    have k1' : ∀ b o, b ≠ I → s.heap.get? b = some o → h1.get? b = some o := fun b o hb e => k1 b o (by simpa using hb) e
    exact hR h1 tk1 (hxs _ _ _ _ hst.1 hm k1') fun b o hb _ e => k1' b o hb e
  | succ k ih =>
    intro i s xs tk hk hst hm hf hz hR
    refine codeAny_builtin ent_upd ?_
    rw [Around.under_plainId pl_upd _]
    show wpAny (model P w) A.in1 (pyNext (.ref I) >>= _) _ _ s
    refine wpAny_bind (W.item i s _ _ (by omega) hst fun v h1 tk1 hP st1 k1 => ?_)
    have k1' : ∀ b o, b ≠ I → s.heap.get? b = some o → h1.get? b = some o := fun b o hb e => k1 b o (by simpa using hb) e
    obtain ⟨t, o, n, rfl, htI, htd, ht, hc, hd⟩ := hit i _ hP
    have ht1 := k1' _ _ htI (hf _ _ htI htd ht)
    have hm1 := hxs _ _ _ _ hst.1 hm k1'
    have hf1 : ∀ b o, b ≠ I → b ≠ d → h0.get? b = some o → h1.get? b = some o := fun b o hb hb' e => k1' b o hb (hf b o hb hb' e)
    refine wpAny_bind ?_
    refine wpAny_holding ?_
    refine wpAny_bind (wpAny_tryCatch ?_)
    unfold Builtin.Dict.pairItems
    refine wpAny_bind (wpAny_typeOf (T := "tuple") (s := { s with heap := h1, toks := tk1 }) ⟨o, ht1, hc⟩ ?_)
    rw [if_pos (by decide)]
    refine wpAny_bind (wpAny_seqItems (s := { s with heap := h1, toks := tk1 }) ht1 hd ?_)
    refine wpAny_pure ?_
    show wpAny (model P w) A.in1 (holding [.ref (ps i).2.1, (ps i).2.2] (dictSet d (.ref (ps i).2.1) (ps i).2.2)) _ _ _
    refine wpAny_holding ?_
    refine wpAny_dictSet_heap (s := { s with heap := h1, toks := tk1 }) hu (hks i (by omega) h1 hf1) hm1 (fun h2 hm2 hs2 => ?_) (by omega)
    have k2 : ∀ b o, b ≠ d → h1.get? b = some o → h2.get? b = some o := fun b o hb e => (hs2.2 b hb).trans e
    refine wpAny_pure ⟨plainId_quiet pl_upd _, ?_⟩
    have hl2 : (storedH xs (ps i).1 (ps i).2.1 (ps i).2.2).length ≤ xs.length + 1 := storedH_len
    refine ih (i + 1) _ (storedH xs (ps i).1 (ps i).2.1 (ps i).2.2) _ (by omega) ⟨?_, ?_⟩ hm2 (fun b o hb hb' e => k2 b o hb' (hf1 b o hb hb' e)) (by omega) fun h' tk' hm' hk' => ?_
    · exact st1.1.at fun o e => k2 _ _ hdI.symm e
    · exact st1.2.at fun o e => k2 _ _ hdl.symm e
    · exact hR h' tk' hm' fun b o hb hb' e => hk' b o hb hb' (k2 b o hb' (k1' b o hb e))
end
end L2

set_option Elab.async false
set_option linter.all false
set_option maxRecDepth 100000
set_option maxHeartbeats 4000000
namespace L2
open PySem PySem.Spec PyProof.Rows
theorem dmro : mroOf (.type "dict") = pure [.type "dict", .type "object"] := by rw [mroOf_type]; kernel_rfl
theorem dlook_new : typeLookup (.type "dict") "__new__" = pure (some (.builtin "dict.__new__")) := by rw [typeLookup_type, builtinLookup_eq_fast]; kernel_rfl
theorem called_dictT : TypeCalled "dict" "dict.__new__" "dict.__init__" :=
  ⟨by decide +kernel, by decide +kernel, ⟨_, _, dmro⟩, madeBy_type dmro dlook_new (by decide +kernel), by decide +kernel, by rw [isSubtype_type]; kernel_rfl, PySem.F.slot_dict_init⟩
theorem typeCall_dict1 (a : Value) : checkTypeCall "dict" ⟨[a], []⟩ = pure () := by kernel_rfl
theorem newCall_dict1 (a : Value) : checkBuiltinCall "dict.__new__" ⟨[.type "dict", a], []⟩ = pure () := by kernel_rfl
theorem entry_dict_new1 : entryFor table "dict.__new__" = some Builtin.«dict.__new__» := entryFor_of_tree (by kernel_rfl)
theorem plain_dict_new1 : plainId "dict.__new__" = true := by decide +kernel
theorem sub_dict_self1 : isSubtype (.type "dict") (.type "dict") = pure true := by rw [isSubtype_type]; kernel_rfl
theorem args_dict_init2 (a b : Value) : argsOk "dict.__init__" ⟨[a, b], []⟩ := by
  unfold argsOk
  kernel_rfl
theorem list_no_keys : typeLookup (.type "list") (Str.ofString "keys") = pure none := by rw [typeLookup_type, builtinLookup_eq_fast]; kernel_rfl
section
variable {prog : Program} {w : World} {A : Around} {E : Value → Shared → Prop} {s : Shared}
theorem code_dict_new1 (a : Value) {Q₁ : Value → Shared → Prop}
    (h : Q₁ (.ref s.heap.objs.size) { s with heap := s.heap.push { cls := .type "dict", data := .dict #[] } }) :
    codeAny (model prog w) A (.call (.builtin "dict.__new__") ⟨[.type "dict", a], []⟩) (wants Q₁ E) s := by
  refine codeAny_of_tree ?_
  show wpAny _ A.in1 (do checkBuiltinCall "dict.__new__" ⟨[.type "dict", a], []⟩; again (.builtin "dict.__new__" ⟨[.type "dict", a], []⟩)) _ _ s
  refine wpAny_bind (wpAny_of_eq (newCall_dict1 a) (wpAny_pure ⟨plainId_quiet plain_dict_new1 _, codeAny_builtin entry_dict_new1 ?_⟩))
  rw [Around.under_plainId plain_dict_new1 _]
  have hsub := sub_dict_self1
  have hm := dmro
  obtain ⟨hp, g, d, tk, os⟩ := s
  unfold Builtin.«dict.__new__»
  dsimp only
  wp_walk
  exact h
theorem no_keys {l : Addr} {xs : Array Value} {k : Nat} {sl : Array (Option Value)} {Q : Option Value → Shared → Prop} (hx : s.heap.get? l = some { cls := .type "list", dict := none, data := .seq xs k, slots := sl })
    (hA : A.handled = none) (h : ∀ h' tk, (∀ b o, s.heap.get? b = some o → h'.get? b = some o) → Q none { s with heap := h', toks := tk }) : wpAny (model prog w) A (getAttr? (.ref l) (Str.ofString "keys")) Q E s := by
  obtain ⟨hp, g, d, tk, os⟩ := s
  have hT : ∀ tk', (⟨hp, g, d, tk', os⟩ : Shared).TypeIs (.ref l) "list" := fun _ => ⟨_, hx, rfl⟩
  have f3 := PySem.F.slot_list_getattribute.lookup
  have f4 := PySem.F.slot_list_getattribute.bind (.ref l)
  have f5 := am_list_getattr_none
  have f6 := list_no_keys
  have f1 := sub_AttributeError
  unfold getAttr? getAttrBy?
  repeat (any_goals (first | assumption | exact hT _ | ((with_reducible show wpAny _ _ (call (Value.builtin "list.__getattribute__") _ _) _ _ _); refine call_meets PySem.F.slot_list_getattribute (hT _) am_entry_list_getattribute (PySem.F.args_list_getattribute_2 _ _) (meets_getattribute_miss_list _ _ _ _ _ _ f6 (by decide)) ⟨hx, hA, fun h' tk' e hx' => ?_⟩) | wp_step))
  obtain ⟨t', u', he⟩ := hx'.there
  show wpAny _ _ (getattributeRaised _ _ _ _ _ _ _) _ _ _
  unfold getattributeRaised
  repeat (any_goals (first | assumption | wp_step))
  exact h h' tk' hx'.keeps
end
end L2

set_option Elab.async false
set_option linter.all false
set_option maxRecDepth 100000
set_option maxHeartbeats 4000000
namespace L2
open PySem PySem.Spec PyProof.Rows
section
variable {P : Program} {w : World} {A : Around} {E : Value → Shared → Prop} {s : Shared} {R : Result → Shared → Prop}
/-- dict.__init__(d, xs), xs a list: what is done first -/
theorem dinit_pairs {d l : Addr} {xs : Array Value} {k : Nat} {sl : Array (Option Value)} {Q : PySem.Fin → Shared → Prop} (hA : A.handled = none) (hd : s.TypeIs (.ref d) "dict") (hl : s.heap.get? l = some { cls := .type "list", dict := none, data := .seq xs k, slots := sl })
    (h : ∀ (h' : Heap) (tk : Nat), (∀ b o, s.heap.get? b = some o → h'.get? b = some o) → Q (.again (.builtin "dict.update.loop" ⟨[.ref d, .ref h'.objs.size, .int 0 0, .none], []⟩)) { s with heap := h'.push { cls := .type "list_iterator", data := .fields #[.ref l, .int 0 0] }, toks := tk }) :
    wpAny (model P w) A (Builtin.«dict.__init__» ⟨[.ref d, .ref l], []⟩) Q E s := by
  unfold Builtin.«dict.__init__» Builtin.Dict.selfAndRest
  refine wpAny_bind (wpAny_bind (wpAny_notOrdered_dict hd ?_))
  refine wpAny_bind ?_
  show wpAny _ _ (pure d) _ _ _
  refine wpAny_pure (wpAny_pure ?_)
  show wpAny _ _ (Builtin.Dict.updateFrom "dict.__init__" d (.ref l) [] .none) _ _ _
  unfold Builtin.Dict.updateFrom
  refine wpAny_bind (wpAny_typeOf (T := "list") ⟨_, hl, rfl⟩ ?_)
  rw [if_pos (by decide)]
  refine wpAny_bind (no_keys hl hA fun h1 tk1 k1 => ?_)
  rw [if_pos (show (none : Option Value).isNone = true from rfl)]
  refine wpAny_bind (wpAny_rule ?_)
  refine wpAny_bind (wpAny_pyIter_list (s := { s with heap := h1, toks := tk1 }) (items := xs) ⟨_, k1 _ _ hl, rfl, k, rfl⟩ ?_)
  exact wpAny_pure (h h1 tk1 k1)
/-- dict(xs), xs a list of pairs whose keys lie in the heap -/
theorem call_dictP {K : Type} [DecidableEq K] {knd : HeapKind P w K} {l : Addr} {xs : Array Value} {k : Nat} {sl : Array (Option Value)} {ps : Nat → K × Addr × Value} {Q : Value → Shared → Prop} (hA : A.handled = none) (hu : knd.room A.in1.in1) (hz : xs.size ≤ sizeLine)
    (hl : s.heap.get? l = some { cls := .type "list", dict := none, data := .seq xs k, slots := sl })
    (hit : ∀ j v, xs[j]? = some v → ∃ t o n, v = .ref t ∧ s.heap.get? t = some o ∧ o.cls = .type "tuple" ∧ o.data = .seq #[.ref (ps j).2.1, (ps j).2.2] n)
    (hks : ∀ j, j < xs.size → ∀ h : Heap, (∀ b o, s.heap.get? b = some o → h.get? b = some o) → knd.is h (ps j).1 (ps j).2.1)
    (hxs : ∀ d I (h h' : Heap) (j : Nat) xs, h.IsListIter I l j → h.DictOfH knd d xs → (∀ b o, b ≠ I → h.get? b = some o → h'.get? b = some o) → h'.DictOfH knd d xs)
    (hem : ∀ (h : Heap) d, h.get? d = some { cls := .type "dict", data := .dict #[] } → h.DictOfH knd d [])
    (q : ∀ h' tk, h'.DictOfH knd s.heap.objs.size (storeAll ps [] 0 xs.size) → (∀ b o, s.heap.get? b = some o → h'.get? b = some o) → Q (.ref s.heap.objs.size) { s with heap := h', toks := tk }) :
    wpAny (model P w) A (call (.type "dict") [.ref l]) Q E s := by
  refine callType_codes (Q₁ := fun obj s₁ => obj = .ref s.heap.objs.size ∧ s₁ = { s with heap := s.heap.push { cls := .type "dict", data := .dict #[] } }) called_dictT (typeCall_dict1 _) PySem.F.entry_dict_init (code_dict_new1 _ ⟨rfl, rfl⟩) fun obj s1 k1 => ?_
  obtain ⟨rfl, rfl⟩ := k1
  have hD : (s.heap.push { cls := .type "dict", data := .dict #[] }).get? s.heap.objs.size = some { cls := .type "dict", data := .dict #[] } := Heap.get?_push_size _ rfl
  refine ⟨⟨_, hD, rfl⟩, args_dict_init2 _ _, ?_⟩
  refine dinit_pairs (s := { s with heap := s.heap.push { cls := .type "dict", data := .dict #[] } }) hA ⟨_, hD, rfl⟩ (Heap.get?_push_of_some _ hl) fun h1 tk1 k1 => ?_
  refine ⟨plainId_quiet pl_upd _, ?_⟩
  have ks : ∀ b o, s.heap.get? b = some o → h1.get? b = some o := fun b o e => k1 b o (Heap.get?_push_of_some _ e)
  have hDl : s.heap.objs.size < h1.objs.size := Heap.lt_size (k1 _ _ hD)
  have hnew : ∀ b o, s.heap.get? b = some o → b ≠ s.heap.objs.size ∧ b ≠ h1.objs.size := fun b o e => ⟨Nat.ne_of_lt (Heap.lt_size e), Nat.ne_of_lt (Heap.lt_size (ks b o e))⟩
  have kp : ∀ b o, h1.get? b = some o → (h1.push { cls := .type "list_iterator", data := .fields #[.ref l, .int 0 0] }).get? b = some o := fun b o e => Heap.get?_push_of_some _ e
  have hI : (h1.push { cls := .type "list_iterator", data := .fields #[.ref l, .int 0 0] }).get? h1.objs.size = some { cls := .type "list_iterator", data := .fields #[.ref l, .int 0 0] } := Heap.get?_push_size _ rfl
  obtain ⟨nl1, nl2⟩ := hnew _ _ hl
  refine upd_go (knd := knd) (A := A.in1) (l := l) (I := h1.objs.size) (d := s.heap.objs.size) (items := xs) (ps := ps) (h0 := s.heap) hA hu nl2 (Nat.ne_of_lt hDl) nl1.symm ?_ ?_ (hxs _ _) xs.size 0 _ [] 0 (by omega) ⟨⟨_, hI, rfl, rfl⟩, ⟨_, kp _ _ (ks _ _ hl), rfl, k, rfl⟩⟩ (hem _ _ (kp _ _ (k1 _ _ hD))) (fun b o _ _ e => kp _ _ (ks b o e)) (by simpa using hz) fun h' tk' hm' hk' => ?_
  · intro j v hv
    obtain ⟨t, o, n, rfl, ht, hc, hd⟩ := hit j v hv
    exact ⟨t, o, n, rfl, (hnew _ _ ht).2, (hnew _ _ ht).1, ht, hc, hd⟩
  · intro j hj h2 hf
    exact hks j hj h2 fun b o e => hf b o (hnew _ _ e).2 (hnew _ _ e).1 e
  · exact ⟨rfl, q h' tk' hm' fun b o e => hk' b o (hnew _ _ e).2 (hnew _ _ e).1 (kp _ _ (ks b o e))⟩
end
end L2

set_option Elab.async false
set_option linter.all false
set_option maxRecDepth 100000
set_option maxHeartbeats 4000000
namespace L2
open PySem PySem.Spec PyProof.Rows
theorem IsStand.frame {prog : Program} {w : World} {h h' : Heap} {k : List Int × Int} {a I l : Addr} {j : Nat} (x : IsStand prog w h k a) (hI : h.IsListIter I l j) (hk : ∀ b o, b ≠ I → h.get? b = some o → h'.get? b = some o) : IsStand prog w h' k a := by
  obtain ⟨o, n, u, t, ho, hc, hd, o2, its, n2, ho2, hc2, hd2, hi⟩ := x
  obtain ⟨oi, hoi, hci, _⟩ := hI
  have n1 : a ≠ I := by
    rintro rfl
    rw [hoi] at ho
    cases ho
    rw [hci] at hc
    exact absurd hc (by decide)
  have n2' : u ≠ I := by
    rintro rfl
    rw [hoi] at ho2
    cases ho2
    rw [hci] at hc2
    exact absurd hc2 (by decide)
  exact ⟨o, n, u, t, hk _ _ n1 ho, hc, hd, o2, its, n2, hk _ _ n2' ho2, hc2, hd2, hi⟩
theorem IsStand.ext {prog : Program} {w : World} {h h' : Heap} {k : List Int × Int} {a : Addr} (x : IsStand prog w h k a) (hk : ∀ b o, h.get? b = some o → h'.get? b = some o) : IsStand prog w h' k a := by
  obtain ⟨o, n, u, t, ho, hc, hd, o2, its, n2, ho2, hc2, hd2, hi⟩ := x
  exact ⟨o, n, u, t, hk _ _ ho, hc, hd, o2, its, n2, hk _ _ ho2, hc2, hd2, hi⟩
theorem dict_frame {prog : Program} {w : World} {d I l : Addr} {h h' : Heap} {j : Nat} {xs : List ((List Int × Int) × Addr × Value)} (hI : h.IsListIter I l j) (hm : h.DictOfH (standKind prog w) d xs) (hk : ∀ b o, b ≠ I → h.get? b = some o → h'.get? b = some o) : h'.DictOfH (standKind prog w) d xs := by
  obtain ⟨o, es, ep, ho, hc, hd, he, his, hn⟩ := hm
  have n1 : d ≠ I := by
    rintro rfl
    obtain ⟨oi, hoi, hci, hdi⟩ := hI
    rw [hoi] at ho
    cases ho
    rw [hdi] at hd
    exact nomatch hd
  exact ⟨o, es, ep, hk _ _ n1 ho, hc, hd, he, fun x hx => IsStand.frame (his x hx) hI hk, hn⟩
/-- the dict of pairs, from the left -/
def putAll (kvs : List ((List Int × Int) × V)) (ps : List ((List Int × Int) × V)) : List ((List Int × Int) × V) := ps.foldl (fun acc p => putK acc p.1 p.2) kvs
theorem putAll_len : ∀ (ps kvs : List ((List Int × Int) × V)), (putAll kvs ps).length ≤ kvs.length + ps.length
  | [], kvs => Nat.le_refl _
  | p :: ps, kvs => by
    have h1 := putAll_len ps (putK kvs p.1 p.2)
    have h2 := length_putK kvs p.1 p.2
    show (putAll (putK kvs p.1 p.2) ps).length ≤ _
    rw [List.length_cons]
    omega
theorem kt_all {H : Hp} {ps : List ((List Int × Int) × V)} {f : Nat → (List Int × Int) × Addr × Value} (hf : ∀ (j : Nat) q, ps[j]? = some q → (f j).1 = q.1 ∧ StH H (f j).2.1 q.1 ∧ RelV q.2 (f j).2.2) :
    ∀ (k i : Nat) (kvs : List ((List Int × Int) × V)) (xs : List ((List Int × Int) × Addr × Value)), i + k = ps.length → KT H kvs xs → KT H (putAll kvs (ps.drop i)) (storeAll f xs i k)
  | 0, i, kvs, xs, e, r => by
    rw [List.drop_of_length_le (by omega)]
    exact r
  | k + 1, i, kvs, xs, e, r => by
    have hi : i < ps.length := by omega
    obtain ⟨e1, e2, e3⟩ := hf i ps[i] (List.getElem?_eq_getElem hi)
    rw [List.drop_eq_getElem_cons hi]
    show KT H (putAll (putK kvs ps[i].1 ps[i].2) (ps.drop (i + 1))) (storeAll f (storedH xs (f i).1 (f i).2.1 (f i).2.2) (i + 1) k)
    rw [e1]
    exact kt_all hf k (i + 1) _ _ (by omega) (r.put _ e2 e3)
section
variable {X : Cx}
/-- dict(xs), xs a list of pairs of a standing and a value -/
def rDictP (K : PySem.W.Frag) : List V → Hp → VK → Prop := fun xs H Q => ∃ (p : Addr) (us : List V) (ps : List ((List Int × Int) × V)), xs = [.ref p] ∧ SqL K H p us ∧ us.length = ps.length ∧
  (∀ (j : Nat) u q, us[j]? = some u → ps[j]? = some q → ∃ t b, u = .ref t ∧ H t = some (.tup [.ref b, q.2]) ∧ StH H b q.1) ∧ ∀ d, H d = none → Q (.ref d) (upd H d (.dT (putAll [] ps)))
theorem call_dictT (K : PySem.W.Frag) (hu : X.A.units + 24 < cLine) (hc : X.calm = true) (hK : X.K = K := by rfl) : CallR X (.type "dict") (rDictP K) := by
  subst hK
  intro pins s σ H xs us0 Q I r h
  obtain ⟨p, us, ps, rfl, hq, hlen, hps, q⟩ := h
  obtain ⟨u0, rfl, ru⟩ := Vals.one r
  cases ru
  obtain ⟨its, rv, pl, hz⟩ := I.list hq
  obtain ⟨⟨ocls, od, odata, osl⟩, n, e, hcl, hdict, hdata⟩ := pl
  simp only at hcl hdict hdata
  subst hcl hdict hdata
  have hl2 := Vals.length rv
  have ex : ∀ j : Nat, ∃ x : (List Int × Int) × Addr × Value, ∀ q, ps[j]? = some q → (x.1 = q.1 ∧ StH H x.2.1 q.1 ∧ RelV q.2 x.2.2) ∧ ∀ v, its[j]? = some v → ∃ t o n, v = .ref t ∧ s.heap.get? t = some o ∧ o.cls = .type "tuple" ∧ o.data = .seq #[.ref x.2.1, x.2.2] n := by
    intro j
    cases hj : ps[j]? with
    | none => exact ⟨(([], 0), 0, .none), fun q z => nomatch z⟩
    | some q =>
      have hjl := (List.getElem?_eq_some_iff.mp hj).1
      have hju : us[j]? = some us[j] := List.getElem?_eq_getElem (by omega)
      obtain ⟨t, b, eu, ht, hb⟩ := hps j _ q hju hj
      obtain ⟨_, its2, r2, o, h1, h2, m, h3⟩ := I.hok t _ ht
      obtain ⟨v1, v2, rfl, rv1, rv2⟩ := Vals.two r2
      cases rv1
      refine ⟨(q.1, b, v2), fun q' z => ?_⟩
      cases z
      refine ⟨⟨rfl, hb, rv2⟩, fun v hv => ?_⟩
      obtain ⟨w', ew, rw'⟩ := rv.get hju
      rw [ew] at hv
      cases hv
      rw [eu] at rw'
      cases rw'
      exact ⟨t, o, m, rfl, h1, h2, h3⟩
  obtain ⟨f, hf⟩ := Classical.axiomOfChoice ex
  have hA := I.ok.hd hc
  refine call_dictP (knd := standKind X.prog X.w) (ps := f) hA (stand_room (A := X.A.in1) (by show X.A.units + 1 + 20 < cLine; omega)) (by rw [List.size_toArray]; omega) e ?_ ?_ (fun d I' h h' j xs hI hm hk => dict_frame hI hm hk) ?_ fun h' tk hm hk => ?_
  · intro j v hv
    rw [List.getElem?_toArray] at hv
    have hjl := (List.getElem?_eq_some_iff.mp hv).1
    exact (hf j _ (List.getElem?_eq_getElem (show j < ps.length by omega))).2 v hv
  · intro j hj h2 hk2
    rw [List.size_toArray] at hj
    obtain ⟨⟨e1, e2, _⟩, _⟩ := hf j _ (List.getElem?_eq_getElem (show j < ps.length by omega))
    rw [e1]
    exact IsStand.ext (key_of I.hok e2) hk2
  · intro h2 d hd
    exact ⟨_, #[], 0, hd, ⟨rfl, rfl, rfl⟩, rfl, rfl, (fun x hx => nomatch hx), List.nodup_nil⟩
  · have hfr : H s.heap.objs.size = none := I.hok.fresh (Nat.le_refl _)
    rw [List.size_toArray] at hm
    have kt : KT H (putAll [] (ps.drop 0)) (storeAll f [] 0 its.length) := kt_all (fun j q z => (hf j q z).1) its.length 0 [] [] (by omega) .nil
    rw [List.drop_zero] at kt
    obtain ⟨o, es, ep, ho, hex, hd, he, _, hn⟩ := hm
    have hlp : (putAll [] ps).length ≤ sizeLine := by
      have z1 := putAll_len ps []
      rw [List.length_nil] at z1
      omega
    have objok : ObjOk X.prog X.w (upd H s.heap.objs.size (.dT (putAll [] ps))) h' s.heap.objs.size (.dT (putAll [] ps)) :=
      ⟨hlp, beq_eq_false_iff_ne.mpr (Ne.symm (Nat.ne_of_lt I.big)), _, kt.keeps (fun b ys eb => by rw [upd_ne (ne_of_none eb hfr)]; exact eb), o, es, ep, ho, hex, hd, he, hn⟩
    exact ⟨.ref s.heap.objs.size, _, I.laid (t' := tk) hk (Nat.le_refl _) objok, rfl, q _ hfr⟩
end
end L2

set_option Elab.async false
set_option linter.all false
set_option maxRecDepth 100000
set_option maxHeartbeats 4000000
namespace L2
open PySem PySem.Spec PyProof.Rows
/-! ### x in xs by what they are through the heap -/
section
variable {X : Cx} {pins : List (Addr × Obj)} {σ : St} {H : Hp} {s : Shared} {k : Nat}
/-- whether a value reads as something that is like d -/
noncomputable def likeD (h : Heap) (d : PyData) (w : Value) : Bool := open Classical in if z : ∃ e as, Reads h w e as ∧ e.canLay0 = true then PyData.eqv z.choose d else false
end
section
variable {X : Cx} {k : Nat}
def rInD (K : PySem.W.Frag) (neg : Bool) : R2 := fun x y H Q => ∃ (p : Addr) (us : List V) (d : PyData) (ds : List PyData), y = .ref p ∧ SqL K H p us ∧ Rp H d x ∧ RpAll H ds us ∧ d.depth ≤ 50 ∧ Q (.bl (if neg then !(ds.any fun e => PyData.eqv e d) else ds.any fun e => PyData.eqv e d)) H
end
end L2

set_option Elab.async false
set_option linter.all false
set_option maxRecDepth 100000
set_option maxHeartbeats 4000000
namespace L2
open PySem PySem.Spec PyProof.Rows
/-- three names out of a tuple -/
abbrev gThree (K : PySem.W.Frag) : TG := gTup K 3 (gCons (gName 0) (gCons (gName 1) (gCons (gName 2) gNil)))
theorem comp_list3 {K : PySem.W.Frag} {a : Addr} {xs : List V} {fr : List Nat} {tt : TT} {te : TE} {σ : St} {D : Addr} {H1 : Hp} {Q : Hp → Prop} (Pv : Nat → List V → Hp → Prop) (h0 : Pv 0 [] (upd H1 D (.lst [])))
    (hl : ∀ i zs H, i ≤ xs.length → Pv i zs H → SqL K H a xs)
    (hs : ∀ i x zs H, xs[i]? = some x → Pv i zs H → ∃ T y z z2, x = .ref T ∧ SqT K H T [y, z, z2] ∧ tt (some y :: some z :: some z2 :: compFr fr σ) H fun b H4 =>
      if b = true then te (some y :: some z :: some z2 :: compFr fr σ) H4 fun v H5 => H5 D = some (.lst zs) ∧ zs.length < sizeLine ∧ Pv (i + 1) (zs ++ [v]) (upd H5 D (.lst (zs ++ [v]))) else Pv (i + 1) zs H4)
    (mt : ∀ σ H Q Q', (∀ b H', Q b H' → Q' b H') → tt σ H Q → tt σ H Q') (me : ∀ σ H Q Q', (∀ v H', Q v H' → Q' v H') → te σ H Q → te σ H Q')
    (hd : ∀ zs H, Pv xs.length zs H → Q H) : CompRun 3 fr (Itl K a) (gThree K) tt te σ D H1 Q := by
  refine ⟨fun i m zs H => m = xs.length - i ∧ i ≤ xs.length ∧ Pv i zs H, ⟨xs.length, by simp, Nat.zero_le _, h0⟩, ?_⟩
  rintro i m zs H' ⟨rfl, hi, p⟩
  have q1 := hl i zs H' hi p
  by_cases hlt : i < xs.length
  · refine .inr ⟨⟨xs, xs[i], q1, by simp [hlt]⟩, fun v H2 y => ?_⟩
    obtain ⟨e, y⟩ := y
    subst e
    obtain ⟨T, y1, z1, w1, rfl, hT, ht⟩ := hs i v zs _ (y xs q1) p
    refine ⟨T, _, rfl, hT, rfl, _, _, rfl, z1, _, rfl, w1, _, rfl, rfl, ⟨[some y1, some z1, some w1], rfl, rfl⟩, ?_⟩
    refine mt _ _ _ _ ?_ ht
    intro b H4 q
    cases b with
    | false => exact ⟨xs.length - (i + 1), by omega, rfl, hlt, q⟩
    | true => exact me _ _ _ _ (fun v H5 ⟨r1, r2, r3⟩ => ⟨r1, r2, xs.length - (i + 1), by omega, rfl, hlt, r3⟩) q
  · have e : i = xs.length := by omega
    subst e
    exact .inl ⟨⟨xs, q1, Nat.le_refl _⟩, hd zs H' p⟩
theorem hu20 {k : Nat} {A : Around} (hr : Room k A) : A.units + 20 < cLine := by have := hr.units; omega
theorem hu24 {k : Nat} {A : Around} (hr : Room k A) : A.units + 24 < cLine := by have := hr.units; omega
end L2

set_option Elab.async false
set_option linter.all false
set_option maxRecDepth 100000
set_option maxHeartbeats 4000000
namespace L2
open PySem PySem.Spec PyProof.Rows
open PySem.Builtin.Int (intBits)
section
variable {X : Cx}
/-- what an expression tells, joined by a predicate -/
theorem pe_N {e : Expr} {t : TE} (h : PE X e t) : PE X e (fun σ H Q => ∃ N : VK, t σ H N ∧ ∀ v H', N v H' → Q v H') := by
  intro pins s σ H Q I z
  obtain ⟨N, z, m⟩ := z
  refine thn (h pins s σ H N I z) fun v s1 z1 => ?_
  obtain ⟨x, H1, I1, r1, q1⟩ := z1
  exact ⟨x, H1, I1, r1, m _ _ q1⟩
end
end L2

set_option Elab.async false
set_option linter.all false
set_option maxRecDepth 100000
set_option maxHeartbeats 4000000
namespace Law
open PySem L2 PyProof.Rows
open PySem.Builtin.Int (intBits)
def top (i : Nat) : Stmt := PySem.Challenge.pw_roundcall_k79_whole_plays_are_walks.main.body.getD i (.Pass ⟨0, 0, 0, 0⟩)
abbrev s_beginning : Stmt := top 5
abbrev s_may_lose : Stmt := top 6
abbrev s_is_listener : Stmt := top 7
abbrev s_refuse_wrong_turn : Stmt := top 8
abbrev s_left_behind : Stmt := top 9
abbrev s_quiet_behind : Stmt := top 10
abbrev s_after : Stmt := top 11
abbrev s_broken_ones : Stmt := top 12
abbrev s_least_left : Stmt := top 16
abbrev s_RowCaller_call : Stmt := inClass (top 18) 1
abbrev s_PaperCaller_call : Stmt := inClass (top 19) 1
abbrev s_Caller_call : Stmt := inClass (top 17) 0
abbrev s_RowRoad_loses : Stmt := inClass (top 21) 1
abbrev s_PaperRoad_loses : Stmt := inClass (top 22) 1
abbrev s_Road_loses : Stmt := inClass (top 20) 0
abbrev s_play : Stmt := top 14
abbrev s_RowCaller___init__ : Stmt := inClass (top 18) 0
abbrev s_PaperCaller___init__ : Stmt := inClass (top 19) 0
abbrev s_RowRoad___init__ : Stmt := inClass (top 21) 0
abbrev s_PaperRoad___init__ : Stmt := inClass (top 22) 0
abbrev s_walked : Stmt := top 24
abbrev s_law_cell_at : Stmt := top 26
abbrev s_law_hall : Stmt := top 27
abbrev s_law_rows : Stmt := top 28
abbrev s_law_papers : Stmt := top 29
abbrev s_law_players : Stmt := top 30
abbrev s_law : Stmt := top 31
theorem sc_beginning : FnScope (["hall"] : List Str) ["hall"] (defScope s_beginning) := ⟨rfl, rfl, rfl, by decide +kernel, rfl, by decide +kernel, by decide +kernel⟩
theorem sc_may_lose : FnScope (["hall", "standing"] : List Str) ["hall", "standing"] (defScope s_may_lose) := ⟨rfl, rfl, rfl, by decide +kernel, rfl, by decide +kernel, by decide +kernel⟩
theorem sc_is_listener : FnScope (["hall", "who"] : List Str) ["hall", "who"] (defScope s_is_listener) := ⟨rfl, rfl, rfl, by decide +kernel, rfl, by decide +kernel, by decide +kernel⟩
theorem sc_refuse_wrong_turn : FnScope (["hall", "standing", "who", "lost"] : List Str) ["hall", "standing", "who", "lost"] (defScope s_refuse_wrong_turn) := ⟨rfl, rfl, rfl, by decide +kernel, rfl, by decide +kernel, by decide +kernel⟩
theorem sc_left_behind : FnScope (["hall", "standing", "who", "lost", "left"] : List Str) ["hall", "standing", "who", "lost"] (defScope s_left_behind) := ⟨rfl, rfl, rfl, by decide +kernel, rfl, by decide +kernel, by decide +kernel⟩
def cx_left_behind_0 : Scope := { kind := .function, names := [(PySem.Str.ofString ".0", NameKind.local), (PySem.Str.ofString "turns", NameKind.local)], isGenerator := false, isCoroutine := false, more := [] }
theorem cs_left_behind_0 : CompSc (defScope s_left_behind) cx_left_behind_0 (["hall", "standing", "who", "lost", "left"] : List Str) (["turns"] : List Str) [] := ⟨rfl, by decide +kernel, by decide +kernel, by decide +kernel, by decide +kernel⟩
theorem nd_left_behind_0 : (compN (["hall", "standing", "who", "lost", "left"] : List Str) (["turns"] : List Str) []).Nodup := by decide +kernel
theorem sc_quiet_behind : FnScope (["hall", "standing", "lost"] : List Str) ["hall", "standing", "lost"] (defScope s_quiet_behind) := ⟨rfl, rfl, rfl, by decide +kernel, rfl, by decide +kernel, by decide +kernel⟩
theorem sc_after : FnScope (["hall", "standing", "who", "lost", "left"] : List Str) ["hall", "standing", "who", "lost"] (defScope s_after) := ⟨rfl, rfl, rfl, by decide +kernel, rfl, by decide +kernel, by decide +kernel⟩
theorem sc_broken_ones : FnScope (["hall", "standing", "who", "lost", "left"] : List Str) ["hall", "standing", "who", "lost"] (defScope s_broken_ones) := ⟨rfl, rfl, rfl, by decide +kernel, rfl, by decide +kernel, by decide +kernel⟩
def cx_broken_ones_0 : Scope := { kind := .function, names := [(PySem.Str.ofString ".0", NameKind.local), (PySem.Str.ofString "number", NameKind.local), (PySem.Str.ofString "turns", NameKind.local)], isGenerator := false, isCoroutine := false, more := [] }
theorem cs_broken_ones_0 : CompSc (defScope s_broken_ones) cx_broken_ones_0 (["hall", "standing", "who", "lost", "left"] : List Str) (["number", "turns"] : List Str) [] := ⟨rfl, by decide +kernel, by decide +kernel, by decide +kernel, by decide +kernel⟩
theorem nd_broken_ones_0 : (compN (["hall", "standing", "who", "lost", "left"] : List Str) (["number", "turns"] : List Str) []).Nodup := by decide +kernel
theorem sc_least_left : FnScope (["standing"] : List Str) ["standing"] (defScope s_least_left) := ⟨rfl, rfl, rfl, by decide +kernel, rfl, by decide +kernel, by decide +kernel⟩
theorem sc_RowCaller_call : FnScope (["self", "hall", "standing", "place"] : List Str) ["self", "hall", "standing"] (defScope s_RowCaller_call) := ⟨rfl, rfl, rfl, by decide +kernel, rfl, by decide +kernel, by decide +kernel⟩
theorem sc_PaperCaller_call : FnScope (["self", "hall", "standing"] : List Str) ["self", "hall", "standing"] (defScope s_PaperCaller_call) := ⟨rfl, rfl, rfl, by decide +kernel, rfl, by decide +kernel, by decide +kernel⟩
theorem sc_Caller_call : FnScope (["self", "hall", "standing"] : List Str) ["self", "hall", "standing"] (defScope s_Caller_call) := ⟨rfl, rfl, rfl, by decide +kernel, rfl, by decide +kernel, by decide +kernel⟩
theorem sc_RowRoad_loses : FnScope (["self", "hall", "standing", "who", "place"] : List Str) ["self", "hall", "standing", "who"] (defScope s_RowRoad_loses) := ⟨rfl, rfl, rfl, by decide +kernel, rfl, by decide +kernel, by decide +kernel⟩
theorem sc_PaperRoad_loses : FnScope (["self", "hall", "standing", "who"] : List Str) ["self", "hall", "standing", "who"] (defScope s_PaperRoad_loses) := ⟨rfl, rfl, rfl, by decide +kernel, rfl, by decide +kernel, by decide +kernel⟩
theorem sc_Road_loses : FnScope (["self", "hall", "standing", "who"] : List Str) ["self", "hall", "standing", "who"] (defScope s_Road_loses) := ⟨rfl, rfl, rfl, by decide +kernel, rfl, by decide +kernel, by decide +kernel⟩
theorem sc_play : FnScope (["hall", "caller", "road", "turns", "rows", "standing", "who", "lost", "broken"] : List Str) ["hall", "caller", "road", "turns"] (defScope s_play) := ⟨rfl, rfl, rfl, by decide +kernel, rfl, by decide +kernel, by decide +kernel⟩
theorem sc_RowCaller___init__ : FnScope (["self", "row"] : List Str) ["self", "row"] (defScope s_RowCaller___init__) := ⟨rfl, rfl, rfl, by decide +kernel, rfl, by decide +kernel, by decide +kernel⟩
theorem sc_PaperCaller___init__ : FnScope (["self", "paper"] : List Str) ["self", "paper"] (defScope s_PaperCaller___init__) := ⟨rfl, rfl, rfl, by decide +kernel, rfl, by decide +kernel, by decide +kernel⟩
theorem sc_RowRoad___init__ : FnScope (["self", "row"] : List Str) ["self", "row"] (defScope s_RowRoad___init__) := ⟨rfl, rfl, rfl, by decide +kernel, rfl, by decide +kernel, by decide +kernel⟩
theorem sc_PaperRoad___init__ : FnScope (["self", "paper"] : List Str) ["self", "paper"] (defScope s_PaperRoad___init__) := ⟨rfl, rfl, rfl, by decide +kernel, rfl, by decide +kernel, by decide +kernel⟩
def cx_PaperRoad___init___0 : Scope := { kind := .function, names := [(PySem.Str.ofString ".0", NameKind.local), (PySem.Str.ofString "standing", NameKind.local), (PySem.Str.ofString "rank", NameKind.local), (PySem.Str.ofString "answers", NameKind.local)], isGenerator := false, isCoroutine := false, more := [] }
theorem cs_PaperRoad___init___0 : CompSc (defScope s_PaperRoad___init__) cx_PaperRoad___init___0 (["self", "paper"] : List Str) (["standing", "rank", "answers"] : List Str) [] := ⟨rfl, by decide +kernel, by decide +kernel, by decide +kernel, by decide +kernel⟩
theorem nd_PaperRoad___init___0 : (compN (["self", "paper"] : List Str) (["standing", "rank", "answers"] : List Str) []).Nodup := by decide +kernel
theorem sc_walked : FnScope (["hall", "standing", "calls", "losses", "turns", "here", "who", "lost"] : List Str) ["hall", "standing", "calls", "losses"] (defScope s_walked) := ⟨rfl, rfl, rfl, by decide +kernel, rfl, by decide +kernel, by decide +kernel⟩
theorem sc_law_cell_at : FnScope (["script", "k"] : List Str) ["script", "k"] (defScope s_law_cell_at) := ⟨rfl, rfl, rfl, by decide +kernel, rfl, by decide +kernel, by decide +kernel⟩
theorem sc_law_hall : FnScope (["script", "many", "waits", "k", "number"] : List Str) ["script"] (defScope s_law_hall) := ⟨rfl, rfl, rfl, by decide +kernel, rfl, by decide +kernel, by decide +kernel⟩
theorem sc_law_rows : FnScope (["script", "many", "row", "truths", "cell"] : List Str) ["script", "many"] (defScope s_law_rows) := ⟨rfl, rfl, rfl, by decide +kernel, rfl, by decide +kernel, by decide +kernel⟩
theorem sc_law_papers : FnScope (["hall", "row", "truths", "turns", "kept", "broken", "known", "many", "standing", "who", "lost", "answers"] : List Str) ["hall", "row", "truths", "turns"] (defScope s_law_papers) := ⟨rfl, rfl, rfl, by decide +kernel, rfl, by decide +kernel, by decide +kernel⟩
def cx_law_papers_0 : Scope := { kind := .function, names := [(PySem.Str.ofString ".0", NameKind.local), (PySem.Str.ofString "k", NameKind.local), (PySem.Str.ofString "len", NameKind.globalImplicit), (PySem.Str.ofString "kept", NameKind.free)], isGenerator := false, isCoroutine := false, more := [] }
theorem cs_law_papers_0 : CompSc (defScope s_law_papers) cx_law_papers_0 (["hall", "row", "truths", "turns", "kept", "broken", "known", "many", "standing", "who", "lost", "answers"] : List Str) (["k"] : List Str) [4] := ⟨rfl, by decide +kernel, by decide +kernel, by decide +kernel, by decide +kernel⟩
theorem nd_law_papers_0 : (compN (["hall", "row", "truths", "turns", "kept", "broken", "known", "many", "standing", "who", "lost", "answers"] : List Str) (["k"] : List Str) [4]).Nodup := by decide +kernel
theorem sc_law_players : FnScope (["script", "hall", "turns", "row", "truths", "kept", "broken", "way", "caller", "road"] : List Str) ["script", "hall", "turns"] (defScope s_law_players) := ⟨rfl, rfl, rfl, by decide +kernel, rfl, by decide +kernel, by decide +kernel⟩
theorem sc_law : FnScope (["script", "hall", "turns", "caller", "road", "rows", "broken", "calls", "losses", "begin", "found", "cut"] : List Str) ["script"] (defScope s_law) := ⟨rfl, rfl, rfl, by decide +kernel, rfl, by decide +kernel, by decide +kernel⟩
def cx_law_0 : Scope := { kind := .function, names := [(PySem.Str.ofString ".0", NameKind.local), (PySem.Str.ofString "row", NameKind.local)], isGenerator := false, isCoroutine := false, more := [] }
theorem cs_law_0 : CompSc (defScope s_law) cx_law_0 (["script", "hall", "turns", "caller", "road", "rows", "broken", "calls", "losses", "begin", "found", "cut"] : List Str) (["row"] : List Str) [] := ⟨rfl, by decide +kernel, by decide +kernel, by decide +kernel, by decide +kernel⟩
theorem nd_law_0 : (compN (["script", "hall", "turns", "caller", "road", "rows", "broken", "calls", "losses", "begin", "found", "cut"] : List Str) (["row"] : List Str) []).Nodup := by decide +kernel
def cx_law_1 : Scope := { kind := .function, names := [(PySem.Str.ofString ".0", NameKind.local), (PySem.Str.ofString "row", NameKind.local)], isGenerator := false, isCoroutine := false, more := [] }
theorem cs_law_1 : CompSc (defScope s_law) cx_law_1 (["script", "hall", "turns", "caller", "road", "rows", "broken", "calls", "losses", "begin", "found", "cut"] : List Str) (["row"] : List Str) [] := ⟨rfl, by decide +kernel, by decide +kernel, by decide +kernel, by decide +kernel⟩
theorem nd_law_1 : (compN (["script", "hall", "turns", "caller", "road", "rows", "broken", "calls", "losses", "begin", "found", "cut"] : List Str) (["row"] : List Str) []).Nodup := by decide +kernel
structure Txt (K : PySem.W.Frag) (mg : Str → Option Value) (f_beginning f_may_lose f_is_listener f_refuse_wrong_turn f_left_behind f_quiet_behind f_after f_broken_ones f_least_left f_RowCaller_call f_PaperCaller_call f_Caller_call f_RowRoad_loses f_PaperRoad_loses f_Road_loses f_play f_RowCaller___init__ f_PaperCaller___init__ f_RowRoad___init__ f_PaperRoad___init__ f_walked f_law_cell_at f_law_hall f_law_rows f_law_papers f_law_players f_law C_Caller C_Road C_RowCaller C_RowRoad C_PaperCaller C_PaperRoad : Addr) : Prop where
  m_beginning : mg "beginning" = some (.ref f_beginning)
  k_beginning : PySem.W.keepIn K (.ref f_beginning) = true
  m_may_lose : mg "may_lose" = some (.ref f_may_lose)
  k_may_lose : PySem.W.keepIn K (.ref f_may_lose) = true
  m_is_listener : mg "is_listener" = some (.ref f_is_listener)
  k_is_listener : PySem.W.keepIn K (.ref f_is_listener) = true
  m_refuse_wrong_turn : mg "refuse_wrong_turn" = some (.ref f_refuse_wrong_turn)
  k_refuse_wrong_turn : PySem.W.keepIn K (.ref f_refuse_wrong_turn) = true
  m_left_behind : mg "left_behind" = some (.ref f_left_behind)
  k_left_behind : PySem.W.keepIn K (.ref f_left_behind) = true
  m_quiet_behind : mg "quiet_behind" = some (.ref f_quiet_behind)
  k_quiet_behind : PySem.W.keepIn K (.ref f_quiet_behind) = true
  m_after : mg "after" = some (.ref f_after)
  k_after : PySem.W.keepIn K (.ref f_after) = true
  m_broken_ones : mg "broken_ones" = some (.ref f_broken_ones)
  k_broken_ones : PySem.W.keepIn K (.ref f_broken_ones) = true
  m_least_left : mg "least_left" = some (.ref f_least_left)
  k_least_left : PySem.W.keepIn K (.ref f_least_left) = true
  m_play : mg "play" = some (.ref f_play)
  k_play : PySem.W.keepIn K (.ref f_play) = true
  m_walked : mg "walked" = some (.ref f_walked)
  k_walked : PySem.W.keepIn K (.ref f_walked) = true
  m_law_cell_at : mg "_law_cell_at" = some (.ref f_law_cell_at)
  k_law_cell_at : PySem.W.keepIn K (.ref f_law_cell_at) = true
  m_law_hall : mg "_law_hall" = some (.ref f_law_hall)
  k_law_hall : PySem.W.keepIn K (.ref f_law_hall) = true
  m_law_rows : mg "_law_rows" = some (.ref f_law_rows)
  k_law_rows : PySem.W.keepIn K (.ref f_law_rows) = true
  m_law_papers : mg "_law_papers" = some (.ref f_law_papers)
  k_law_papers : PySem.W.keepIn K (.ref f_law_papers) = true
  m_law_players : mg "_law_players" = some (.ref f_law_players)
  k_law_players : PySem.W.keepIn K (.ref f_law_players) = true
  m_law : mg "law" = some (.ref f_law)
  k_law : PySem.W.keepIn K (.ref f_law) = true
  n_len : mg "len" = none
  n_max : mg "max" = none
  n_tuple : mg "tuple" = none
  n_enumerate : mg "enumerate" = none
  n_min : mg "min" = none
  n_list : mg "list" = none
  n_dict : mg "dict" = none
  n_zip : mg "zip" = none
  n_range : mg "range" = none
  c_Caller : mg "Caller" = some (.ref C_Caller)
  c_Road : mg "Road" = some (.ref C_Road)
  c_RowCaller : mg "RowCaller" = some (.ref C_RowCaller)
  c_RowRoad : mg "RowRoad" = some (.ref C_RowRoad)
  c_PaperCaller : mg "PaperCaller" = some (.ref C_PaperCaller)
  c_PaperRoad : mg "PaperRoad" = some (.ref C_PaperRoad)
  cl_Caller : Cls K C_Caller
  mk_Caller : MkN K C_Caller
  M_Caller_call : Meth K C_Caller "call" f_Caller_call
  cl_Road : Cls K C_Road
  mk_Road : MkN K C_Road
  M_Road_loses : Meth K C_Road "loses" f_Road_loses
  cl_RowCaller : Cls K C_RowCaller
  mk_RowCaller : Mk K C_RowCaller f_RowCaller___init__
  M_RowCaller_call : Meth K C_RowCaller "call" f_RowCaller_call
  na_RowCaller_row : NoAttr K C_RowCaller "row"
  na_RowCaller_asked : NoAttr K C_RowCaller "asked"
  cl_RowRoad : Cls K C_RowRoad
  mk_RowRoad : Mk K C_RowRoad f_RowRoad___init__
  M_RowRoad_loses : Meth K C_RowRoad "loses" f_RowRoad_loses
  na_RowRoad_row : NoAttr K C_RowRoad "row"
  na_RowRoad_asked : NoAttr K C_RowRoad "asked"
  cl_PaperCaller : Cls K C_PaperCaller
  mk_PaperCaller : Mk K C_PaperCaller f_PaperCaller___init__
  M_PaperCaller_call : Meth K C_PaperCaller "call" f_PaperCaller_call
  na_PaperCaller_paper : NoAttr K C_PaperCaller "paper"
  cl_PaperRoad : Cls K C_PaperRoad
  mk_PaperRoad : Mk K C_PaperRoad f_PaperRoad___init__
  M_PaperRoad_loses : Meth K C_PaperRoad "loses" f_PaperRoad_loses
  na_PaperRoad_paper : NoAttr K C_PaperRoad "paper"

/-! ### halls and standings in the heap -/
def HallAt (H : Hp) (a : Addr) (ws : List Int) (calm : Option Int) : Prop := ∃ t, H a = some (.tup [.ref t, vO calm]) ∧ H t = some (.tup (ws.map V.int))
def StAt (H : Hp) (b : Addr) (ls : List Int) (q : Int) : Prop := ∃ u, H b = some (.tup [.ref u, .int q]) ∧ H u = some (.tup (ls.map V.int))
theorem HallAt.same {H H' : Hp} {a : Addr} {ws : List Int} {calm : Option Int} (s : Same H H') (h : HallAt H a ws calm) : HallAt H' a ws calm := by
  obtain ⟨t, h1, h2⟩ := h
  exact ⟨t, s _ _ h1, s _ _ h2⟩
theorem StAt.same {H H' : Hp} {a : Addr} {ls : List Int} {q : Int} (s : Same H H') (h : StAt H a ls q) : StAt H' a ls q := by
  obtain ⟨t, h1, h2⟩ := h
  exact ⟨t, s _ _ h1, s _ _ h2⟩
theorem vO_non (c : Option Int) : decide (vO c = V.non) = decide (c = none) := by cases c <;> simp [vO]
def leftB (ws ls : List Int) (who : Nat) (lost : Bool) : List Int := if lost = true then ls.map (fun x => x - 1) else (ls.map (fun x => x - 1)).set who (ws.getD who 0)
def quietB (calm : Option Int) (q : Int) (lost : Bool) : Int := if lost = true then calm.getD 0 else max (q - 1) 0
/-- the road may do so -/
def MayB (calm : Option Int) (q : Int) (lost : Bool) : Prop := lost = true → calm ≠ none ∧ q = 0
theorem leftB_length (ws ls : List Int) (who : Nat) (lost : Bool) : (leftB ws ls who lost).length = ls.length := by
  unfold leftB
  split <;> simp
theorem inV_ints (x : Int) : ∀ ns : List Int, inV (.int x) (ns.map V.int) = decide (x ∈ ns)
  | [] => rfl
  | n :: ns => by
    show (eqV (V.int n) (V.int x) || inV (.int x) (ns.map V.int)) = _
    rw [inV_ints x ns]
    show ((n == x) || decide (x ∈ ns)) = _
    by_cases h : n = x
    · simp [h]
    · have h' : ¬ x = n := fun e => h e.symm
      simp [h, h']
theorem flat_ints : ∀ ns : List Int, (ns.map V.int).all flatV = true
  | [] => rfl
  | n :: ns => by
    show (flatV (V.int n) && (ns.map V.int).all flatV) = true
    rw [flat_ints ns]
    rfl
theorem getD_at {ws : List Int} {k : Nat} (h : k < ws.length) : atI (ws.map V.int) (k : Int) = some (.int (ws.getD k 0)) := by
  refine atI_nat ?_
  rw [List.getElem?_map, List.getElem?_eq_getElem h, List.getD_eq_getElem?_getD, List.getElem?_eq_getElem h]
  rfl
theorem ixN_nat {n k : Nat} (h : k < n) : ixN n (k : Int) = some k := by
  unfold ixN
  rw [if_pos (by omega), if_pos (by omega)]
  simp

/-! ### walks -/
def StO (H : Hp) (v : V) : Option (List Int × Int) → Prop
  | none => v = .non
  | some r => ∃ b, v = .ref b ∧ StAt H b r.1 r.2
def WalkAt (H : Hp) (p : Addr) (r : Nat × Option (List Int × Int)) : Prop := ∃ v, H p = some (.tup [.int (r.1 : Nat), v]) ∧ StO H v r.2
theorem StO.same {H H' : Hp} {v : V} {r : Option (List Int × Int)} (s : Same H H') (h : StO H v r) : StO H' v r := by
  cases r with
  | none => exact h
  | some r =>
    obtain ⟨b, e, h⟩ := h
    exact ⟨b, e, h.same s⟩
theorem WalkAt.same {H H' : Hp} {p : Addr} {r : Nat × Option (List Int × Int)} (s : Same H H') (h : WalkAt H p r) : WalkAt H' p r := by
  obtain ⟨v, e, h⟩ := h
  exact ⟨v, s _ _ e, h.same s⟩
def dSt : Option (List Int × Int) → PyData
  | none => .none
  | some r => dP (dT r.1) (.int r.2)
theorem rp_StO {H : Hp} {v : V} {r : Option (List Int × Int)} (h : StO H v r) : Rp H (dSt r) v := by
  cases r with
  | none =>
    cases h
    exact rp_non
  | some r =>
    obtain ⟨b, rfl, t, h1, h2⟩ := h
    exact rp_dP h1 (rp_dT h2) (rp_int _)
theorem rp_walk {H : Hp} {p : Addr} {r : Nat × Option (List Int × Int)} (h : WalkAt H p r) : Rp H (dP (.int (r.1 : Nat)) (dSt r.2)) (.ref p) := by
  obtain ⟨v, e, h⟩ := h
  exact rp_dP e (rp_int _) (rp_StO h)
theorem depth_dSt (r : Option (List Int × Int)) : (dSt r).depth ≤ 2 := by
  cases r with
  | none => exact Nat.zero_le _
  | some r =>
    show (dP (dT r.1) (.int r.2)).depth ≤ 2
    rw [depth_dP, depth_dT]
    exact Nat.le_refl _
theorem depth_walk (n : Int) (r : Option (List Int × Int)) : (dP (.int n) (dSt r)).depth ≤ 60 := by
  have h := depth_dSt r
  rw [depth_dP]
  show max 0 (dSt r).depth + 1 ≤ 60
  omega
theorem eqv_int (a b : Int) : PyData.eqv (.int a) (.int b) = decide (a = b) := by
  show (a == b) = _
  by_cases h : a = b <;> simp [h]
theorem eqv_dSt (r : Option (List Int × Int)) : PyData.eqv (dSt r) (dSt r) = true := by
  cases r with
  | none => rfl
  | some r =>
    show PyData.eqv (dP (dT r.1) (.int r.2)) (dP (dT r.1) (.int r.2)) = true
    rw [eqv_dP, eqv_dT, eqv_int]
    simp
theorem eqv_walk (n : Int) (r : Option (List Int × Int)) : PyData.eqv (dP (.int n) (dSt r)) (dP (.int n) (dSt r)) = true := by
  rw [eqv_dP, eqv_int, eqv_dSt]
  simp
theorem StO_non {H : Hp} {v : V} {r : Option (List Int × Int)} (h : StO H v r) : decide (v = V.non) = decide (r = none) := by
  cases r with
  | none =>
    cases h
    simp
  | some r =>
    obtain ⟨b, rfl, _⟩ := h
    simp
def QuietOk (calm : Option Int) : Int → List Bool → Prop
  | _, [] => True
  | q, l :: r => MayB calm q l ∧ QuietOk calm (quietB calm q l) r
def walkB (ws : List Int) (calm : Option Int) : List Int → Int → List (Nat × Bool) → Nat × Option (List Int × Int)
  | ls, q, [] => (0, some (ls, q))
  | ls, q, (k, l) :: r => if (0 : Int) ∈ leftB ws ls k l then (0, none) else ((walkB ws calm (leftB ws ls k l) (quietB calm q l) r).1 + 1, (walkB ws calm (leftB ws ls k l) (quietB calm q l) r).2)

def quietAll (calm : Option Int) (q : Int) (bs : List Bool) : Int := bs.foldl (quietB calm) q
theorem quietOk_snoc {calm : Option Int} {l : Bool} : ∀ {bs : List Bool} {q : Int}, QuietOk calm q bs → MayB calm (quietAll calm q bs) l → QuietOk calm q (bs ++ [l])
  | [], q, _, h => ⟨h, trivial⟩
  | b :: bs, q, hq, h => ⟨hq.1, quietOk_snoc hq.2 h⟩
theorem quietOk_take {calm : Option Int} : ∀ {bs : List Bool} {q : Int} (k : Nat), QuietOk calm q bs → QuietOk calm q (bs.take k)
  | [], _, k, h => by rw [List.take_nil]; exact trivial
  | b :: bs, q, 0, h => trivial
  | b :: bs, q, k + 1, h => ⟨h.1, quietOk_take k h.2⟩
theorem quietOk_drop {calm : Option Int} : ∀ {bs : List Bool} {q : Int} (k : Nat), QuietOk calm q bs → QuietOk calm (quietAll calm q (bs.take k)) (bs.drop k)
  | [], _, k, h => by rw [List.drop_nil]; exact trivial
  | b :: bs, q, 0, h => h
  | b :: bs, q, k + 1, h => quietOk_drop k h.2
theorem walkB_nil (ws : List Int) (calm : Option Int) (ls : List Int) (q : Int) : walkB ws calm ls q [] = (0, some (ls, q)) := rfl
theorem walkB_cons (ws : List Int) (calm : Option Int) (ls : List Int) (q : Int) (k : Nat) (l : Bool) (r : List (Nat × Bool)) : walkB ws calm ls q ((k, l) :: r) = if (0 : Int) ∈ leftB ws ls k l then (0, none) else ((walkB ws calm (leftB ws ls k l) (quietB calm q l) r).1 + 1, (walkB ws calm (leftB ws ls k l) (quietB calm q l) r).2) := rfl
theorem walkB_append (ws : List Int) (calm : Option Int) : ∀ (ps rs : List (Nat × Bool)) (ls : List Int) (q : Int), ((walkB ws calm ls q ps).2 = none → walkB ws calm ls q (ps ++ rs) = walkB ws calm ls q ps) ∧
    ∀ ls' q', (walkB ws calm ls q ps).2 = some (ls', q') → walkB ws calm ls q (ps ++ rs) = ((walkB ws calm ls q ps).1 + (walkB ws calm ls' q' rs).1, (walkB ws calm ls' q' rs).2)
  | [], rs, ls, q => by
    refine ⟨fun h => ?_, fun ls' q' h => ?_⟩
    · cases h
    · cases h
      show walkB ws calm ls q rs = (0 + (walkB ws calm ls q rs).1, (walkB ws calm ls q rs).2)
      rw [Nat.zero_add]
  | (k, l) :: ps, rs, ls, q => by
    have ih := walkB_append ws calm ps rs (leftB ws ls k l) (quietB calm q l)
    rw [List.cons_append, walkB_cons, walkB_cons]
    by_cases h : (0 : Int) ∈ leftB ws ls k l
    · rw [if_pos h, if_pos h]
      exact ⟨fun _ => rfl, (fun _ _ h => nomatch h)⟩
    · rw [if_neg h, if_neg h]
      refine ⟨fun e => ?_, fun ls' q' e => ?_⟩
      · rw [ih.1 e]
      · rw [ih.2 ls' q' e]
        show (_, _) = (_, _)
        rw [Nat.add_right_comm]
theorem walkB_len (ws : List Int) (calm : Option Int) : ∀ (ps : List (Nat × Bool)) (ls : List Int) (q : Int), ((walkB ws calm ls q ps).2 = none → (walkB ws calm ls q ps).1 < ps.length) ∧
    ∀ ls' q', (walkB ws calm ls q ps).2 = some (ls', q') → (walkB ws calm ls q ps).1 = ps.length ∧ ls'.length = ls.length ∧ q' = quietAll calm q (ps.map (·.2))
  | [], ls, q => by
    refine ⟨(fun h => nomatch h), fun ls' q' h => ?_⟩
    cases h
    exact ⟨rfl, rfl, rfl⟩
  | (k, l) :: ps, ls, q => by
    have ih := walkB_len ws calm ps (leftB ws ls k l) (quietB calm q l)
    rw [walkB_cons]
    by_cases h : (0 : Int) ∈ leftB ws ls k l
    · rw [if_pos h]
      exact ⟨fun _ => Nat.succ_pos _, (fun _ _ h => nomatch h)⟩
    · rw [if_neg h]
      refine ⟨fun e => Nat.succ_lt_succ (ih.1 e), fun ls' q' e => ?_⟩
      obtain ⟨h1, h2, h3⟩ := ih.2 ls' q' e
      rw [leftB_length] at h2
      exact ⟨congrArg (· + 1) h1, h2, h3⟩

theorem oneLine : 1 ≤ sizeLine := by decide
/-- what is no hall -/
def BadH (ws : List Int) (cm : Option Int) : Prop := ws.length < 1 ∨ 8 < ws.length ∨ (∃ x ∈ ws, x < 1) ∨ ∃ c, cm = some c ∧ c < 1
theorem eqI (a b : Int) : decide (V.int a = V.int b) = decide (a = b) := by simp
theorem vO_is (o : Option Int) : decide (vO o = V.non) = decide (o = none) := by cases o <;> simp [vO]
/-- a hall and a standing as a tuple -/
def JoinAt (H : Hp) (p : Addr) (ws : List Int) (calm : Option Int) (ls : List Int) (q : Int) : Prop := ∃ a b, H p = some (.tup [.ref a, .ref b]) ∧ HallAt H a ws calm ∧ StAt H b ls q
theorem JoinAt.same {H H' : Hp} {p : Addr} {ws : List Int} {calm : Option Int} {ls : List Int} {q : Int} (s : Same H H') (h : JoinAt H p ws calm ls q) : JoinAt H' p ws calm ls q := by
  obtain ⟨a, b, h1, h2, h3⟩ := h
  exact ⟨a, b, s _ _ h1, h2.same s, h3.same s⟩
/-- what was laid last -/
theorem new_at {H : Hp} {p : Addr} {o : HO} (hp : H p = none) : Same H (upd H p o) ∧ (upd H p o) p = some o := ⟨Same.upd hp, upd_same⟩
theorem map_snoc (ws : List Int) (w : Int) : ws.map V.int ++ [V.int w] = (ws ++ [w]).map V.int := by rw [List.map_append]; rfl

/-- the first of the least ones -/
def IsLeast (ls : List Int) (j : Nat) : Prop := j < ls.length ∧ (∀ k, k < ls.length → ls.getD j 0 ≤ ls.getD k 0) ∧ ∀ k, k < j → ls.getD j 0 < ls.getD k 0
theorem IsLeast.one {ls : List Int} {i j : Nat} (h : IsLeast ls i) (g : IsLeast ls j) : i = j := by
  rcases Nat.lt_trichotomy i j with z | z | z
  · have h1 := g.2.2 i z
    have h2 := h.2.1 j g.1
    omega
  · exact z
  · have h1 := h.2.2 j z
    have h2 := g.2.1 i h.1
    omega
theorem mem_getDL {ls : List Int} {y : Int} (h : y ∈ ls) : ∃ j, j < ls.length ∧ ls.getD j 0 = y := by
  obtain ⟨j, hj, e⟩ := List.getElem_of_mem h
  exact ⟨j, hj, by rw [List.getD_eq_getElem?_getD, List.getElem?_eq_getElem hj, ← e]; rfl⟩
theorem getD_get {ls : List Int} {j : Nat} (h : j < ls.length) : ls[j]? = some (ls.getD j 0) := by
  rw [List.getD_eq_getElem?_getD, List.getElem?_eq_getElem h]
  rfl
theorem getD_memL {ls : List Int} {j : Nat} (h : j < ls.length) : ls.getD j 0 ∈ ls := List.mem_of_getElem? (getD_get h)
theorem first_at {ls : List Int} {m : Int} (h : m ∈ ls) : ∃ j : Nat, ls[j]? = some m ∧ ∀ k : Nat, k < j → ls[k]? ≠ some m := by
  induction ls with
  | nil => cases h
  | cons x xs ih =>
    by_cases e : x = m
    · exact ⟨0, by rw [e]; rfl, fun k z => by omega⟩
    · rcases List.mem_cons.mp h with z | z
      · exact absurd z.symm e
      · obtain ⟨j, h1, h2⟩ := ih z
        refine ⟨j + 1, h1, fun k hk => ?_⟩
        cases k with
        | zero => exact fun w => e (Option.some.inj w)
        | succ k => exact h2 k (by omega)
theorem least_of {ls : List Int} {m : Int} {j : Nat} (hm : ∀ a ∈ ls, m ≤ a) (h1 : ls[j]? = some m) (h2 : ∀ k : Nat, k < j → ls[k]? ≠ some m) : IsLeast ls j := by
  have hj := (List.getElem?_eq_some_iff.mp h1).1
  have e : ls.getD j 0 = m := by rw [List.getD_eq_getElem?_getD, h1]; rfl
  refine ⟨hj, fun k hk => ?_, fun k hk => ?_⟩
  · rw [e]
    exact hm _ (getD_memL hk)
  · rw [e]
    have a1 := hm _ (getD_memL (show k < ls.length by omega))
    have a2 : ls.getD k 0 ≠ m := fun z => h2 k hk (by rw [getD_get (by omega), z])
    omega

/-- what is no instance stays -/
def Still (H H' : Hp) : Prop := ∀ b o, H b = some o → (∀ C dx fs, o ≠ HO.ins C dx fs) → H' b = some o
theorem Same.still {H H' : Hp} (s : Same H H') : Still H H' := fun b o e _ => s b o e
theorem Still.refl (H : Hp) : Still H H := fun _ _ e _ => e
theorem Still.trans {H H1 H2 : Hp} (a : Still H H1) (b : Still H1 H2) : Still H H2 := fun c o e n => b c o (a c o e n) n
theorem Still.ins {H : Hp} {x C dx : Addr} {fs gs : List (Str × V)} (h : H x = some (.ins C dx fs)) : Still H (upd H x (.ins C dx gs)) := fun b o e n => by
  rw [upd_ne (fun z => n C dx fs (by rw [z, h] at e; exact (Option.some.inj e).symm))]
  exact e
theorem Still.new {H H' : Hp} {p : Addr} {o : HO} (e : Still H H') (h : H p = none) : Still H (upd H' p o) := fun b u q n => by
  rw [upd_ne (ne_of_none q h)]
  exact e b u q n
theorem Still.lst {H H' : Hp} {a : Addr} {xs : List V} (s : Still H H') (h : H a = some (.lst xs)) : H' a = some (.lst xs) := s _ _ h fun _ _ _ => HO.noConfusion
theorem Still.tup {H H' : Hp} {a : Addr} {xs : List V} (s : Still H H') (h : H a = some (.tup xs)) : H' a = some (.tup xs) := s _ _ h fun _ _ _ => HO.noConfusion
theorem Still.seq {K : PySem.W.Frag} {H H' : Hp} {a : Addr} {xs : List V} (e : Still H H') (h : SqL K H a xs) : SqL K H' a xs := by
  rcases h with (h | ⟨o, h⟩) | h
  · exact .inl (.inl (e.lst h))
  · exact .inl (.inr ⟨o, e _ _ h fun _ _ _ => HO.noConfusion⟩)
  · exact .inr h
theorem HallAt.still {H H' : Hp} {a : Addr} {ws : List Int} {calm : Option Int} (s : Still H H') (h : HallAt H a ws calm) : HallAt H' a ws calm := by
  obtain ⟨t, h1, h2⟩ := h
  exact ⟨t, s.tup h1, s.tup h2⟩
theorem StAt.still {H H' : Hp} {a : Addr} {ls : List Int} {q : Int} (s : Still H H') (h : StAt H a ls q) : StAt H' a ls q := by
  obtain ⟨t, h1, h2⟩ := h
  exact ⟨t, s.tup h1, s.tup h2⟩
theorem JoinAt.still {H H' : Hp} {p : Addr} {ws : List Int} {calm : Option Int} {ls : List Int} {q : Int} (s : Still H H') (h : JoinAt H p ws calm ls q) : JoinAt H' p ws calm ls q := by
  obtain ⟨a, b, h1, h2, h3⟩ := h
  exact ⟨a, b, s.tup h1, h2.still s, h3.still s⟩
/-- a player by a row: its row, how often it was asked -/
def RowF (r : Addr) (k : Nat) : List (Str × V) := [("row", .ref r), ("asked", .int k)]
theorem putF_ask (r : Addr) (v : V) : putF "asked" v [("row", .ref r)] = ([("row", .ref r), ("asked", v)] : List (Str × V)) := by
  unfold putF
  rw [if_neg (by decide)]
  rfl
theorem putF_more (r : Addr) (k : Nat) (m : Int) (h : m = ((k + 1 : Nat) : Int)) : putF "asked" (.int m) (RowF r k) = RowF r (k + 1) := by
  subst h
  unfold RowF putF
  rw [if_neg (by decide)]
  unfold putF
  rw [if_pos rfl]
/-- whom a caller by a row calls when it is asked for the k-th time -/
def CallIs (us : List Int) (k : Nat) (ls : List Int) (v : Int) : Prop := (k < us.length → v = us.getD k 0) ∧ (us.length ≤ k → ∃ j : Nat, v = j ∧ IsLeast ls j)
theorem CallIs.at {us ls : List Int} {k : Nat} (h : k < us.length) : CallIs us k ls (us.getD k 0) := ⟨fun _ => rfl, fun z => absurd h (by omega)⟩
theorem CallIs.least {us ls : List Int} {k j : Nat} (h : us.length ≤ k) (hj : IsLeast ls j) : CallIs us k ls j := ⟨fun z => absurd z (by omega), fun _ => ⟨j, rfl, hj⟩⟩
theorem CallIs.one {us ls : List Int} {k : Nat} {v w : Int} (h : CallIs us k ls v) (g : CallIs us k ls w) : v = w := by
  rcases Nat.lt_or_ge k us.length with z | z
  · rw [h.1 z, g.1 z]
  · obtain ⟨i, rfl, hi⟩ := h.2 z
    obtain ⟨j, rfl, hj⟩ := g.2 z
    rw [hi.one hj]
theorem bl_at {bs : List Bool} {k : Nat} (h : k < bs.length) : atI (bs.map V.bl) (k : Int) = some (.bl (bs.getD k false)) := by
  refine atI_nat ?_
  rw [List.getElem?_map, List.getElem?_eq_getElem h, List.getD_eq_getElem?_getD, List.getElem?_eq_getElem h]
  rfl
theorem tk_snoc {α : Type} {xs : List α} {i : Nat} {x : α} (h : xs[i]? = some x) : xs.take (i + 1) = xs.take i ++ [x] := by
  rw [List.take_add_one, h]
  rfl
def brokeB (L : List Int) (i : Nat) : List Int := (List.range i).filterMap fun k => if L.getD k 0 = 0 then some (k : Int) else none
theorem brokeB_succ (L : List Int) (i : Nat) : brokeB L (i + 1) = brokeB L i ++ (if L.getD i 0 = 0 then [(i : Int)] else []) := by
  unfold brokeB
  rw [List.range_succ, List.filterMap_append]
  congr 1
  by_cases h : L.getD i 0 = 0
  · rw [if_pos h, List.filterMap_cons, List.filterMap_nil, if_pos h]
  · rw [if_neg h, List.filterMap_cons, List.filterMap_nil, if_neg h]
theorem brokeB_length (L : List Int) : ∀ i, (brokeB L i).length ≤ i
  | 0 => Nat.le_refl _
  | i + 1 => by
    rw [brokeB_succ, List.length_append]
    have h := brokeB_length L i
    split <;> simp <;> omega
theorem brokeB_nil {L : List Int} {i : Nat} (hi : i ≤ L.length) : brokeB L i = [] ↔ (0 : Int) ∉ L.take i := by
  induction i with
  | zero => simp [brokeB]
  | succ i ih =>
    have e : L[i]? = some (L.getD i 0) := by
      rw [List.getD_eq_getElem?_getD, List.getElem?_eq_getElem (show i < L.length by omega)]
      rfl
    rw [brokeB_succ, tk_snoc e, List.append_eq_nil_iff, ih (by omega)]
    by_cases h : L.getD i 0 = 0
    · rw [if_pos h, h]
      simp
    · have h' : ¬ (0 = L.getD i 0) := fun z => h z.symm
      simp only [if_neg h, List.mem_append, List.mem_singleton, h', or_false, and_true]

def AllAt {α : Type} (P : α → V → Prop) (rs : List α) (vs : List V) : Prop := vs.length = rs.length ∧ ∀ (i : Nat) (r : α) (v : V), rs[i]? = some r → vs[i]? = some v → P r v
theorem AllAt.nil {α : Type} {P : α → V → Prop} : AllAt P [] [] := ⟨rfl, fun i r v e => by cases e⟩
theorem AllAt.imp {α : Type} {P P' : α → V → Prop} {rs : List α} {vs : List V} (f : ∀ r v, P r v → P' r v) (h : AllAt P rs vs) : AllAt P' rs vs := ⟨h.1, fun i r v e1 e2 => f _ _ (h.2 i r v e1 e2)⟩
theorem AllAt.append {α : Type} {P : α → V → Prop} {rs ss : List α} {vs us : List V} (h : AllAt P rs vs) (g : AllAt P ss us) : AllAt P (rs ++ ss) (vs ++ us) := by
  refine ⟨by rw [List.length_append, List.length_append, h.1, g.1], fun i r v e1 e2 => ?_⟩
  rcases Nat.lt_or_ge i rs.length with z | z
  · rw [List.getElem?_append_left z] at e1
    rw [List.getElem?_append_left (by rw [h.1]; exact z)] at e2
    exact h.2 i r v e1 e2
  · rw [List.getElem?_append_right z] at e1
    rw [List.getElem?_append_right (by rw [h.1]; exact z), h.1] at e2
    exact g.2 _ r v e1 e2
theorem AllAt.one {α : Type} {P : α → V → Prop} {r : α} {v : V} (h : P r v) : AllAt P [r] [v] := by
  refine ⟨rfl, fun i r' v' e1 e2 => ?_⟩
  cases i with
  | zero => cases e1; cases e2; exact h
  | succ i => cases e1
theorem AllAt.get {α : Type} {P : α → V → Prop} {rs : List α} {vs : List V} (h : AllAt P rs vs) {i : Nat} {v : V} (e : vs[i]? = some v) : ∃ r, rs[i]? = some r ∧ P r v := by
  have hi := (List.getElem?_eq_some_iff.mp e).1
  have hi2 : i < rs.length := by
    rw [← h.1]
    exact hi
  have h2 : rs[i]? = some rs[i] := List.getElem?_eq_getElem hi2
  exact ⟨_, h2, h.2 i _ v h2 e⟩

noncomputable def leastIx (ls : List Int) : Nat := open Classical in if h : ∃ j, IsLeast ls j then h.choose else 0
def lostAt (tr : List Bool) (k : Nat) (cm : Option Int) (q : Int) : Bool := decide (k < tr.length) && tr.getD k false && (!decide (cm = none) && decide (q = 0))
theorem lost_may {tr : List Bool} {k : Nat} {cm : Option Int} {q : Int} : MayB cm q (lostAt tr k cm q) := by
  intro h
  unfold lostAt at h
  simp only [Bool.and_eq_true, Bool.not_eq_true', decide_eq_false_iff_not, decide_eq_true_eq] at h
  exact ⟨h.2.1, h.2.2⟩
abbrev PR := (List Int × Int) × Nat × Bool
theorem Still.nol {H H' : Hp} {l : Addr} (s : Still H H') (h : H' l = none) (xs : List V) : H l ≠ some (.lst xs) := fun e => by
  rw [s.lst e] at h
  cases h
theorem left_pos {ws ls : List Int} {who : Nat} {lost : Bool} (hw : ∀ x ∈ ws, 1 ≤ x) (hl : ∀ x ∈ ls, 1 ≤ x) (hn : ls.length = ws.length) (hwho : who < ws.length) (hz : brokeB (leftB ws ls who lost) ws.length = []) : (0 : Int) ∉ leftB ws ls who lost ∧ ∀ x ∈ leftB ws ls who lost, 1 ≤ x := by
  have h1 : (leftB ws ls who lost).length = ws.length := (leftB_length _ _ _ _).trans hn
  have h0 := (brokeB_nil (L := leftB ws ls who lost) (i := ws.length) (by omega)).mp hz
  rw [← h1, List.take_length] at h0
  refine ⟨h0, fun x hx => ?_⟩
  have hx0 : x ≠ 0 := fun e => h0 (e ▸ hx)
  have h2 : 0 ≤ x := by
    unfold leftB at hx
    split at hx
    · obtain ⟨y, hy, rfl⟩ := List.mem_map.mp hx
      have := hl y hy
      omega
    · rcases List.mem_or_eq_of_mem_set hx with z | z
      · obtain ⟨y, hy, rfl⟩ := List.mem_map.mp z
        have := hl y hy
        omega
      · have := hw _ (getD_memL hwho)
        omega
  omega
def RowV (H : Hp) (r : PR) (u : V) : Prop := ∃ t s, u = .ref t ∧ H t = some (.tup [.ref s, .int (r.2.1 : Nat), .bl r.2.2]) ∧ StAt H s r.1.1 r.1.2
def TupS (H H' : Hp) : Prop := ∀ b xs, H b = some (.tup xs) → H' b = some (.tup xs)
theorem Same.tups {H H' : Hp} (s : Same H H') : TupS H H' := fun b xs e => s b _ e
theorem Still.tups {H H' : Hp} (s : Still H H') : TupS H H' := fun b xs e => s.tup e
theorem TupS.trans {H H1 H2 : Hp} (a : TupS H H1) (b : TupS H1 H2) : TupS H H2 := fun c xs e => b c xs (a c xs e)
theorem TupS.lst {H : Hp} {D : Addr} {zs : List V} {o : HO} (h : H D = some (.lst zs)) : TupS H (upd H D o) := fun b xs e => by
  rw [upd_ne (fun z => by rw [z, h] at e; cases e)]
  exact e
theorem StAt.tups {H H' : Hp} {a : Addr} {ls : List Int} {q : Int} (s : TupS H H') (h : StAt H a ls q) : StAt H' a ls q := by
  obtain ⟨t, h1, h2⟩ := h
  exact ⟨t, s _ _ h1, s _ _ h2⟩
theorem HallAt.tups {H H' : Hp} {a : Addr} {ws : List Int} {calm : Option Int} (s : TupS H H') (h : HallAt H a ws calm) : HallAt H' a ws calm := by
  obtain ⟨t, h1, h2⟩ := h
  exact ⟨t, s _ _ h1, s _ _ h2⟩
theorem RowV.tups {H H' : Hp} {r : PR} {u : V} (s : TupS H H') (h : RowV H r u) : RowV H' r u := by
  obtain ⟨t, x, e, h1, h2⟩ := h
  exact ⟨t, x, e, s _ _ h1, h2.tups s⟩
theorem rows_tups {H H' : Hp} {rs : List PR} {us : List V} (s : TupS H H') (h : AllAt (RowV H) rs us) : AllAt (RowV H') rs us := h.imp fun _ _ => RowV.tups s


/-- a pair of a standing and a value -/
def PairV (H : Hp) (q : (List Int × Int) × V) (u : V) : Prop := ∃ t b, u = .ref t ∧ H t = some (.tup [.ref b, q.2]) ∧ StH H b q.1
/-- a standing, a rank, a value -/
def TripV (H : Hp) (q : (List Int × Int) × V) (u : V) : Prop := ∃ t b w, u = .ref t ∧ H t = some (.tup [.ref b, w, q.2]) ∧ StH H b q.1
theorem sth_same {H H' : Hp} {b : Addr} {k : List Int × Int} (s : Same H H') (h : StH H b k) : StH H' b k := h.up fun c xs e => s c _ e
theorem StH.of {H : Hp} {b : Addr} {ls : List Int} {q : Int} (h : StAt H b ls q) : StH H b (ls, q) := h
theorem PairV.same {H H' : Hp} {q : (List Int × Int) × V} {u : V} (s : Same H H') (h : PairV H q u) : PairV H' q u := by
  obtain ⟨t, b, e, h1, h2⟩ := h
  exact ⟨t, b, e, s _ _ h1, sth_same s h2⟩
theorem TripV.same {H H' : Hp} {q : (List Int × Int) × V} {u : V} (s : Same H H') (h : TripV H q u) : TripV H' q u := by
  obtain ⟨t, b, w, e, h1, h2⟩ := h
  exact ⟨t, b, w, e, s _ _ h1, sth_same s h2⟩
/-- whom a caller by a paper calls -/
def CallV (kvs : List ((List Int × Int) × V)) (k : List Int × Int) (v : V) : Prop := valV kvs k = some v ∨ (valV kvs k = none ∧ ∃ j : Nat, v = .int j ∧ IsLeast k.1 j)
theorem CallV.one {kvs : List ((List Int × Int) × V)} {k : List Int × Int} {v w : V} (h : CallV kvs k v) (g : CallV kvs k w) : v = w := by
  rcases h with h | ⟨h, i, rfl, hi⟩ <;> rcases g with g | ⟨g, j, rfl, hj⟩
  · rw [h] at g
    exact Option.some.inj g
  · rw [h] at g
    cases g
  · rw [h] at g
    cases g
  · rw [hi.one hj]
theorem emod_range (x : Int) {m : Int} (h : 0 < m) : 0 ≤ x % m ∧ x % m < m := ⟨Int.emod_nonneg x (by omega), Int.emod_lt_of_pos x h⟩
theorem bits_lt {a : Int} {n : Nat} (h : a.natAbs < 2 ^ n) : intBits a ≤ n := intBits_le h
def cutI (xs : List Int) (lo hi : Option Int) : List Int := (xs.drop (HT.sIx xs.length 0 lo)).take (HT.sIx xs.length xs.length hi - HT.sIx xs.length 0 lo)
theorem cutV_ints (xs : List Int) (lo hi : Option Int) : cutV (xs.map V.int) lo hi = (cutI xs lo hi).map V.int := by
  unfold cutV cutI
  rw [List.length_map, List.map_take, List.map_drop]
theorem cutI_length (xs : List Int) (lo hi : Option Int) : (cutI xs lo hi).length ≤ xs.length := by
  unfold cutI
  rw [List.length_take, List.length_drop]
  omega
theorem quietAll_snoc (calm : Option Int) (q : Int) (bs : List Bool) (l : Bool) : quietAll calm q (bs ++ [l]) = quietB calm (quietAll calm q bs) l := by
  unfold quietAll
  rw [List.foldl_append]
  rfl


theorem Still.dT {H H' : Hp} {d : Addr} {kvs : List ((List Int × Int) × V)} (s : Still H H') (h : H d = some (.dT kvs)) : H' d = some (.dT kvs) := s _ _ h fun _ _ _ => HO.noConfusion
/-- a caller of one of the three kinds -/
def CalF (CC CR CP : Addr) (n : Nat) (H : Hp) (C : Addr) (fs : List (Str × V)) : Prop := (C = CR ∧ ∃ (q : Addr) (k : Nat) (row : List Int), fs = RowF q k ∧ H q = some (.lst (row.map V.int)) ∧ ∀ x ∈ row, 0 ≤ x ∧ x < (n : Int)) ∨
  (C = CP ∧ ∃ (d : Addr) (kvs : List ((List Int × Int) × V)), fs = ([(("paper" : Str), V.ref d)] : List (Str × V)) ∧ H d = some (.dT kvs) ∧ ∀ k v, valV kvs k = some v → ∃ j : Nat, v = .int j ∧ j < n) ∨ (C = CC ∧ fs = [])
/-- a road of one of the three kinds -/
def RoaF (CC CR CP : Addr) (n : Nat) (H : Hp) (C : Addr) (fs : List (Str × V)) : Prop := (C = CR ∧ ∃ (q : Addr) (k : Nat) (tr : List Bool), fs = RowF q k ∧ H q = some (.lst (tr.map V.bl))) ∨
  (C = CP ∧ ∃ (d : Addr) (kvs : List ((List Int × Int) × V)), fs = ([(("paper" : Str), V.ref d)] : List (Str × V)) ∧ H d = some (.dT kvs) ∧ ∀ k v, valV kvs k = some v → ∃ (t : Addr) (bs : List Bool), v = .ref t ∧ H t = some (.tup (bs.map V.bl)) ∧ bs.length = n) ∨ (C = CC ∧ fs = [])
theorem CalF.still {CC CR CP C : Addr} {n : Nat} {H H' : Hp} {fs : List (Str × V)} (s : Still H H') (h : CalF CC CR CP n H C fs) : CalF CC CR CP n H' C fs := by
  rcases h with ⟨e, q, k, row, e2, h1, h2⟩ | ⟨e, d, kvs, e2, h1, h2⟩ | h
  · exact .inl ⟨e, q, k, row, e2, s.lst h1, h2⟩
  · exact .inr (.inl ⟨e, d, kvs, e2, s.dT h1, h2⟩)
  · exact .inr (.inr h)
theorem RoaF.still {CC CR CP C : Addr} {n : Nat} {H H' : Hp} {fs : List (Str × V)} (s : Still H H') (h : RoaF CC CR CP n H C fs) : RoaF CC CR CP n H' C fs := by
  rcases h with ⟨e, q, k, tr, e2, h1⟩ | ⟨e, d, kvs, e2, h1, h2⟩ | h
  · exact .inl ⟨e, q, k, tr, e2, s.lst h1⟩
  · refine .inr (.inl ⟨e, d, kvs, e2, s.dT h1, fun k v hv => ?_⟩)
    obtain ⟨t, bs, e3, h3, h4⟩ := h2 k v hv
    exact ⟨t, bs, e3, s.tup h3, h4⟩
  · exact .inr (.inr h)
theorem call_nat {row ls : List Int} {k n : Nat} {v : Int} (h : CallIs row k ls v) (hr : ∀ x ∈ row, 0 ≤ x ∧ x < (n : Int)) (hl : ls.length = n) : ∃ j : Nat, v = j ∧ j < n := by
  rcases Nat.lt_or_ge k row.length with z | z
  · have e := h.1 z
    have := hr _ (getD_memL z)
    exact ⟨v.toNat, by omega, by omega⟩
  · obtain ⟨j, rfl, hj⟩ := h.2 z
    have := hj.1
    exact ⟨j, rfl, by omega⟩
theorem walk_snoc {ws : List Int} {cm : Option Int} {ps : List (Nat × Bool)} {ls : List Int} {q : Int} {k : Nat} {l : Bool} (h : walkB ws cm ws 0 ps = (ps.length, some (ls, q))) :
    walkB ws cm ws 0 (ps ++ [(k, l)]) = if (0 : Int) ∈ leftB ws ls k l then (ps.length, none) else (ps.length + 1, some (leftB ws ls k l, quietB cm q l)) := by
  have h2 : (walkB ws cm ws 0 ps).2 = some (ls, q) := by rw [h]
  rw [(walkB_append ws cm ps [(k, l)] ws 0).2 _ _ h2, h, walkB_cons, walkB_nil]
  by_cases z : (0 : Int) ∈ leftB ws ls k l
  · rw [if_pos z, if_pos z]
    rfl
  · rw [if_neg z, if_neg z]
/-- the turns so far are a walk -/
def So (ws : List Int) (cm : Option Int) (rs : List PR) (ls : List Int) (q : Int) : Prop := (∀ r ∈ rs, r.2.1 < ws.length) ∧ QuietOk cm 0 (rs.map (·.2.2)) ∧ quietAll cm 0 (rs.map (·.2.2)) = q ∧ walkB ws cm ws 0 (rs.map (·.2)) = (rs.length, some (ls, q)) ∧
  ∀ i r, rs[i]? = some r → walkB ws cm ws 0 ((rs.take i).map (·.2)) = (i, some r.1)
def PlayOk (ws : List Int) (cm : Option Int) (N : Nat) (rs : List PR) (bs : List Int) : Prop := (∀ r ∈ rs, r.2.1 < ws.length) ∧ QuietOk cm 0 (rs.map (·.2.2)) ∧ (∀ i r, rs[i]? = some r → walkB ws cm ws 0 ((rs.take i).map (·.2)) = (i, some r.1)) ∧
  ((bs = [] ∧ rs.length = N ∧ ∃ st, walkB ws cm ws 0 (rs.map (·.2)) = (N, some st)) ∨ (bs ≠ [] ∧ ∃ m, rs.length = m + 1 ∧ m + 1 ≤ N ∧ walkB ws cm ws 0 (rs.map (·.2)) = (m, none)))
theorem So.start (ws : List Int) (cm : Option Int) : So ws cm [] ws 0 := ⟨(fun r hr => by cases hr), trivial, rfl, rfl, fun i r e => by simp at e⟩
theorem So.pre {ws : List Int} {cm : Option Int} {rs : List PR} {ls : List Int} {q : Int} {who : Nat} {lost : Bool} (h : So ws cm rs ls q) (hw : who < ws.length) (hm : MayB cm q lost) :
    (∀ r ∈ rs ++ [((ls, q), who, lost)], r.2.1 < ws.length) ∧ QuietOk cm 0 ((rs ++ [((ls, q), who, lost)]).map (·.2.2)) ∧ ∀ i r, (rs ++ [((ls, q), who, lost)])[i]? = some r → walkB ws cm ws 0 (((rs ++ [((ls, q), who, lost)]).take i).map (·.2)) = (i, some r.1) := by
  obtain ⟨h1, h2, h3, h4, h5⟩ := h
  refine ⟨fun r hr => ?_, ?_, fun i r e => ?_⟩
  · rcases List.mem_append.mp hr with z | z
    · exact h1 r z
    · cases List.mem_singleton.mp z
      exact hw
  · rw [List.map_append]
    exact quietOk_snoc h2 (by rw [h3]; exact hm)
  · rcases Nat.lt_or_ge i rs.length with z | z
    · rw [List.getElem?_append_left z] at e
      rw [List.take_append_of_le_length (by omega)]
      exact h5 i r e
    · rw [List.getElem?_append_right z] at e
      have hi : i - rs.length = 0 := by
        rcases Nat.eq_zero_or_pos (i - rs.length) with y | y
        · exact y
        · rw [List.getElem?_eq_none (show 1 ≤ i - rs.length from y)] at e
          cases e
      rw [hi] at e
      have e' : r = ((ls, q), who, lost) := (Option.some.inj e).symm
      have hi' : i = rs.length := by omega
      subst hi'
      rw [e', List.take_left']
      · exact h4
      · rfl
theorem So.step {ws : List Int} {cm : Option Int} {rs : List PR} {ls : List Int} {q : Int} {who : Nat} {lost : Bool} (h : So ws cm rs ls q) (hw : who < ws.length) (hm : MayB cm q lost) (hz : (0 : Int) ∉ leftB ws ls who lost) :
    So ws cm (rs ++ [((ls, q), who, lost)]) (leftB ws ls who lost) (quietB cm q lost) := by
  obtain ⟨a, b, c⟩ := h.pre hw hm
  refine ⟨a, b, ?_, ?_, c⟩
  · rw [List.map_append]
    exact (quietAll_snoc cm 0 _ lost).trans (by rw [h.2.2.1])
  · rw [List.map_append]
    have e := walk_snoc (k := who) (l := lost) (ps := rs.map (·.2)) (by rw [List.length_map]; exact h.2.2.2.1)
    rw [if_neg hz, List.length_map] at e
    rw [List.length_append]
    exact e
theorem So.broke {ws : List Int} {cm : Option Int} {N : Nat} {rs : List PR} {ls : List Int} {q : Int} {who : Nat} {lost : Bool} {bs : List Int} (h : So ws cm rs ls q) (hw : who < ws.length) (hm : MayB cm q lost) (hz : (0 : Int) ∈ leftB ws ls who lost) (hb : bs ≠ []) (hN : rs.length < N) :
    PlayOk ws cm N (rs ++ [((ls, q), who, lost)]) bs := by
  obtain ⟨a, b, c⟩ := h.pre hw hm
  refine ⟨a, b, c, .inr ⟨hb, rs.length, by rw [List.length_append]; rfl, hN, ?_⟩⟩
  rw [List.map_append]
  have e := walk_snoc (k := who) (l := lost) (ps := rs.map (·.2)) (by rw [List.length_map]; exact h.2.2.2.1)
  rw [if_pos hz, List.length_map] at e
  exact e
theorem So.done {ws : List Int} {cm : Option Int} {N : Nat} {rs : List PR} {ls : List Int} {q : Int} (h : So ws cm rs ls q) (e : rs.length = N) : PlayOk ws cm N rs [] := by
  obtain ⟨h1, h2, h3, h4, h5⟩ := h
  exact ⟨h1, h2, h5, .inl ⟨rfl, e, _, by rw [h4, e]⟩⟩
theorem all_snoc {P : Int → Prop} {ls : List Int} {x : Int} (h : ∀ y ∈ ls, P y) (hx : P x) : ∀ y ∈ ls ++ [x], P y := fun y hy => by
  rcases List.mem_append.mp hy with z | z
  · exact h y z
  · cases List.mem_singleton.mp z
    exact hx

theorem pos60 : (0 : Int) < 10 ^ (60 : Int).toNat := by decide
theorem bits764 : intBits (7 ^ (64 : Int).toNat) ≤ 200 := by decide
theorem lst_snoc {H : Hp} {L : Addr} {ls : List Int} {x : Int} : (upd H L (.lst (ls.map V.int ++ [V.int x]))) L = some (.lst ((ls ++ [x]).map V.int)) := by
  rw [map_snoc]
  exact upd_same
theorem len_snoc {α : Type} {ls : List α} {x : α} {i : Nat} (h : ls.length = i) : (ls ++ [x]).length = i + 1 := by
  rw [List.length_append, h]
  rfl
theorem one_more {x m : Int} (h : 0 < m) : 1 ≤ 1 + x % m := by
  have := Int.emod_nonneg x (show m ≠ 0 by omega)
  omega

theorem bl_snoc (bs : List Bool) (b : Bool) : bs.map V.bl ++ [V.bl b] = (bs ++ [b]).map V.bl := by rw [List.map_append]; rfl
theorem mk_same {H : Hp} {x dx C : Addr} (hx : H x = none) (hdx : H dx = none) : Same H (upd (upd H dx (.own x)) x (.ins C dx [])) := fun b o e => by
  rw [upd_ne (ne_of_none e hx), upd_ne (ne_of_none e hdx)]
  exact e
theorem mk_then {H H' : Hp} {x dx C : Addr} (hx : H x = none) (hdx : H dx = none) (h : ∀ b o, b ≠ x → (upd (upd H dx (.own x)) x (.ins C dx [])) b = some o → H' b = some o) : Same H H' := fun b o e => h b o (ne_of_none e hx) (mk_same hx hdx b o e)
theorem mk_free {H : Hp} {x dx C r : Addr} (hx : H x = none) (hdx : H dx = none) (h : (upd (upd H dx (.own x)) x (.ins C dx [])) r = none) : H r = none := (mk_same hx hdx).free h
def dRow (r : PR) : PyData := .tuple [.tuple [dT r.1.1, .int r.1.2], .int (r.2.1 : Nat), .bool r.2.2]
theorem rp_three {H : Hp} {t : Addr} {x y z : V} {d e f : PyData} (h : H t = some (.tup [x, y, z])) (h1 : Rp H d x) (h2 : Rp H e y) (h3 : Rp H f z) : Rp H (.tuple [d, e, f]) (.ref t) := by
  unfold Rp
  refine ⟨t, _, rfl, h, ?_⟩
  unfold RpAll
  refine ⟨_, _, rfl, h1, ?_⟩
  unfold RpAll
  refine ⟨_, _, rfl, h2, ?_⟩
  unfold RpAll
  refine ⟨_, _, rfl, h3, ?_⟩
  unfold RpAll
  rfl
theorem rp_row {H : Hp} {r : PR} {u : V} (h : RowV H r u) : Rp H (dRow r) u := by
  obtain ⟨t, s, rfl, h1, x, h2, h3⟩ := h
  exact rp_three h1 (rp_dP h2 (rp_dT h3) (by unfold Rp; rfl)) (by unfold Rp; rfl) (by unfold Rp; rfl)
theorem rpAll_rows {H : Hp} : ∀ {rs : List PR} {us : List V}, AllAt (RowV H) rs us → RpAll H (rs.map dRow) us
  | [], us, h => by
    have e : us = [] := List.length_eq_zero_iff.mp h.1
    rw [e]
    unfold RpAll
    rfl
  | r :: rs, us, h => by
    cases us with
    | nil => exact absurd h.1 (by simp)
    | cons u us =>
      show RpAll H (dRow r :: rs.map dRow) (u :: us)
      unfold RpAll
      exact ⟨u, us, rfl, rp_row (h.2 0 r u rfl rfl), rpAll_rows ⟨by have := h.1; simpa using this, fun i r' v e1 e2 => h.2 (i + 1) r' v e1 e2⟩⟩
theorem rp_rows {H : Hp} {l : Addr} {rs : List PR} {us : List V} (h : H l = some (.lst us)) (g : AllAt (RowV H) rs us) : Rp H (.list (rs.map dRow)) (.ref l) := by
  unfold Rp
  exact ⟨l, us, rfl, h, rpAll_rows g⟩
theorem depth_dRow (r : PR) : (dRow r).depth ≤ 3 := by
  show max (PyData.depth (.tuple [dT r.1.1, .int r.1.2])) (max 0 (max 0 0)) + 1 ≤ 3
  have e : (PyData.tuple [dT r.1.1, .int r.1.2]).depth = 2 := by
    show (dP (dT r.1.1) (.int r.1.2)).depth = 2
    rw [depth_dP, depth_dT]
    rfl
  rw [e]
  decide
theorem depthAll_dRow : ∀ rs : List PR, PyData.depthAll (rs.map dRow) ≤ 3
  | [] => Nat.zero_le _
  | r :: rs => by
    have h1 := depth_dRow r
    have h2 := depthAll_dRow rs
    show max (dRow r).depth (PyData.depthAll (rs.map dRow)) ≤ 3
    omega
theorem depth_rows (rs : List PR) : (PyData.list (rs.map dRow)).depth ≤ 4 := by
  have := depthAll_dRow rs
  show PyData.depthAll (rs.map dRow) + 1 ≤ 4
  omega
theorem cutV_take {xs : List V} {n : Nat} : cutV xs none (some (n : Int)) = xs.take n := by
  unfold cutV
  rw [HT.sIx_nat, HT.sIx_none, List.drop_zero, Nat.sub_zero]
  rcases Nat.le_total n xs.length with z | z
  · rw [Nat.min_eq_left z]
  · rw [Nat.min_eq_right z, List.take_length, List.take_of_length_le z]

theorem PairV.tups {H H' : Hp} {q : (List Int × Int) × V} {u : V} (s : TupS H H') (h : PairV H q u) : PairV H' q u := by
  obtain ⟨t, b, e, h1, h2⟩ := h
  exact ⟨t, b, e, s _ _ h1, h2.up s⟩
theorem TripV.tups {H H' : Hp} {q : (List Int × Int) × V} {u : V} (s : TupS H H') (h : TripV H q u) : TripV H' q u := by
  obtain ⟨t, b, w, e, h1, h2⟩ := h
  exact ⟨t, b, w, e, s _ _ h1, h2.up s⟩
theorem TupS.dT {H : Hp} {D : Addr} {zs : List ((List Int × Int) × V)} {o : HO} (h : H D = some (.dT zs)) : TupS H (upd H D o) := fun b xs e => by
  rw [upd_ne (fun z => by rw [z, h] at e; cases e)]
  exact e
theorem put_mem {P : V → Prop} {k : List Int × Int} {v : V} : ∀ (ps kvs : List ((List Int × Int) × V)), (∀ k v, valV kvs k = some v → P v) → (∀ q ∈ ps, P q.2) → valV (putAll kvs ps) k = some v → P v
  | [], kvs, h, _, e => h k v e
  | p :: ps, kvs, h, g, e => by
    refine put_mem ps (putK kvs p.1 p.2) (fun j w hw => ?_) (fun q hq => g q (List.mem_cons_of_mem _ hq)) e
    rw [valV_put] at hw
    by_cases z : j = p.1
    · rw [if_pos z] at hw
      cases hw
      exact g p (by simp)
    · rw [if_neg z] at hw
      exact h j w hw
theorem put_all {P : V → Prop} {ps : List ((List Int × Int) × V)} (g : ∀ q ∈ ps, P q.2) : ∀ k v, valV (putAll [] ps) k = some v → P v := fun k v e => put_mem ps [] (fun j w z => by rw [valV_nil] at z; cases z) g e
theorem mem_snoc {α : Type} {P : α → Prop} {xs : List α} {x : α} (h : ∀ y ∈ xs, P y) (hx : P x) : ∀ y ∈ xs ++ [x], P y := fun y hy => by
  rcases List.mem_append.mp hy with z | z
  · exact h y z
  · cases List.mem_singleton.mp z
    exact hx

theorem zip_parts : ∀ rs : List PR, (rs.map (·.2.1)).zip (rs.map (·.2.2)) = rs.map (·.2)
  | [] => rfl
  | r :: rs => by
    show (r.2.1, r.2.2) :: (rs.map (·.2.1)).zip (rs.map (·.2.2)) = r.2 :: rs.map (·.2)
    rw [zip_parts rs]
theorem cutV_to {xs : List V} {c : Int} (h0 : 0 ≤ c) (h : c ≤ xs.length) : cutV xs none (some c) = xs.take c.toNat := by
  obtain ⟨n, rfl⟩ : ∃ n : Nat, c = n := ⟨c.toNat, by omega⟩
  unfold cutV
  rw [HT.sIx_none, HT.sIx_nat]
  have e : min n xs.length = n := by omega
  rw [e]
  simp

theorem vals_d_after : Vals [V.bl false] [Value.bool false] := .cons rfl .nil
theorem vals_d_broken_ones : Vals [V.bl false] [Value.bool false] := .cons rfl .nil
section
variable {P : Program} {w : World} {K : PySem.W.Frag} {mg : Str → Option Value} {base : Heap} {f_beginning f_may_lose f_is_listener f_refuse_wrong_turn f_left_behind f_quiet_behind f_after f_broken_ones f_least_left f_RowCaller_call f_PaperCaller_call f_Caller_call f_RowRoad_loses f_PaperRoad_loses f_Road_loses f_play f_RowCaller___init__ f_PaperCaller___init__ f_RowRoad___init__ f_PaperRoad___init__ f_walked f_law_cell_at f_law_hall f_law_rows f_law_papers f_law_players f_law C_Caller C_Road C_RowCaller C_RowRoad C_PaperCaller C_PaperRoad : Addr}
/-! ### beginning -/
def sp_beginning (K : PySem.W.Frag) : Sp := fun vs H Q _ => ∃ (a : Addr) (v w : V), vs = [.ref a] ∧ H a = some (.tup [v, w]) ∧ ∀ p, H p = none → Q (.ref p) (upd H p (.tup [v, .int 0]))
theorem ok_beginning {fd  : FuncData} (T : Txt K mg f_beginning f_may_lose f_is_listener f_refuse_wrong_turn f_left_behind f_quiet_behind f_after f_broken_ones f_least_left f_RowCaller_call f_PaperCaller_call f_Caller_call f_RowRoad_loses f_PaperRoad_loses f_Road_loses f_play f_RowCaller___init__ f_PaperCaller___init__ f_RowRoad___init__ f_PaperRoad___init__ f_walked f_law_cell_at f_law_hall f_law_rows f_law_papers f_law_players f_law C_Caller C_Road C_RowCaller C_RowRoad C_PaperCaller C_PaperRoad) (F : Fun K "beginning" "beginning" s_beginning f_beginning fd) : FnOk P w K mg base CX0 1 f_beginning fd ["hall"] (sp_beginning K) := by
  refine F.ok sc_beginning (fun vs H Q E h => ?_) (fun cdv A outer s H vs Q E hr h => ?_)
  · rcases h with ⟨a, v, w, rfl, ha, q⟩ <;> rfl
  · obtain ⟨a, v, w, rfl, ha, q⟩ := h
    refine ⟨_, (pss_one (ps_ret (pe_tup (pa_cons (pe_ix (ix_sq K) (pv 0) pe_int (fun _ _ => rfl)) (pa_cons pe_int pa_nil))))), ?_⟩
    refine ⟨_, rfl, a, _, _, _, rfl, rfl, .inr (SqT.of ha), rfl, ?_⟩
    exact ⟨lenOk, fun p hp => q p hp⟩
/-! ### may_lose -/
def sp_may_lose (K : PySem.W.Frag) : Sp := fun vs H Q _ => ∃ (a b : Addr) (ws ls : List Int) (calm : Option Int) (q : Int), vs = [.ref a, .ref b] ∧ HallAt H a ws calm ∧ StAt H b ls q ∧ Q (.bl (!decide (calm = none) && decide (q = 0))) H
theorem ok_may_lose {fd  : FuncData} (T : Txt K mg f_beginning f_may_lose f_is_listener f_refuse_wrong_turn f_left_behind f_quiet_behind f_after f_broken_ones f_least_left f_RowCaller_call f_PaperCaller_call f_Caller_call f_RowRoad_loses f_PaperRoad_loses f_Road_loses f_play f_RowCaller___init__ f_PaperCaller___init__ f_RowRoad___init__ f_PaperRoad___init__ f_walked f_law_cell_at f_law_hall f_law_rows f_law_papers f_law_players f_law C_Caller C_Road C_RowCaller C_RowRoad C_PaperCaller C_PaperRoad) (F : Fun K "may_lose" "may_lose" s_may_lose f_may_lose fd) : FnOk P w K mg base CX0 1 f_may_lose fd ["hall", "standing"] (sp_may_lose K) := by
  refine F.ok sc_may_lose (fun vs H Q E h => ?_) (fun cdv A outer s H vs Q E hr h => ?_)
  · rcases h with ⟨a, b, ws, ls, calm, n, rfl, ⟨t, ha, _⟩, ⟨u, hb, _⟩, q⟩ <;> rfl
  · obtain ⟨a, b, ws, ls, calm, n, rfl, ⟨t, ha, _⟩, ⟨u, hb, _⟩, q⟩ := h
    refine ⟨_, (pss_one (ps_ret (pe_andX (pe_cmpR op_notN (pe_ix (ix_sq K) (pv 0) pe_int (fun _ _ => rfl)) pe_non (nomark _)) (pe_one (pe_cmpR op_eq (pe_ix (ix_sq K) (pv 1) pe_int (fun _ _ => rfl)) pe_int (nomark _)))))), ?_⟩
    refine ⟨_, rfl, a, _, _, _, rfl, rfl, .inr (SqT.of ha), rfl, rfl, _, decide (V.int n = V.int 0), rfl, fun _ Q' z => ⟨_, rfl, b, _, _, _, rfl, rfl, .inr (SqT.of hb), rfl, rfl, z⟩, ?_⟩
    have e2 : decide (V.int n = V.int 0) = decide (n = 0) := by simp
    rw [vO_non, e2]
    exact q
/-! ### is_listener -/
def sp_is_listener (K : PySem.W.Frag) : Sp := fun vs H Q _ => ∃ (a : Addr) (ws : List Int) (calm : Option Int) (who : Int), vs = [.ref a, .int who] ∧ HallAt H a ws calm ∧ Q (.bl (decide (0 ≤ who ∧ who < ws.length))) H
theorem ok_is_listener {fd  : FuncData} (T : Txt K mg f_beginning f_may_lose f_is_listener f_refuse_wrong_turn f_left_behind f_quiet_behind f_after f_broken_ones f_least_left f_RowCaller_call f_PaperCaller_call f_Caller_call f_RowRoad_loses f_PaperRoad_loses f_Road_loses f_play f_RowCaller___init__ f_PaperCaller___init__ f_RowRoad___init__ f_PaperRoad___init__ f_walked f_law_cell_at f_law_hall f_law_rows f_law_papers f_law_players f_law C_Caller C_Road C_RowCaller C_RowRoad C_PaperCaller C_PaperRoad) (F : Fun K "is_listener" "is_listener" s_is_listener f_is_listener fd) : FnOk P w K mg base CX0 1 f_is_listener fd ["hall", "who"] (sp_is_listener K) := by
  refine F.ok sc_is_listener (fun vs H Q E h => ?_) (fun cdv A outer s H vs Q E hr h => ?_)
  · rcases h with ⟨a, ws, calm, who, rfl, ⟨t, ha1, ha2⟩, q⟩ <;> rfl
  · obtain ⟨a, ws, calm, who, rfl, ⟨t, ha1, ha2⟩, q⟩ := h
    refine ⟨_, (pss_one (ps_ret (pe_andX (pe_cmpR op_ge (pv 1) pe_int (nomark _)) (pe_one (pe_cmpR op_lt (pv 1) (pe_callB (call_lenK K) (by rfl) T.n_len PySem.boot_len (pa_cons (pe_ix (ix_sq K) (pv 0) pe_int (fun _ _ => rfl)) pa_nil)) (nomark _)))))), ?_⟩
    refine ⟨_, rfl, _, _, rfl, rfl, _, decide (who < (ws.length : Int)), rfl, fun _ Q' z => ⟨_, rfl, _, rfl, a, _, _, _, rfl, rfl, .inr (SqT.of ha1), rfl, t, _, rfl, .inr (SqT.of ha2), _, _, rfl, rfl, ?_⟩, ?_⟩
    · rw [List.length_map]
      exact z
    · rw [show (decide (who ≥ 0) && decide (who < (ws.length : Int))) = decide (0 ≤ who ∧ who < (ws.length : Int)) by rw [Bool.decide_and]]
      exact q
/-! ### refuse_wrong_turn -/
def sp_refuse_wrong_turn (K : PySem.W.Frag) : Sp := fun vs H Q _ => ∃ (a b : Addr) (ws ls : List Int) (calm : Option Int) (q : Int) (who : Nat) (lost : Bool), vs = [.ref a, .ref b, .int who, .bl lost] ∧ HallAt H a ws calm ∧ StAt H b ls q ∧ who < ws.length ∧ MayB calm q lost ∧ Q .non H
theorem ok_refuse_wrong_turn {fd fd_is_listener fd_may_lose : FuncData} (T : Txt K mg f_beginning f_may_lose f_is_listener f_refuse_wrong_turn f_left_behind f_quiet_behind f_after f_broken_ones f_least_left f_RowCaller_call f_PaperCaller_call f_Caller_call f_RowRoad_loses f_PaperRoad_loses f_Road_loses f_play f_RowCaller___init__ f_PaperCaller___init__ f_RowRoad___init__ f_PaperRoad___init__ f_walked f_law_cell_at f_law_hall f_law_rows f_law_papers f_law_players f_law C_Caller C_Road C_RowCaller C_RowRoad C_PaperCaller C_PaperRoad) (F : Fun K "refuse_wrong_turn" "refuse_wrong_turn" s_refuse_wrong_turn f_refuse_wrong_turn fd) (G_is_listener : FnOk P w K mg base CX0 1 f_is_listener fd_is_listener ["hall", "who"] (sp_is_listener K)) (B_is_listener : Binds K fd_is_listener ["hall", "who"] []) (G_may_lose : FnOk P w K mg base CX0 1 f_may_lose fd_may_lose ["hall", "standing"] (sp_may_lose K)) (B_may_lose : Binds K fd_may_lose ["hall", "standing"] []) : FnOk P w K mg base CX0 2 f_refuse_wrong_turn fd ["hall", "standing", "who", "lost"] (sp_refuse_wrong_turn K) := by
  refine F.ok sc_refuse_wrong_turn (fun vs H Q E h => ?_) (fun cdv A outer s H vs Q E hr h => ?_)
  · rcases h with ⟨a, b, ws, ls, calm, n, who, lost, rfl, ha, hb, hw, hm, q⟩ <;> rfl
  · obtain ⟨a, b, ws, ls, calm, n, who, lost, rfl, ha, hb, hw, hm, q⟩ := h
    refine ⟨_, (pss_cons (ps_if (pt_not (pt_val (pe_call G_is_listener (hr.mono (by decide)) rfl T.m_is_listener T.k_is_listener B_is_listener .nil pass0 (pa_cons (pv 0) (pa_cons (pv 2) pa_nil))))) (pss_one ps_never) pss_nil) (pss_one (ps_if (PW.pt (pw_andX (pt_val (pv 3)) (pw_and1 (pt_not (pt_val (pe_call G_may_lose (hr.mono (by decide)) rfl T.m_may_lose T.k_may_lose B_may_lose .nil pass0 (pa_cons (pv 0) (pa_cons (pv 1) pa_nil)))))))) (pss_one ps_never) pss_nil))), ?_⟩
    obtain ⟨t, ha1, ha2⟩ := id ha
    refine ⟨_, rfl, _, rfl, a, ws, calm, (who : Int), rfl, ha, _, rfl, ite_f ?_ ?_⟩
    · rw [decide_eq_true (show (0 : Int) ≤ (who : Int) ∧ (who : Int) < (ws.length : Int) by omega)]
      rfl
    refine ⟨_, rfl, _, rfl, !(!decide (calm = none) && decide (n = 0)), fun _ Q' z => ⟨_, rfl, _, rfl, a, b, ws, ls, calm, n, rfl, ha, hb, _, rfl, z⟩, ite_f ?_ q⟩
    cases lost with
    | false => rfl
    | true =>
      obtain ⟨h1, h2⟩ := hm rfl
      simp [h1, h2]
/-! ### left_behind -/
def sp_left_behind (K : PySem.W.Frag) : Sp := fun vs H Q _ => ∃ (a b : Addr) (ws ls : List Int) (calm : Option Int) (q : Int) (who : Nat) (lost : Bool), vs = [.ref a, .ref b, .int who, .bl lost] ∧ HallAt H a ws calm ∧ StAt H b ls q ∧ who < ws.length ∧ ls.length = ws.length ∧ ws.length ≤ 8 ∧ MayB calm q lost ∧
  ∀ (l : Addr) (H' : Hp), H l = none → Same H H' → H' l = some (.lst ((leftB ws ls who lost).map V.int)) → Q (.ref l) H'
theorem ok_left_behind {fd fd_refuse_wrong_turn : FuncData} (T : Txt K mg f_beginning f_may_lose f_is_listener f_refuse_wrong_turn f_left_behind f_quiet_behind f_after f_broken_ones f_least_left f_RowCaller_call f_PaperCaller_call f_Caller_call f_RowRoad_loses f_PaperRoad_loses f_Road_loses f_play f_RowCaller___init__ f_PaperCaller___init__ f_RowRoad___init__ f_PaperRoad___init__ f_walked f_law_cell_at f_law_hall f_law_rows f_law_papers f_law_players f_law C_Caller C_Road C_RowCaller C_RowRoad C_PaperCaller C_PaperRoad) (F : Fun K "left_behind" "left_behind" s_left_behind f_left_behind fd) (G_refuse_wrong_turn : FnOk P w K mg base CX0 2 f_refuse_wrong_turn fd_refuse_wrong_turn ["hall", "standing", "who", "lost"] (sp_refuse_wrong_turn K)) (B_refuse_wrong_turn : Binds K fd_refuse_wrong_turn ["hall", "standing", "who", "lost"] []) : FnOk P w K mg base CX0 3 f_left_behind fd ["hall", "standing", "who", "lost"] (sp_left_behind K) := by
  refine F.ok sc_left_behind (fun vs H Q E h => ?_) (fun cdv A outer s H vs Q E hr h => ?_)
  · rcases h with ⟨a, b, ws, ls, calm, n, who, lost, rfl, ha, hb, hw, hl, h8, hm, q⟩ <;> rfl
  · obtain ⟨a, b, ws, ls, calm, n, who, lost, rfl, ha, hb, hw, hl, h8, hm, q⟩ := h
    refine ⟨_, (pss_cons (ps_expr (pe_call G_refuse_wrong_turn (hr.mono (by decide)) rfl T.m_refuse_wrong_turn T.k_refuse_wrong_turn B_refuse_wrong_turn .nil pass0 (pa_cons (pv 0) (pa_cons (pv 1) (pa_cons (pv 2) (pa_cons (pv 3) pa_nil)))))) (pss_cons (ps_setComp (i := 4) sc_left_behind.nd rfl (pi_sq (pe_ix (ix_sq K) (pv 1) pe_int (fun _ _ => rfl))) _ rfl cs_left_behind_0 rfl rfl (fun _ _ _ _ => (pg_name (i := 0) nd_left_behind_0 rfl (Or.inl rfl))) (fun _ _ _ _ => pts_nil) (fun _ _ _ _ => (pe_op op_sub (pv 0) pe_int)) rfl rfl) (pss_cons (ps_ifJ (pt_not (pt_val (pv 3))) (pss_one (ps_asg (pe_ix (ix_sq K) (pe_ix (ix_sq K) (pv 0) pe_int (fun _ _ => rfl)) (pv 2) (fun _ _ => rfl)) (pg_sub (pv 4) (pv 2) set_list))) pss_nil) (pss_one (ps_ret (pv 4)))))), ?_⟩
    obtain ⟨t, ha1, ha2⟩ := id ha
    obtain ⟨u, hb1, hb2⟩ := id hb
    refine ⟨_, rfl, _, rfl, _, rfl, _, rfl, a, b, ws, ls, calm, n, who, lost, rfl, ha, hb, hw, hm, ?_⟩
    refine ⟨_, rfl, b, _, _, _, rfl, rfl, .inr (SqT.of hb1), rfl, u, rfl, .inr ⟨⟨_, SqT.of hb2⟩, fun D hD => ?_⟩⟩
    refine comp_tup (K := K) (a := u) (xs := ls.map V.int) (fun i ys H' => ys = ((ls.take i).map (fun x => x - 1)).map V.int ∧ H' D = some (.lst ys) ∧ Same H H') ⟨rfl, upd_same, Same.upd hD⟩ (fun i ys H' _ ⟨_, _, s⟩ => SqT.of (s _ _ hb2)) ?_ ?_
    · rintro i x ys H' hx ⟨rfl, hD', s'⟩ Qe hQ
      rw [List.getElem?_map] at hx
      obtain ⟨y, hy, rfl⟩ := Option.map_eq_some_iff.mp hx
      have hi := (List.getElem?_eq_some_iff.mp hy).1
      refine ⟨_, rfl, _, _, rfl, rfl, hQ _ _ hD' (small1000 (by simp; omega)) ⟨?_, upd_same, s'.new hD⟩⟩
      rw [List.take_add_one, hy]
      simp
    rintro ys H2 ⟨rfl, hD2, s2⟩
    rw [List.length_map, List.take_length] at hD2
    refine ⟨_, rfl, _, rfl, (fun σ' H' => σ' = [some (.ref a), some (.ref b), some (.int (who : Nat)), some (.bl lost), some (.ref D)] ∧ Same H H' ∧ H' D = some (.lst ((leftB ws ls who lost).map V.int))), fun e => ?_, fun e => ?_, ?_⟩
    · have e' : lost = false := by simpa using e
      subst e'
      refine ⟨_, rfl, a, _, _, _, rfl, rfl, .inr (SqT.of (s2 _ _ ha1)), rfl, _, rfl, t, _, _, _, rfl, rfl, .inr (SqT.of (s2 _ _ ha2)), getD_at hw, ?_⟩
      refine ⟨_, rfl, _, rfl, D, _, _, _, rfl, rfl, hD2, ixN_nat (by simp; omega), rfl, s2.new hD, ?_⟩
      rw [upd_same]
      unfold leftB
      simp
    · have e' : lost = true := by simpa using e
      subst e'
      exact ⟨rfl, s2, hD2⟩
    · rintro σ' H' ⟨rfl, s3, e3⟩
      exact ⟨_, rfl, q D H' hD s3 e3⟩
/-! ### quiet_behind -/
def sp_quiet_behind (K : PySem.W.Frag) : Sp := fun vs H Q _ => ∃ (a b : Addr) (ws ls : List Int) (calm : Option Int) (q : Int) (lost : Bool), vs = [.ref a, .ref b, .bl lost] ∧ HallAt H a ws calm ∧ StAt H b ls q ∧ MayB calm q lost ∧ Q (.int (quietB calm q lost)) H
theorem ok_quiet_behind {fd  : FuncData} (T : Txt K mg f_beginning f_may_lose f_is_listener f_refuse_wrong_turn f_left_behind f_quiet_behind f_after f_broken_ones f_least_left f_RowCaller_call f_PaperCaller_call f_Caller_call f_RowRoad_loses f_PaperRoad_loses f_Road_loses f_play f_RowCaller___init__ f_PaperCaller___init__ f_RowRoad___init__ f_PaperRoad___init__ f_walked f_law_cell_at f_law_hall f_law_rows f_law_papers f_law_players f_law C_Caller C_Road C_RowCaller C_RowRoad C_PaperCaller C_PaperRoad) (F : Fun K "quiet_behind" "quiet_behind" s_quiet_behind f_quiet_behind fd) : FnOk P w K mg base CX0 1 f_quiet_behind fd ["hall", "standing", "lost"] (sp_quiet_behind K) := by
  refine F.ok sc_quiet_behind (fun vs H Q E h => ?_) (fun cdv A outer s H vs Q E hr h => ?_)
  · rcases h with ⟨a, b, ws, ls, calm, n, lost, rfl, ⟨t, ha, _⟩, ⟨u, hb, _⟩, hm, q⟩ <;> rfl
  · obtain ⟨a, b, ws, ls, calm, n, lost, rfl, ⟨t, ha, _⟩, ⟨u, hb, _⟩, hm, q⟩ := h
    refine ⟨_, (pss_cons (ps_if (pt_val (pv 2)) (pss_one (ps_ret (pe_ix (ix_sq K) (pv 0) pe_int (fun _ _ => rfl)))) pss_nil) (pss_one (ps_ret (pe_callB (call_max2 rfl) (by rfl) T.n_max boot_max (pa_cons (pe_op op_sub (pe_ix (ix_sq K) (pv 1) pe_int (fun _ _ => rfl)) pe_int) (pa_cons pe_int pa_nil)))))), ?_⟩
    refine ⟨_, rfl, _, rfl, ?_⟩
    cases lost with
    | true =>
      refine ite_t rfl ?_
      refine ⟨_, rfl, a, _, _, _, rfl, rfl, .inr (SqT.of ha), rfl, ?_⟩
      cases calm with
      | none => exact absurd rfl (hm rfl).1
      | some c => exact q
    | false =>
      refine ite_f rfl ?_
      refine ⟨_, rfl, b, _, _, _, rfl, rfl, .inr (SqT.of hb), rfl, _, _, rfl, rfl, _, _, rfl, ?_⟩
      have e : (if (0 : Int) > n - 1 then (0 : Int) else n - 1) = quietB calm n false := by
        unfold quietB
        rw [if_neg Bool.false_ne_true]
        omega
      show Q (.int (if (0 : Int) > n - 1 then (0 : Int) else n - 1)) H
      rw [e]
      exact q
/-! ### after -/
def sp_after (K : PySem.W.Frag) : Sp := fun vs H Q _ => ∃ (a b : Addr) (ws ls : List Int) (calm : Option Int) (q : Int) (who : Nat) (lost : Bool), vs = [.ref a, .ref b, .int who, .bl lost] ∧ HallAt H a ws calm ∧ StAt H b ls q ∧ who < ws.length ∧ ls.length = ws.length ∧ ws.length ≤ 8 ∧ MayB calm q lost ∧
  ((0 : Int) ∈ leftB ws ls who lost → ∀ H', Same H H' → Q .non H') ∧ ((0 : Int) ∉ leftB ws ls who lost → ∀ (p : Addr) (H' : Hp), Same H H' → StAt H' p (leftB ws ls who lost) (quietB calm q lost) → Q (.ref p) H')
theorem ok_after {fd fd_left_behind fd_quiet_behind : FuncData} (T : Txt K mg f_beginning f_may_lose f_is_listener f_refuse_wrong_turn f_left_behind f_quiet_behind f_after f_broken_ones f_least_left f_RowCaller_call f_PaperCaller_call f_Caller_call f_RowRoad_loses f_PaperRoad_loses f_Road_loses f_play f_RowCaller___init__ f_PaperCaller___init__ f_RowRoad___init__ f_PaperRoad___init__ f_walked f_law_cell_at f_law_hall f_law_rows f_law_papers f_law_players f_law C_Caller C_Road C_RowCaller C_RowRoad C_PaperCaller C_PaperRoad) (F : FunD K "after" "after" s_after f_after fd) (G_left_behind : FnOk P w K mg base CX0 3 f_left_behind fd_left_behind ["hall", "standing", "who", "lost"] (sp_left_behind K)) (B_left_behind : Binds K fd_left_behind ["hall", "standing", "who", "lost"] []) (G_quiet_behind : FnOk P w K mg base CX0 1 f_quiet_behind fd_quiet_behind ["hall", "standing", "lost"] (sp_quiet_behind K)) (B_quiet_behind : Binds K fd_quiet_behind ["hall", "standing", "lost"] []) : FnOk P w K mg base CX0 4 f_after fd ["hall", "standing", "who", "lost"] (sp_after K) := by
  refine F.ok sc_after (fun vs H Q E h => ?_) (fun cdv A outer s H vs Q E hr h => ?_)
  · rcases h with ⟨a, b, ws, ls, calm, n, who, lost, rfl, ha, hb, hw, hl, h8, hm, q1, q2⟩ <;> rfl
  · obtain ⟨a, b, ws, ls, calm, n, who, lost, rfl, ha, hb, hw, hl, h8, hm, q1, q2⟩ := h
    refine ⟨_, (pss_cons (ps_set (i := 4) sc_after.nd rfl (Or.inl rfl) (pe_call G_left_behind (hr.mono (by decide)) rfl T.m_left_behind T.k_left_behind B_left_behind .nil pass0 (pa_cons (pv 0) (pa_cons (pv 1) (pa_cons (pv 2) (pa_cons (pv 3) pa_nil)))))) (pss_cons (ps_if (pt_cmpR (op_inK K) pe_int (pv 4) rfl) (pss_one (ps_ret pe_non)) pss_nil) (pss_one (ps_ret (pe_tup (pa_cons (pe_callTy call_tuple_of (by rfl) T.n_tuple boot_tuple (pa_cons (pv 4) pa_nil)) (pa_cons (pe_call G_quiet_behind (hr.mono (by decide)) rfl T.m_quiet_behind T.k_quiet_behind B_quiet_behind .nil pass0 (pa_cons (pv 0) (pa_cons (pv 1) (pa_cons (pv 3) pa_nil)))) pa_nil))))))), ?_⟩
    refine ⟨_, rfl, _, rfl, _, rfl, _, rfl, a, b, ws, ls, calm, n, who, lost, rfl, ha, hb, hw, hl, h8, hm, fun l H1 hl0 s1 hl1 => ?_⟩
    refine ⟨_, rfl, l, _, rfl, .inl (SqL.of hl1), rfl, flat_ints _, _, rfl, ?_⟩
    rw [inV_ints]
    refine ite2 (fun h0 => ?_) (fun h0 => ?_)
    · exact q1 (by simpa using h0) H1 s1
    · refine ⟨_, rfl, l, _, rfl, .inl ⟨SqL.of hl1, fun t ht => ?_⟩⟩
      have s2 : Same H (upd H1 t (.tup ((leftB ws ls who lost).map V.int))) := s1.new (s1.free ht)
      refine ⟨_, rfl, _, rfl, _, rfl, a, b, ws, ls, calm, n, lost, rfl, ha.same s2, hb.same s2, hm, lenOk, fun p hp => ?_⟩
      refine q2 (by simpa using h0) p _ (s2.new (s2.free hp)) ⟨t, upd_same, ?_⟩
      rw [upd_ne (fun e => by rw [← e, upd_same] at hp; cases hp), upd_same]
/-! ### broken_ones -/
def sp_broken_ones (K : PySem.W.Frag) : Sp := fun vs H Q _ => ∃ (a b : Addr) (ws ls : List Int) (calm : Option Int) (q : Int) (who : Nat) (lost : Bool), vs = [.ref a, .ref b, .int who, .bl lost] ∧ HallAt H a ws calm ∧ StAt H b ls q ∧ who < ws.length ∧ ls.length = ws.length ∧ ws.length ≤ 8 ∧ MayB calm q lost ∧
  ∀ (l : Addr) (H' : Hp), H l = none → Same H H' → H' l = some (.lst ((brokeB (leftB ws ls who lost) ws.length).map V.int)) → Q (.ref l) H'
theorem ok_broken_ones {fd fd_left_behind : FuncData} (T : Txt K mg f_beginning f_may_lose f_is_listener f_refuse_wrong_turn f_left_behind f_quiet_behind f_after f_broken_ones f_least_left f_RowCaller_call f_PaperCaller_call f_Caller_call f_RowRoad_loses f_PaperRoad_loses f_Road_loses f_play f_RowCaller___init__ f_PaperCaller___init__ f_RowRoad___init__ f_PaperRoad___init__ f_walked f_law_cell_at f_law_hall f_law_rows f_law_papers f_law_players f_law C_Caller C_Road C_RowCaller C_RowRoad C_PaperCaller C_PaperRoad) (F : FunD K "broken_ones" "broken_ones" s_broken_ones f_broken_ones fd) (G_left_behind : FnOk P w K mg base CX0 3 f_left_behind fd_left_behind ["hall", "standing", "who", "lost"] (sp_left_behind K)) (B_left_behind : Binds K fd_left_behind ["hall", "standing", "who", "lost"] []) : FnOk P w K mg base CX0 4 f_broken_ones fd ["hall", "standing", "who", "lost"] (sp_broken_ones K) := by
  refine F.ok sc_broken_ones (fun vs H Q E h => ?_) (fun cdv A outer s H vs Q E hr h => ?_)
  · rcases h with ⟨a, b, ws, ls, calm, n, who, lost, rfl, ha, hb, hw, hl, h8, hm, q⟩ <;> rfl
  · obtain ⟨a, b, ws, ls, calm, n, who, lost, rfl, ha, hb, hw, hl, h8, hm, q⟩ := h
    refine ⟨_, (pss_cons (ps_set (i := 4) sc_broken_ones.nd rfl (Or.inl rfl) (pe_call G_left_behind (hr.mono (by decide)) rfl T.m_left_behind T.k_left_behind B_left_behind .nil pass0 (pa_cons (pv 0) (pa_cons (pv 1) (pa_cons (pv 2) (pa_cons (pv 3) pa_nil)))))) (pss_one (ps_ret (pe_comp (pi_enumx (by rfl) T.n_enumerate (pa_cons (pv 4) pa_nil)) _ rfl cs_broken_ones_0 rfl rfl (fun _ _ _ _ => (pg_tupK K (n := 2) rfl (pgs_cons (pg_name (i := 0) nd_broken_ones_0 rfl (Or.inl rfl)) (pgs_cons (pg_name (i := 1) nd_broken_ones_0 rfl (Or.inl rfl)) pgs_nil)))) (fun _ _ _ _ => (pts_one (pt_cmpR op_eq (pv 1) pe_int (nomark _)))) (fun _ _ _ _ => (pv 0)))))), ?_⟩
    refine ⟨_, rfl, _, rfl, _, rfl, _, rfl, a, b, ws, ls, calm, n, who, lost, rfl, ha, hb, hw, hl, h8, hm, fun l H1 hl0 s1 hl1 => ?_⟩
    have hL : (leftB ws ls who lost).length = ws.length := by rw [leftB_length]; exact hl
    generalize leftB ws ls who lost = L at hl1 hL ⊢ q
    refine ⟨_, rfl, false, l, rfl, ⟨_, SqL.of hl1⟩, fun D hD => ?_⟩
    refine comp_enumx (K := K) (b1 := false) (c := l) (xs := L.map V.int) (fun i ys H' => ys = (brokeB L i).map V.int ∧ H' D = some (.lst ys) ∧ Same H1 H') ⟨rfl, upd_same, Same.upd hD⟩ (fun i ys H' _ ⟨_, _, s⟩ => SqL.of (s _ _ hl1)) ?_ ?_ ?_ ?_
    · rintro i x T ys H2 hx ⟨rfl, hD2, s2⟩ hT
      rw [List.getElem?_map] at hx
      obtain ⟨y, hy, rfl⟩ := Option.map_eq_some_iff.mp hx
      have hi := (List.getElem?_eq_some_iff.mp hy).1
      have ey : L.getD i 0 = y := by rw [List.getD_eq_getElem?_getD, hy]; rfl
      have s3 : Same H2 (upd H2 T (.tup [V.int (i : Nat), V.int y])) := Same.upd hT
      have hbl := brokeB_length L i
      refine ⟨_, rfl, rfl, _, rfl, ?_⟩
      refine ite2 (fun h0 => ?_) (fun h0 => ?_)
      · have h1 : y = 0 := by simpa using h0
        refine ⟨_, rfl, s3 _ _ hD2, small1000 (by rw [List.length_map]; omega), ?_, upd_same, (s2.trans s3).new hD⟩
        rw [brokeB_succ, ey, if_pos h1, List.map_append]
        rfl
      · have h1 : ¬ y = 0 := by simpa using h0
        refine ⟨?_, s3 _ _ hD2, s2.trans s3⟩
        rw [brokeB_succ, ey, if_neg h1, List.append_nil]
    · rintro σ H' Q1 Q2 hQ ⟨v, e1, e2, c, e3, z⟩
      exact ⟨v, e1, e2, c, e3, hQ _ _ z⟩
    · rintro σ H' Q1 Q2 hQ ⟨v, e1, z⟩
      exact ⟨v, e1, hQ _ _ z⟩
    · rintro ys H2 ⟨rfl, hD2, s2⟩
      rw [List.length_map, hL] at hD2
      exact q D H2 (s1.free hD) (s1.trans s2) hD2
/-! ### least_left -/
def sp_least_left (K : PySem.W.Frag) : Sp := fun vs H Q _ => ∃ (b : Addr) (ls : List Int) (q : Int), vs = [.ref b] ∧ StAt H b ls q ∧ 0 < ls.length ∧ ∀ j : Nat, IsLeast ls j → Q (.int j) H
theorem ok_least_left {fd  : FuncData} (T : Txt K mg f_beginning f_may_lose f_is_listener f_refuse_wrong_turn f_left_behind f_quiet_behind f_after f_broken_ones f_least_left f_RowCaller_call f_PaperCaller_call f_Caller_call f_RowRoad_loses f_PaperRoad_loses f_Road_loses f_play f_RowCaller___init__ f_PaperCaller___init__ f_RowRoad___init__ f_PaperRoad___init__ f_walked f_law_cell_at f_law_hall f_law_rows f_law_papers f_law_players f_law C_Caller C_Road C_RowCaller C_RowRoad C_PaperCaller C_PaperRoad) (F : Fun K "least_left" "least_left" s_least_left f_least_left fd) : FnOk P w K mg base CX0 1 f_least_left fd ["standing"] (sp_least_left K) := by
  refine F.ok sc_least_left (fun vs H Q E h => ?_) (fun cdv A outer s H vs Q E hr h => ?_)
  · rcases h with ⟨b, ls, n, rfl, ⟨u, hb, hu⟩, hl0, q⟩ <;> rfl
  · obtain ⟨b, ls, n, rfl, ⟨u, hb, hu⟩, hl0, q⟩ := h
    refine ⟨_, (pss_one (ps_ret (pe_bm PySem.F.plainAttrs_tuple PySem.F.slot_tuple_index PySem.F.type_tuple_index mt_indexT (pe_ix (ix_sq K) (pv 0) pe_int (fun _ _ => rfl)) (pa_cons (pe_callB (call_minS K rfl) (by rfl) T.n_min boot_min (pa_cons (pe_ix (ix_sq K) (pv 0) pe_int (fun _ _ => rfl)) pa_nil)) pa_nil)))), ?_⟩
    refine ⟨_, rfl, b, _, _, _, rfl, rfl, .inr (SqT.of hb), rfl, .inr (.inl ⟨rfl, .inr ⟨_, hu⟩⟩), _, rfl, b, _, _, _, rfl, rfl, .inr (SqT.of hb), rfl, u, ls, rfl, .inr (SqT.of hu), hl0, fun m hm hmin => ?_⟩
    obtain ⟨j, h1, h2⟩ := first_at hm
    exact ⟨u, ls, m, j, rfl, rfl, SqT.of hu, h1, h2, q j (least_of hmin h1 h2)⟩
/-! ### RowCaller.call -/
def sp_RowCaller_call (K : PySem.W.Frag) (C_Caller C_Road C_RowCaller C_RowRoad C_PaperCaller C_PaperRoad : Addr) : Sp := fun vs H Q _ => ∃ (x dx r b : Addr) (us : List Int) (k : Nat) (hv : V) (ls : List Int) (q : Int), vs = [.ref x, hv, .ref b] ∧ H x = some (.ins C_RowCaller dx (RowF r k)) ∧ H r = some (.lst (us.map V.int)) ∧ StAt H b ls q ∧ 0 < ls.length ∧
  ∀ v : Int, CallIs us k ls v → Q (.int v) (upd H x (.ins C_RowCaller dx (RowF r (k + 1))))
theorem ok_RowCaller_call {fd fd_least_left : FuncData} (T : Txt K mg f_beginning f_may_lose f_is_listener f_refuse_wrong_turn f_left_behind f_quiet_behind f_after f_broken_ones f_least_left f_RowCaller_call f_PaperCaller_call f_Caller_call f_RowRoad_loses f_PaperRoad_loses f_Road_loses f_play f_RowCaller___init__ f_PaperCaller___init__ f_RowRoad___init__ f_PaperRoad___init__ f_walked f_law_cell_at f_law_hall f_law_rows f_law_papers f_law_players f_law C_Caller C_Road C_RowCaller C_RowRoad C_PaperCaller C_PaperRoad) (F : Fun K "call" "RowCaller.call" s_RowCaller_call f_RowCaller_call fd) (G_least_left : FnOk P w K mg base CX0 1 f_least_left fd_least_left ["standing"] (sp_least_left K)) (B_least_left : Binds K fd_least_left ["standing"] []) : FnOk P w K mg base CX0 2 f_RowCaller_call fd ["self", "hall", "standing"] (sp_RowCaller_call K C_Caller C_Road C_RowCaller C_RowRoad C_PaperCaller C_PaperRoad) := by
  refine F.ok sc_RowCaller_call (fun vs H Q E h => ?_) (fun cdv A outer s H vs Q E hr h => ?_)
  · rcases h with ⟨x, dx, r, b, us, k, hv, ls, n, rfl, hx, hr0, hb, hl0, q⟩ <;> rfl
  · obtain ⟨x, dx, r, b, us, k, hv, ls, n, rfl, hx, hr0, hb, hl0, q⟩ := h
    refine ⟨_, (pss_cons (ps_set (i := 3) sc_RowCaller_call.nd rfl (Or.inl rfl) (pe_fld (pv 0) rfl)) (pss_cons (ps_fld (pv 0) (pe_op op_add (pv 3) pe_int) rfl) (pss_cons (ps_if (pt_cmpR op_lt (pv 3) (pe_callB (call_lenK K) (by rfl) T.n_len PySem.boot_len (pa_cons (pe_fld (pv 0) rfl) pa_nil)) (nomark _)) (pss_one (ps_ret (pe_ix (ix_sq K) (pe_fld (pv 0) rfl) (pv 3) (fun _ _ => rfl)))) pss_nil) (pss_one (ps_ret (pe_call G_least_left (hr.mono (by decide)) rfl T.m_least_left T.k_least_left B_least_left .nil pass0 (pa_cons (pv 2) pa_nil))))))), ?_⟩
    have s1 : Still H (upd H x (.ins C_RowCaller dx (RowF r (k + 1)))) := Still.ins hx
    have e1 : (upd H x (.ins C_RowCaller dx (RowF r (k + 1)))) x = some (.ins C_RowCaller dx (RowF r (k + 1))) := upd_same
    refine ⟨_, rfl, x, _, dx, _, .int k, rfl, hx, T.cl_RowCaller, T.na_RowCaller_asked, rfl, ?_⟩
    refine ⟨_, rfl, _, _, rfl, rfl, _, rfl, x, _, dx, _, rfl, hx, T.cl_RowCaller, T.na_RowCaller_asked, (by show 2 < 1000; decide), ?_⟩
    rw [putF_more r k ((k : Int) + 1) (by omega)]
    generalize upd H x (.ins C_RowCaller dx (RowF r (k + 1))) = H1 at s1 e1 q ⊢
    have er := s1.lst hr0
    refine ⟨_, rfl, _, rfl, x, _, dx, _, .ref r, rfl, e1, T.cl_RowCaller, T.na_RowCaller_row, rfl, r, _, rfl, .inl (SqL.of er), _, _, rfl, rfl, _, rfl, ?_⟩
    refine ite2 (fun h0 => ?_) (fun h0 => ?_)
    · have hk : k < us.length := by simpa using h0
      exact ⟨_, rfl, x, _, dx, _, .ref r, rfl, e1, T.cl_RowCaller, T.na_RowCaller_row, rfl, _, rfl, r, _, _, _, rfl, rfl, .inl (SqL.of er), getD_at hk, q _ (CallIs.at hk)⟩
    have hk : us.length ≤ k := by
      have : ¬ ((k : Int) < us.length) := by simpa using h0
      omega
    exact ⟨_, rfl, b, ls, n, rfl, hb.still s1, hl0, fun j hj => q _ (CallIs.least hk hj)⟩
/-! ### PaperCaller.call -/
def sp_PaperCaller_call (K : PySem.W.Frag) (C_Caller C_Road C_RowCaller C_RowRoad C_PaperCaller C_PaperRoad : Addr) : Sp := fun vs H Q _ => ∃ (x dx d b : Addr) (hv : V) (kvs : List ((List Int × Int) × V)) (ls : List Int) (q : Int), vs = [.ref x, hv, .ref b] ∧ H x = some (.ins C_PaperCaller dx [("paper", .ref d)]) ∧ H d = some (.dT kvs) ∧ StAt H b ls q ∧ 0 < ls.length ∧ ∀ v, CallV kvs (ls, q) v → Q v H
theorem ok_PaperCaller_call {fd fd_least_left : FuncData} (T : Txt K mg f_beginning f_may_lose f_is_listener f_refuse_wrong_turn f_left_behind f_quiet_behind f_after f_broken_ones f_least_left f_RowCaller_call f_PaperCaller_call f_Caller_call f_RowRoad_loses f_PaperRoad_loses f_Road_loses f_play f_RowCaller___init__ f_PaperCaller___init__ f_RowRoad___init__ f_PaperRoad___init__ f_walked f_law_cell_at f_law_hall f_law_rows f_law_papers f_law_players f_law C_Caller C_Road C_RowCaller C_RowRoad C_PaperCaller C_PaperRoad) (F : Fun K "call" "PaperCaller.call" s_PaperCaller_call f_PaperCaller_call fd) (G_least_left : FnOk P w K mg base CX0 1 f_least_left fd_least_left ["standing"] (sp_least_left K)) (B_least_left : Binds K fd_least_left ["standing"] []) : FnOk P w K mg base CX0 2 f_PaperCaller_call fd ["self", "hall", "standing"] (sp_PaperCaller_call K C_Caller C_Road C_RowCaller C_RowRoad C_PaperCaller C_PaperRoad) := by
  refine F.ok sc_PaperCaller_call (fun vs H Q E h => ?_) (fun cdv A outer s H vs Q E hr h => ?_)
  · rcases h with ⟨x, dx, d, b, hv, kvs, ls, n, rfl, hx, hd, hb, hl0, q⟩ <;> rfl
  · obtain ⟨x, dx, d, b, hv, kvs, ls, n, rfl, hx, hd, hb, hl0, q⟩ := h
    refine ⟨_, (pss_cons (ps_if (pt_cmp (pc_din (hu20 hr) (pv 2) (pe_fld (pv 0) rfl)) rfl) (pss_one (ps_ret (pe_dget (hu20 hr) (pe_fld (pv 0) rfl) (pv 2) (fun _ _ => rfl)))) pss_nil) (pss_one (ps_ret (pe_call G_least_left (hr.mono (by decide)) rfl T.m_least_left T.k_least_left B_least_left .nil pass0 (pa_cons (pv 2) pa_nil))))), ?_⟩
    refine ⟨_, rfl, _, rfl, x, _, dx, _, .ref d, rfl, hx, T.cl_PaperCaller, T.na_PaperCaller_paper, rfl, d, _, rfl, DGet.t hd (StH.of hb), _, rfl, ?_⟩
    cases hv0 : valV kvs (ls, n) with
    | none =>
      refine ite_f rfl ?_
      exact ⟨_, rfl, b, ls, n, rfl, hb, hl0, fun j hj => q _ (.inr ⟨hv0, j, rfl, hj⟩)⟩
    | some v =>
      refine ite_t rfl ?_
      refine ⟨_, rfl, x, _, dx, _, .ref d, rfl, hx, T.cl_PaperCaller, T.na_PaperCaller_paper, rfl, _, rfl, d, v, rfl, ?_, q v (.inl hv0)⟩
      rw [← hv0]
      exact DGet.t hd (StH.of hb)
/-! ### Caller.call -/
def sp_Caller_call (K : PySem.W.Frag) (C_Caller C_Road C_RowCaller C_RowRoad C_PaperCaller C_PaperRoad : Addr) : Sp := fun vs H Q _ => ∃ (v0 v1 : V) (b : Addr) (ls : List Int) (q : Int), vs = [v0, v1, .ref b] ∧ StAt H b ls q ∧ 0 < ls.length ∧ ∀ j : Nat, IsLeast ls j → Q (.int j) H
theorem ok_Caller_call {fd fd_least_left : FuncData} (T : Txt K mg f_beginning f_may_lose f_is_listener f_refuse_wrong_turn f_left_behind f_quiet_behind f_after f_broken_ones f_least_left f_RowCaller_call f_PaperCaller_call f_Caller_call f_RowRoad_loses f_PaperRoad_loses f_Road_loses f_play f_RowCaller___init__ f_PaperCaller___init__ f_RowRoad___init__ f_PaperRoad___init__ f_walked f_law_cell_at f_law_hall f_law_rows f_law_papers f_law_players f_law C_Caller C_Road C_RowCaller C_RowRoad C_PaperCaller C_PaperRoad) (F : Fun K "call" "Caller.call" s_Caller_call f_Caller_call fd) (G_least_left : FnOk P w K mg base CX0 1 f_least_left fd_least_left ["standing"] (sp_least_left K)) (B_least_left : Binds K fd_least_left ["standing"] []) : FnOk P w K mg base CX0 2 f_Caller_call fd ["self", "hall", "standing"] (sp_Caller_call K C_Caller C_Road C_RowCaller C_RowRoad C_PaperCaller C_PaperRoad) := by
  refine F.ok sc_Caller_call (fun vs H Q E h => ?_) (fun cdv A outer s H vs Q E hr h => ?_)
  · rcases h with ⟨v0, v1, b, ls, n, rfl, hb, hl0, q⟩ <;> rfl
  · obtain ⟨v0, v1, b, ls, n, rfl, hb, hl0, q⟩ := h
    refine ⟨_, (pss_one (ps_ret (pe_call G_least_left (hr.mono (by decide)) rfl T.m_least_left T.k_least_left B_least_left .nil pass0 (pa_cons (pv 2) pa_nil)))), ?_⟩
    exact ⟨_, rfl, b, ls, n, rfl, hb, hl0, q⟩
/-! ### RowRoad.loses -/
def sp_RowRoad_loses (K : PySem.W.Frag) (C_Caller C_Road C_RowCaller C_RowRoad C_PaperCaller C_PaperRoad : Addr) : Sp := fun vs H Q _ => ∃ (x dx r a b : Addr) (us : List Bool) (k : Nat) (wv : V) (ws ls : List Int) (calm : Option Int) (q : Int), vs = [.ref x, .ref a, .ref b, wv] ∧ H x = some (.ins C_RowRoad dx (RowF r k)) ∧ H r = some (.lst (us.map V.bl)) ∧ HallAt H a ws calm ∧ StAt H b ls q ∧
  Q (.bl (decide (k < us.length) && us.getD k false && (!decide (calm = none) && decide (q = 0)))) (upd H x (.ins C_RowRoad dx (RowF r (k + 1))))
theorem ok_RowRoad_loses {fd fd_may_lose : FuncData} (T : Txt K mg f_beginning f_may_lose f_is_listener f_refuse_wrong_turn f_left_behind f_quiet_behind f_after f_broken_ones f_least_left f_RowCaller_call f_PaperCaller_call f_Caller_call f_RowRoad_loses f_PaperRoad_loses f_Road_loses f_play f_RowCaller___init__ f_PaperCaller___init__ f_RowRoad___init__ f_PaperRoad___init__ f_walked f_law_cell_at f_law_hall f_law_rows f_law_papers f_law_players f_law C_Caller C_Road C_RowCaller C_RowRoad C_PaperCaller C_PaperRoad) (F : Fun K "loses" "RowRoad.loses" s_RowRoad_loses f_RowRoad_loses fd) (G_may_lose : FnOk P w K mg base CX0 1 f_may_lose fd_may_lose ["hall", "standing"] (sp_may_lose K)) (B_may_lose : Binds K fd_may_lose ["hall", "standing"] []) : FnOk P w K mg base CX0 2 f_RowRoad_loses fd ["self", "hall", "standing", "who"] (sp_RowRoad_loses K C_Caller C_Road C_RowCaller C_RowRoad C_PaperCaller C_PaperRoad) := by
  refine F.ok sc_RowRoad_loses (fun vs H Q E h => ?_) (fun cdv A outer s H vs Q E hr h => ?_)
  · rcases h with ⟨x, dx, r, a, b, us, k, wv, ws, ls, calm, n, rfl, hx, hr0, ha, hb, q⟩ <;> rfl
  · obtain ⟨x, dx, r, a, b, us, k, wv, ws, ls, calm, n, rfl, hx, hr0, ha, hb, q⟩ := h
    refine ⟨_, (pss_cons (ps_set (i := 4) sc_RowRoad_loses.nd rfl (Or.inl rfl) (pe_fld (pv 0) rfl)) (pss_cons (ps_fld (pv 0) (pe_op op_add (pv 4) pe_int) rfl) (pss_one (ps_ret (pe_andX (pe_cmpR op_lt (pv 4) (pe_callB (call_lenK K) (by rfl) T.n_len PySem.boot_len (pa_cons (pe_fld (pv 0) rfl) pa_nil)) (nomark _)) (pe_andX (pe_ix (ix_sq K) (pe_fld (pv 0) rfl) (pv 4) (fun _ _ => rfl)) (pe_one (pe_call G_may_lose (hr.mono (by decide)) rfl T.m_may_lose T.k_may_lose B_may_lose .nil pass0 (pa_cons (pv 1) (pa_cons (pv 2) pa_nil)))))))))), ?_⟩
    have s1 : Still H (upd H x (.ins C_RowRoad dx (RowF r (k + 1)))) := Still.ins hx
    have e1 : (upd H x (.ins C_RowRoad dx (RowF r (k + 1)))) x = some (.ins C_RowRoad dx (RowF r (k + 1))) := upd_same
    refine ⟨_, rfl, x, _, dx, _, .int k, rfl, hx, T.cl_RowRoad, T.na_RowRoad_asked, rfl, ?_⟩
    refine ⟨_, rfl, _, _, rfl, rfl, _, rfl, x, _, dx, _, rfl, hx, T.cl_RowRoad, T.na_RowRoad_asked, (by show 2 < 1000; decide), ?_⟩
    rw [putF_more r k ((k : Int) + 1) (by omega)]
    generalize upd H x (.ins C_RowRoad dx (RowF r (k + 1))) = H1 at s1 e1 q ⊢
    have er := s1.lst hr0
    refine ⟨_, rfl, _, rfl, x, _, dx, _, .ref r, rfl, e1, T.cl_RowRoad, T.na_RowRoad_row, rfl, r, _, rfl, .inl (SqL.of er), _, _, rfl, rfl, _, (us.getD k false && (!decide (calm = none) && decide (n = 0))), rfl, fun h0 Q1 z1 => ?_, ?_⟩
    · have hk : k < us.length := by simpa using h0
      exact ⟨_, rfl, x, _, dx, _, .ref r, rfl, e1, T.cl_RowRoad, T.na_RowRoad_row, rfl, _, rfl, r, _, _, _, rfl, rfl, .inl (SqL.of er), bl_at hk, _, (!decide (calm = none) && decide (n = 0)), rfl, fun _ Q2 z2 => ⟨_, rfl, _, rfl, a, b, ws, ls, calm, n, rfl, ha.still s1, hb.still s1, z2⟩, z1⟩
    · have e : decide ((k : Int) < ((us.map V.bl).length : Int)) = decide (k < us.length) := by simp
      show Q (.bl (decide ((k : Int) < ((us.map V.bl).length : Int)) && _)) H1
      rw [e, ← Bool.and_assoc]
      exact q
/-! ### PaperRoad.loses -/
def sp_PaperRoad_loses (K : PySem.W.Frag) (C_Caller C_Road C_RowCaller C_RowRoad C_PaperCaller C_PaperRoad : Addr) : Sp := fun vs H Q _ => ∃ (x dx d a b : Addr) (kvs : List ((List Int × Int) × V)) (ws ls : List Int) (calm : Option Int) (q : Int) (who : Nat), vs = [.ref x, .ref a, .ref b, .int who] ∧ H x = some (.ins C_PaperRoad dx [("paper", .ref d)]) ∧ H d = some (.dT kvs) ∧ HallAt H a ws calm ∧ StAt H b ls q ∧
  (valV kvs (ls, q) = none → Q (.bl false) H) ∧ (∀ v, valV kvs (ls, q) = some v → ∃ (t : Addr) (bs : List Bool), v = .ref t ∧ H t = some (.tup (bs.map V.bl)) ∧ who < bs.length ∧ Q (.bl ((!decide (calm = none) && decide (q = 0)) && bs.getD who false)) H)
theorem ok_PaperRoad_loses {fd fd_may_lose : FuncData} (T : Txt K mg f_beginning f_may_lose f_is_listener f_refuse_wrong_turn f_left_behind f_quiet_behind f_after f_broken_ones f_least_left f_RowCaller_call f_PaperCaller_call f_Caller_call f_RowRoad_loses f_PaperRoad_loses f_Road_loses f_play f_RowCaller___init__ f_PaperCaller___init__ f_RowRoad___init__ f_PaperRoad___init__ f_walked f_law_cell_at f_law_hall f_law_rows f_law_papers f_law_players f_law C_Caller C_Road C_RowCaller C_RowRoad C_PaperCaller C_PaperRoad) (F : Fun K "loses" "PaperRoad.loses" s_PaperRoad_loses f_PaperRoad_loses fd) (G_may_lose : FnOk P w K mg base CX0 1 f_may_lose fd_may_lose ["hall", "standing"] (sp_may_lose K)) (B_may_lose : Binds K fd_may_lose ["hall", "standing"] []) : FnOk P w K mg base CX0 2 f_PaperRoad_loses fd ["self", "hall", "standing", "who"] (sp_PaperRoad_loses K C_Caller C_Road C_RowCaller C_RowRoad C_PaperCaller C_PaperRoad) := by
  refine F.ok sc_PaperRoad_loses (fun vs H Q E h => ?_) (fun cdv A outer s H vs Q E hr h => ?_)
  · rcases h with ⟨x, dx, d, a, b, kvs, ws, ls, calm, n, who, rfl, hx, hd, ha, hb, q1, q2⟩ <;> rfl
  · obtain ⟨x, dx, d, a, b, kvs, ws, ls, calm, n, who, rfl, hx, hd, ha, hb, q1, q2⟩ := h
    refine ⟨_, (pss_one (ps_ret (pe_andX (pe_call G_may_lose (hr.mono (by decide)) rfl T.m_may_lose T.k_may_lose B_may_lose .nil pass0 (pa_cons (pv 1) (pa_cons (pv 2) pa_nil))) (pe_andX (pe_cmp (pc_din (hu20 hr) (pv 2) (pe_fld (pv 0) rfl)) rfl) (pe_one (pe_ix (ix_sq K) (pe_dget (hu20 hr) (pe_fld (pv 0) rfl) (pv 2) (fun _ _ => rfl)) (pv 3) (fun _ _ => rfl))))))), ?_⟩
    refine ⟨_, rfl, _, rfl, a, b, ws, ls, calm, n, rfl, ha, hb, ?_⟩
    cases hv0 : valV kvs (ls, n) with
    | none =>
      refine ⟨_, false, rfl, fun _ Q' z => ⟨_, rfl, _, rfl, x, _, dx, _, .ref d, rfl, hx, T.cl_PaperRoad, T.na_PaperRoad_paper, rfl, d, _, rfl, DGet.t hd (StH.of hb), _, false, rfl, ?_, ?_⟩, ?_⟩
      · intro h
        rw [hv0] at h
        exact absurd h (by decide)
      · rw [hv0]
        exact z
      · rw [Bool.and_false]
        exact q1 hv0
    | some v =>
      obtain ⟨t, bs, rfl, ht, hw, q3⟩ := q2 v hv0
      refine ⟨_, bs.getD who false, rfl, fun _ Q' z => ⟨_, rfl, _, rfl, x, _, dx, _, .ref d, rfl, hx, T.cl_PaperRoad, T.na_PaperRoad_paper, rfl, d, _, rfl, DGet.t hd (StH.of hb), _, bs.getD who false, rfl, fun _ Q2 z2 => ⟨_, rfl, x, _, dx, _, .ref d, rfl, hx, T.cl_PaperRoad, T.na_PaperRoad_paper, rfl, _, rfl, d, .ref t, rfl, ?_, _, rfl, t, _, _, _, rfl, rfl, .inr (SqT.of ht), bl_at hw, z2⟩, ?_⟩, q3⟩
      · rw [← hv0]
        exact DGet.t hd (StH.of hb)
      · rw [hv0]
        exact z
/-! ### Road.loses -/
def sp_Road_loses (K : PySem.W.Frag) (C_Caller C_Road C_RowCaller C_RowRoad C_PaperCaller C_PaperRoad : Addr) : Sp := fun vs H Q _ => ∃ (v0 v1 v2 v3 : V), vs = [v0, v1, v2, v3] ∧ Q (.bl false) H
theorem ok_Road_loses {fd  : FuncData} (T : Txt K mg f_beginning f_may_lose f_is_listener f_refuse_wrong_turn f_left_behind f_quiet_behind f_after f_broken_ones f_least_left f_RowCaller_call f_PaperCaller_call f_Caller_call f_RowRoad_loses f_PaperRoad_loses f_Road_loses f_play f_RowCaller___init__ f_PaperCaller___init__ f_RowRoad___init__ f_PaperRoad___init__ f_walked f_law_cell_at f_law_hall f_law_rows f_law_papers f_law_players f_law C_Caller C_Road C_RowCaller C_RowRoad C_PaperCaller C_PaperRoad) (F : Fun K "loses" "Road.loses" s_Road_loses f_Road_loses fd) : FnOk P w K mg base CX0 1 f_Road_loses fd ["self", "hall", "standing", "who"] (sp_Road_loses K C_Caller C_Road C_RowCaller C_RowRoad C_PaperCaller C_PaperRoad) := by
  refine F.ok sc_Road_loses (fun vs H Q E h => ?_) (fun cdv A outer s H vs Q E hr h => ?_)
  · rcases h with ⟨v0, v1, v2, v3, rfl, q⟩ <;> rfl
  · obtain ⟨v0, v1, v2, v3, rfl, q⟩ := h
    refine ⟨_, (pss_one (ps_ret pe_bl)), ?_⟩
    exact q
/-! ### play -/
def sp_play (K : PySem.W.Frag) (C_Caller C_Road C_RowCaller C_RowRoad C_PaperCaller C_PaperRoad : Addr) : Sp := fun vs H Q _ => ∃ (h c g Cc dc Cg dg : Addr) (fc fg : List (Str × V)) (ws : List Int) (cm : Option Int) (T : Int) (N : Nat), vs = [.ref h, .ref c, .ref g, .int T] ∧ T = (N : Int) ∧ HallAt H h ws cm ∧ c ≠ g ∧ H c = some (.ins Cc dc fc) ∧ CalF C_Caller C_RowCaller C_PaperCaller ws.length H Cc fc ∧ H g = some (.ins Cg dg fg) ∧ RoaF C_Road C_RowRoad C_PaperRoad ws.length H Cg fg ∧
  0 < ws.length ∧ ws.length ≤ 8 ∧ (∀ x ∈ ws, 1 ≤ x) ∧ N ≤ 400 ∧
  ∀ (p l b : Addr) (us : List V) (rs : List PR) (bs : List Int) (H' : Hp), (∀ xs, H l ≠ some (.lst xs)) → (∀ xs, H b ≠ some (.lst xs)) → l ≠ b → Still H H' →
    H' p = some (.tup [.ref l, .ref b]) → H' l = some (.lst us) → AllAt (RowV H') rs us → H' b = some (.lst (bs.map V.int)) → PlayOk ws cm N rs bs → Q (.ref p) H'
theorem ok_play {fd fd_beginning fd_RowCaller_call fd_PaperCaller_call fd_Caller_call fd_RowRoad_loses fd_PaperRoad_loses fd_Road_loses fd_broken_ones fd_after : FuncData} (T : Txt K mg f_beginning f_may_lose f_is_listener f_refuse_wrong_turn f_left_behind f_quiet_behind f_after f_broken_ones f_least_left f_RowCaller_call f_PaperCaller_call f_Caller_call f_RowRoad_loses f_PaperRoad_loses f_Road_loses f_play f_RowCaller___init__ f_PaperCaller___init__ f_RowRoad___init__ f_PaperRoad___init__ f_walked f_law_cell_at f_law_hall f_law_rows f_law_papers f_law_players f_law C_Caller C_Road C_RowCaller C_RowRoad C_PaperCaller C_PaperRoad) (F : Fun K "play" "play" s_play f_play fd) (G_beginning : FnOk P w K mg base CX0 1 f_beginning fd_beginning ["hall"] (sp_beginning K)) (B_beginning : Binds K fd_beginning ["hall"] []) (G_RowCaller_call : FnOk P w K mg base CX0 2 f_RowCaller_call fd_RowCaller_call ["self", "hall", "standing"] (sp_RowCaller_call K C_Caller C_Road C_RowCaller C_RowRoad C_PaperCaller C_PaperRoad)) (B_RowCaller_call : Binds K fd_RowCaller_call ["self", "hall", "standing"] []) (G_PaperCaller_call : FnOk P w K mg base CX0 2 f_PaperCaller_call fd_PaperCaller_call ["self", "hall", "standing"] (sp_PaperCaller_call K C_Caller C_Road C_RowCaller C_RowRoad C_PaperCaller C_PaperRoad)) (B_PaperCaller_call : Binds K fd_PaperCaller_call ["self", "hall", "standing"] []) (G_Caller_call : FnOk P w K mg base CX0 2 f_Caller_call fd_Caller_call ["self", "hall", "standing"] (sp_Caller_call K C_Caller C_Road C_RowCaller C_RowRoad C_PaperCaller C_PaperRoad)) (B_Caller_call : Binds K fd_Caller_call ["self", "hall", "standing"] []) (G_RowRoad_loses : FnOk P w K mg base CX0 2 f_RowRoad_loses fd_RowRoad_loses ["self", "hall", "standing", "who"] (sp_RowRoad_loses K C_Caller C_Road C_RowCaller C_RowRoad C_PaperCaller C_PaperRoad)) (B_RowRoad_loses : Binds K fd_RowRoad_loses ["self", "hall", "standing", "who"] []) (G_PaperRoad_loses : FnOk P w K mg base CX0 2 f_PaperRoad_loses fd_PaperRoad_loses ["self", "hall", "standing", "who"] (sp_PaperRoad_loses K C_Caller C_Road C_RowCaller C_RowRoad C_PaperCaller C_PaperRoad)) (B_PaperRoad_loses : Binds K fd_PaperRoad_loses ["self", "hall", "standing", "who"] []) (G_Road_loses : FnOk P w K mg base CX0 1 f_Road_loses fd_Road_loses ["self", "hall", "standing", "who"] (sp_Road_loses K C_Caller C_Road C_RowCaller C_RowRoad C_PaperCaller C_PaperRoad)) (B_Road_loses : Binds K fd_Road_loses ["self", "hall", "standing", "who"] []) (G_broken_ones : FnOk P w K mg base CX0 4 f_broken_ones fd_broken_ones ["hall", "standing", "who", "lost"] (sp_broken_ones K)) (B_broken_ones : Binds K fd_broken_ones ["hall", "standing", "who", "lost"] []) (B_broken_ones_d : Binds K fd_broken_ones ["hall", "standing", "who", "lost"] [Value.bool false]) (G_after : FnOk P w K mg base CX0 4 f_after fd_after ["hall", "standing", "who", "lost"] (sp_after K)) (B_after : Binds K fd_after ["hall", "standing", "who", "lost"] []) (B_after_d : Binds K fd_after ["hall", "standing", "who", "lost"] [Value.bool false]) : FnOk P w K mg base CX0 5 f_play fd ["hall", "caller", "road", "turns"] (sp_play K C_Caller C_Road C_RowCaller C_RowRoad C_PaperCaller C_PaperRoad) := by
  refine F.ok sc_play (fun vs H Q E h => ?_) (fun cdv A outer s H vs Q E hr h => ?_)
  · rcases h with ⟨h, c, g, Cc, dc, Cg, dg, fc, fg, ws, cm, TT, N, rfl, rfl, hh, hcg, hc, hcf, hg, hgf, hw0, hw8, hw1, hN, q⟩ <;> rfl
  · obtain ⟨h, c, g, Cc, dc, Cg, dg, fc, fg, ws, cm, TT, N, rfl, rfl, hh, hcg, hc, hcf, hg, hgf, hw0, hw8, hw1, hN, q⟩ := h
    refine ⟨_, (pss_cons (ps_set (i := 4) sc_play.nd rfl (Or.inl rfl) (pe_lst pa_nil)) (pss_cons (ps_set (i := 5) sc_play.nd rfl (Or.inl rfl) (pe_call G_beginning (hr.mono (by decide)) rfl T.m_beginning T.k_beginning B_beginning .nil pass0 (pa_cons (pv 0) pa_nil))) (pss_cons (ps_while PassesOwn.never (pt_cmpR op_lt (pe_callB (call_lenK K) (by rfl) T.n_len PySem.boot_len (pa_cons (pv 4) pa_nil)) (pv 3) (nomark _)) (pss_cons (ps_set (i := 6) sc_play.nd rfl (Or.inl rfl) (pe_N (pe_either (pe_meth (pv 1) T.cl_RowCaller T.M_RowCaller_call G_RowCaller_call (hr.mono (by decide)) B_RowCaller_call .nil pass0 (pa_cons (pv 0) (pa_cons (pv 5) pa_nil))) (pe_either (pe_meth (pv 1) T.cl_PaperCaller T.M_PaperCaller_call G_PaperCaller_call (hr.mono (by decide)) B_PaperCaller_call .nil pass0 (pa_cons (pv 0) (pa_cons (pv 5) pa_nil))) (pe_meth (pv 1) T.cl_Caller T.M_Caller_call G_Caller_call (hr.mono (by decide)) B_Caller_call .nil pass0 (pa_cons (pv 0) (pa_cons (pv 5) pa_nil))))))) (pss_cons (ps_set (i := 7) sc_play.nd rfl (Or.inl rfl) (pe_N (pe_either (pe_meth (pv 2) T.cl_RowRoad T.M_RowRoad_loses G_RowRoad_loses (hr.mono (by decide)) B_RowRoad_loses .nil pass0 (pa_cons (pv 0) (pa_cons (pv 5) (pa_cons (pv 6) pa_nil)))) (pe_either (pe_meth (pv 2) T.cl_PaperRoad T.M_PaperRoad_loses G_PaperRoad_loses (hr.mono (by decide)) B_PaperRoad_loses .nil pass0 (pa_cons (pv 0) (pa_cons (pv 5) (pa_cons (pv 6) pa_nil)))) (pe_meth (pv 2) T.cl_Road T.M_Road_loses G_Road_loses (hr.mono (by decide)) B_Road_loses .nil pass0 (pa_cons (pv 0) (pa_cons (pv 5) (pa_cons (pv 6) pa_nil)))))))) (pss_cons (ps_expr (pe_bm PySem.F.plainAttrs_list PySem.F.slot_list_append PySem.F.type_list_append mt_append (pv 4) (pa_cons (pe_tup (pa_cons (pv 5) (pa_cons (pv 6) (pa_cons (pv 7) pa_nil)))) pa_nil))) (pss_cons (ps_set (i := 8) sc_play.nd rfl (Or.inl rfl) (pe_call G_broken_ones (hr.mono (by decide)) rfl T.m_broken_ones T.k_broken_ones B_broken_ones .nil pass0 (pa_cons (pv 0) (pa_cons (pv 5) (pa_cons (pv 6) (pa_cons (pv 7) pa_nil)))))) (pss_cons (ps_if (pt_truth (pv 8) (by intro _; rfl)) (pss_one (ps_ret (pe_tup (pa_cons (pv 4) (pa_cons (pv 8) pa_nil))))) pss_nil) (pss_one (ps_set (i := 5) sc_play.nd rfl (Or.inl rfl) (pe_call G_after (hr.mono (by decide)) rfl T.m_after T.k_after B_after .nil pass0 (pa_cons (pv 0) (pa_cons (pv 5) (pa_cons (pv 6) (pa_cons (pv 7) pa_nil))))))))))))) (pss_one (ps_ret (pe_tup (pa_cons (pv 4) (pa_cons (pe_lst pa_nil) pa_nil)))))))), ?_⟩
    refine ⟨lenOk, fun L hL => ?_⟩
    have s1 : Same H (upd H L (.lst [])) := Same.upd hL
    have e1 : (upd H L (.lst [])) L = some (.lst []) := upd_same
    generalize upd H L (.lst []) = H1 at s1 e1 ⊢

    obtain ⟨wt, hh1, hh2⟩ := hh
    refine ⟨_, rfl, h, _, _, rfl, s1 _ _ hh1, fun b0 hb0 => ?_⟩
    have s2 : Same H1 (upd H1 b0 (.tup [.ref wt, .int 0])) := Same.upd hb0
    have e2 : (upd H1 b0 (.tup [.ref wt, .int 0])) b0 = some (.tup [.ref wt, .int 0]) := upd_same
    generalize upd H1 b0 (.tup [.ref wt, .int 0]) = H2 at s2 e2 ⊢

    have hh : HallAt H h ws cm := ⟨wt, hh1, hh2⟩
    have s12 := s1.trans s2
    refine while_by (fun σ' H' => ∃ (us : List V) (b : Addr) (done : List PR) (ls : List Int) (qt : Int) (fc fg : List (Str × V)) (v6 v7 v8 : Option V), σ' = [some (.ref h), some (.ref c), some (.ref g), some (.int N), some (.ref L), some (.ref b), v6, v7, v8] ∧ Still H H' ∧ H' L = some (.lst us) ∧ AllAt (RowV H') done us ∧ StAt H' b ls qt ∧
        H' c = some (.ins Cc dc fc) ∧ CalF C_Caller C_RowCaller C_PaperCaller ws.length H Cc fc ∧ H' g = some (.ins Cg dg fg) ∧ RoaF C_Road C_RowRoad C_PaperRoad ws.length H Cg fg ∧ So ws cm done ls qt ∧ done.length ≤ N ∧ ls.length = ws.length ∧ ∀ x ∈ ls, 1 ≤ x)
      (fun (_ : L2.St) (H' : L2.Hp) => match H' L with | some (.lst xs) => N - xs.length | _ => 0) ⟨[], b0, [], ws, 0, fc, fg, none, none, none, rfl, Same.still s12, s2 _ _ e1, AllAt.nil, ⟨wt, e2, s12 _ _ hh2⟩, s12 _ _ hc, hcf, s12 _ _ hg, hgf, So.start ws cm, Nat.zero_le _, rfl, hw1⟩ ?_ ?_
    · rintro σ' H' ⟨us, b, done, ls, qt, fc', fg', v6, v7, v8, rfl, st, hL', hus, hst, hc', hcf', hg', hgf', go, hdN, hll, hl1⟩
      have hul := hus.1
      have mu : ∀ H2 : Hp, ∀ zs : List V, H2 L = some (.lst zs) → (match H2 L with | some (.lst xs) => N - xs.length | _ => 0) = N - zs.length := by
        intro H2 zs e
        rw [e]
      refine ⟨_, rfl, L, _, rfl, .inl (SqL.of hL'), _, rfl, _, _, rfl, rfl, _, rfl, ?_⟩
      refine ite2 (fun hlt => ?_) (fun hge => ?_)
      · have hd : done.length < N := by
          have : ((us.length : Nat) : Int) < (N : Int) := by simpa using hlt
          omega
        refine ⟨fun v H3 => ∃ (who : Nat) (fs : List (Str × V)), v = .int who ∧ who < ws.length ∧ Still H' H3 ∧ H3 c = some (.ins Cc dc fs) ∧ CalF C_Caller C_RowCaller C_PaperCaller ws.length H Cc fs ∧ H3 g = H' g, ?_, ?_⟩
        · rcases hcf' with ⟨eC, qc, k, row, rfl, hqc, hrow⟩ | ⟨eC, d, kvs, rfl, hd1, hkv⟩ | ⟨eC, rfl⟩
          · rw [eC] at hc'
            refine .inl ⟨_, rfl, c, dc, _, rfl, hc', rfl, _, rfl, _, rfl, c, dc, qc, b, row, k, _, ls, qt, rfl, hc', st.lst hqc, hst, by omega, fun v hv => ?_⟩
            obtain ⟨who, rfl, hwho⟩ := call_nat hv hrow hll
            exact ⟨who, RowF qc (k + 1), rfl, hwho, Still.ins hc', by rw [eC]; exact upd_same, .inl ⟨eC, qc, k + 1, row, rfl, hqc, hrow⟩, upd_ne hcg.symm⟩
          · have hc2 := hc'
            rw [eC] at hc2
            refine .inr (.inl ⟨_, rfl, c, dc, _, rfl, hc2, rfl, _, rfl, _, rfl, c, dc, d, b, _, kvs, ls, qt, rfl, hc2, st.dT hd1, hst, by omega, fun v hv => ?_⟩)
            rcases hv with hv | ⟨_, j, rfl, hj⟩
            · obtain ⟨j, rfl, hj⟩ := hkv _ _ hv
              exact ⟨j, _, rfl, hj, Still.refl _, hc', .inr (.inl ⟨eC, d, kvs, rfl, hd1, hkv⟩), rfl⟩
            · have hj1 : j < ls.length := hj.1
              exact ⟨j, _, rfl, by omega, Still.refl _, hc', .inr (.inl ⟨eC, d, kvs, rfl, hd1, hkv⟩), rfl⟩
          · have hc2 := hc'
            rw [eC] at hc2
            refine .inr (.inr ⟨_, rfl, c, dc, _, rfl, hc2, rfl, _, rfl, _, rfl, _, _, b, ls, qt, rfl, hst, by omega, fun j hj => ?_⟩)
            have hj1 : j < ls.length := hj.1
            exact ⟨j, _, rfl, by omega, Still.refl _, hc', .inr (.inr ⟨eC, rfl⟩), rfl⟩
        rintro v H3 ⟨who, fc3, rfl, hwho, t3, c3, hcf3, eg3⟩
        have g3 := eg3.trans hg'
        have st3 := st.trans t3
        refine ⟨fun v H4 => ∃ (lost : Bool) (fs : List (Str × V)), v = .bl lost ∧ MayB cm qt lost ∧ Still H3 H4 ∧ H4 g = some (.ins Cg dg fs) ∧ RoaF C_Road C_RowRoad C_PaperRoad ws.length H Cg fs ∧ H4 c = H3 c, ?_, ?_⟩
        · rcases hgf' with ⟨eC, qg, k, tr, rfl, hqg⟩ | ⟨eC, d, kvs, rfl, hd1, hkv⟩ | ⟨eC, rfl⟩
          · rw [eC] at g3
            refine .inl ⟨_, rfl, g, dg, _, rfl, g3, rfl, _, rfl, _, rfl, _, rfl, g, dg, qg, h, b, tr, k, _, ws, ls, cm, qt, rfl, g3, st3.lst hqg, hh.still st3, hst.still t3, ?_⟩
            exact ⟨_, RowF qg (k + 1), rfl, lost_may (tr := tr) (k := k), Still.ins g3, by rw [eC]; exact upd_same, .inl ⟨eC, qg, k + 1, tr, rfl, hqg⟩, upd_ne hcg⟩
          · have g2 := g3
            rw [eC] at g2
            refine .inr (.inl ⟨_, rfl, g, dg, _, rfl, g2, rfl, _, rfl, _, rfl, _, rfl, g, dg, d, h, b, kvs, ws, ls, cm, qt, who, rfl, g2, st3.dT hd1, hh.still st3, hst.still t3, (fun _ => ?_), fun v hv => ?_⟩)
            · exact ⟨false, _, rfl, (fun z => nomatch z), Still.refl _, g3, .inr (.inl ⟨eC, d, kvs, rfl, hd1, hkv⟩), rfl⟩
            · obtain ⟨t, bs, rfl, ht, hbl⟩ := hkv _ _ hv
              refine ⟨t, bs, rfl, st3.tup ht, by omega, _, _, rfl, fun z => ?_, Still.refl _, g3, .inr (.inl ⟨eC, d, kvs, rfl, hd1, hkv⟩), rfl⟩
              simp only [Bool.and_eq_true, Bool.not_eq_true', decide_eq_false_iff_not, decide_eq_true_eq] at z
              exact ⟨z.1.1, z.1.2⟩
          · have g2 := g3
            rw [eC] at g2
            refine .inr (.inr ⟨_, rfl, g, dg, _, rfl, g2, rfl, _, rfl, _, rfl, _, rfl, _, _, _, _, rfl, ?_⟩)
            exact ⟨false, _, rfl, (fun z => nomatch z), Still.refl _, g3, .inr (.inr ⟨eC, rfl⟩), rfl⟩
        rintro v H4 ⟨lost, fg4, rfl, hmay, t4, g4, hgf4, ec4⟩
        have c4 := ec4.trans c3
        have st4 := st3.trans t4
        have t14 := t3.trans t4
        refine ⟨_, rfl, .inl ⟨rfl, _, SqL.of (t14.lst hL')⟩, _, rfl, _, rfl, _, rfl, lenOk, fun t ht => ?_⟩
        have s5 : Same H4 (upd H4 t (.tup [.ref b, .int who, .bl lost])) := Same.upd ht
        have e5 : (upd H4 t (.tup [.ref b, .int who, .bl lost])) t = some (.tup [.ref b, .int who, .bl lost]) := upd_same
        have e5L := s5 _ _ (t14.lst hL')
        refine ⟨L, us, _, rfl, rfl, e5L, small1000 (by omega), ?_⟩
        have s5c := s5 _ _ c4
        have s5g := s5 _ _ g4
        generalize upd H4 t (.tup [.ref b, .int who, .bl lost]) = H5 at s5 e5 e5L s5c s5g ⊢
        have st5 := st4.trans (Same.still s5)
        have st6 : Still H (upd H5 L (.lst (us ++ [.ref t]))) := st5.new hL
        have e6L : (upd H5 L (.lst (us ++ [.ref t]))) L = some (.lst (us ++ [.ref t])) := upd_same
        have t6 : TupS H' (upd H5 L (.lst (us ++ [.ref t]))) := (t14.trans (Same.still s5)).tups.trans (TupS.lst e5L)
        have e6t : (upd H5 L (.lst (us ++ [.ref t]))) t = _ := TupS.lst (o := .lst (us ++ [.ref t])) e5L _ _ e5
        have c6 : (upd H5 L (.lst (us ++ [.ref t]))) c = _ := (upd_ne (fun z => by rw [z, e5L] at s5c; cases s5c)).trans s5c
        have g6 : (upd H5 L (.lst (us ++ [.ref t]))) g = _ := (upd_ne (fun z => by rw [z, e5L] at s5g; cases s5g)).trans s5g
        generalize upd H5 L (.lst (us ++ [.ref t])) = H6 at st6 e6L t6 e6t c6 g6 ⊢
        have st' := hst.tups t6
        have hus6 : AllAt (RowV H6) (done ++ [((ls, qt), who, lost)]) (us ++ [.ref t]) := (rows_tups t6 hus).append (AllAt.one ⟨t, b, rfl, e6t, st'⟩)
        refine ⟨_, rfl, _, rfl, _, rfl, _, rfl, h, b, ws, ls, cm, qt, who, lost, rfl, hh.still st6, st', hwho, hll, hw8, hmay, fun l H7 hl0 s7 el => ?_⟩
        have st7 := st6.trans (Same.still s7)
        have hus7 := rows_tups (Same.tups s7) hus6
        have hlb : (leftB ws ls who lost).length = ws.length := (leftB_length _ _ _ _).trans hll
        refine ⟨_, rfl, _, .inl ⟨_, SqL.of el, rfl⟩, ?_⟩
        refine ite2 (fun hb => ?_) (fun hb => ?_)
        · have hne : brokeB (leftB ws ls who lost) ws.length ≠ [] := fun z => by
            rw [z] at hb
            exact absurd hb (by decide)
          have hz : (0 : Int) ∈ leftB ws ls who lost := by
            apply Classical.byContradiction
            intro z
            exact hne ((brokeB_nil (L := leftB ws ls who lost) (i := ws.length) (by omega)).mpr (fun y => z (List.mem_of_mem_take y)))
          refine ⟨_, rfl, _, rfl, lenOk, fun p hp => ?_⟩
          have s8 := Same.upd (o := .tup [.ref L, .ref l]) hp
          exact q p L l _ _ _ _ (fun xs z => by rw [hL] at z; cases z) (st6.nol hl0) (ne_of_none e6L hl0) (st7.trans (Same.still s8)) upd_same (s8 _ _ (s7 _ _ e6L)) (rows_tups (Same.tups s8) hus7) (s8 _ _ el) (go.broke hwho hmay hz hne hd)
        · have he : brokeB (leftB ws ls who lost) ws.length = [] := by
            cases hx : brokeB (leftB ws ls who lost) ws.length with
            | nil => rfl
            | cons a r => exact absurd (by rw [hx]; rfl) hb
          obtain ⟨hz, hp1⟩ := left_pos hw1 hl1 hll hwho he
          refine ⟨_, rfl, _, rfl, _, rfl, _, rfl, h, b, ws, ls, cm, qt, who, lost, rfl, hh.still st7, st'.same s7, hwho, hll, hw8, hmay, (fun z => absurd z hz), fun _ b2 H8 s8 st8 => ?_⟩
          have e8L := s8 _ _ (s7 _ _ e6L)
          refine ⟨⟨us ++ [.ref t], b2, done ++ [((ls, qt), who, lost)], leftB ws ls who lost, quietB cm qt lost, fc3, fg4, _, _, _, rfl, st7.trans (Same.still s8), e8L, rows_tups (Same.tups s8) hus7, st8, s8 _ _ (s7 _ _ c6), hcf3, s8 _ _ (s7 _ _ g6), hgf4, go.step hwho hmay hz, by rw [List.length_append, List.length_singleton]; omega, hlb, hp1⟩, ?_⟩
          rw [mu _ _ e8L, mu _ _ hL', List.length_append, List.length_singleton]
          omega
      · have hge' : done.length = N := by
          have : ¬ ((us.length : Nat) : Int) < (N : Int) := by simpa using hge
          omega
        refine ⟨_, rfl, lenOk, fun l hl => ?_⟩
        have s5 := Same.upd (o := .lst []) hl
        have e5 : (upd H' l (.lst [])) l = some (.lst []) := upd_same
        generalize upd H' l (.lst []) = H5 at s5 e5 ⊢
        refine ⟨lenOk, fun p hp => ?_⟩
        have s6 := Same.upd (o := .tup [.ref L, .ref l]) hp
        exact q p L l us done [] _ (fun xs z => by rw [hL] at z; cases z) (st.nol hl) (ne_of_none hL' hl) ((st.trans (Same.still s5)).trans (Same.still s6)) upd_same (s6 _ _ (s5 _ _ hL')) (rows_tups (Same.tups s6) (rows_tups (Same.tups s5) hus)) (s6 _ _ e5) (go.done hge')
    · intro σ H0 Q1 Q2 z h1
      obtain ⟨_, e, L', us, e1, e2, v, e3, i, j, e4, e5, b, e6, h2⟩ := h1
      exact ⟨_, e, L', us, e1, e2, v, e3, i, j, e4, e5, b, e6, z _ _ h2⟩
/-! ### RowCaller.__init -/
def sp_RowCaller___init__ (K : PySem.W.Frag) (C_Caller C_Road C_RowCaller C_RowRoad C_PaperCaller C_PaperRoad : Addr) : Sp := fun vs H Q _ => ∃ (x dx a : Addr) (us : List V), vs = [.ref x, .ref a] ∧ H x = some (.ins C_RowCaller dx []) ∧ H a = some (.lst us) ∧ ∀ (r : Addr) (H' : Hp), H r = none → H' x = some (.ins C_RowCaller dx (RowF r 0)) → H' r = some (.lst us) → (∀ b o, b ≠ x → H b = some o → H' b = some o) → Q .non H'
theorem ok_RowCaller___init__ {fd  : FuncData} (T : Txt K mg f_beginning f_may_lose f_is_listener f_refuse_wrong_turn f_left_behind f_quiet_behind f_after f_broken_ones f_least_left f_RowCaller_call f_PaperCaller_call f_Caller_call f_RowRoad_loses f_PaperRoad_loses f_Road_loses f_play f_RowCaller___init__ f_PaperCaller___init__ f_RowRoad___init__ f_PaperRoad___init__ f_walked f_law_cell_at f_law_hall f_law_rows f_law_papers f_law_players f_law C_Caller C_Road C_RowCaller C_RowRoad C_PaperCaller C_PaperRoad) (F : Fun K "__init__" "RowCaller.__init__" s_RowCaller___init__ f_RowCaller___init__ fd) : FnOk P w K mg base CX0 1 f_RowCaller___init__ fd ["self", "row"] (sp_RowCaller___init__ K C_Caller C_Road C_RowCaller C_RowRoad C_PaperCaller C_PaperRoad) := by
  refine F.ok sc_RowCaller___init__ (fun vs H Q E h => ?_) (fun cdv A outer s H vs Q E hr h => ?_)
  · rcases h with ⟨x, dx, a, us, rfl, hx, ha, q⟩ <;> rfl
  · obtain ⟨x, dx, a, us, rfl, hx, ha, q⟩ := h
    refine ⟨_, (pss_cons (ps_fld (pv 0) (pe_callTy call_list_of (by rfl) T.n_list boot_list (pa_cons (pv 1) pa_nil)) rfl) (pss_one (ps_fld (pv 0) pe_int rfl))), ?_⟩
    refine ⟨_, rfl, a, us, rfl, .inl (SqL.of ha), fun r hr0 => ?_⟩
    have hrx : x ≠ r := ne_of_none hx hr0
    have e1 : (upd H r (.lst us)) x = some (.ins C_RowCaller dx []) := by rw [upd_ne hrx]; exact hx
    refine ⟨_, rfl, x, _, dx, _, rfl, e1, T.cl_RowCaller, T.na_RowCaller_row, (by show 0 < 1000; decide), ?_⟩
    refine ⟨_, rfl, x, _, dx, _, rfl, upd_same, T.cl_RowCaller, T.na_RowCaller_asked, (by show 1 < 1000; decide), ?_⟩
    show Q .non (upd (upd (upd H r (.lst us)) x (.ins C_RowCaller dx [("row", .ref r)])) x (.ins C_RowCaller dx (putF "asked" (.int 0) [("row", .ref r)])))
    rw [putF_ask]
    refine q r _ hr0 upd_same ?_ fun b o hb e => ?_
    · rw [upd_ne (Ne.symm hrx), upd_ne (Ne.symm hrx), upd_same]
    · rw [upd_ne hb, upd_ne hb, upd_ne (ne_of_none e hr0)]
      exact e
/-! ### PaperCaller.__init -/
def sp_PaperCaller___init__ (K : PySem.W.Frag) (C_Caller C_Road C_RowCaller C_RowRoad C_PaperCaller C_PaperRoad : Addr) : Sp := fun vs H Q _ => ∃ (x dx l : Addr) (us : List V) (ps : List ((List Int × Int) × V)), vs = [.ref x, .ref l] ∧ H x = some (.ins C_PaperCaller dx []) ∧ H l = some (.lst us) ∧ AllAt (PairV H) ps us ∧ ∀ (d : Addr) (H' : Hp), H d = none → H' x = some (.ins C_PaperCaller dx [("paper", .ref d)]) → H' d = some (.dT (putAll [] ps)) → (∀ b o, b ≠ x → H b = some o → H' b = some o) → Q .non H'
theorem ok_PaperCaller___init__ {fd  : FuncData} (T : Txt K mg f_beginning f_may_lose f_is_listener f_refuse_wrong_turn f_left_behind f_quiet_behind f_after f_broken_ones f_least_left f_RowCaller_call f_PaperCaller_call f_Caller_call f_RowRoad_loses f_PaperRoad_loses f_Road_loses f_play f_RowCaller___init__ f_PaperCaller___init__ f_RowRoad___init__ f_PaperRoad___init__ f_walked f_law_cell_at f_law_hall f_law_rows f_law_papers f_law_players f_law C_Caller C_Road C_RowCaller C_RowRoad C_PaperCaller C_PaperRoad) (F : Fun K "__init__" "PaperCaller.__init__" s_PaperCaller___init__ f_PaperCaller___init__ fd) : FnOk P w K mg base CX0 1 f_PaperCaller___init__ fd ["self", "paper"] (sp_PaperCaller___init__ K C_Caller C_Road C_RowCaller C_RowRoad C_PaperCaller C_PaperRoad) := by
  refine F.ok sc_PaperCaller___init__ (fun vs H Q E h => ?_) (fun cdv A outer s H vs Q E hr h => ?_)
  · rcases h with ⟨x, dx, l, us, ps, rfl, hx, hl, hps, q⟩ <;> rfl
  · obtain ⟨x, dx, l, us, ps, rfl, hx, hl, hps, q⟩ := h
    refine ⟨_, (pss_one (ps_fld (pv 0) (pe_callTy (call_dictT K (hu24 hr) rfl) (by rfl) T.n_dict boot_dict (pa_cons (pv 1) pa_nil)) rfl)), ?_⟩
    refine ⟨_, rfl, l, us, ps, rfl, SqL.of hl, hps.1, (fun j u p e1 e2 => hps.2 j p u e2 e1), fun d hd => ?_⟩
    have hxd : x ≠ d := ne_of_none hx hd
    have e1 : (upd H d (.dT (putAll [] ps))) x = some (.ins C_PaperCaller dx []) := (upd_ne hxd).trans hx
    refine ⟨_, rfl, x, _, dx, _, rfl, e1, T.cl_PaperCaller, T.na_PaperCaller_paper, (by show 0 < 1000; decide), ?_⟩
    refine q d _ hd upd_same ((upd_ne hxd.symm).trans upd_same) fun b o hb e => ?_
    rw [upd_ne hb, upd_ne (ne_of_none e hd)]
    exact e
/-! ### RowRoad.__init -/
def sp_RowRoad___init__ (K : PySem.W.Frag) (C_Caller C_Road C_RowCaller C_RowRoad C_PaperCaller C_PaperRoad : Addr) : Sp := fun vs H Q _ => ∃ (x dx a : Addr) (us : List V), vs = [.ref x, .ref a] ∧ H x = some (.ins C_RowRoad dx []) ∧ H a = some (.lst us) ∧ ∀ (r : Addr) (H' : Hp), H r = none → H' x = some (.ins C_RowRoad dx (RowF r 0)) → H' r = some (.lst us) → (∀ b o, b ≠ x → H b = some o → H' b = some o) → Q .non H'
theorem ok_RowRoad___init__ {fd  : FuncData} (T : Txt K mg f_beginning f_may_lose f_is_listener f_refuse_wrong_turn f_left_behind f_quiet_behind f_after f_broken_ones f_least_left f_RowCaller_call f_PaperCaller_call f_Caller_call f_RowRoad_loses f_PaperRoad_loses f_Road_loses f_play f_RowCaller___init__ f_PaperCaller___init__ f_RowRoad___init__ f_PaperRoad___init__ f_walked f_law_cell_at f_law_hall f_law_rows f_law_papers f_law_players f_law C_Caller C_Road C_RowCaller C_RowRoad C_PaperCaller C_PaperRoad) (F : Fun K "__init__" "RowRoad.__init__" s_RowRoad___init__ f_RowRoad___init__ fd) : FnOk P w K mg base CX0 1 f_RowRoad___init__ fd ["self", "row"] (sp_RowRoad___init__ K C_Caller C_Road C_RowCaller C_RowRoad C_PaperCaller C_PaperRoad) := by
  refine F.ok sc_RowRoad___init__ (fun vs H Q E h => ?_) (fun cdv A outer s H vs Q E hr h => ?_)
  · rcases h with ⟨x, dx, a, us, rfl, hx, ha, q⟩ <;> rfl
  · obtain ⟨x, dx, a, us, rfl, hx, ha, q⟩ := h
    refine ⟨_, (pss_cons (ps_fld (pv 0) (pe_callTy call_list_of (by rfl) T.n_list boot_list (pa_cons (pv 1) pa_nil)) rfl) (pss_one (ps_fld (pv 0) pe_int rfl))), ?_⟩
    refine ⟨_, rfl, a, us, rfl, .inl (SqL.of ha), fun r hr0 => ?_⟩
    have hrx : x ≠ r := ne_of_none hx hr0
    have e1 : (upd H r (.lst us)) x = some (.ins C_RowRoad dx []) := by rw [upd_ne hrx]; exact hx
    refine ⟨_, rfl, x, _, dx, _, rfl, e1, T.cl_RowRoad, T.na_RowRoad_row, (by show 0 < 1000; decide), ?_⟩
    refine ⟨_, rfl, x, _, dx, _, rfl, upd_same, T.cl_RowRoad, T.na_RowRoad_asked, (by show 1 < 1000; decide), ?_⟩
    show Q .non (upd (upd (upd H r (.lst us)) x (.ins C_RowRoad dx [("row", .ref r)])) x (.ins C_RowRoad dx (putF "asked" (.int 0) [("row", .ref r)])))
    rw [putF_ask]
    refine q r _ hr0 upd_same ?_ fun b o hb e => ?_
    · rw [upd_ne (Ne.symm hrx), upd_ne (Ne.symm hrx), upd_same]
    · rw [upd_ne hb, upd_ne hb, upd_ne (ne_of_none e hr0)]
      exact e
/-! ### PaperRoad.__init -/
def sp_PaperRoad___init__ (K : PySem.W.Frag) (C_Caller C_Road C_RowCaller C_RowRoad C_PaperCaller C_PaperRoad : Addr) : Sp := fun vs H Q _ => ∃ (x dx l : Addr) (us : List V) (ps : List ((List Int × Int) × V)), vs = [.ref x, .ref l] ∧ H x = some (.ins C_PaperRoad dx []) ∧ H l = some (.lst us) ∧ us.length ≤ 100 ∧ AllAt (TripV H) ps us ∧ ∀ (d : Addr) (H' : Hp), H d = none → H' x = some (.ins C_PaperRoad dx [("paper", .ref d)]) → H' d = some (.dT (putAll [] ps)) → (∀ b o, b ≠ x → H b = some o → H' b = some o) → Q .non H'
theorem ok_PaperRoad___init__ {fd  : FuncData} (T : Txt K mg f_beginning f_may_lose f_is_listener f_refuse_wrong_turn f_left_behind f_quiet_behind f_after f_broken_ones f_least_left f_RowCaller_call f_PaperCaller_call f_Caller_call f_RowRoad_loses f_PaperRoad_loses f_Road_loses f_play f_RowCaller___init__ f_PaperCaller___init__ f_RowRoad___init__ f_PaperRoad___init__ f_walked f_law_cell_at f_law_hall f_law_rows f_law_papers f_law_players f_law C_Caller C_Road C_RowCaller C_RowRoad C_PaperCaller C_PaperRoad) (F : Fun K "__init__" "PaperRoad.__init__" s_PaperRoad___init__ f_PaperRoad___init__ fd) : FnOk P w K mg base CX0 1 f_PaperRoad___init__ fd ["self", "paper"] (sp_PaperRoad___init__ K C_Caller C_Road C_RowCaller C_RowRoad C_PaperCaller C_PaperRoad) := by
  refine F.ok sc_PaperRoad___init__ (fun vs H Q E h => ?_) (fun cdv A outer s H vs Q E hr h => ?_)
  · rcases h with ⟨x, dx, l, us, ps, rfl, hx, hl, hul, hps, q⟩ <;> rfl
  · obtain ⟨x, dx, l, us, ps, rfl, hx, hl, hul, hps, q⟩ := h
    refine ⟨_, (pss_one (ps_fld (pv 0) (pe_callTy (call_dictT K (hu24 hr) rfl) (by rfl) T.n_dict boot_dict (pa_cons (pe_comp (pi_sq (pv 1)) _ rfl cs_PaperRoad___init___0 rfl rfl (fun _ _ _ _ => (pg_tupK K (n := 3) rfl (pgs_cons (pg_name (i := 0) nd_PaperRoad___init___0 rfl (Or.inl rfl)) (pgs_cons (pg_name (i := 1) nd_PaperRoad___init___0 rfl (Or.inl rfl)) (pgs_cons (pg_name (i := 2) nd_PaperRoad___init___0 rfl (Or.inl rfl)) pgs_nil))))) (fun _ _ _ _ => pts_nil) (fun _ _ _ _ => (pe_tup (pa_cons (pv 0) (pa_cons (pv 2) pa_nil))))) pa_nil)) rfl)), ?_⟩
    refine ⟨_, rfl, l, rfl, .inl ⟨⟨_, SqL.of hl⟩, fun D hD => ?_⟩⟩
    refine comp_list3 (K := K) (a := l) (xs := us) (fun i zs H' => H' D = some (.lst zs) ∧ Same H H' ∧ AllAt (PairV H') (ps.take i) zs) ⟨upd_same, Same.upd hD, AllAt.nil⟩ (fun i zs H' _ ⟨_, s, _⟩ => SqL.of (s _ _ hl)) ?_ ?_ ?_ ?_
    · rintro i u zs H' hu ⟨hD', s', hzs⟩
      obtain ⟨p, hp, t, b, w, rfl, ht, hb⟩ := hps.get hu
      have hi := (List.getElem?_eq_some_iff.mp hu).1
      have hzl := hzs.1
      rw [List.length_take] at hzl
      refine ⟨t, .ref b, w, p.2, rfl, SqT.of (s' _ _ ht), ?_⟩
      simp only [tYes, ↓reduceIte]
      refine ⟨_, rfl, _, rfl, lenOk, fun T0 hT0 => ?_⟩
      have s2 : Same H' (upd H' T0 (.tup [.ref b, p.2])) := Same.upd hT0
      have e2 : (upd H' T0 (.tup [.ref b, p.2])) T0 = some (.tup [.ref b, p.2]) := upd_same
      generalize upd H' T0 (.tup [.ref b, p.2]) = H2 at s2 e2 ⊢

      have hD2 := s2 _ _ hD'
      have t3 : TupS H2 (upd H2 D (.lst (zs ++ [.ref T0]))) := TupS.lst hD2
      refine ⟨hD2, small1000 (by omega), upd_same, (s'.trans s2).new hD, ?_⟩
      rw [tk_snoc hp]
      exact (hzs.imp fun _ _ z => (z.same s2).tups t3).append (AllAt.one ⟨T0, b, rfl, t3 _ _ e2, (sth_same (s'.trans s2) hb).up t3⟩)
    · intro σ H1 Q1 Q2 hQ z
      exact hQ _ _ z
    · rintro σ H1 Q1 Q2 hQ ⟨v, e1, v2, e2, z1, z2⟩
      exact ⟨v, e1, v2, e2, z1, fun p hp => hQ _ _ (z2 p hp)⟩
    rintro zs H1 ⟨hD1, s1, hzs⟩
    rw [hps.1, List.take_length] at hzs
    refine ⟨D, zs, ps, rfl, SqL.of hD1, hzs.1, (fun j u p e1 e2 => hzs.2 j p u e2 e1), fun d hd => ?_⟩
    have hx1 := s1 _ _ hx
    have hxd : x ≠ d := ne_of_none hx1 hd
    have e1 : (upd H1 d (.dT (putAll [] ps))) x = some (.ins C_PaperRoad dx []) := (upd_ne hxd).trans hx1
    refine ⟨_, rfl, x, _, dx, _, rfl, e1, T.cl_PaperRoad, T.na_PaperRoad_paper, (by show 0 < 1000; decide), ?_⟩
    refine q d _ (s1.free hd) upd_same ((upd_ne hxd.symm).trans upd_same) fun b o hb e => ?_
    rw [upd_ne hb, upd_ne (ne_of_none (s1 _ _ e) hd)]
    exact s1 _ _ e
/-! ### walked -/
def sp_walked (K : PySem.W.Frag) : Sp := fun vs H Q _ => ∃ (a b c d : Addr) (ws ls : List Int) (calm : Option Int) (q : Int) (calls : List Nat) (losses : List Bool), vs = [.ref a, .ref b, .ref c, .ref d] ∧ HallAt H a ws calm ∧ StAt H b ls q ∧ ls.length = ws.length ∧ ws.length ≤ 8 ∧
  H c = some (.lst (calls.map fun k => V.int (k : Nat))) ∧ H d = some (.lst (losses.map V.bl)) ∧ calls.length = losses.length ∧ (∀ k ∈ calls, k < ws.length) ∧ QuietOk calm q losses ∧
  ∀ (p : Addr) (H' : Hp), Same H H' → WalkAt H' p (walkB ws calm ls q (calls.zip losses)) → Q (.ref p) H'
theorem ok_walked {fd fd_after : FuncData} (T : Txt K mg f_beginning f_may_lose f_is_listener f_refuse_wrong_turn f_left_behind f_quiet_behind f_after f_broken_ones f_least_left f_RowCaller_call f_PaperCaller_call f_Caller_call f_RowRoad_loses f_PaperRoad_loses f_Road_loses f_play f_RowCaller___init__ f_PaperCaller___init__ f_RowRoad___init__ f_PaperRoad___init__ f_walked f_law_cell_at f_law_hall f_law_rows f_law_papers f_law_players f_law C_Caller C_Road C_RowCaller C_RowRoad C_PaperCaller C_PaperRoad) (F : Fun K "walked" "walked" s_walked f_walked fd) (G_after : FnOk P w K mg base CX0 4 f_after fd_after ["hall", "standing", "who", "lost"] (sp_after K)) (B_after : Binds K fd_after ["hall", "standing", "who", "lost"] []) (B_after_d : Binds K fd_after ["hall", "standing", "who", "lost"] [Value.bool false]) : FnOk P w K mg base CX0 5 f_walked fd ["hall", "standing", "calls", "losses"] (sp_walked K) := by
  refine F.ok sc_walked (fun vs H Q E h => ?_) (fun cdv A outer s H vs Q E hr h => ?_)
  · rcases h with ⟨a, b, c, d, ws, ls, calm, n, calls, losses, rfl, ha, hb, hl, h8, hc, hd, hcl, hk, hq, q⟩ <;> rfl
  · obtain ⟨a, b, c, d, ws, ls, calm, n, calls, losses, rfl, ha, hb, hl, h8, hc, hd, hcl, hk, hq, q⟩ := h
    refine ⟨_, (pss_cons (ps_set (i := 4) sc_walked.nd rfl (Or.inl rfl) pe_int) (pss_cons (ps_set (i := 5) sc_walked.nd rfl (Or.inl rfl) (pv 1)) (pss_cons (ps_for PassesOwn.never rfl (pi_zip (by rfl) T.n_zip (pa_cons (pv 2) (pa_cons (pv 3) pa_nil))) (pg_tupK K (n := 2) rfl (pgs_cons (pg_name (i := 6) sc_walked.nd rfl (Or.inl rfl)) (pgs_cons (pg_name (i := 7) sc_walked.nd rfl (Or.inl rfl)) pgs_nil))) (pss_cons (ps_set (i := 5) sc_walked.nd rfl (Or.inl rfl) (pe_call G_after (hr.mono (by decide)) rfl T.m_after T.k_after B_after .nil pass0 (pa_cons (pv 0) (pa_cons (pv 5) (pa_cons (pv 6) (pa_cons (pv 7) pa_nil)))))) (pss_cons (ps_if (pt_cmpR op_isN (pv 5) pe_non (nomark _)) (pss_one (ps_ret (pe_tup (pa_cons (pv 4) (pa_cons pe_non pa_nil))))) pss_nil) (pss_one (ps_set (i := 4) sc_walked.nd rfl (Or.inl rfl) (pe_op op_add (pv 4) pe_int)))))) (pss_one (ps_ret (pe_tup (pa_cons (pv 4) (pa_cons (pv 5) pa_nil)))))))), ?_⟩
    refine ⟨_, rfl, _, rfl, _, rfl, c, d, rfl, ⟨_, SqL.of hc⟩, ⟨_, SqL.of hd⟩, ?_⟩
    have hzip : ∀ {i : Nat} {k : Nat} {l : Bool}, calls[i]? = some k → losses[i]? = some l → (calls.zip losses).drop i = (k, l) :: (calls.zip losses).drop (i + 1) := by
      intro i k l e1 e2
      have e3 : (calls.zip losses)[i]? = some (k, l) := by
        rw [List.getElem?_zip_eq_some]
        exact ⟨e1, e2⟩
      obtain ⟨h1, h2⟩ := List.getElem?_eq_some_iff.mp e3
      rw [List.drop_eq_getElem_cons h1, h2]
    refine for_zip (K := K) (c := c) (d := d) (xs := calls.map fun k => V.int (k : Nat)) (ys := losses.map V.bl) (by simp [hcl])
      (fun i σ H' => ∃ (cur : Addr) (ls' : List Int) (q' : Int) (v6 v7 : Option V), σ = [some (.ref a), some (.ref b), some (.ref c), some (.ref d), some (.int (i : Nat)), some (.ref cur), v6, v7] ∧ StAt H' cur ls' q' ∧ Same H H' ∧ ls'.length = ws.length ∧ QuietOk calm q' (losses.drop i) ∧
        walkB ws calm ls n (calls.zip losses) = ((walkB ws calm ls' q' ((calls.zip losses).drop i)).1 + i, (walkB ws calm ls' q' ((calls.zip losses).drop i)).2))
      ⟨b, ls, n, none, none, rfl, hb, Same.refl H, hl, hq, rfl⟩ (fun i σ H' _ ⟨_, _, _, _, _, _, _, s, _⟩ => ⟨SqL.of (s _ _ hc), SqL.of (s _ _ hd)⟩) ?_ ?_
    · rintro i x y T σ H2 hx hy ⟨cur, ls', q', v6, v7, rfl, hst, s2, hl', hq', hw'⟩ hT
      rw [List.getElem?_map] at hx hy
      obtain ⟨k, ek, rfl⟩ := Option.map_eq_some_iff.mp hx
      obtain ⟨l, el, rfl⟩ := Option.map_eq_some_iff.mp hy
      have s3 : Same H2 (upd H2 T (.tup [V.int (k : Nat), V.bl l])) := Same.upd hT
      have s03 := s2.trans s3
      have hz := hzip ek el
      have hdl : losses.drop i = l :: losses.drop (i + 1) := by
        obtain ⟨h1, h2⟩ := List.getElem?_eq_some_iff.mp el
        rw [List.drop_eq_getElem_cons h1, h2]
      rw [hdl] at hq'
      refine ⟨T, _, rfl, SqT.of upd_same, rfl, _, _, rfl, _, _, rfl, rfl, ?_⟩
      refine ⟨_, rfl, _, rfl, _, rfl, _, rfl, a, cur, ws, ls', calm, q', k, l, rfl, ha.same s03, hst.same s3, hk k (List.mem_of_getElem? ek), hl', h8, hq'.1, fun h0 H4 s4 => ?_, fun h0 p H4 s4 hst4 => ?_⟩
      · refine ⟨_, rfl, rfl, _, rfl, ite_t rfl ⟨_, rfl, lenOk, fun p hp => ?_⟩⟩
        have s04 := s03.trans s4
        have e : walkB ws calm ls n (calls.zip losses) = (i, none) := by
          rw [hw', hz, walkB_cons, if_pos h0, Nat.zero_add]
        refine q p _ (s04.new (s04.free hp)) ?_
        rw [e]
        exact ⟨_, upd_same, rfl⟩
      · refine ⟨_, rfl, rfl, _, rfl, ite_f (by simp) ⟨_, rfl, _, _, rfl, rfl, ?_⟩⟩
        refine ⟨p, _, _, _, _, rfl, hst4, s03.trans s4, by rw [leftB_length]; exact hl', hq'.2, ?_⟩
        rw [hw', hz, walkB_cons, if_neg h0]
        show (_, _) = (_, _)
        rw [Nat.add_right_comm, Nat.add_assoc]
    · rintro σ H2 ⟨cur, ls', q', v6, v7, rfl, hst, s2, hl', hq', hw'⟩
      rw [List.length_map] at hw'
      have hz : (calls.zip losses).drop calls.length = [] := by
        apply List.drop_eq_nil_of_le
        simp
        omega
      rw [hz, walkB_nil] at hw'
      refine ⟨_, rfl, _, rfl, lenOk, fun p hp => ?_⟩
      have s3 := s2.new (o := .tup [V.int ((calls.map fun k => V.int (k : Nat)).length : Nat), V.ref cur]) (s2.free hp)
      refine q p _ s3 ?_
      rw [hw']
      refine ⟨.ref cur, ?_, cur, rfl, hst.same (Same.upd hp)⟩
      rw [upd_same, List.length_map, Nat.zero_add]
/-! ### law_cell_at -/
def sp_law_cell_at (K : PySem.W.Frag) : Sp := fun vs H Q _ => ∃ (a : Addr) (ns : List Int) (k : Int), vs = [.ref a, .int k] ∧ SqL K H a (ns.map V.int) ∧ 0 ≤ k ∧ Q (.int (cellI ns k)) H
theorem ok_law_cell_at {fd  : FuncData} (T : Txt K mg f_beginning f_may_lose f_is_listener f_refuse_wrong_turn f_left_behind f_quiet_behind f_after f_broken_ones f_least_left f_RowCaller_call f_PaperCaller_call f_Caller_call f_RowRoad_loses f_PaperRoad_loses f_Road_loses f_play f_RowCaller___init__ f_PaperCaller___init__ f_RowRoad___init__ f_PaperRoad___init__ f_walked f_law_cell_at f_law_hall f_law_rows f_law_papers f_law_players f_law C_Caller C_Road C_RowCaller C_RowRoad C_PaperCaller C_PaperRoad) (F : Fun K "_law_cell_at" "_law_cell_at" s_law_cell_at f_law_cell_at fd) : FnOk P w K mg base CX0 1 f_law_cell_at fd ["script", "k"] (sp_law_cell_at K) := by
  refine F.ok sc_law_cell_at (fun vs H Q E h => ?_) (fun cdv A outer s H vs Q E hr h => ?_)
  · rcases h with ⟨a, ns, k, rfl, hS, hk, q⟩ <;> rfl
  · obtain ⟨a, ns, k, rfl, hS, hk, q⟩ := h
    refine ⟨_, (pss_cons (ps_if (pt_cmpR op_lt (pv 1) (pe_callB (call_lenK K) (by rfl) T.n_len PySem.boot_len (pa_cons (pv 0) pa_nil)) (nomark _)) (pss_one (ps_ret (pe_ix (ix_sq K) (pv 0) (pv 1) (fun _ _ => rfl)))) pss_nil) (pss_one (ps_ret pe_int))), ?_⟩
    refine ⟨_, rfl, _, rfl, a, _, rfl, .inl hS, _, _, rfl, rfl, _, rfl, ?_⟩
    refine ite2 (fun hlt => ?_) (fun hlt => ?_)
    · have hlt' : k < ns.length := by simpa using hlt
      exact ⟨_, rfl, _, rfl, a, _, _, _, rfl, rfl, .inl hS, atI_int hk hlt', q⟩
    · have hlt' : ¬ k < ns.length := by simpa using hlt
      rw [cellI_out hk hlt'] at q
      exact q
/-! ### law_hall -/
def sp_law_hall (K : PySem.W.Frag) : Sp := fun vs H Q _ => ∃ (a : Addr) (ns : List Int), vs = [.ref a] ∧ SqL K H a (ns.map V.int) ∧ (∀ z ∈ ns, intBits z ≤ 2 ^ 20) ∧ ∀ (p : Addr) (ws : List Int) (cm : Option Int) (H' : Hp), Same H H' → HallAt H' p ws cm → 0 < ws.length → ws.length ≤ 8 → (∀ x ∈ ws, 1 ≤ x) → Q (.ref p) H'
theorem ok_law_hall {fd fd_law_cell_at : FuncData} (T : Txt K mg f_beginning f_may_lose f_is_listener f_refuse_wrong_turn f_left_behind f_quiet_behind f_after f_broken_ones f_least_left f_RowCaller_call f_PaperCaller_call f_Caller_call f_RowRoad_loses f_PaperRoad_loses f_Road_loses f_play f_RowCaller___init__ f_PaperCaller___init__ f_RowRoad___init__ f_PaperRoad___init__ f_walked f_law_cell_at f_law_hall f_law_rows f_law_papers f_law_players f_law C_Caller C_Road C_RowCaller C_RowRoad C_PaperCaller C_PaperRoad) (F : Fun K "_law_hall" "_law_hall" s_law_hall f_law_hall fd) (G_law_cell_at : FnOk P w K mg base CX0 1 f_law_cell_at fd_law_cell_at ["script", "k"] (sp_law_cell_at K)) (B_law_cell_at : Binds K fd_law_cell_at ["script", "k"] []) : FnOk P w K mg base CX0 2 f_law_hall fd ["script"] (sp_law_hall K) := by
  refine F.ok sc_law_hall (fun vs H Q E h => ?_) (fun cdv A outer s H vs Q E hr h => ?_)
  · rcases h with ⟨a, ns, rfl, hS, hbig, q⟩ <;> rfl
  · obtain ⟨a, ns, rfl, hS, hbig, q⟩ := h
    refine ⟨_, (pss_cons (ps_set (i := 1) sc_law_hall.nd rfl (Or.inl rfl) (pe_op op_add pe_int (pe_op op_mod (pe_call G_law_cell_at (hr.mono (by decide)) rfl T.m_law_cell_at T.k_law_cell_at B_law_cell_at .nil pass0 (pa_cons (pv 0) (pa_cons pe_int pa_nil))) pe_int))) (pss_cons (ps_set (i := 2) sc_law_hall.nd rfl (Or.inl rfl) (pe_lst pa_nil)) (pss_cons (ps_for PassesOwn.never rfl (pi_range1 (by rfl) T.n_range (pa_cons (pv 1) pa_nil)) (pg_name (i := 3) sc_law_hall.nd rfl (Or.inl rfl)) (pss_cons (ps_set (i := 4) sc_law_hall.nd rfl (Or.inl rfl) (pe_call G_law_cell_at (hr.mono (by decide)) rfl T.m_law_cell_at T.k_law_cell_at B_law_cell_at .nil pass0 (pa_cons (pv 0) (pa_cons (pe_op op_add pe_int (pv 3)) pa_nil)))) (pss_one (ps_ifJ (pt_cmpR op_eq (pe_op op_mod (pv 4) pe_int) pe_int (nomark _)) (pss_one (ps_expr (pe_bm PySem.F.plainAttrs_list PySem.F.slot_list_append PySem.F.type_list_append mt_append (pv 2) (pa_cons (pe_op op_add pe_int (pe_op op_mod (pe_op op_fdiv (pv 4) pe_int) pe_int)) pa_nil)))) (pss_one (ps_ifJ (pt_cmpR op_eq (pe_op op_mod (pv 4) pe_int) pe_int (nomark _)) (pss_one (ps_expr (pe_bm PySem.F.plainAttrs_list PySem.F.slot_list_append PySem.F.type_list_append mt_append (pv 2) (pa_cons (pe_op op_add (pv 1) (pe_op op_mod (pe_op op_fdiv (pv 4) pe_int) pe_int)) pa_nil)))) (pss_one (ps_expr (pe_bm PySem.F.plainAttrs_list PySem.F.slot_list_append PySem.F.type_list_append mt_append (pv 2) (pa_cons (pe_op op_add pe_int (pe_op op_mod (pe_op op_mulO (pe_op op_fdiv (pv 4) pe_int) (pe_op op_pow pe_int pe_int)) (pe_op op_pow pe_int pe_int))) pa_nil)))))))))) (pss_cons (ps_if (pt_cmpR op_eq (pe_op op_mod (pe_call G_law_cell_at (hr.mono (by decide)) rfl T.m_law_cell_at T.k_law_cell_at B_law_cell_at .nil pass0 (pa_cons (pv 0) (pa_cons pe_int pa_nil))) pe_int) pe_int (nomark _)) (pss_one (ps_ret (pe_tup (pa_cons (pe_callTy call_tuple_of (by rfl) T.n_tuple boot_tuple (pa_cons (pv 2) pa_nil)) (pa_cons pe_non pa_nil))))) pss_nil) (pss_one (ps_ret (pe_tup (pa_cons (pe_callTy call_tuple_of (by rfl) T.n_tuple boot_tuple (pa_cons (pv 2) pa_nil)) (pa_cons (pe_op op_add pe_int (pe_op op_mod (pe_op op_fdiv (pe_call G_law_cell_at (hr.mono (by decide)) rfl T.m_law_cell_at T.k_law_cell_at B_law_cell_at .nil pass0 (pa_cons (pv 0) (pa_cons pe_int pa_nil))) pe_int) pe_int)) pa_nil))))))))), ?_⟩
    have hmr := emod_range (cellI ns 0) (show (0 : Int) < 8 by decide)
    refine ⟨_, rfl, a, ns, 0, rfl, hS, by decide, _, _, rfl, rfl, by simp, _, _, rfl, rfl, ?_⟩
    refine ⟨lenOk, fun W hW => ?_⟩
    have s1 : Same H (upd H W (.lst [])) := Same.upd hW
    have e1 : (upd H W (.lst [])) W = some (.lst []) := upd_same
    generalize upd H W (.lst []) = H1 at s1 e1 ⊢

    refine ⟨_, rfl, (1 + cellI ns 0 % 8), rfl, by omega, by omega, ?_⟩
    refine for_range (n := (1 + cellI ns 0 % 8).toNat) (fun i σ H' => ∃ (ws : List Int) (v3 v4 : Option V), σ = [some (.ref a), some (.int (1 + cellI ns 0 % 8)), some (.ref W), v3, v4] ∧ ws.length = i ∧ (∀ x ∈ ws, 1 ≤ x) ∧ H' W = some (.lst (ws.map V.int)) ∧ Same H H') ⟨[], none, none, rfl, rfl, (fun x hx => by cases hx), e1, s1⟩ ?_ ?_
    · rintro i σ H4 hi ⟨ws, v3, v4, rfl, hwl, hw1, hW4, s4⟩
      refine ⟨_, rfl, _, rfl, _, _, rfl, rfl, a, ns, _, rfl, s4.seq hS, (by omega), ?_⟩
      refine ⟨_, rfl, _, _, rfl, rfl, by simp, rfl, _, rfl, _, fun _ => ?_, fun _ => ?_, fun _ _ z => z⟩
      · refine ⟨_, rfl, .inl ⟨rfl, _, SqL.of hW4⟩, _, rfl, _, _, rfl, rfl, ⟨by decide, by decide⟩, _, _, rfl, rfl, by simp, _, _, rfl, rfl, W, _, _, rfl, rfl, hW4, small1000 (by rw [List.length_map]; omega), ?_⟩
        exact ⟨ws ++ [_], _, _, rfl, len_snoc hwl, all_snoc hw1 (one_more (by decide)), lst_snoc, s4.new hW⟩
      refine ⟨_, rfl, _, _, rfl, rfl, by simp, rfl, _, rfl, _, fun _ => ?_, fun _ => ?_, fun _ _ z => z⟩
      · have h5 := emod_range (cellI ns (4 + (0 + (i : Int))) / 3) (show (0 : Int) < 5 by decide)
        refine ⟨_, rfl, .inl ⟨rfl, _, SqL.of hW4⟩, _, rfl, _, rfl, _, _, rfl, rfl, ⟨by decide, by decide⟩, _, _, rfl, rfl, by simp, _, _, rfl, rfl, W, _, _, rfl, rfl, hW4, small1000 (by rw [List.length_map]; omega), ?_⟩
        exact ⟨ws ++ [_], _, _, rfl, len_snoc hwl, all_snoc hw1 (by omega), lst_snoc, s4.new hW⟩
      · refine ⟨_, rfl, .inl ⟨rfl, _, SqL.of hW4⟩, _, rfl, _, _, rfl, rfl, ⟨by decide, by decide⟩, _, _, rfl, rfl, ⟨by decide, by decide, by decide⟩, _, _, rfl, rfl, mulOk (bits_ediv (by decide) (cellI_bits hbig)) bits764 (by decide), _, _, rfl, rfl, ⟨by decide, by decide, by decide⟩, _, _, rfl, rfl, pos60, _, _, rfl, rfl, W, _, _, rfl, rfl, hW4, small1000 (by rw [List.length_map]; omega), ?_⟩
        exact ⟨ws ++ [_], _, _, rfl, len_snoc hwl, all_snoc hw1 (one_more pos60), lst_snoc, s4.new hW⟩
    rintro σ H4 ⟨ws, v3, v4, rfl, hwl, hw1, hW4, s4⟩
    have hS4 := s4.seq hS
    refine ⟨_, rfl, a, ns, 1, rfl, hS4, by decide, _, _, rfl, rfl, by simp, rfl, _, rfl, ?_⟩
    refine ite2 (fun _ => ?_) (fun _ => ?_)
    · refine ⟨_, rfl, W, _, rfl, .inl ⟨SqL.of hW4, fun t ht => ?_⟩⟩
      have s5 : Same H4 (upd H4 t (.tup (ws.map V.int))) := Same.upd ht
      have e5 : (upd H4 t (.tup (ws.map V.int))) t = some (.tup (ws.map V.int)) := upd_same
      generalize upd H4 t (.tup (ws.map V.int)) = H5 at s5 e5 ⊢

      refine ⟨lenOk, fun p hp => ?_⟩
      exact q p ws none _ ((s4.trans s5).trans (Same.upd hp)) ⟨t, upd_same, (Same.upd hp) _ _ e5⟩ (by omega) (by omega) hw1
    refine ⟨_, rfl, W, _, rfl, .inl ⟨SqL.of hW4, fun t ht => ?_⟩⟩
    have s5 : Same H4 (upd H4 t (.tup (ws.map V.int))) := Same.upd ht
    have e5 : (upd H4 t (.tup (ws.map V.int))) t = some (.tup (ws.map V.int)) := upd_same
    generalize upd H4 t (.tup (ws.map V.int)) = H5 at s5 e5 ⊢

    refine ⟨_, rfl, a, ns, 1, rfl, (s4.trans s5).seq hS, by decide, _, _, rfl, rfl, ⟨by decide, by decide⟩, _, _, rfl, rfl, by simp, _, _, rfl, rfl, lenOk, fun p hp => ?_⟩
    exact q p ws (some (1 + cellI ns 1 / 3 % 9)) _ ((s4.trans s5).trans (Same.upd hp)) ⟨t, upd_same, (Same.upd hp) _ _ e5⟩ (by omega) (by omega) hw1
/-! ### law_rows -/
def sp_law_rows (K : PySem.W.Frag) : Sp := fun vs H Q _ => ∃ (a : Addr) (ns : List Int) (m : Int), vs = [.ref a, .int m] ∧ SqL K H a (ns.map V.int) ∧ ns.length ≤ 63 ∧ 1 ≤ m ∧ ∀ (p r t : Addr) (row : List Int) (tr : List Bool) (H' : Hp), Same H H' → H' p = some (.tup [.ref r, .ref t]) → H' r = some (.lst (row.map V.int)) → H' t = some (.lst (tr.map V.bl)) → (∀ x ∈ row, 0 ≤ x ∧ x < m) → Q (.ref p) H'
theorem ok_law_rows {fd  : FuncData} (T : Txt K mg f_beginning f_may_lose f_is_listener f_refuse_wrong_turn f_left_behind f_quiet_behind f_after f_broken_ones f_least_left f_RowCaller_call f_PaperCaller_call f_Caller_call f_RowRoad_loses f_PaperRoad_loses f_Road_loses f_play f_RowCaller___init__ f_PaperCaller___init__ f_RowRoad___init__ f_PaperRoad___init__ f_walked f_law_cell_at f_law_hall f_law_rows f_law_papers f_law_players f_law C_Caller C_Road C_RowCaller C_RowRoad C_PaperCaller C_PaperRoad) (F : Fun K "_law_rows" "_law_rows" s_law_rows f_law_rows fd) : FnOk P w K mg base CX0 1 f_law_rows fd ["script", "many"] (sp_law_rows K) := by
  refine F.ok sc_law_rows (fun vs H Q E h => ?_) (fun cdv A outer s H vs Q E hr h => ?_)
  · rcases h with ⟨a, ns, m, rfl, hS, hlen, hm1, q⟩ <;> rfl
  · obtain ⟨a, ns, m, rfl, hS, hlen, hm1, q⟩ := h
    refine ⟨_, (pss_cons (ps_set (i := 2) sc_law_rows.nd rfl (Or.inl rfl) (pe_lst pa_nil)) (pss_cons (ps_set (i := 3) sc_law_rows.nd rfl (Or.inl rfl) (pe_lst pa_nil)) (pss_cons (ps_for PassesOwn.never rfl (pi_sq (pe_slice (sl_listK K) (pv 0) (po_some pe_int) (po_some pe_int))) (pg_name (i := 4) sc_law_rows.nd rfl (Or.inl rfl)) (pss_cons (ps_ifJ (pt_cmpR op_eq (pe_op op_mod (pv 4) pe_int) pe_int (nomark _)) (pss_one (ps_expr (pe_bm PySem.F.plainAttrs_list PySem.F.slot_list_append PySem.F.type_list_append mt_append (pv 2) (pa_cons (pe_op op_mod (pe_op op_fdiv (pv 4) pe_int) (pv 1)) pa_nil)))) (pss_one (ps_expr (pe_bm PySem.F.plainAttrs_list PySem.F.slot_list_append PySem.F.type_list_append mt_append (pv 2) (pa_cons (pe_op op_mod (pe_callB (call_lenK K) (by rfl) T.n_len PySem.boot_len (pa_cons (pv 2) pa_nil)) (pv 1)) pa_nil))))) (pss_one (ps_expr (pe_bm PySem.F.plainAttrs_list PySem.F.slot_list_append PySem.F.type_list_append mt_append (pv 3) (pa_cons (pe_cmpR op_eq (pe_op op_mod (pe_op op_fdiv (pv 4) pe_int) pe_int) pe_int (nomark _)) pa_nil)))))) (pss_one (ps_ret (pe_tup (pa_cons (pv 2) (pa_cons (pv 3) pa_nil)))))))), ?_⟩
    refine ⟨lenOk, fun L hL => ?_⟩
    have s1 : Same H (upd H L (.lst [])) := Same.upd hL
    have e1 : (upd H L (.lst [])) L = some (.lst []) := upd_same
    generalize upd H L (.lst []) = H1 at s1 e1 ⊢

    refine ⟨lenOk, fun O hO => ?_⟩
    have s2 : Same H1 (upd H1 O (.lst [])) := Same.upd hO
    have e2 : (upd H1 O (.lst [])) O = some (.lst []) := upd_same
    generalize upd H1 O (.lst []) = H2 at s2 e2 ⊢

    have hLO : L ≠ O := ne_of_none e1 hO
    have hO0 : H O = none := s1.free hO
    have s12 := s1.trans s2
    refine ⟨_, rfl, _, rfl, _, rfl, a, _, rfl, s12.seq hS, fun sl hsl => ?_⟩
    rw [cutV_ints]
    have hcl : (cutI ns (some 4) (some 64)).length ≤ 63 := Nat.le_trans (cutI_length _ _ _) hlen
    generalize cutI ns (some 4) (some 64) = cs at hcl ⊢
    have s3 : Same H2 (upd H2 sl (.lst (cs.map V.int))) := Same.upd hsl
    have e3 : (upd H2 sl (.lst (cs.map V.int))) sl = some (.lst (cs.map V.int)) := upd_same
    generalize upd H2 sl (.lst (cs.map V.int)) = H3 at s3 e3 ⊢

    have hslL : sl ≠ L := (ne_of_none (s2 _ _ e1) hsl).symm
    have hslO : sl ≠ O := (ne_of_none e2 hsl).symm
    refine ⟨sl, rfl, .inl ⟨⟨_, SqL.of e3⟩, ?_⟩⟩
    refine for_list (K := K) (a := sl) (xs := cs.map V.int) (fun i σ H' => ∃ (row : List Int) (tr : List Bool) (v4 : Option V), σ = [some (.ref a), some (.int m), some (.ref L), some (.ref O), v4] ∧ row.length = i ∧ tr.length = i ∧ (∀ x ∈ row, 0 ≤ x ∧ x < m) ∧ H' L = some (.lst (row.map V.int)) ∧ H' O = some (.lst (tr.map V.bl)) ∧ H' sl = some (.lst (cs.map V.int)) ∧ Same H H')
      ⟨[], [], none, rfl, rfl, rfl, (fun x hx => by cases hx), s3 _ _ (s2 _ _ e1), s3 _ _ e2, e3, s12.trans s3⟩ (fun i σ H' _ ⟨_, _, _, _, _, _, _, _, _, e, _⟩ => SqL.of e) ?_ ?_
    · rintro i y σ H4 hy ⟨row, tr, v4, rfl, hrl, htl, hr1, hL4, hO4, hsl4, s4⟩
      have hi := (List.getElem?_eq_some_iff.mp hy).1
      rw [List.length_map] at hi
      rw [List.getElem?_map] at hy
      obtain ⟨x, hx, rfl⟩ := Option.map_eq_some_iff.mp hy
      refine ⟨_, rfl, _, _, rfl, rfl, by simp, rfl, _, rfl, (fun σ' H' => ∃ row : List Int, σ' = [some (.ref a), some (.int m), some (.ref L), some (.ref O), some (.int x)] ∧ row.length = i + 1 ∧ (∀ x ∈ row, 0 ≤ x ∧ x < m) ∧ H' L = some (.lst (row.map V.int)) ∧ H' O = some (.lst (tr.map V.bl)) ∧ H' sl = some (.lst (cs.map V.int)) ∧ Same H H'), fun _ => ?_, fun _ => ?_, ?_⟩
      · refine ⟨_, rfl, .inl ⟨rfl, _, SqL.of hL4⟩, _, rfl, _, _, rfl, rfl, ⟨by decide, by decide⟩, _, rfl, _, _, rfl, rfl, (by show 0 < m; omega), L, _, _, rfl, rfl, hL4, small1000 (by rw [List.length_map]; omega), ?_⟩
        exact ⟨row ++ [_], rfl, len_snoc hrl, all_snoc hr1 (emod_range _ (by omega)), lst_snoc, (upd_ne hLO.symm).trans hO4, (upd_ne hslL).trans hsl4, s4.new hL⟩
      · refine ⟨_, rfl, .inl ⟨rfl, _, SqL.of hL4⟩, _, rfl, L, _, rfl, .inl (SqL.of hL4), _, rfl, _, _, rfl, rfl, (by show 0 < m; omega), L, _, _, rfl, rfl, hL4, small1000 (by rw [List.length_map]; omega), ?_⟩
        exact ⟨row ++ [_], rfl, len_snoc hrl, all_snoc hr1 (emod_range _ (by omega)), lst_snoc, (upd_ne hLO.symm).trans hO4, (upd_ne hslL).trans hsl4, s4.new hL⟩
      rintro σ' H5 ⟨row2, rfl, hrl2, hr2, hL5, hO5, hsl5, s5⟩
      refine ⟨_, rfl, .inl ⟨rfl, _, SqL.of hO5⟩, _, rfl, _, _, rfl, rfl, ⟨by decide, by decide⟩, _, _, rfl, rfl, by simp, rfl, O, _, _, rfl, rfl, hO5, small1000 (by rw [List.length_map]; omega), ?_⟩
      exact ⟨row2, tr ++ [decide (V.int (x / 3 % 4) = V.int 1)], _, rfl, hrl2, len_snoc htl, hr2, (upd_ne hLO).trans hL5, upd_same.trans (congrArg (fun z => some (HO.lst z)) (bl_snoc tr _)), (upd_ne hslO).trans hsl5, s5.new hO0⟩
    rintro σ H4 ⟨row, tr, v4, rfl, hrl, htl, hr1, hL4, hO4, hsl4, s4⟩
    refine ⟨_, rfl, _, rfl, lenOk, fun p hp => ?_⟩
    have s5 := Same.upd (o := .tup [.ref L, .ref O]) hp
    exact q p L O row tr _ (s4.trans s5) upd_same (s5 _ _ hL4) (s5 _ _ hO4) hr1
/-! ### law_papers -/
def sp_law_papers (K : PySem.W.Frag) (C_Caller C_Road C_RowCaller C_RowRoad C_PaperCaller C_PaperRoad : Addr) : Sp := fun vs H Q _ => ∃ (h r t : Addr) (ws : List Int) (cm : Option Int) (row : List Int) (tr : List Bool) (T : Int) (N : Nat), vs = [.ref h, .ref r, .ref t, .int T] ∧ T = (N : Int) ∧ N ≤ 60 ∧ HallAt H h ws cm ∧ 0 < ws.length ∧ ws.length ≤ 8 ∧ (∀ x ∈ ws, 1 ≤ x) ∧ H r = some (.lst (row.map V.int)) ∧ H t = some (.lst (tr.map V.bl)) ∧ (∀ x ∈ row, 0 ≤ x ∧ x < (ws.length : Int)) ∧
  ∀ (p l m : Addr) (us zs : List V) (ps js : List ((List Int × Int) × V)) (H' : Hp), Still H H' → H' p = some (.tup [.ref l, .ref m]) → H' l = some (.lst us) → H' m = some (.lst zs) → AllAt (PairV H') ps us → AllAt (TripV H') js zs → (∀ q ∈ ps, ∃ j : Nat, q.2 = .int j ∧ j < ws.length) → (∀ q ∈ js, ∃ (t : Addr) (bs : List Bool), q.2 = .ref t ∧ H' t = some (.tup (bs.map V.bl)) ∧ bs.length = ws.length) → zs.length ≤ 60 → Q (.ref p) H'
theorem ok_law_papers {fd fd_play fd_RowCaller___init__ fd_RowRoad___init__ : FuncData} (T : Txt K mg f_beginning f_may_lose f_is_listener f_refuse_wrong_turn f_left_behind f_quiet_behind f_after f_broken_ones f_least_left f_RowCaller_call f_PaperCaller_call f_Caller_call f_RowRoad_loses f_PaperRoad_loses f_Road_loses f_play f_RowCaller___init__ f_PaperCaller___init__ f_RowRoad___init__ f_PaperRoad___init__ f_walked f_law_cell_at f_law_hall f_law_rows f_law_papers f_law_players f_law C_Caller C_Road C_RowCaller C_RowRoad C_PaperCaller C_PaperRoad) (F : Fun K "_law_papers" "_law_papers" s_law_papers f_law_papers fd) (G_play : FnOk P w K mg base CX0 5 f_play fd_play ["hall", "caller", "road", "turns"] (sp_play K C_Caller C_Road C_RowCaller C_RowRoad C_PaperCaller C_PaperRoad)) (B_play : Binds K fd_play ["hall", "caller", "road", "turns"] []) (G_RowCaller___init__ : FnOk P w K mg base CX0 1 f_RowCaller___init__ fd_RowCaller___init__ ["self", "row"] (sp_RowCaller___init__ K C_Caller C_Road C_RowCaller C_RowRoad C_PaperCaller C_PaperRoad)) (B_RowCaller___init__ : Binds K fd_RowCaller___init__ ["self", "row"] []) (G_RowRoad___init__ : FnOk P w K mg base CX0 1 f_RowRoad___init__ fd_RowRoad___init__ ["self", "row"] (sp_RowRoad___init__ K C_Caller C_Road C_RowCaller C_RowRoad C_PaperCaller C_PaperRoad)) (B_RowRoad___init__ : Binds K fd_RowRoad___init__ ["self", "row"] []) : FnOk P w K mg base CX0 6 f_law_papers fd ["hall", "row", "truths", "turns"] (sp_law_papers K C_Caller C_Road C_RowCaller C_RowRoad C_PaperCaller C_PaperRoad) := by
  refine F.ok sc_law_papers (fun vs H Q E h => ?_) (fun cdv A outer s H vs Q E hr h => ?_)
  · rcases h with ⟨h, r, t, ws, cm, row, tr, TT, N, rfl, rfl, hN, hh, hw0, hw8, hw1, hr0, ht0, hrow, q⟩ <;> rfl
  · obtain ⟨h, r, t, ws, cm, row, tr, TT, N, rfl, rfl, hN, hh, hw0, hw8, hw1, hr0, ht0, hrow, q⟩ := h
    refine ⟨_, (pss_cons (ps_set (i := 4) sc_law_papers.nd rfl (Or.inr rfl) (pe_lst pa_nil)) (pss_cons (ps_set (i := 5) sc_law_papers.nd rfl (Or.inl rfl) (pe_lst pa_nil)) (pss_cons (ps_set (i := 6) sc_law_papers.nd rfl (Or.inl rfl) pe_dnewT) (pss_cons (ps_set (i := 7) sc_law_papers.nd rfl (Or.inl rfl) (pe_callB (call_lenK K) (by rfl) T.n_len PySem.boot_len (pa_cons (pe_ix (ix_sq K) (pv 0) pe_int (fun _ _ => rfl)) pa_nil))) (pss_cons (ps_for PassesOwn.never rfl (pi_sq (pe_ix (ix_sq K) (pe_call G_play (hr.mono (by decide)) rfl T.m_play T.k_play B_play .nil pass0 (pa_cons (pv 0) (pa_cons (pe_make T.mk_RowCaller G_RowCaller___init__ (hr.mono (by decide)) (by rfl) T.c_RowCaller B_RowCaller___init__ .nil pass0 (pa_cons (pv 1) pa_nil)) (pa_cons (pe_make T.mk_RowRoad G_RowRoad___init__ (hr.mono (by decide)) (by rfl) T.c_RowRoad B_RowRoad___init__ .nil pass0 (pa_cons (pv 2) pa_nil)) (pa_cons (pv 3) pa_nil))))) pe_int (fun _ _ => rfl))) (pg_tupK K (n := 3) rfl (pgs_cons (pg_name (i := 8) sc_law_papers.nd rfl (Or.inl rfl)) (pgs_cons (pg_name (i := 9) sc_law_papers.nd rfl (Or.inl rfl)) (pgs_cons (pg_name (i := 10) sc_law_papers.nd rfl (Or.inl rfl)) pgs_nil)))) (pss_one (ps_ifJ (pt_cmp (pc_dnotin (hu20 hr) (pv 8) (pv 6)) rfl) (pss_cons (ps_dput (hu20 hr) (pv 6) (pv 8) pe_bl rfl) (pss_cons (ps_expr (pe_bm PySem.F.plainAttrs_list PySem.F.slot_list_append PySem.F.type_list_append mt_append (pv 4) (pa_cons (pe_tup (pa_cons (pv 8) (pa_cons (pe_op op_mod (pe_op op_add (pv 9) (pe_op op_fdiv (pe_op op_mod (pe_callB (call_lenK K) (by rfl) T.n_len PySem.boot_len (pa_cons (pv 4) pa_nil)) pe_int) pe_int)) (pv 7)) pa_nil))) pa_nil))) (pss_cons (ps_setComp (i := 11) sc_law_papers.nd rfl (pi_range1 (by rfl) T.n_range (pa_cons (pv 7) pa_nil)) _ rfl cs_law_papers_0 rfl rfl (fun _ _ _ _ => (pg_name (i := 0) nd_law_papers_0 rfl (Or.inl rfl))) (fun _ _ _ _ => pts_nil) (fun _ _ _ _ => (pe_cmpR op_eq (pe_op op_mod (pe_op op_add (pv 0) (pe_callB (call_lenK K) (by rfl) T.n_len PySem.boot_len (pa_cons (pv 1) pa_nil))) pe_int) pe_int (nomark _))) rfl rfl) (pss_one (ps_expr (pe_bm PySem.F.plainAttrs_list PySem.F.slot_list_append PySem.F.type_list_append mt_append (pv 5) (pa_cons (pe_tup (pa_cons (pv 8) (pa_cons (pe_callB (call_lenK K) (by rfl) T.n_len PySem.boot_len (pa_cons (pv 4) pa_nil)) (pa_cons (pe_callTy call_tuple_of (by rfl) T.n_tuple boot_tuple (pa_cons (pv 11) pa_nil)) pa_nil)))) pa_nil))))))) pss_nil))) (pss_one (ps_ret (pe_tup (pa_cons (pv 4) (pa_cons (pv 5) pa_nil)))))))))), ?_⟩
    refine ⟨lenOk, fun L hL => ?_⟩
    have s1 : Same H (upd H L (.lst [])) := Same.upd hL
    have e1 : (upd H L (.lst [])) L = some (.lst []) := upd_same
    generalize upd H L (.lst []) = H1 at s1 e1 ⊢

    refine ⟨lenOk, fun O hO => ?_⟩
    have s2 : Same H1 (upd H1 O (.lst [])) := Same.upd hO
    have e2 : (upd H1 O (.lst [])) O = some (.lst []) := upd_same
    generalize upd H1 O (.lst []) = H2 at s2 e2 ⊢

    refine fun D hD => ?_
    have s3 : Same H2 (upd H2 D (.dT [])) := Same.upd hD
    have e3 : (upd H2 D (.dT [])) D = some (.dT []) := upd_same
    generalize upd H2 D (.dT []) = H3 at s3 e3 ⊢

    have hLO : L ≠ O := ne_of_none e1 hO
    have hLD : L ≠ D := ne_of_none (s2 _ _ e1) hD
    have hOD : O ≠ D := ne_of_none e2 hD
    have nO : H O = none := s1.free hO
    have s12 := s1.trans s2
    have nD : H D = none := s12.free hD
    have s13 := s12.trans s3
    obtain ⟨wt, hh1, hh2⟩ := id hh
    have hml : ((ws.map V.int).length : Int) = (ws.length : Int) := by rw [List.length_map]
    refine ⟨_, rfl, h, _, _, _, rfl, rfl, .inr (SqT.of (s13 _ _ hh1)), rfl, wt, _, rfl, .inr (SqT.of (s13 _ _ hh2)), ?_⟩
    refine ⟨_, rfl, _, rfl, fun c0 g0 hc0 hg0 hn0 => ⟨c0, g0, r, _, rfl, upd_same, mk_same hc0 hg0 _ _ (s13 _ _ hr0), fun q0 H4 hq0 ec0 eq0 ho0 => ⟨rfl, ?_⟩⟩⟩
    have s4 := mk_then hc0 hg0 ho0
    refine ⟨_, rfl, fun d0 k0 hd0 hk0 hm0 => ⟨d0, k0, t, _, rfl, upd_same, mk_same hd0 hk0 _ _ (s4 _ _ (s13 _ _ ht0)), fun p0 H5 hp0 ed0 ep0 ho1 => ⟨rfl, ?_⟩⟩⟩
    have s5 := mk_then hd0 hk0 ho1
    have s35 := s4.trans s5
    have s05 := s13.trans s35
    refine ⟨_, rfl, h, c0, d0, C_RowCaller, g0, C_RowRoad, k0, _, _, ws, cm, _, N, rfl, rfl, hh.same s05, ne_of_none ec0 hd0, s5 _ _ ec0, .inl ⟨rfl, q0, 0, row, rfl, s5 _ _ eq0, hrow⟩, ed0, .inl ⟨rfl, p0, 0, tr, rfl, ep0⟩, hw0, hw8, hw1, by omega, fun p l b us rs bs H6 hl hb0 hlb st6 ep el hus eb ok => ?_⟩
    refine ⟨p, _, _, _, rfl, rfl, .inr (SqT.of ep), rfl, l, rfl, .inl ⟨⟨_, SqL.of el⟩, ?_⟩⟩
    have kL : H6 L = some (.lst []) := st6.lst (s35 _ _ (s3 _ _ (s2 _ _ e1)))
    have kO : H6 O = some (.lst []) := st6.lst (s35 _ _ (s3 _ _ e2))
    have kD : H6 D = some (.dT []) := st6.dT (s35 _ _ e3)
    have nlL : l ≠ L := fun z => hl [] (by rw [z]; exact s35 _ _ (s3 _ _ (s2 _ _ e1)))
    have nlO : l ≠ O := fun z => hl [] (by rw [z]; exact s35 _ _ (s3 _ _ e2))
    have nlD : l ≠ D := fun z => by rw [z, kD] at el; cases el
    have st06 : Still H H6 := (Same.still s05).trans st6
    have hul := hus.1
    have hrN : rs.length ≤ N := by
      rcases ok.2.2.2 with ⟨_, e, _⟩ | ⟨_, m, e, e2, _⟩ <;> omega
    refine for_list (K := K) (a := l) (xs := us) (fun i σ H' => ∃ (us' zs : List V) (ps js kvs : List ((List Int × Int) × V)) (v8 v9 v10 v11 : Option V), σ = [some (.ref h), some (.ref r), some (.ref t), some (.int N), some (.ref L), some (.ref O), some (.ref D), some (.int ((ws.map V.int).length : Nat)), v8, v9, v10, v11] ∧ Still H H' ∧ TupS H6 H' ∧ H' l = some (.lst us) ∧ H' L = some (.lst us') ∧ H' O = some (.lst zs) ∧ H' D = some (.dT kvs) ∧ AllAt (PairV H') ps us' ∧ AllAt (TripV H') js zs ∧
        (∀ q ∈ ps, ∃ j : Nat, q.2 = .int j ∧ j < ws.length) ∧ (∀ q ∈ js, ∃ (t : Addr) (bs : List Bool), q.2 = .ref t ∧ H' t = some (.tup (bs.map V.bl)) ∧ bs.length = ws.length) ∧ us'.length ≤ i ∧ zs.length ≤ i ∧ kvs.length ≤ i)
      ⟨[], [], [], [], [], _, _, _, _, rfl, st06, fun _ _ z => z, el, kL, kO, kD, AllAt.nil, AllAt.nil, (fun q hq => by cases hq), (fun q hq => by cases hq), Nat.le_refl _, Nat.le_refl _, Nat.le_refl _⟩ (fun i σ H' _ ⟨_, _, _, _, _, _, _, _, _, _, _, _, e, _⟩ => SqL.of e) ?_ ?_
    · rintro i u σ H' hu ⟨us', zs, ps, js, kvs, v8, v9, v10, v11, rfl, st', tp', hl', hL', hO', hD', ap, aj, hp, hj, hul', hzl', hkl'⟩
      have hi := (List.getElem?_eq_some_iff.mp hu).1
      obtain ⟨rr, hrr, tt, ss, rfl, h1, h2⟩ := hus.get hu
      obtain ⟨⟨ls, qt⟩, who, lost⟩ := rr
      have hwho : who < ws.length := ok.1 _ (List.mem_of_getElem? hrr)
      have h2' := h2.tups tp'
      refine ⟨tt, _, rfl, SqT.of (tp' _ _ h1), rfl, _, _, rfl, _, _, rfl, _, _, rfl, rfl, ?_⟩
      refine ⟨_, rfl, _, rfl, D, _, rfl, DGet.t hD' (StH.of h2'), _, rfl, _, fun hb => ?_, fun hb => ?_, fun _ _ z => z⟩
      · refine ⟨_, rfl, _, rfl, D, _, rfl, DPut.t hD' (StH.of h2') (small1000 (by omega)), ?_⟩
        have st7 : Still H (upd H' D (.dT (putK kvs (ls, qt) (.bl true)))) := st'.new nD
        have t7 : TupS H' (upd H' D (.dT (putK kvs (ls, qt) (.bl true)))) := TupS.dT hD'
        have l7 : (upd H' D (.dT (putK kvs (ls, qt) (.bl true)))) l = _ := (upd_ne nlD).trans hl'
        have L7 : (upd H' D (.dT (putK kvs (ls, qt) (.bl true)))) L = _ := (upd_ne hLD).trans hL'
        have O7 : (upd H' D (.dT (putK kvs (ls, qt) (.bl true)))) O = _ := (upd_ne hOD).trans hO'
        have D7 : (upd H' D (.dT (putK kvs (ls, qt) (.bl true)))) D = some (.dT (putK kvs (ls, qt) (.bl true))) := upd_same
        have hk7 : (putK kvs (ls, qt) (.bl true)).length ≤ i + 1 := Nat.le_trans (length_putK _ _ _) (by omega)
        generalize upd H' D (.dT (putK kvs (ls, qt) (.bl true))) = H7 at st7 t7 l7 L7 O7 D7 ⊢
        generalize putK kvs (ls, qt) (.bl true) = kvs7 at D7 hk7
        have hmp : (0 : Int) < ((ws.map V.int).length : Nat) := by omega
        refine ⟨_, rfl, .inl ⟨rfl, _, SqL.of L7⟩, _, rfl, _, rfl, _, rfl, L, _, rfl, .inl (SqL.of L7), _, _, rfl, rfl, by simp, _, _, rfl, rfl, ⟨by decide, by decide⟩, _, _, rfl, rfl, _, rfl, _, _, rfl, rfl, hmp, lenOk, fun T1 hT1 => ?_⟩
        have hj1 := emod_range ((who : Int) + (us'.length : Int) % 5 / 4) hmp
        obtain ⟨jj, hjj⟩ : ∃ jj : Nat, ((who : Int) + (us'.length : Int) % 5 / 4) % ((ws.map V.int).length : Nat) = jj := ⟨(((who : Int) + (us'.length : Int) % 5 / 4) % ((ws.map V.int).length : Nat)).toNat, by omega⟩
        have hjj2 : jj < ws.length := by omega
        have s8 : Same H7 (upd H7 T1 (.tup [.ref ss, .int (((who : Int) + (us'.length : Int) % 5 / 4) % ((ws.map V.int).length : Nat))])) := Same.upd hT1
        have e8 : (upd H7 T1 (.tup [.ref ss, .int (((who : Int) + (us'.length : Int) % 5 / 4) % ((ws.map V.int).length : Nat))])) T1 = some (.tup [.ref ss, .int (((who : Int) + (us'.length : Int) % 5 / 4) % ((ws.map V.int).length : Nat))]) := upd_same
        generalize upd H7 T1 (.tup [.ref ss, .int (((who : Int) + (us'.length : Int) % 5 / 4) % ((ws.map V.int).length : Nat))]) = H8 at s8 e8 ⊢

        have L8 := s8 _ _ L7
        refine ⟨L, _, _, rfl, rfl, L8, small1000 (by omega), ?_⟩
        have st9 : Still H (upd H8 L (.lst (us' ++ [.ref T1]))) := (st7.trans (Same.still s8)).new hL
        have t9 : TupS H8 (upd H8 L (.lst (us' ++ [.ref T1]))) := TupS.lst L8
        have l9 : (upd H8 L (.lst (us' ++ [.ref T1]))) l = _ := (upd_ne nlL).trans (s8 _ _ l7)
        have L9 : (upd H8 L (.lst (us' ++ [.ref T1]))) L = some (.lst (us' ++ [.ref T1])) := upd_same
        have O9 : (upd H8 L (.lst (us' ++ [.ref T1]))) O = _ := (upd_ne hLO.symm).trans (s8 _ _ O7)
        have D9 : (upd H8 L (.lst (us' ++ [.ref T1]))) D = _ := (upd_ne hLD.symm).trans (s8 _ _ D7)
        generalize upd H8 L (.lst (us' ++ [.ref T1])) = H9 at st9 t9 l9 L9 O9 D9 ⊢
        have t09 : TupS H' H9 := (t7.trans (Same.tups s8)).trans t9
        have hul9 : (us' ++ [V.ref T1]).length ≤ i + 1 := by rw [List.length_append, List.length_singleton]; omega
        refine ⟨_, rfl, _, rfl, by omega, by omega, fun A hA => ?_⟩
        refine comp_range (fun i ys H' => ∃ bs : List Bool, ys = bs.map V.bl ∧ bs.length = i ∧ H' A = some (.lst ys) ∧ Same H9 H') ⟨[], rfl, rfl, upd_same, Same.upd hA⟩ ?_ ?_
        · rintro i2 ys H' hi' ⟨bs2, rfl, hbl, hA', s'⟩ Qe hQ
          refine ⟨_, rfl, _, rfl, L, _, rfl, .inl (SqL.of (s' _ _ L9)), _, _, rfl, rfl, _, _, rfl, rfl, by simp, rfl, ?_⟩
          exact hQ _ _ hA' (small1000 (by rw [List.length_map]; omega)) ⟨bs2 ++ [_], bl_snoc _ _, len_snoc hbl, upd_same, s'.new hA⟩
        rintro ys H10 ⟨bs2, rfl, hbl, hA10, s10⟩
        have hbl2 : bs2.length = ws.length := by omega
        have O10 := s10 _ _ O9
        refine ⟨_, rfl, .inl ⟨rfl, _, SqL.of O10⟩, _, rfl, _, rfl, L, _, rfl, .inl (SqL.of (s10 _ _ L9)), _, rfl, A, _, rfl, .inl ⟨SqL.of hA10, fun M hM => ?_⟩⟩
        have s11 : Same H10 (upd H10 M (.tup (bs2.map V.bl))) := Same.upd hM
        have e11 : (upd H10 M (.tup (bs2.map V.bl))) M = some (.tup (bs2.map V.bl)) := upd_same
        generalize upd H10 M (.tup (bs2.map V.bl)) = H11 at s11 e11 ⊢

        refine ⟨lenOk, fun T2 hT2 => ?_⟩
        have s12 : Same H11 (upd H11 T2 (.tup [.ref ss, .int ((us' ++ [V.ref T1]).length : Nat), .ref M])) := Same.upd hT2
        have e12 : (upd H11 T2 (.tup [.ref ss, .int ((us' ++ [V.ref T1]).length : Nat), .ref M])) T2 = some (.tup [.ref ss, .int ((us' ++ [V.ref T1]).length : Nat), .ref M]) := upd_same
        generalize upd H11 T2 (.tup [.ref ss, .int ((us' ++ [V.ref T1]).length : Nat), .ref M]) = H12 at s12 e12 ⊢

        have s912 := (s10.trans s11).trans s12
        have O12 := s912 _ _ O9
        refine ⟨O, _, _, rfl, rfl, O12, small1000 (by omega), ?_⟩
        have t13 : TupS H12 (upd H12 O (.lst (zs ++ [.ref T2]))) := TupS.lst O12
        have t913 := (Same.tups s912).trans t13
        have t013 := t09.trans t913
        have hss := h2'.tups t013
        refine ⟨us' ++ [.ref T1], zs ++ [.ref T2], ps ++ [((ls, qt), .int jj)], js ++ [((ls, qt), .ref M)], kvs7, _, _, _, _, rfl, (st9.trans (Same.still s912)).new nO, tp'.trans t013, (upd_ne nlO).trans (s912 _ _ l9), (upd_ne hLO).trans (s912 _ _ L9), upd_same, (upd_ne hOD.symm).trans (s912 _ _ D9), ?_, ?_, mem_snoc hp ⟨jj, rfl, hjj2⟩, ?_, hul9, by rw [List.length_append, List.length_singleton]; omega, hk7⟩
        · refine (ap.imp fun _ _ z => z.tups t013).append (AllAt.one ⟨T1, ss, rfl, ?_, hss⟩)
          rw [← hjj]
          exact t913 _ _ (t9 _ _ e8)
        · exact (aj.imp fun _ _ z => z.tups t013).append (AllAt.one ⟨T2, ss, _, rfl, t13 _ _ e12, hss⟩)
        · refine mem_snoc (fun q hq => ?_) ⟨M, bs2, rfl, t13 _ _ (s12 _ _ e11), hbl2⟩
          obtain ⟨t1, b1, x1, x2, x3⟩ := hj q hq
          exact ⟨t1, b1, x1, t013 _ _ x2, x3⟩
      · exact ⟨us', zs, ps, js, kvs, _, _, _, _, rfl, st', tp', hl', hL', hO', hD', ap, aj, hp, hj, by omega, by omega, by omega⟩
    rintro σ H' ⟨us', zs, ps, js, kvs, v8, v9, v10, v11, rfl, st', tp', hl', hL', hO', hD', ap, aj, hp, hj, hul', hzl', hkl'⟩
    refine ⟨_, rfl, _, rfl, lenOk, fun pp hpp => ?_⟩
    have s7 := Same.upd (o := .tup [.ref L, .ref O]) hpp
    exact q pp L O us' zs ps js _ (st'.trans (Same.still s7)) upd_same (s7 _ _ hL') (s7 _ _ hO') (ap.imp fun _ _ z => z.same s7) (aj.imp fun _ _ z => z.same s7) hp (fun q hq => by
      obtain ⟨t1, b1, x1, x2, x3⟩ := hj q hq
      exact ⟨t1, b1, x1, s7 _ _ x2, x3⟩) (by omega)
/-! ### law_players -/
def sp_law_players (K : PySem.W.Frag) (C_Caller C_Road C_RowCaller C_RowRoad C_PaperCaller C_PaperRoad : Addr) : Sp := fun vs H Q _ => ∃ (a h : Addr) (ns ws : List Int) (cm : Option Int) (T : Int) (N : Nat), vs = [.ref a, .ref h, .int T] ∧ T = (N : Int) ∧ N ≤ 60 ∧ SqL K H a (ns.map V.int) ∧ ns.length ≤ 63 ∧ HallAt H h ws cm ∧ 0 < ws.length ∧ ws.length ≤ 8 ∧ (∀ x ∈ ws, 1 ≤ x) ∧
  ∀ (p c g Cc dc Cg dg : Addr) (fc fg : List (Str × V)) (H' : Hp), Still H H' → H' p = some (.tup [.ref c, .ref g]) → c ≠ g → H' c = some (.ins Cc dc fc) → CalF C_Caller C_RowCaller C_PaperCaller ws.length H' Cc fc → H' g = some (.ins Cg dg fg) → RoaF C_Road C_RowRoad C_PaperRoad ws.length H' Cg fg → Q (.ref p) H'
theorem ok_law_players {fd fd_law_rows fd_law_papers fd_RowCaller___init__ fd_PaperCaller___init__ fd_RowRoad___init__ fd_PaperRoad___init__ fd_law_cell_at : FuncData} (T : Txt K mg f_beginning f_may_lose f_is_listener f_refuse_wrong_turn f_left_behind f_quiet_behind f_after f_broken_ones f_least_left f_RowCaller_call f_PaperCaller_call f_Caller_call f_RowRoad_loses f_PaperRoad_loses f_Road_loses f_play f_RowCaller___init__ f_PaperCaller___init__ f_RowRoad___init__ f_PaperRoad___init__ f_walked f_law_cell_at f_law_hall f_law_rows f_law_papers f_law_players f_law C_Caller C_Road C_RowCaller C_RowRoad C_PaperCaller C_PaperRoad) (F : Fun K "_law_players" "_law_players" s_law_players f_law_players fd) (G_law_rows : FnOk P w K mg base CX0 1 f_law_rows fd_law_rows ["script", "many"] (sp_law_rows K)) (B_law_rows : Binds K fd_law_rows ["script", "many"] []) (G_law_papers : FnOk P w K mg base CX0 6 f_law_papers fd_law_papers ["hall", "row", "truths", "turns"] (sp_law_papers K C_Caller C_Road C_RowCaller C_RowRoad C_PaperCaller C_PaperRoad)) (B_law_papers : Binds K fd_law_papers ["hall", "row", "truths", "turns"] []) (G_RowCaller___init__ : FnOk P w K mg base CX0 1 f_RowCaller___init__ fd_RowCaller___init__ ["self", "row"] (sp_RowCaller___init__ K C_Caller C_Road C_RowCaller C_RowRoad C_PaperCaller C_PaperRoad)) (B_RowCaller___init__ : Binds K fd_RowCaller___init__ ["self", "row"] []) (G_PaperCaller___init__ : FnOk P w K mg base CX0 1 f_PaperCaller___init__ fd_PaperCaller___init__ ["self", "paper"] (sp_PaperCaller___init__ K C_Caller C_Road C_RowCaller C_RowRoad C_PaperCaller C_PaperRoad)) (B_PaperCaller___init__ : Binds K fd_PaperCaller___init__ ["self", "paper"] []) (G_RowRoad___init__ : FnOk P w K mg base CX0 1 f_RowRoad___init__ fd_RowRoad___init__ ["self", "row"] (sp_RowRoad___init__ K C_Caller C_Road C_RowCaller C_RowRoad C_PaperCaller C_PaperRoad)) (B_RowRoad___init__ : Binds K fd_RowRoad___init__ ["self", "row"] []) (G_PaperRoad___init__ : FnOk P w K mg base CX0 1 f_PaperRoad___init__ fd_PaperRoad___init__ ["self", "paper"] (sp_PaperRoad___init__ K C_Caller C_Road C_RowCaller C_RowRoad C_PaperCaller C_PaperRoad)) (B_PaperRoad___init__ : Binds K fd_PaperRoad___init__ ["self", "paper"] []) (G_law_cell_at : FnOk P w K mg base CX0 1 f_law_cell_at fd_law_cell_at ["script", "k"] (sp_law_cell_at K)) (B_law_cell_at : Binds K fd_law_cell_at ["script", "k"] []) : FnOk P w K mg base CX0 7 f_law_players fd ["script", "hall", "turns"] (sp_law_players K C_Caller C_Road C_RowCaller C_RowRoad C_PaperCaller C_PaperRoad) := by
  refine F.ok sc_law_players (fun vs H Q E h => ?_) (fun cdv A outer s H vs Q E hr h => ?_)
  · rcases h with ⟨a, h, ns, ws, cm, TT, N, rfl, rfl, hN, hS, hlen, hh, hw0, hw8, hw1, q⟩ <;> rfl
  · obtain ⟨a, h, ns, ws, cm, TT, N, rfl, rfl, hN, hS, hlen, hh, hw0, hw8, hw1, q⟩ := h
    refine ⟨_, (pss_cons (ps_asg (pe_call G_law_rows (hr.mono (by decide)) rfl T.m_law_rows T.k_law_rows B_law_rows .nil pass0 (pa_cons (pv 0) (pa_cons (pe_callB (call_lenK K) (by rfl) T.n_len PySem.boot_len (pa_cons (pe_ix (ix_sq K) (pv 1) pe_int (fun _ _ => rfl)) pa_nil)) pa_nil))) (pg_tupK K (n := 2) rfl (pgs_cons (pg_name (i := 3) sc_law_players.nd rfl (Or.inl rfl)) (pgs_cons (pg_name (i := 4) sc_law_players.nd rfl (Or.inl rfl)) pgs_nil)))) (pss_cons (ps_asg (pe_call G_law_papers (hr.mono (by decide)) rfl T.m_law_papers T.k_law_papers B_law_papers .nil pass0 (pa_cons (pv 1) (pa_cons (pv 3) (pa_cons (pv 4) (pa_cons (pv 2) pa_nil))))) (pg_tupK K (n := 2) rfl (pgs_cons (pg_name (i := 5) sc_law_players.nd rfl (Or.inl rfl)) (pgs_cons (pg_name (i := 6) sc_law_players.nd rfl (Or.inl rfl)) pgs_nil)))) (pss_cons (ps_set (i := 7) sc_law_players.nd rfl (Or.inl rfl) (pe_op op_mod (pe_call G_law_cell_at (hr.mono (by decide)) rfl T.m_law_cell_at T.k_law_cell_at B_law_cell_at .nil pass0 (pa_cons (pv 0) (pa_cons pe_int pa_nil))) pe_int)) (pss_cons (ps_set (i := 8) sc_law_players.nd rfl (Or.inl rfl) (pe_makeN T.mk_Caller (by rfl) T.c_Caller)) (pss_cons (ps_set (i := 9) sc_law_players.nd rfl (Or.inl rfl) (pe_makeN T.mk_Road (by rfl) T.c_Road)) (pss_cons (ps_ifJ (pt_cmpR op_eq (pe_op op_mod (pv 7) pe_int) pe_int (nomark _)) (pss_one (ps_set (i := 8) sc_law_players.nd rfl (Or.inl rfl) (pe_make T.mk_RowCaller G_RowCaller___init__ (hr.mono (by decide)) (by rfl) T.c_RowCaller B_RowCaller___init__ .nil pass0 (pa_cons (pv 3) pa_nil)))) pss_nil) (pss_cons (ps_ifJ (pt_cmpR op_eq (pe_op op_mod (pv 7) pe_int) pe_int (nomark _)) (pss_one (ps_set (i := 8) sc_law_players.nd rfl (Or.inl rfl) (pe_make T.mk_PaperCaller G_PaperCaller___init__ (hr.mono (by decide)) (by rfl) T.c_PaperCaller B_PaperCaller___init__ .nil pass0 (pa_cons (pv 5) pa_nil)))) pss_nil) (pss_cons (ps_ifJ (pt_cmpR op_eq (pe_op op_fdiv (pv 7) pe_int) pe_int (nomark _)) (pss_one (ps_set (i := 9) sc_law_players.nd rfl (Or.inl rfl) (pe_make T.mk_RowRoad G_RowRoad___init__ (hr.mono (by decide)) (by rfl) T.c_RowRoad B_RowRoad___init__ .nil pass0 (pa_cons (pv 4) pa_nil)))) pss_nil) (pss_cons (ps_ifJ (pt_cmpR op_eq (pe_op op_fdiv (pv 7) pe_int) pe_int (nomark _)) (pss_one (ps_set (i := 9) sc_law_players.nd rfl (Or.inl rfl) (pe_make T.mk_PaperRoad G_PaperRoad___init__ (hr.mono (by decide)) (by rfl) T.c_PaperRoad B_PaperRoad___init__ .nil pass0 (pa_cons (pv 6) pa_nil)))) pss_nil) (pss_one (ps_ret (pe_tup (pa_cons (pv 8) (pa_cons (pv 9) pa_nil)))))))))))))), ?_⟩
    obtain ⟨wt, hh1, hh2⟩ := id hh
    have hml : ((ws.map V.int).length : Int) = (ws.length : Int) := by rw [List.length_map]
    refine ⟨_, rfl, _, rfl, h, _, _, _, rfl, rfl, .inr (SqT.of hh1), rfl, wt, _, rfl, .inr (SqT.of hh2), a, ns, _, rfl, hS, hlen, by omega, fun p r t row tr H1 s1 ep er et hrow => ?_⟩
    rw [hml] at hrow
    refine ⟨p, _, rfl, SqT.of ep, rfl, _, _, rfl, _, _, rfl, rfl, ?_⟩
    refine ⟨_, rfl, _, rfl, _, rfl, _, rfl, h, r, t, ws, cm, row, tr, _, N, rfl, rfl, hN, hh.same s1, hw0, hw8, hw1, er, et, hrow, fun p2 l m us zs ps js H2 st2 ep2 el em ap aj hp hj hz60 => ?_⟩
    refine ⟨p2, _, rfl, SqT.of ep2, rfl, _, _, rfl, _, _, rfl, rfl, ?_⟩
    have st02 := (Same.still s1).trans st2
    have er2 := st2.lst er
    have et2 := st2.lst et
    refine ⟨_, rfl, a, ns, 2, rfl, st02.seq hS, by decide, _, _, rfl, rfl, by simp, ?_⟩
    intro c0 x0 hc0 hx0 hn0
    have s3 := mk_same (C := C_Caller) hc0 hx0
    have e3 : (upd (upd H2 x0 (.own c0)) c0 (.ins C_Caller x0 [])) c0 = some (.ins C_Caller x0 []) := upd_same
    generalize upd (upd H2 x0 (.own c0)) c0 (.ins C_Caller x0 []) = H3 at s3 e3 ⊢
    intro g0 y0 hg0 hy0 hm0
    have s4 := mk_same (C := C_Road) hg0 hy0
    have e4 : (upd (upd H3 y0 (.own g0)) g0 (.ins C_Road y0 [])) g0 = some (.ins C_Road y0 []) := upd_same
    generalize upd (upd H3 y0 (.own g0)) g0 (.ins C_Road y0 []) = H7 at s4 e4 ⊢
    have s27 := s3.trans s4
    have fc := s4 _ _ e3
    have hcg : c0 ≠ g0 := ne_of_none e3 hg0
    refine ⟨_, rfl, _, _, rfl, rfl, by simp, rfl, _, rfl, (fun σ' H' => ∃ (c Cc dc : Addr) (fc : List (Str × V)), σ' = [some (.ref a), some (.ref h), some (.int N), some (.ref r), some (.ref t), some (.ref l), some (.ref m), some (.int (cellI ns 2 % 9)), some (.ref c), some (.ref g0)] ∧ c ≠ g0 ∧ H' c = some (.ins Cc dc fc) ∧ CalF C_Caller C_RowCaller C_PaperCaller ws.length H' Cc fc ∧ Same H7 H'), fun _ => ?_, fun _ => ⟨c0, _, _, _, rfl, hcg, fc, .inr (.inr ⟨rfl, rfl⟩), Same.refl _⟩, ?_⟩
    · refine ⟨_, rfl, fun c dc hc hdc hnc => ⟨c, dc, r, _, rfl, upd_same, mk_same hc hdc _ _ (s27 _ _ er2), fun qc H8 hqc ec eqc hoc => ⟨rfl, ?_⟩⟩⟩
      have s8 := mk_then hc hdc hoc
      exact ⟨c, _, _, _, rfl, (ne_of_none e4 hc).symm, ec, .inl ⟨rfl, qc, 0, row, rfl, eqc, hrow⟩, s8⟩
    rintro σ Hm ⟨c1, Cc1, dc1, fc1, rfl, hcg1, ec1, hcf1, sm⟩
    refine ⟨_, rfl, _, _, rfl, rfl, by simp, rfl, _, rfl, (fun σ' H' => ∃ (c Cc dc : Addr) (fc : List (Str × V)), σ' = [some (.ref a), some (.ref h), some (.int N), some (.ref r), some (.ref t), some (.ref l), some (.ref m), some (.int (cellI ns 2 % 9)), some (.ref c), some (.ref g0)] ∧ c ≠ g0 ∧ H' c = some (.ins Cc dc fc) ∧ CalF C_Caller C_RowCaller C_PaperCaller ws.length H' Cc fc ∧ Same H7 H'), fun _ => ?_, fun _ => ⟨c1, _, _, _, rfl, hcg1, ec1, hcf1, sm⟩, ?_⟩
    · refine ⟨_, rfl, fun c2 d2 hc2 hd2 hn2 => ⟨c2, d2, l, us, ps, rfl, upd_same, mk_same hc2 hd2 _ _ ((s27.trans sm) _ _ el), ap.imp (fun _ _ z => z.same ((s27.trans sm).trans (mk_same hc2 hd2))), fun d H9 hd9 e9 ed9 ho9 => ⟨rfl, ?_⟩⟩⟩
      have s9 := mk_then hc2 hd2 ho9
      exact ⟨c2, _, _, _, rfl, (ne_of_none (sm _ _ e4) hc2).symm, e9, .inr (.inl ⟨rfl, d, _, rfl, ed9, put_all (P := fun v => ∃ j : Nat, v = .int j ∧ j < ws.length) hp⟩), sm.trans s9⟩
    rintro σ H8 ⟨c, Cc, dc, fc', rfl, hcg', ec, hcf, s8⟩
    have s28 := s27.trans s8
    refine ⟨_, rfl, _, _, rfl, rfl, ⟨by decide, by decide⟩, rfl, _, rfl, (fun σ' H' => ∃ (g Cg dg : Addr) (fg : List (Str × V)), σ' = [some (.ref a), some (.ref h), some (.int N), some (.ref r), some (.ref t), some (.ref l), some (.ref m), some (.int (cellI ns 2 % 9)), some (.ref c), some (.ref g)] ∧ c ≠ g ∧ H' g = some (.ins Cg dg fg) ∧ RoaF C_Road C_RowRoad C_PaperRoad ws.length H' Cg fg ∧ Same H8 H'), fun _ => ?_, fun _ => ⟨g0, _, _, _, rfl, hcg', s8 _ _ e4, .inr (.inr ⟨rfl, rfl⟩), Same.refl _⟩, ?_⟩
    · refine ⟨_, rfl, fun g dg hg hdg hng => ⟨g, dg, t, _, rfl, upd_same, mk_same hg hdg _ _ (s28 _ _ et2), fun qg H9 hqg eg eqg hog => ⟨rfl, ?_⟩⟩⟩
      have s9 := mk_then hg hdg hog
      exact ⟨g, _, _, _, rfl, ne_of_none ec hg, eg, .inl ⟨rfl, qg, 0, tr, rfl, eqg⟩, s9⟩
    rintro σ Hn ⟨g1, Cg1, dg1, fg1, rfl, hcg2, eg1, hgf1, sn⟩
    refine ⟨_, rfl, _, _, rfl, rfl, ⟨by decide, by decide⟩, rfl, _, rfl, (fun σ' H' => ∃ (g Cg dg : Addr) (fg : List (Str × V)), σ' = [some (.ref a), some (.ref h), some (.int N), some (.ref r), some (.ref t), some (.ref l), some (.ref m), some (.int (cellI ns 2 % 9)), some (.ref c), some (.ref g)] ∧ c ≠ g ∧ H' g = some (.ins Cg dg fg) ∧ RoaF C_Road C_RowRoad C_PaperRoad ws.length H' Cg fg ∧ Same H8 H'), fun _ => ?_, fun _ => ⟨g1, _, _, _, rfl, hcg2, eg1, hgf1, sn⟩, ?_⟩
    · refine ⟨_, rfl, fun g2 d2 hg2 hd2 hn2 => ⟨g2, d2, m, zs, js, rfl, upd_same, mk_same hg2 hd2 _ _ ((s28.trans sn) _ _ em), by omega, aj.imp (fun _ _ z => z.same ((s28.trans sn).trans (mk_same hg2 hd2))), fun d H9 hd9 e9 ed9 ho9 => ⟨rfl, ?_⟩⟩⟩
      have s9 := mk_then hg2 hd2 ho9
      have s29 := (s28.trans sn).trans s9
      refine ⟨g2, _, _, _, rfl, ne_of_none (sn _ _ ec) hg2, e9, .inr (.inl ⟨rfl, d, _, rfl, ed9, put_all (P := fun v => ∃ (t : Addr) (bs : List Bool), v = .ref t ∧ H9 t = some (.tup (bs.map V.bl)) ∧ bs.length = ws.length) (fun q hq => ?_)⟩), sn.trans s9⟩
      obtain ⟨t1, b1, x1, x2, x3⟩ := hj q hq
      exact ⟨t1, b1, x1, s29 _ _ x2, x3⟩
    rintro σ H9 ⟨g, Cg, dg, fg, rfl, hcg3, eg, hgf, s9⟩
    refine ⟨_, rfl, _, rfl, lenOk, fun pp hpp => ?_⟩
    have s10 := Same.upd (o := .tup [.ref c, .ref g]) hpp
    exact q pp c g _ _ _ _ _ _ _ ((st02.trans (Same.still (s28.trans s9))).trans (Same.still s10)) upd_same hcg3 (s10 _ _ (s9 _ _ ec)) (hcf.still (Same.still (s9.trans s10))) (s10 _ _ eg) (hgf.still (Same.still s10))
/-! ### law -/
def sp_law (K : PySem.W.Frag) : Sp := fun vs H Q _ => ∃ (a : Addr) (ns : List Int), vs = [.ref a] ∧ SqL K H a (ns.map V.int) ∧ ns.length ≤ 63 ∧ (∀ z ∈ ns, intBits z ≤ 2 ^ 20) ∧ ∀ H', Q (.bl true) H'
theorem ok_law {fd fd_law_hall fd_law_players fd_play fd_walked fd_law_cell_at : FuncData} (T : Txt K mg f_beginning f_may_lose f_is_listener f_refuse_wrong_turn f_left_behind f_quiet_behind f_after f_broken_ones f_least_left f_RowCaller_call f_PaperCaller_call f_Caller_call f_RowRoad_loses f_PaperRoad_loses f_Road_loses f_play f_RowCaller___init__ f_PaperCaller___init__ f_RowRoad___init__ f_PaperRoad___init__ f_walked f_law_cell_at f_law_hall f_law_rows f_law_papers f_law_players f_law C_Caller C_Road C_RowCaller C_RowRoad C_PaperCaller C_PaperRoad) (F : Fun K "law" "law" s_law f_law fd) (G_law_hall : FnOk P w K mg base CX0 2 f_law_hall fd_law_hall ["script"] (sp_law_hall K)) (B_law_hall : Binds K fd_law_hall ["script"] []) (G_law_players : FnOk P w K mg base CX0 7 f_law_players fd_law_players ["script", "hall", "turns"] (sp_law_players K C_Caller C_Road C_RowCaller C_RowRoad C_PaperCaller C_PaperRoad)) (B_law_players : Binds K fd_law_players ["script", "hall", "turns"] []) (G_play : FnOk P w K mg base CX0 5 f_play fd_play ["hall", "caller", "road", "turns"] (sp_play K C_Caller C_Road C_RowCaller C_RowRoad C_PaperCaller C_PaperRoad)) (B_play : Binds K fd_play ["hall", "caller", "road", "turns"] []) (G_walked : FnOk P w K mg base CX0 5 f_walked fd_walked ["hall", "standing", "calls", "losses"] (sp_walked K)) (B_walked : Binds K fd_walked ["hall", "standing", "calls", "losses"] []) (G_law_cell_at : FnOk P w K mg base CX0 1 f_law_cell_at fd_law_cell_at ["script", "k"] (sp_law_cell_at K)) (B_law_cell_at : Binds K fd_law_cell_at ["script", "k"] []) : FnOk P w K mg base CX0 8 f_law fd ["script"] (sp_law K) := by
  refine F.ok sc_law (fun vs H Q E h => ?_) (fun cdv A outer s H vs Q E hr h => ?_)
  · rcases h with ⟨a, ns, rfl, hS, hlen, hbig, q⟩ <;> rfl
  · obtain ⟨a, ns, rfl, hS, hlen, hbig, q⟩ := h
    refine ⟨_, (pss_cons (ps_set (i := 1) sc_law.nd rfl (Or.inl rfl) (pe_call G_law_hall (hr.mono (by decide)) rfl T.m_law_hall T.k_law_hall B_law_hall .nil pass0 (pa_cons (pv 0) pa_nil))) (pss_cons (ps_set (i := 2) sc_law.nd rfl (Or.inl rfl) (pe_op op_mod (pe_op op_add (pe_call G_law_cell_at (hr.mono (by decide)) rfl T.m_law_cell_at T.k_law_cell_at B_law_cell_at .nil pass0 (pa_cons (pv 0) (pa_cons pe_int pa_nil))) (pe_op op_fdiv (pe_call G_law_cell_at (hr.mono (by decide)) rfl T.m_law_cell_at T.k_law_cell_at B_law_cell_at .nil pass0 (pa_cons (pv 0) (pa_cons pe_int pa_nil))) pe_int)) pe_int)) (pss_cons (ps_asg (pe_call G_law_players (hr.mono (by decide)) rfl T.m_law_players T.k_law_players B_law_players .nil pass0 (pa_cons (pv 0) (pa_cons (pv 1) (pa_cons (pv 2) pa_nil)))) (pg_tupK K (n := 2) rfl (pgs_cons (pg_name (i := 3) sc_law.nd rfl (Or.inl rfl)) (pgs_cons (pg_name (i := 4) sc_law.nd rfl (Or.inl rfl)) pgs_nil)))) (pss_cons (ps_asg (pe_call G_play (hr.mono (by decide)) rfl T.m_play T.k_play B_play .nil pass0 (pa_cons (pv 1) (pa_cons (pv 3) (pa_cons (pv 4) (pa_cons (pv 2) pa_nil))))) (pg_tupK K (n := 2) rfl (pgs_cons (pg_name (i := 5) sc_law.nd rfl (Or.inl rfl)) (pgs_cons (pg_name (i := 6) sc_law.nd rfl (Or.inl rfl)) pgs_nil)))) (pss_cons (ps_setComp (i := 7) sc_law.nd rfl (pi_sq (pv 5)) _ rfl cs_law_0 rfl rfl (fun _ _ _ _ => (pg_name (i := 0) nd_law_0 rfl (Or.inl rfl))) (fun _ _ _ _ => pts_nil) (fun _ _ _ _ => (pe_ix (ix_sq K) (pv 0) pe_int (fun _ _ => rfl))) rfl rfl) (pss_cons (ps_setComp (i := 8) sc_law.nd rfl (pi_sq (pv 5)) _ rfl cs_law_1 rfl rfl (fun _ _ _ _ => (pg_name (i := 0) nd_law_1 rfl (Or.inl rfl))) (fun _ _ _ _ => pts_nil) (fun _ _ _ _ => (pe_ix (ix_sq K) (pv 0) pe_int (fun _ _ => rfl))) rfl rfl) (pss_cons (ps_set (i := 9) sc_law.nd rfl (Or.inl rfl) (pe_tup (pa_cons (pe_ix (ix_sq K) (pv 1) pe_int (fun _ _ => rfl)) (pa_cons pe_int pa_nil)))) (pss_cons (ps_set (i := 10) sc_law.nd rfl (Or.inl rfl) (pe_call G_walked (hr.mono (by decide)) rfl T.m_walked T.k_walked B_walked .nil pass0 (pa_cons (pv 1) (pa_cons (pv 9) (pa_cons (pv 7) (pa_cons (pv 8) pa_nil)))))) (pss_cons (ps_if (pt_cmpR (op_neD hr) (pv 6) (pe_lst pa_nil) (nomark _)) (pss_one (ps_if (pt_cmpR (op_neD hr) (pv 10) (pe_tup (pa_cons (pe_op op_sub (pe_callB (call_lenK K) (by rfl) T.n_len PySem.boot_len (pa_cons (pv 5) pa_nil)) pe_int) (pa_cons pe_non pa_nil))) (nomark _)) (pss_one (ps_ret pe_bl)) pss_nil)) (pss_one (ps_if (PW.pt (pw_orX (pt_cmpR op_ne (pe_callB (call_lenK K) (by rfl) T.n_len PySem.boot_len (pa_cons (pv 5) pa_nil)) (pv 2) (nomark _)) (pw_orX (pt_cmpR op_ne (pe_ix (ix_sq K) (pv 10) pe_int (fun _ _ => rfl)) (pv 2) (nomark _)) (pw_or1 (pt_cmpR op_isN (pe_ix (ix_sq K) (pv 10) pe_int (fun _ _ => rfl)) pe_non (nomark _)))))) (pss_one (ps_ret pe_bl)) pss_nil))) (pss_cons (ps_if (pt_cmpR (op_eqD hr) (pv 5) (pe_lst pa_nil) (nomark _)) (pss_one (ps_ret (pe_cmpR (op_eqD hr) (pv 10) (pe_tup (pa_cons pe_int (pa_cons (pv 9) pa_nil))) (nomark _)))) pss_nil) (pss_cons (ps_set (i := 11) sc_law.nd rfl (Or.inl rfl) (pe_op op_mod (pe_op op_fdiv (pe_call G_law_cell_at (hr.mono (by decide)) rfl T.m_law_cell_at T.k_law_cell_at B_law_cell_at .nil pass0 (pa_cons (pv 0) (pa_cons pe_int pa_nil))) pe_int) (pe_callB (call_lenK K) (by rfl) T.n_len PySem.boot_len (pa_cons (pv 5) pa_nil)))) (pss_one (ps_ret (pe_cmpR (op_eqD hr) (pe_call G_walked (hr.mono (by decide)) rfl T.m_walked T.k_walked B_walked .nil pass0 (pa_cons (pv 1) (pa_cons (pv 9) (pa_cons (pe_slice (sl_listK K) (pv 7) po_none (po_some (pv 11))) (pa_cons (pe_slice (sl_listK K) (pv 8) po_none (po_some (pv 11))) pa_nil))))) (pe_tup (pa_cons (pv 11) (pa_cons (pe_ix (ix_sq K) (pe_ix (ix_sq K) (pv 5) (pv 11) (fun _ _ => rfl)) pe_int (fun _ _ => rfl)) pa_nil))) (nomark _))))))))))))))), ?_⟩
    refine ⟨_, rfl, a, ns, rfl, hS, hbig, fun hp ws cm H1 s1 hall hw0 hw8 hw1 => ?_⟩
    have hS1 := s1.seq hS
    refine ⟨_, rfl, a, ns, 3, rfl, hS1, by decide, _, rfl, a, ns, 2, rfl, hS1, by decide, _, _, rfl, rfl, ⟨by decide, by decide⟩, _, _, rfl, rfl, _, _, rfl, rfl, by simp, ?_⟩
    have hT := emod_range (cellI ns 3 + cellI ns 2 / 9) (show (0 : Int) < 51 by decide)
    obtain ⟨N, hN⟩ : ∃ N : Nat, ((cellI ns 3 + cellI ns 2 / 9) % 51) = N := ⟨((cellI ns 3 + cellI ns 2 / 9) % 51).toNat, by omega⟩
    have hN50 : N ≤ 50 := by omega
    refine ⟨_, rfl, _, rfl, _, rfl, a, hp, ns, ws, cm, _, N, rfl, hN, by omega, hS1, hlen, hall, hw0, hw8, hw1, fun p c g Cc dc Cg dg fc fg H2 st2 ep hcg ec hcf eg hgf => ?_⟩
    refine ⟨p, _, rfl, SqT.of ep, rfl, _, _, rfl, _, _, rfl, rfl, ?_⟩
    refine ⟨_, rfl, _, rfl, _, rfl, _, rfl, hp, c, g, Cc, dc, Cg, dg, fc, fg, ws, cm, _, N, rfl, hN, hall.still st2, hcg, ec, hcf, eg, hgf, hw0, hw8, hw1, by omega, fun p3 l b us rs bs H3 hl hb hlb st3 ep3 el hus eb ok => ?_⟩
    refine ⟨p3, _, rfl, SqT.of ep3, rfl, _, _, rfl, _, _, rfl, rfl, ?_⟩
    have hul := hus.1
    have hrN : rs.length ≤ N := by
      rcases ok.2.2.2 with ⟨_, e, _⟩ | ⟨_, m, e, e2, _⟩ <;> omega
    have st03 := ((Same.still s1).trans st2).trans st3
    have hall3 := (hall.still st2).still st3

    refine ⟨_, rfl, l, rfl, .inl ⟨⟨_, SqL.of el⟩, fun C hC => ?_⟩⟩
    refine comp_list (K := K) (a := l) (xs := us) (fun i ys H' => ys = ((rs.take i).map (·.2.1)).map (fun k => V.int (k : Nat)) ∧ H' C = some (.lst ys) ∧ Same H3 H') ⟨rfl, upd_same, Same.upd hC⟩ (fun i ys H' _ ⟨_, _, s⟩ => SqL.of (s _ _ el)) ?_ ?_
    · rintro i u ys H' hu ⟨rfl, hC', s'⟩ Qe hQ
      have hi := (List.getElem?_eq_some_iff.mp hu).1
      obtain ⟨rr, hrr, tt, ss, rfl, h1, h2⟩ := hus.get hu
      refine ⟨_, rfl, tt, _, _, _, rfl, rfl, .inr (SqT.of (s' _ _ (id h1))), rfl, ?_⟩
      refine hQ _ _ hC' (small1000 (by rw [List.length_map, List.length_map, List.length_take]; omega)) ⟨?_, upd_same, s'.new hC⟩
      rw [tk_snoc hrr, List.map_append, List.map_append]
      rfl
    rintro ys H4 ⟨rfl, eC, s4⟩
    rw [hul, List.take_length] at eC

    refine ⟨_, rfl, l, rfl, .inl ⟨⟨_, SqL.of (s4 _ _ el)⟩, fun C2 hC2 => ?_⟩⟩
    refine comp_list (K := K) (a := l) (xs := us) (fun i ys H' => ys = ((rs.take i).map (·.2.2)).map V.bl ∧ H' C2 = some (.lst ys) ∧ Same H4 H') ⟨rfl, upd_same, Same.upd hC2⟩ (fun i ys H' _ ⟨_, _, s⟩ => SqL.of (s _ _ (s4 _ _ el))) ?_ ?_
    · rintro i u ys H' hu ⟨rfl, hC', s'⟩ Qe hQ
      have hi := (List.getElem?_eq_some_iff.mp hu).1
      obtain ⟨rr, hrr, tt, ss, rfl, h1, h2⟩ := hus.get hu
      refine ⟨_, rfl, tt, _, _, _, rfl, rfl, .inr (SqT.of (s' _ _ (s4 _ _ h1))), rfl, ?_⟩
      refine hQ _ _ hC' (small1000 (by rw [List.length_map, List.length_map, List.length_take]; omega)) ⟨?_, upd_same, s'.new hC2⟩
      rw [tk_snoc hrr, List.map_append, List.map_append]
      rfl
    rintro ys H5 ⟨rfl, eC2, s5⟩
    rw [hul, List.take_length] at eC2

    have s35 := s4.trans s5
    obtain ⟨wt, hh1, hh2⟩ := id hall3
    refine ⟨_, rfl, hp, _, _, _, rfl, rfl, .inr (SqT.of (s35 _ _ hh1)), rfl, lenOk, fun b0 hb0 => ?_⟩
    have s6 : Same H5 (upd H5 b0 (.tup [.ref wt, .int 0])) := Same.upd hb0
    have e6 : (upd H5 b0 (.tup [.ref wt, .int 0])) b0 = some (.tup [.ref wt, .int 0]) := upd_same
    generalize upd H5 b0 (.tup [.ref wt, .int 0]) = H6 at s6 e6 ⊢

    have s36 := s35.trans s6
    have hst6 : StAt H6 b0 ws 0 := ⟨wt, e6, s36 _ _ hh2⟩
    refine ⟨_, rfl, _, rfl, _, rfl, _, rfl, hp, b0, C, C2, ws, ws, cm, 0, rs.map (·.2.1), rs.map (·.2.2), rfl, hall3.same s36, hst6, rfl, hw8, s6 _ _ (s5 _ _ eC), s6 _ _ eC2, by rw [List.length_map, List.length_map], (fun x hx => ?_), ok.2.1, fun pf H7 s7 wf => ?_⟩
    · obtain ⟨y, hy, rfl⟩ := List.mem_map.mp hx
      exact ok.1 y hy
    rw [zip_parts] at wf
    have s37 := s36.trans s7
    have el7 := s37 _ _ el
    have eb7 := s37 _ _ eb
    have hus7 := rows_tups (Same.tups s37) hus
    have hall7 := hall3.same s37
    have hst7 := hst6.same s7
    have eC7 := s7 _ _ (s6 _ _ (s5 _ _ eC))
    have eC27 := s7 _ _ (s6 _ _ eC2)
    have st07 := st03.trans (Same.still s37)
    refine ⟨_, rfl, lenOk, fun E hE => ?_⟩
    have s8 : Same H7 (upd H7 E (.lst [])) := Same.upd hE
    have e8 : (upd H7 E (.lst [])) E = some (.lst []) := upd_same
    generalize upd H7 E (.lst []) = H8 at s8 e8 ⊢

    refine ⟨_, _, rp_dL (s8 _ _ eb7), rp_dL (ws := []) e8, by rw [depth_dL]; decide, _, rfl, ?_⟩
    rw [if_pos rfl, eqv_dL]
    rcases ok.2.2.2 with ⟨hbs, hrl, st, hw⟩ | ⟨hne, m, hrl, hmN, hw⟩
    · refine ite_f (by rw [hbs]; simp) ?_
      have wf8 := wf.same s8
      rw [hw] at wf8
      obtain ⟨v, ef, bb, rfl, hst⟩ := wf8
      refine ⟨_, rfl, l, _, rfl, .inl (SqL.of (s8 _ _ el7)), _, rfl, rfl, _, rfl, false, fun _ Q1 z1 => ⟨_, rfl, pf, _, _, _, rfl, rfl, .inr (SqT.of ef), rfl, _, rfl, rfl, _, rfl, false, fun _ Q2 z2 => ⟨_, rfl, pf, _, _, _, rfl, rfl, .inr (SqT.of ef), rfl, rfl, _, rfl, ?_⟩, ?_⟩, ite_f ?_ ?_⟩
      · simpa using z2
      · show Q1 (!decide (V.int ((N : Nat) : Int) = V.int ((cellI ns 3 + cellI ns 2 / 9) % 51)) || false) H8
        rw [hN]
        simpa using z1
      · show (!decide (V.int ((us.length : Nat) : Int) = V.int ((cellI ns 3 + cellI ns 2 / 9) % 51)) || false) = false
        rw [hN]
        simp
        omega
      -- behind
      have elX := s8 _ _ el7
      refine ⟨_, rfl, lenOk, fun E2 hE2 => ?_⟩
      have s10 : Same H8 (upd H8 E2 (.lst [])) := Same.upd hE2
      have e10 : (upd H8 E2 (.lst [])) E2 = some (.lst []) := upd_same
      generalize upd H8 E2 (.lst []) = H10 at s10 e10 ⊢

      have s710 := s8.trans s10
      have hus10 := rows_tups (Same.tups s710) hus7
      have el10 := s710 _ _ el7
      refine ⟨_, _, rp_rows el10 hus10, rp_rows (rs := []) e10 AllAt.nil, Nat.le_trans (depth_rows rs) (by decide), _, rfl, ?_⟩
      rw [if_neg Bool.false_ne_true]
      rcases Nat.eq_zero_or_pos rs.length with hz | hz
      · have hr0 : rs = [] := List.length_eq_zero_iff.mp hz
        refine ite_t (by rw [hr0]; rfl) ?_
        refine ⟨_, rfl, _, rfl, lenOk, fun T2 hT2 => ?_⟩
        have s11 : Same H10 (upd H10 T2 (.tup [.int 0, .ref b0])) := Same.upd hT2
        have e11 : (upd H10 T2 (.tup [.int 0, .ref b0])) T2 = some (.tup [.int 0, .ref b0]) := upd_same
        generalize upd H10 T2 (.tup [.int 0, .ref b0]) = H11 at s11 e11 ⊢

        have w0 : WalkAt H11 pf (0, some (ws, 0)) := by
          have z := wf.same (s710.trans s11)
          rw [hr0] at z
          exact z
        refine ⟨_, _, rp_walk w0, rp_dP e11 (rp_int 0) (rp_StO (r := some (ws, 0)) ⟨b0, rfl, hst7.same (s710.trans s11)⟩), depth_walk _ _, ?_⟩
        rw [if_neg Bool.false_ne_true]
        have e := eqv_walk (0 : Nat) (some (ws, 0))
        show Q (.bl (PyData.eqv (dP (.int (0 : Nat)) (dSt (some (ws, 0)))) (dP (.int (0 : Nat)) (dSt (some (ws, 0)))))) _
        rw [e]
        exact q _
      refine ite_f ?_ ?_
      · cases hrs : rs with
        | nil => rw [hrs] at hz; exact absurd hz (by decide)
        | cons x xs => rfl
      have hup : (0 : Int) < (us.length : Nat) := by omega
      refine ⟨_, rfl, a, ns, 1, rfl, ((st07.trans (Same.still s710)).seq hS), by decide, _, _, rfl, rfl, ⟨by decide, by decide⟩, _, rfl, l, _, rfl, .inl (SqL.of el10), _, _, rfl, rfl, hup, ?_⟩
      have hcu := emod_range (cellI ns 1 / 2) hup
      obtain ⟨k, hk⟩ : ∃ k : Nat, cellI ns 1 / 2 % (us.length : Nat) = k := ⟨(cellI ns 1 / 2 % (us.length : Nat)).toNat, by omega⟩
      have hk1 : k < us.length := by omega
      have hkt : (cellI ns 1 / 2 % (us.length : Nat)).toNat = k := by omega
      obtain ⟨rr, hrr, tt, ss, eu, h1, h2⟩ := hus10.get (List.getElem?_eq_getElem hk1)
      have hwk := ok.2.2.1 k rr hrr
      refine ⟨_, rfl, _, rfl, _, rfl, _, rfl, _, rfl, C, _, rfl, SqL.of (s710 _ _ eC7), fun S1 hS1 => ?_⟩
      rw [cutV_to hcu.1 (by rw [List.length_map, List.length_map]; omega), hkt, ← List.map_take, ← List.map_take]
      have s11 : Same H10 (upd H10 S1 (.lst (((rs.take k).map (·.2.1)).map fun k => V.int (k : Nat)))) := Same.upd hS1
      have e11 : (upd H10 S1 (.lst (((rs.take k).map (·.2.1)).map fun k => V.int (k : Nat)))) S1 = some (.lst (((rs.take k).map (·.2.1)).map fun k => V.int (k : Nat))) := upd_same
      generalize upd H10 S1 (.lst (((rs.take k).map (·.2.1)).map fun k => V.int (k : Nat))) = H11 at s11 e11 ⊢

      refine ⟨_, rfl, _, rfl, _, rfl, C2, _, rfl, SqL.of (s11 _ _ (s710 _ _ eC27)), fun S2 hS2 => ?_⟩
      rw [cutV_to hcu.1 (by rw [List.length_map, List.length_map]; omega), hkt, ← List.map_take, ← List.map_take]
      have s12 : Same H11 (upd H11 S2 (.lst (((rs.take k).map (·.2.2)).map V.bl))) := Same.upd hS2
      have e12 : (upd H11 S2 (.lst (((rs.take k).map (·.2.2)).map V.bl))) S2 = some (.lst (((rs.take k).map (·.2.2)).map V.bl)) := upd_same
      generalize upd H11 S2 (.lst (((rs.take k).map (·.2.2)).map V.bl)) = H12 at s12 e12 ⊢

      have s712 := (s710.trans s11).trans s12
      refine ⟨hp, b0, S1, S2, ws, ws, cm, 0, (rs.take k).map (·.2.1), (rs.take k).map (·.2.2), rfl, hall7.same s712, hst7.same s712, rfl, hw8, s12 _ _ e11, e12, by rw [List.length_map, List.length_map], (fun x hx => ?_), ?_, fun pg H13 s13 wg => ?_⟩
      · obtain ⟨y, hy, rfl⟩ := List.mem_map.mp hx
        exact ok.1 y (List.mem_of_mem_take hy)
      · rw [List.map_take]
        exact quietOk_take k ok.2.1
      rw [zip_parts, hwk] at wg
      have s1013 := (s11.trans s12).trans s13
      have eat : atI us (cellI ns 1 / 2 % (us.length : Nat)) = some (.ref tt) := by
        rw [hk]
        exact atI_nat (by rw [List.getElem?_eq_getElem hk1, eu])
      refine ⟨_, rfl, _, rfl, _, rfl, l, _, _, _, rfl, rfl, .inl (SqL.of (s1013 _ _ el10)), eat, tt, _, _, _, rfl, rfl, .inr (SqT.of (s1013 _ _ h1)), rfl, lenOk, fun T3 hT3 => ?_⟩
      have s14 : Same H13 (upd H13 T3 (.tup [.int (cellI ns 1 / 2 % (us.length : Nat)), .ref ss])) := Same.upd hT3
      have e14 : (upd H13 T3 (.tup [.int (cellI ns 1 / 2 % (us.length : Nat)), .ref ss])) T3 = some (.tup [.int (cellI ns 1 / 2 % (us.length : Nat)), .ref ss]) := upd_same
      generalize upd H13 T3 (.tup [.int (cellI ns 1 / 2 % (us.length : Nat)), .ref ss]) = H14 at s14 e14 ⊢

      rw [hk] at e14
      refine ⟨_, _, rp_walk (wg.same s14), rp_dP e14 (rp_int _) (rp_StO (r := some rr.1) ⟨ss, rfl, h2.same (s1013.trans s14)⟩), depth_walk _ _, ?_⟩
      rw [if_neg Bool.false_ne_true]
      have e := eqv_walk (k : Nat) (some rr.1)
      show Q (.bl (PyData.eqv (dP (.int (k : Nat)) (dSt (some rr.1))) (dP (.int (k : Nat)) (dSt (some rr.1))))) _
      rw [e]
      exact q _
    · refine ite_t (by simp [hne]) ?_
      refine ⟨_, rfl, _, rfl, l, _, rfl, .inl (SqL.of (s8 _ _ el7)), _, _, rfl, rfl, lenOk, fun T1 hT1 => ?_⟩
      have s9 : Same H8 (upd H8 T1 (.tup [.int (((us.length : Nat) : Int) - 1), .non])) := Same.upd hT1
      have e9 : (upd H8 T1 (.tup [.int (((us.length : Nat) : Int) - 1), .non])) T1 = some (.tup [.int (((us.length : Nat) : Int) - 1), .non]) := upd_same
      generalize upd H8 T1 (.tup [.int (((us.length : Nat) : Int) - 1), .non]) = H9 at s9 e9 ⊢

      have em : ((us.length : Nat) : Int) - 1 = (m : Nat) := by omega
      rw [em] at e9
      have s79 := s8.trans s9
      have wf9 := wf.same s79
      rw [hw] at wf9
      refine ⟨_, _, rp_walk wf9, rp_dP e9 (rp_int _) rp_non, depth_walk _ _, _, rfl, ite_f ?_ ?_⟩
      · rw [if_pos rfl]
        exact congrArg Bool.not (eqv_walk (m : Nat) none)
      -- behind
      have elX := s79 _ _ el7
      refine ⟨_, rfl, lenOk, fun E2 hE2 => ?_⟩
      have s10 : Same H9 (upd H9 E2 (.lst [])) := Same.upd hE2
      have e10 : (upd H9 E2 (.lst [])) E2 = some (.lst []) := upd_same
      generalize upd H9 E2 (.lst []) = H10 at s10 e10 ⊢

      have s710 := s79.trans s10
      have hus10 := rows_tups (Same.tups s710) hus7
      have el10 := s710 _ _ el7
      refine ⟨_, _, rp_rows el10 hus10, rp_rows (rs := []) e10 AllAt.nil, Nat.le_trans (depth_rows rs) (by decide), _, rfl, ?_⟩
      rw [if_neg Bool.false_ne_true]
      rcases Nat.eq_zero_or_pos rs.length with hz | hz
      · have hr0 : rs = [] := List.length_eq_zero_iff.mp hz
        refine ite_t (by rw [hr0]; rfl) ?_
        refine ⟨_, rfl, _, rfl, lenOk, fun T2 hT2 => ?_⟩
        have s11 : Same H10 (upd H10 T2 (.tup [.int 0, .ref b0])) := Same.upd hT2
        have e11 : (upd H10 T2 (.tup [.int 0, .ref b0])) T2 = some (.tup [.int 0, .ref b0]) := upd_same
        generalize upd H10 T2 (.tup [.int 0, .ref b0]) = H11 at s11 e11 ⊢

        have w0 : WalkAt H11 pf (0, some (ws, 0)) := by
          have z := wf.same (s710.trans s11)
          rw [hr0] at z
          exact z
        refine ⟨_, _, rp_walk w0, rp_dP e11 (rp_int 0) (rp_StO (r := some (ws, 0)) ⟨b0, rfl, hst7.same (s710.trans s11)⟩), depth_walk _ _, ?_⟩
        rw [if_neg Bool.false_ne_true]
        have e := eqv_walk (0 : Nat) (some (ws, 0))
        show Q (.bl (PyData.eqv (dP (.int (0 : Nat)) (dSt (some (ws, 0)))) (dP (.int (0 : Nat)) (dSt (some (ws, 0)))))) _
        rw [e]
        exact q _
      refine ite_f ?_ ?_
      · cases hrs : rs with
        | nil => rw [hrs] at hz; exact absurd hz (by decide)
        | cons x xs => rfl
      have hup : (0 : Int) < (us.length : Nat) := by omega
      refine ⟨_, rfl, a, ns, 1, rfl, ((st07.trans (Same.still s710)).seq hS), by decide, _, _, rfl, rfl, ⟨by decide, by decide⟩, _, rfl, l, _, rfl, .inl (SqL.of el10), _, _, rfl, rfl, hup, ?_⟩
      have hcu := emod_range (cellI ns 1 / 2) hup
      obtain ⟨k, hk⟩ : ∃ k : Nat, cellI ns 1 / 2 % (us.length : Nat) = k := ⟨(cellI ns 1 / 2 % (us.length : Nat)).toNat, by omega⟩
      have hk1 : k < us.length := by omega
      have hkt : (cellI ns 1 / 2 % (us.length : Nat)).toNat = k := by omega
      obtain ⟨rr, hrr, tt, ss, eu, h1, h2⟩ := hus10.get (List.getElem?_eq_getElem hk1)
      have hwk := ok.2.2.1 k rr hrr
      refine ⟨_, rfl, _, rfl, _, rfl, _, rfl, _, rfl, C, _, rfl, SqL.of (s710 _ _ eC7), fun S1 hS1 => ?_⟩
      rw [cutV_to hcu.1 (by rw [List.length_map, List.length_map]; omega), hkt, ← List.map_take, ← List.map_take]
      have s11 : Same H10 (upd H10 S1 (.lst (((rs.take k).map (·.2.1)).map fun k => V.int (k : Nat)))) := Same.upd hS1
      have e11 : (upd H10 S1 (.lst (((rs.take k).map (·.2.1)).map fun k => V.int (k : Nat)))) S1 = some (.lst (((rs.take k).map (·.2.1)).map fun k => V.int (k : Nat))) := upd_same
      generalize upd H10 S1 (.lst (((rs.take k).map (·.2.1)).map fun k => V.int (k : Nat))) = H11 at s11 e11 ⊢

      refine ⟨_, rfl, _, rfl, _, rfl, C2, _, rfl, SqL.of (s11 _ _ (s710 _ _ eC27)), fun S2 hS2 => ?_⟩
      rw [cutV_to hcu.1 (by rw [List.length_map, List.length_map]; omega), hkt, ← List.map_take, ← List.map_take]
      have s12 : Same H11 (upd H11 S2 (.lst (((rs.take k).map (·.2.2)).map V.bl))) := Same.upd hS2
      have e12 : (upd H11 S2 (.lst (((rs.take k).map (·.2.2)).map V.bl))) S2 = some (.lst (((rs.take k).map (·.2.2)).map V.bl)) := upd_same
      generalize upd H11 S2 (.lst (((rs.take k).map (·.2.2)).map V.bl)) = H12 at s12 e12 ⊢

      have s712 := (s710.trans s11).trans s12
      refine ⟨hp, b0, S1, S2, ws, ws, cm, 0, (rs.take k).map (·.2.1), (rs.take k).map (·.2.2), rfl, hall7.same s712, hst7.same s712, rfl, hw8, s12 _ _ e11, e12, by rw [List.length_map, List.length_map], (fun x hx => ?_), ?_, fun pg H13 s13 wg => ?_⟩
      · obtain ⟨y, hy, rfl⟩ := List.mem_map.mp hx
        exact ok.1 y (List.mem_of_mem_take hy)
      · rw [List.map_take]
        exact quietOk_take k ok.2.1
      rw [zip_parts, hwk] at wg
      have s1013 := (s11.trans s12).trans s13
      have eat : atI us (cellI ns 1 / 2 % (us.length : Nat)) = some (.ref tt) := by
        rw [hk]
        exact atI_nat (by rw [List.getElem?_eq_getElem hk1, eu])
      refine ⟨_, rfl, _, rfl, _, rfl, l, _, _, _, rfl, rfl, .inl (SqL.of (s1013 _ _ el10)), eat, tt, _, _, _, rfl, rfl, .inr (SqT.of (s1013 _ _ h1)), rfl, lenOk, fun T3 hT3 => ?_⟩
      have s14 : Same H13 (upd H13 T3 (.tup [.int (cellI ns 1 / 2 % (us.length : Nat)), .ref ss])) := Same.upd hT3
      have e14 : (upd H13 T3 (.tup [.int (cellI ns 1 / 2 % (us.length : Nat)), .ref ss])) T3 = some (.tup [.int (cellI ns 1 / 2 % (us.length : Nat)), .ref ss]) := upd_same
      generalize upd H13 T3 (.tup [.int (cellI ns 1 / 2 % (us.length : Nat)), .ref ss]) = H14 at s14 e14 ⊢

      rw [hk] at e14
      refine ⟨_, _, rp_walk (wg.same s14), rp_dP e14 (rp_int _) (rp_StO (r := some rr.1) ⟨ss, rfl, h2.same (s1013.trans s14)⟩), depth_walk _ _, ?_⟩
      rw [if_neg Bool.false_ne_true]
      have e := eqv_walk (k : Nat) (some rr.1)
      show Q (.bl (PyData.eqv (dP (.int (k : Nat)) (dSt (some rr.1))) (dP (.int (k : Nat)) (dSt (some rr.1))))) _
      rw [e]
      exact q _
end
theorem all_mk {l : PySem.W.OpenLaw} {w : World} {K : PySem.W.Frag} {h : Heap} {mg : Str → Option Value} {fa : Addr} (X : K.In h) (G : h.Ns mainGlobals mg) (hfa : mg "law" = some (.ref fa)) {f_beginning f_may_lose f_is_listener f_refuse_wrong_turn f_left_behind f_quiet_behind f_after f_broken_ones f_least_left f_RowCaller_call f_PaperCaller_call f_Caller_call f_RowRoad_loses f_PaperRoad_loses f_Road_loses f_play f_RowCaller___init__ f_PaperCaller___init__ f_RowRoad___init__ f_PaperRoad___init__ f_walked f_law_cell_at f_law_hall f_law_rows f_law_papers f_law_players f_law C_Caller C_Road C_RowCaller C_RowRoad C_PaperCaller C_PaperRoad : Addr} {od_beginning an_beginning : Option Addr} {sl_beginning : Array (Option Value)} {oc_beginning kV_beginning dc_beginning pm_beginning cd_beginning ct_beginning : Value} {od_may_lose an_may_lose : Option Addr} {sl_may_lose : Array (Option Value)} {oc_may_lose kV_may_lose dc_may_lose pm_may_lose cd_may_lose ct_may_lose : Value} {od_is_listener an_is_listener : Option Addr} {sl_is_listener : Array (Option Value)} {oc_is_listener kV_is_listener dc_is_listener pm_is_listener cd_is_listener ct_is_listener : Value} {od_refuse_wrong_turn an_refuse_wrong_turn : Option Addr} {sl_refuse_wrong_turn : Array (Option Value)} {oc_refuse_wrong_turn kV_refuse_wrong_turn dc_refuse_wrong_turn pm_refuse_wrong_turn cd_refuse_wrong_turn ct_refuse_wrong_turn : Value} {od_left_behind an_left_behind : Option Addr} {sl_left_behind : Array (Option Value)} {oc_left_behind kV_left_behind dc_left_behind pm_left_behind cd_left_behind ct_left_behind : Value} {od_quiet_behind an_quiet_behind : Option Addr} {sl_quiet_behind : Array (Option Value)} {oc_quiet_behind kV_quiet_behind dc_quiet_behind pm_quiet_behind cd_quiet_behind ct_quiet_behind : Value} {od_after an_after : Option Addr} {sl_after : Array (Option Value)} {oc_after kV_after dc_after pm_after cd_after ct_after : Value} {od_broken_ones an_broken_ones : Option Addr} {sl_broken_ones : Array (Option Value)} {oc_broken_ones kV_broken_ones dc_broken_ones pm_broken_ones cd_broken_ones ct_broken_ones : Value} {od_least_left an_least_left : Option Addr} {sl_least_left : Array (Option Value)} {oc_least_left kV_least_left dc_least_left pm_least_left cd_least_left ct_least_left : Value} {od_RowCaller_call an_RowCaller_call : Option Addr} {sl_RowCaller_call : Array (Option Value)} {oc_RowCaller_call kV_RowCaller_call dc_RowCaller_call pm_RowCaller_call cd_RowCaller_call ct_RowCaller_call : Value} {od_PaperCaller_call an_PaperCaller_call : Option Addr} {sl_PaperCaller_call : Array (Option Value)} {oc_PaperCaller_call kV_PaperCaller_call dc_PaperCaller_call pm_PaperCaller_call cd_PaperCaller_call ct_PaperCaller_call : Value} {od_Caller_call an_Caller_call : Option Addr} {sl_Caller_call : Array (Option Value)} {oc_Caller_call kV_Caller_call dc_Caller_call pm_Caller_call cd_Caller_call ct_Caller_call : Value} {od_RowRoad_loses an_RowRoad_loses : Option Addr} {sl_RowRoad_loses : Array (Option Value)} {oc_RowRoad_loses kV_RowRoad_loses dc_RowRoad_loses pm_RowRoad_loses cd_RowRoad_loses ct_RowRoad_loses : Value} {od_PaperRoad_loses an_PaperRoad_loses : Option Addr} {sl_PaperRoad_loses : Array (Option Value)} {oc_PaperRoad_loses kV_PaperRoad_loses dc_PaperRoad_loses pm_PaperRoad_loses cd_PaperRoad_loses ct_PaperRoad_loses : Value} {od_Road_loses an_Road_loses : Option Addr} {sl_Road_loses : Array (Option Value)} {oc_Road_loses kV_Road_loses dc_Road_loses pm_Road_loses cd_Road_loses ct_Road_loses : Value} {od_play an_play : Option Addr} {sl_play : Array (Option Value)} {oc_play kV_play dc_play pm_play cd_play ct_play : Value} {od_RowCaller___init__ an_RowCaller___init__ : Option Addr} {sl_RowCaller___init__ : Array (Option Value)} {oc_RowCaller___init__ kV_RowCaller___init__ dc_RowCaller___init__ pm_RowCaller___init__ cd_RowCaller___init__ ct_RowCaller___init__ : Value} {od_PaperCaller___init__ an_PaperCaller___init__ : Option Addr} {sl_PaperCaller___init__ : Array (Option Value)} {oc_PaperCaller___init__ kV_PaperCaller___init__ dc_PaperCaller___init__ pm_PaperCaller___init__ cd_PaperCaller___init__ ct_PaperCaller___init__ : Value} {od_RowRoad___init__ an_RowRoad___init__ : Option Addr} {sl_RowRoad___init__ : Array (Option Value)} {oc_RowRoad___init__ kV_RowRoad___init__ dc_RowRoad___init__ pm_RowRoad___init__ cd_RowRoad___init__ ct_RowRoad___init__ : Value} {od_PaperRoad___init__ an_PaperRoad___init__ : Option Addr} {sl_PaperRoad___init__ : Array (Option Value)} {oc_PaperRoad___init__ kV_PaperRoad___init__ dc_PaperRoad___init__ pm_PaperRoad___init__ cd_PaperRoad___init__ ct_PaperRoad___init__ : Value} {od_walked an_walked : Option Addr} {sl_walked : Array (Option Value)} {oc_walked kV_walked dc_walked pm_walked cd_walked ct_walked : Value} {od_law_cell_at an_law_cell_at : Option Addr} {sl_law_cell_at : Array (Option Value)} {oc_law_cell_at kV_law_cell_at dc_law_cell_at pm_law_cell_at cd_law_cell_at ct_law_cell_at : Value} {od_law_hall an_law_hall : Option Addr} {sl_law_hall : Array (Option Value)} {oc_law_hall kV_law_hall dc_law_hall pm_law_hall cd_law_hall ct_law_hall : Value} {od_law_rows an_law_rows : Option Addr} {sl_law_rows : Array (Option Value)} {oc_law_rows kV_law_rows dc_law_rows pm_law_rows cd_law_rows ct_law_rows : Value} {od_law_papers an_law_papers : Option Addr} {sl_law_papers : Array (Option Value)} {oc_law_papers kV_law_papers dc_law_papers pm_law_papers cd_law_papers ct_law_papers : Value} {od_law_players an_law_players : Option Addr} {sl_law_players : Array (Option Value)} {oc_law_players kV_law_players dc_law_players pm_law_players cd_law_players ct_law_players : Value} {od_law an_law : Option Addr} {sl_law : Array (Option Value)} {oc_law kV_law dc_law pm_law cd_law ct_law : Value} {dt_after : Addr} {tc_after : Value} {td_after : Option Addr} {tn_after : Nat} {ts_after : Array (Option Value)} {dt_broken_ones : Addr} {tc_broken_ones : Value} {td_broken_ones : Option Addr} {tn_broken_ones : Nat} {ts_broken_ones : Array (Option Value)}
    (a_beginning : PySem.W.nsIn K mainGlobals "beginning" = some (some (.ref f_beginning))) (l_beginning : K.lookup f_beginning = some ⟨oc_beginning, od_beginning, .func (PySem.W.fnOf "beginning" "beginning" (defArgs s_beginning) (defBody s_beginning) (defScope s_beginning) .none kV_beginning dc_beginning pm_beginning an_beginning cd_beginning ct_beginning), sl_beginning⟩) (c_beginning : PySem.W.codeIn K cd_beginning "beginning" = true) (k_beginning : PySem.W.keepIn K (.ref f_beginning) = true)
    (a_may_lose : PySem.W.nsIn K mainGlobals "may_lose" = some (some (.ref f_may_lose))) (l_may_lose : K.lookup f_may_lose = some ⟨oc_may_lose, od_may_lose, .func (PySem.W.fnOf "may_lose" "may_lose" (defArgs s_may_lose) (defBody s_may_lose) (defScope s_may_lose) .none kV_may_lose dc_may_lose pm_may_lose an_may_lose cd_may_lose ct_may_lose), sl_may_lose⟩) (c_may_lose : PySem.W.codeIn K cd_may_lose "may_lose" = true) (k_may_lose : PySem.W.keepIn K (.ref f_may_lose) = true)
    (a_is_listener : PySem.W.nsIn K mainGlobals "is_listener" = some (some (.ref f_is_listener))) (l_is_listener : K.lookup f_is_listener = some ⟨oc_is_listener, od_is_listener, .func (PySem.W.fnOf "is_listener" "is_listener" (defArgs s_is_listener) (defBody s_is_listener) (defScope s_is_listener) .none kV_is_listener dc_is_listener pm_is_listener an_is_listener cd_is_listener ct_is_listener), sl_is_listener⟩) (c_is_listener : PySem.W.codeIn K cd_is_listener "is_listener" = true) (k_is_listener : PySem.W.keepIn K (.ref f_is_listener) = true)
    (a_refuse_wrong_turn : PySem.W.nsIn K mainGlobals "refuse_wrong_turn" = some (some (.ref f_refuse_wrong_turn))) (l_refuse_wrong_turn : K.lookup f_refuse_wrong_turn = some ⟨oc_refuse_wrong_turn, od_refuse_wrong_turn, .func (PySem.W.fnOf "refuse_wrong_turn" "refuse_wrong_turn" (defArgs s_refuse_wrong_turn) (defBody s_refuse_wrong_turn) (defScope s_refuse_wrong_turn) .none kV_refuse_wrong_turn dc_refuse_wrong_turn pm_refuse_wrong_turn an_refuse_wrong_turn cd_refuse_wrong_turn ct_refuse_wrong_turn), sl_refuse_wrong_turn⟩) (c_refuse_wrong_turn : PySem.W.codeIn K cd_refuse_wrong_turn "refuse_wrong_turn" = true) (k_refuse_wrong_turn : PySem.W.keepIn K (.ref f_refuse_wrong_turn) = true)
    (a_left_behind : PySem.W.nsIn K mainGlobals "left_behind" = some (some (.ref f_left_behind))) (l_left_behind : K.lookup f_left_behind = some ⟨oc_left_behind, od_left_behind, .func (PySem.W.fnOf "left_behind" "left_behind" (defArgs s_left_behind) (defBody s_left_behind) (defScope s_left_behind) .none kV_left_behind dc_left_behind pm_left_behind an_left_behind cd_left_behind ct_left_behind), sl_left_behind⟩) (c_left_behind : PySem.W.codeIn K cd_left_behind "left_behind" = true) (k_left_behind : PySem.W.keepIn K (.ref f_left_behind) = true)
    (a_quiet_behind : PySem.W.nsIn K mainGlobals "quiet_behind" = some (some (.ref f_quiet_behind))) (l_quiet_behind : K.lookup f_quiet_behind = some ⟨oc_quiet_behind, od_quiet_behind, .func (PySem.W.fnOf "quiet_behind" "quiet_behind" (defArgs s_quiet_behind) (defBody s_quiet_behind) (defScope s_quiet_behind) .none kV_quiet_behind dc_quiet_behind pm_quiet_behind an_quiet_behind cd_quiet_behind ct_quiet_behind), sl_quiet_behind⟩) (c_quiet_behind : PySem.W.codeIn K cd_quiet_behind "quiet_behind" = true) (k_quiet_behind : PySem.W.keepIn K (.ref f_quiet_behind) = true)
    (a_after : PySem.W.nsIn K mainGlobals "after" = some (some (.ref f_after))) (l_after : K.lookup f_after = some ⟨oc_after, od_after, .func (PySem.W.fnOf "after" "after" (defArgs s_after) (defBody s_after) (defScope s_after) (.ref dt_after) kV_after dc_after pm_after an_after cd_after ct_after), sl_after⟩) (c_after : PySem.W.codeIn K cd_after "after" = true) (k_after : PySem.W.keepIn K (.ref f_after) = true) (t_after : K.lookup dt_after = some ⟨tc_after, td_after, .seq #[Value.bool false] tn_after, ts_after⟩)
    (a_broken_ones : PySem.W.nsIn K mainGlobals "broken_ones" = some (some (.ref f_broken_ones))) (l_broken_ones : K.lookup f_broken_ones = some ⟨oc_broken_ones, od_broken_ones, .func (PySem.W.fnOf "broken_ones" "broken_ones" (defArgs s_broken_ones) (defBody s_broken_ones) (defScope s_broken_ones) (.ref dt_broken_ones) kV_broken_ones dc_broken_ones pm_broken_ones an_broken_ones cd_broken_ones ct_broken_ones), sl_broken_ones⟩) (c_broken_ones : PySem.W.codeIn K cd_broken_ones "broken_ones" = true) (k_broken_ones : PySem.W.keepIn K (.ref f_broken_ones) = true) (t_broken_ones : K.lookup dt_broken_ones = some ⟨tc_broken_ones, td_broken_ones, .seq #[Value.bool false] tn_broken_ones, ts_broken_ones⟩)
    (a_least_left : PySem.W.nsIn K mainGlobals "least_left" = some (some (.ref f_least_left))) (l_least_left : K.lookup f_least_left = some ⟨oc_least_left, od_least_left, .func (PySem.W.fnOf "least_left" "least_left" (defArgs s_least_left) (defBody s_least_left) (defScope s_least_left) .none kV_least_left dc_least_left pm_least_left an_least_left cd_least_left ct_least_left), sl_least_left⟩) (c_least_left : PySem.W.codeIn K cd_least_left "least_left" = true) (k_least_left : PySem.W.keepIn K (.ref f_least_left) = true)
    (i_RowCaller_call : PySem.W.isFn K (.ref f_RowCaller_call) = true) (l_RowCaller_call : K.lookup f_RowCaller_call = some ⟨oc_RowCaller_call, od_RowCaller_call, .func (PySem.W.fnOf "call" "RowCaller.call" (defArgs s_RowCaller_call) (defBody s_RowCaller_call) (defScope s_RowCaller_call) .none kV_RowCaller_call dc_RowCaller_call pm_RowCaller_call an_RowCaller_call cd_RowCaller_call ct_RowCaller_call), sl_RowCaller_call⟩) (c_RowCaller_call : PySem.W.codeIn K cd_RowCaller_call "RowCaller.call" = true) (k_RowCaller_call : PySem.W.keepIn K (.ref f_RowCaller_call) = true)
    (i_PaperCaller_call : PySem.W.isFn K (.ref f_PaperCaller_call) = true) (l_PaperCaller_call : K.lookup f_PaperCaller_call = some ⟨oc_PaperCaller_call, od_PaperCaller_call, .func (PySem.W.fnOf "call" "PaperCaller.call" (defArgs s_PaperCaller_call) (defBody s_PaperCaller_call) (defScope s_PaperCaller_call) .none kV_PaperCaller_call dc_PaperCaller_call pm_PaperCaller_call an_PaperCaller_call cd_PaperCaller_call ct_PaperCaller_call), sl_PaperCaller_call⟩) (c_PaperCaller_call : PySem.W.codeIn K cd_PaperCaller_call "PaperCaller.call" = true) (k_PaperCaller_call : PySem.W.keepIn K (.ref f_PaperCaller_call) = true)
    (i_Caller_call : PySem.W.isFn K (.ref f_Caller_call) = true) (l_Caller_call : K.lookup f_Caller_call = some ⟨oc_Caller_call, od_Caller_call, .func (PySem.W.fnOf "call" "Caller.call" (defArgs s_Caller_call) (defBody s_Caller_call) (defScope s_Caller_call) .none kV_Caller_call dc_Caller_call pm_Caller_call an_Caller_call cd_Caller_call ct_Caller_call), sl_Caller_call⟩) (c_Caller_call : PySem.W.codeIn K cd_Caller_call "Caller.call" = true) (k_Caller_call : PySem.W.keepIn K (.ref f_Caller_call) = true)
    (i_RowRoad_loses : PySem.W.isFn K (.ref f_RowRoad_loses) = true) (l_RowRoad_loses : K.lookup f_RowRoad_loses = some ⟨oc_RowRoad_loses, od_RowRoad_loses, .func (PySem.W.fnOf "loses" "RowRoad.loses" (defArgs s_RowRoad_loses) (defBody s_RowRoad_loses) (defScope s_RowRoad_loses) .none kV_RowRoad_loses dc_RowRoad_loses pm_RowRoad_loses an_RowRoad_loses cd_RowRoad_loses ct_RowRoad_loses), sl_RowRoad_loses⟩) (c_RowRoad_loses : PySem.W.codeIn K cd_RowRoad_loses "RowRoad.loses" = true) (k_RowRoad_loses : PySem.W.keepIn K (.ref f_RowRoad_loses) = true)
    (i_PaperRoad_loses : PySem.W.isFn K (.ref f_PaperRoad_loses) = true) (l_PaperRoad_loses : K.lookup f_PaperRoad_loses = some ⟨oc_PaperRoad_loses, od_PaperRoad_loses, .func (PySem.W.fnOf "loses" "PaperRoad.loses" (defArgs s_PaperRoad_loses) (defBody s_PaperRoad_loses) (defScope s_PaperRoad_loses) .none kV_PaperRoad_loses dc_PaperRoad_loses pm_PaperRoad_loses an_PaperRoad_loses cd_PaperRoad_loses ct_PaperRoad_loses), sl_PaperRoad_loses⟩) (c_PaperRoad_loses : PySem.W.codeIn K cd_PaperRoad_loses "PaperRoad.loses" = true) (k_PaperRoad_loses : PySem.W.keepIn K (.ref f_PaperRoad_loses) = true)
    (i_Road_loses : PySem.W.isFn K (.ref f_Road_loses) = true) (l_Road_loses : K.lookup f_Road_loses = some ⟨oc_Road_loses, od_Road_loses, .func (PySem.W.fnOf "loses" "Road.loses" (defArgs s_Road_loses) (defBody s_Road_loses) (defScope s_Road_loses) .none kV_Road_loses dc_Road_loses pm_Road_loses an_Road_loses cd_Road_loses ct_Road_loses), sl_Road_loses⟩) (c_Road_loses : PySem.W.codeIn K cd_Road_loses "Road.loses" = true) (k_Road_loses : PySem.W.keepIn K (.ref f_Road_loses) = true)
    (a_play : PySem.W.nsIn K mainGlobals "play" = some (some (.ref f_play))) (l_play : K.lookup f_play = some ⟨oc_play, od_play, .func (PySem.W.fnOf "play" "play" (defArgs s_play) (defBody s_play) (defScope s_play) .none kV_play dc_play pm_play an_play cd_play ct_play), sl_play⟩) (c_play : PySem.W.codeIn K cd_play "play" = true) (k_play : PySem.W.keepIn K (.ref f_play) = true)
    (i_RowCaller___init__ : PySem.W.isFn K (.ref f_RowCaller___init__) = true) (l_RowCaller___init__ : K.lookup f_RowCaller___init__ = some ⟨oc_RowCaller___init__, od_RowCaller___init__, .func (PySem.W.fnOf "__init__" "RowCaller.__init__" (defArgs s_RowCaller___init__) (defBody s_RowCaller___init__) (defScope s_RowCaller___init__) .none kV_RowCaller___init__ dc_RowCaller___init__ pm_RowCaller___init__ an_RowCaller___init__ cd_RowCaller___init__ ct_RowCaller___init__), sl_RowCaller___init__⟩) (c_RowCaller___init__ : PySem.W.codeIn K cd_RowCaller___init__ "RowCaller.__init__" = true) (k_RowCaller___init__ : PySem.W.keepIn K (.ref f_RowCaller___init__) = true)
    (i_PaperCaller___init__ : PySem.W.isFn K (.ref f_PaperCaller___init__) = true) (l_PaperCaller___init__ : K.lookup f_PaperCaller___init__ = some ⟨oc_PaperCaller___init__, od_PaperCaller___init__, .func (PySem.W.fnOf "__init__" "PaperCaller.__init__" (defArgs s_PaperCaller___init__) (defBody s_PaperCaller___init__) (defScope s_PaperCaller___init__) .none kV_PaperCaller___init__ dc_PaperCaller___init__ pm_PaperCaller___init__ an_PaperCaller___init__ cd_PaperCaller___init__ ct_PaperCaller___init__), sl_PaperCaller___init__⟩) (c_PaperCaller___init__ : PySem.W.codeIn K cd_PaperCaller___init__ "PaperCaller.__init__" = true) (k_PaperCaller___init__ : PySem.W.keepIn K (.ref f_PaperCaller___init__) = true)
    (i_RowRoad___init__ : PySem.W.isFn K (.ref f_RowRoad___init__) = true) (l_RowRoad___init__ : K.lookup f_RowRoad___init__ = some ⟨oc_RowRoad___init__, od_RowRoad___init__, .func (PySem.W.fnOf "__init__" "RowRoad.__init__" (defArgs s_RowRoad___init__) (defBody s_RowRoad___init__) (defScope s_RowRoad___init__) .none kV_RowRoad___init__ dc_RowRoad___init__ pm_RowRoad___init__ an_RowRoad___init__ cd_RowRoad___init__ ct_RowRoad___init__), sl_RowRoad___init__⟩) (c_RowRoad___init__ : PySem.W.codeIn K cd_RowRoad___init__ "RowRoad.__init__" = true) (k_RowRoad___init__ : PySem.W.keepIn K (.ref f_RowRoad___init__) = true)
    (i_PaperRoad___init__ : PySem.W.isFn K (.ref f_PaperRoad___init__) = true) (l_PaperRoad___init__ : K.lookup f_PaperRoad___init__ = some ⟨oc_PaperRoad___init__, od_PaperRoad___init__, .func (PySem.W.fnOf "__init__" "PaperRoad.__init__" (defArgs s_PaperRoad___init__) (defBody s_PaperRoad___init__) (defScope s_PaperRoad___init__) .none kV_PaperRoad___init__ dc_PaperRoad___init__ pm_PaperRoad___init__ an_PaperRoad___init__ cd_PaperRoad___init__ ct_PaperRoad___init__), sl_PaperRoad___init__⟩) (c_PaperRoad___init__ : PySem.W.codeIn K cd_PaperRoad___init__ "PaperRoad.__init__" = true) (k_PaperRoad___init__ : PySem.W.keepIn K (.ref f_PaperRoad___init__) = true)
    (a_walked : PySem.W.nsIn K mainGlobals "walked" = some (some (.ref f_walked))) (l_walked : K.lookup f_walked = some ⟨oc_walked, od_walked, .func (PySem.W.fnOf "walked" "walked" (defArgs s_walked) (defBody s_walked) (defScope s_walked) .none kV_walked dc_walked pm_walked an_walked cd_walked ct_walked), sl_walked⟩) (c_walked : PySem.W.codeIn K cd_walked "walked" = true) (k_walked : PySem.W.keepIn K (.ref f_walked) = true)
    (a_law_cell_at : PySem.W.nsIn K mainGlobals "_law_cell_at" = some (some (.ref f_law_cell_at))) (l_law_cell_at : K.lookup f_law_cell_at = some ⟨oc_law_cell_at, od_law_cell_at, .func (PySem.W.fnOf "_law_cell_at" "_law_cell_at" (defArgs s_law_cell_at) (defBody s_law_cell_at) (defScope s_law_cell_at) .none kV_law_cell_at dc_law_cell_at pm_law_cell_at an_law_cell_at cd_law_cell_at ct_law_cell_at), sl_law_cell_at⟩) (c_law_cell_at : PySem.W.codeIn K cd_law_cell_at "_law_cell_at" = true) (k_law_cell_at : PySem.W.keepIn K (.ref f_law_cell_at) = true)
    (a_law_hall : PySem.W.nsIn K mainGlobals "_law_hall" = some (some (.ref f_law_hall))) (l_law_hall : K.lookup f_law_hall = some ⟨oc_law_hall, od_law_hall, .func (PySem.W.fnOf "_law_hall" "_law_hall" (defArgs s_law_hall) (defBody s_law_hall) (defScope s_law_hall) .none kV_law_hall dc_law_hall pm_law_hall an_law_hall cd_law_hall ct_law_hall), sl_law_hall⟩) (c_law_hall : PySem.W.codeIn K cd_law_hall "_law_hall" = true) (k_law_hall : PySem.W.keepIn K (.ref f_law_hall) = true)
    (a_law_rows : PySem.W.nsIn K mainGlobals "_law_rows" = some (some (.ref f_law_rows))) (l_law_rows : K.lookup f_law_rows = some ⟨oc_law_rows, od_law_rows, .func (PySem.W.fnOf "_law_rows" "_law_rows" (defArgs s_law_rows) (defBody s_law_rows) (defScope s_law_rows) .none kV_law_rows dc_law_rows pm_law_rows an_law_rows cd_law_rows ct_law_rows), sl_law_rows⟩) (c_law_rows : PySem.W.codeIn K cd_law_rows "_law_rows" = true) (k_law_rows : PySem.W.keepIn K (.ref f_law_rows) = true)
    (a_law_papers : PySem.W.nsIn K mainGlobals "_law_papers" = some (some (.ref f_law_papers))) (l_law_papers : K.lookup f_law_papers = some ⟨oc_law_papers, od_law_papers, .func (PySem.W.fnOf "_law_papers" "_law_papers" (defArgs s_law_papers) (defBody s_law_papers) (defScope s_law_papers) .none kV_law_papers dc_law_papers pm_law_papers an_law_papers cd_law_papers ct_law_papers), sl_law_papers⟩) (c_law_papers : PySem.W.codeIn K cd_law_papers "_law_papers" = true) (k_law_papers : PySem.W.keepIn K (.ref f_law_papers) = true)
    (a_law_players : PySem.W.nsIn K mainGlobals "_law_players" = some (some (.ref f_law_players))) (l_law_players : K.lookup f_law_players = some ⟨oc_law_players, od_law_players, .func (PySem.W.fnOf "_law_players" "_law_players" (defArgs s_law_players) (defBody s_law_players) (defScope s_law_players) .none kV_law_players dc_law_players pm_law_players an_law_players cd_law_players ct_law_players), sl_law_players⟩) (c_law_players : PySem.W.codeIn K cd_law_players "_law_players" = true) (k_law_players : PySem.W.keepIn K (.ref f_law_players) = true)
    (a_law : PySem.W.nsIn K mainGlobals "law" = some (some (.ref f_law))) (l_law : K.lookup f_law = some ⟨oc_law, od_law, .func (PySem.W.fnOf "law" "law" (defArgs s_law) (defBody s_law) (defScope s_law) .none kV_law dc_law pm_law an_law cd_law ct_law), sl_law⟩) (c_law : PySem.W.codeIn K cd_law "law" = true) (k_law : PySem.W.keepIn K (.ref f_law) = true)
    (pg_Caller : PySem.W.plainGet K C_Caller Str.empty = true) (hd_Caller : PySem.W.hasDictIn K C_Caller = true) (po_Caller : PySem.W.plainOver K C_Caller = true) (sa_Caller : PySem.W.findIn K (.ref C_Caller) "__setattr__" = some (some (.builtin "object.__setattr__"))) (mm_Caller : PySem.W.makesIn K C_Caller = true) (kc_Caller : PySem.W.keepIn K (.ref C_Caller) = true) (fm_Caller_call : PySem.W.findIn K (.ref C_Caller) "call" = some (some (.ref f_Caller_call))) (ni_Caller : PySem.W.findIn K (.ref C_Caller) "__init__" = some (some (.builtin "object.__init__"))) (pg_Road : PySem.W.plainGet K C_Road Str.empty = true) (hd_Road : PySem.W.hasDictIn K C_Road = true) (po_Road : PySem.W.plainOver K C_Road = true) (sa_Road : PySem.W.findIn K (.ref C_Road) "__setattr__" = some (some (.builtin "object.__setattr__"))) (mm_Road : PySem.W.makesIn K C_Road = true) (kc_Road : PySem.W.keepIn K (.ref C_Road) = true) (fm_Road_loses : PySem.W.findIn K (.ref C_Road) "loses" = some (some (.ref f_Road_loses))) (ni_Road : PySem.W.findIn K (.ref C_Road) "__init__" = some (some (.builtin "object.__init__"))) (pg_RowCaller : PySem.W.plainGet K C_RowCaller Str.empty = true) (hd_RowCaller : PySem.W.hasDictIn K C_RowCaller = true) (po_RowCaller : PySem.W.plainOver K C_RowCaller = true) (sa_RowCaller : PySem.W.findIn K (.ref C_RowCaller) "__setattr__" = some (some (.builtin "object.__setattr__"))) (mm_RowCaller : PySem.W.makesIn K C_RowCaller = true) (kc_RowCaller : PySem.W.keepIn K (.ref C_RowCaller) = true) (fm_RowCaller_call : PySem.W.findIn K (.ref C_RowCaller) "call" = some (some (.ref f_RowCaller_call))) (fm_RowCaller___init__ : PySem.W.findIn K (.ref C_RowCaller) "__init__" = some (some (.ref f_RowCaller___init__))) (nf_RowCaller_row : PySem.W.findIn K (.ref C_RowCaller) "row" = some none) (nf_RowCaller_asked : PySem.W.findIn K (.ref C_RowCaller) "asked" = some none) (pg_RowRoad : PySem.W.plainGet K C_RowRoad Str.empty = true) (hd_RowRoad : PySem.W.hasDictIn K C_RowRoad = true) (po_RowRoad : PySem.W.plainOver K C_RowRoad = true) (sa_RowRoad : PySem.W.findIn K (.ref C_RowRoad) "__setattr__" = some (some (.builtin "object.__setattr__"))) (mm_RowRoad : PySem.W.makesIn K C_RowRoad = true) (kc_RowRoad : PySem.W.keepIn K (.ref C_RowRoad) = true) (fm_RowRoad_loses : PySem.W.findIn K (.ref C_RowRoad) "loses" = some (some (.ref f_RowRoad_loses))) (fm_RowRoad___init__ : PySem.W.findIn K (.ref C_RowRoad) "__init__" = some (some (.ref f_RowRoad___init__))) (nf_RowRoad_row : PySem.W.findIn K (.ref C_RowRoad) "row" = some none) (nf_RowRoad_asked : PySem.W.findIn K (.ref C_RowRoad) "asked" = some none) (pg_PaperCaller : PySem.W.plainGet K C_PaperCaller Str.empty = true) (hd_PaperCaller : PySem.W.hasDictIn K C_PaperCaller = true) (po_PaperCaller : PySem.W.plainOver K C_PaperCaller = true) (sa_PaperCaller : PySem.W.findIn K (.ref C_PaperCaller) "__setattr__" = some (some (.builtin "object.__setattr__"))) (mm_PaperCaller : PySem.W.makesIn K C_PaperCaller = true) (kc_PaperCaller : PySem.W.keepIn K (.ref C_PaperCaller) = true) (fm_PaperCaller_call : PySem.W.findIn K (.ref C_PaperCaller) "call" = some (some (.ref f_PaperCaller_call))) (fm_PaperCaller___init__ : PySem.W.findIn K (.ref C_PaperCaller) "__init__" = some (some (.ref f_PaperCaller___init__))) (nf_PaperCaller_paper : PySem.W.findIn K (.ref C_PaperCaller) "paper" = some none) (pg_PaperRoad : PySem.W.plainGet K C_PaperRoad Str.empty = true) (hd_PaperRoad : PySem.W.hasDictIn K C_PaperRoad = true) (po_PaperRoad : PySem.W.plainOver K C_PaperRoad = true) (sa_PaperRoad : PySem.W.findIn K (.ref C_PaperRoad) "__setattr__" = some (some (.builtin "object.__setattr__"))) (mm_PaperRoad : PySem.W.makesIn K C_PaperRoad = true) (kc_PaperRoad : PySem.W.keepIn K (.ref C_PaperRoad) = true) (fm_PaperRoad_loses : PySem.W.findIn K (.ref C_PaperRoad) "loses" = some (some (.ref f_PaperRoad_loses))) (fm_PaperRoad___init__ : PySem.W.findIn K (.ref C_PaperRoad) "__init__" = some (some (.ref f_PaperRoad___init__))) (nf_PaperRoad_paper : PySem.W.findIn K (.ref C_PaperRoad) "paper" = some none)
     (z_len : PySem.W.nsIn K mainGlobals "len" = some none) (z_max : PySem.W.nsIn K mainGlobals "max" = some none) (z_tuple : PySem.W.nsIn K mainGlobals "tuple" = some none) (z_enumerate : PySem.W.nsIn K mainGlobals "enumerate" = some none) (z_min : PySem.W.nsIn K mainGlobals "min" = some none) (z_list : PySem.W.nsIn K mainGlobals "list" = some none) (z_dict : PySem.W.nsIn K mainGlobals "dict" = some none) (z_zip : PySem.W.nsIn K mainGlobals "zip" = some none) (z_range : PySem.W.nsIn K mainGlobals "range" = some none) (ac_Caller : PySem.W.nsIn K mainGlobals "Caller" = some (some (.ref C_Caller))) (ac_Road : PySem.W.nsIn K mainGlobals "Road" = some (some (.ref C_Road))) (ac_RowCaller : PySem.W.nsIn K mainGlobals "RowCaller" = some (some (.ref C_RowCaller))) (ac_RowRoad : PySem.W.nsIn K mainGlobals "RowRoad" = some (some (.ref C_RowRoad))) (ac_PaperCaller : PySem.W.nsIn K mainGlobals "PaperCaller" = some (some (.ref C_PaperCaller))) (ac_PaperRoad : PySem.W.nsIn K mainGlobals "PaperRoad" = some (some (.ref C_PaperRoad)))  :
    ∃ fd : FuncData, (∀ (s : Shared) (v : Value), BindsTo s fd ⟨[v], []⟩ [("script", v)]) ∧ ∀ base : Heap, K.In base → base.Ns mainGlobals mg → FnOk l.prog w K mg base CX0 8 fa fd ["script"] (sp_law K) := by
  have e := hfa.symm.trans (PySem.W.mg_of X G a_law)
  cases e
  have T : Txt K mg f_beginning f_may_lose f_is_listener f_refuse_wrong_turn f_left_behind f_quiet_behind f_after f_broken_ones f_least_left f_RowCaller_call f_PaperCaller_call f_Caller_call f_RowRoad_loses f_PaperRoad_loses f_Road_loses f_play f_RowCaller___init__ f_PaperCaller___init__ f_RowRoad___init__ f_PaperRoad___init__ f_walked f_law_cell_at f_law_hall f_law_rows f_law_papers f_law_players fa C_Caller C_Road C_RowCaller C_RowRoad C_PaperCaller C_PaperRoad := ⟨PySem.W.mg_of X G a_beginning, k_beginning, PySem.W.mg_of X G a_may_lose, k_may_lose, PySem.W.mg_of X G a_is_listener, k_is_listener, PySem.W.mg_of X G a_refuse_wrong_turn, k_refuse_wrong_turn, PySem.W.mg_of X G a_left_behind, k_left_behind, PySem.W.mg_of X G a_quiet_behind, k_quiet_behind, PySem.W.mg_of X G a_after, k_after, PySem.W.mg_of X G a_broken_ones, k_broken_ones, PySem.W.mg_of X G a_least_left, k_least_left, PySem.W.mg_of X G a_play, k_play, PySem.W.mg_of X G a_walked, k_walked, PySem.W.mg_of X G a_law_cell_at, k_law_cell_at, PySem.W.mg_of X G a_law_hall, k_law_hall, PySem.W.mg_of X G a_law_rows, k_law_rows, PySem.W.mg_of X G a_law_papers, k_law_papers, PySem.W.mg_of X G a_law_players, k_law_players, PySem.W.mg_of X G a_law, k_law, PySem.W.mg_none_of X G z_len, PySem.W.mg_none_of X G z_max, PySem.W.mg_none_of X G z_tuple, PySem.W.mg_none_of X G z_enumerate, PySem.W.mg_none_of X G z_min, PySem.W.mg_none_of X G z_list, PySem.W.mg_none_of X G z_dict, PySem.W.mg_none_of X G z_zip, PySem.W.mg_none_of X G z_range, PySem.W.mg_of X G ac_Caller, PySem.W.mg_of X G ac_Road, PySem.W.mg_of X G ac_RowCaller, PySem.W.mg_of X G ac_RowRoad, PySem.W.mg_of X G ac_PaperCaller, PySem.W.mg_of X G ac_PaperRoad, ⟨pg_Caller, hd_Caller, po_Caller, sa_Caller⟩, ⟨mm_Caller, ni_Caller, kc_Caller⟩, ⟨fm_Caller_call, i_Caller_call, k_Caller_call⟩, ⟨pg_Road, hd_Road, po_Road, sa_Road⟩, ⟨mm_Road, ni_Road, kc_Road⟩, ⟨fm_Road_loses, i_Road_loses, k_Road_loses⟩, ⟨pg_RowCaller, hd_RowCaller, po_RowCaller, sa_RowCaller⟩, ⟨mm_RowCaller, fm_RowCaller___init__, i_RowCaller___init__, kc_RowCaller⟩, ⟨fm_RowCaller_call, i_RowCaller_call, k_RowCaller_call⟩, nf_RowCaller_row, nf_RowCaller_asked, ⟨pg_RowRoad, hd_RowRoad, po_RowRoad, sa_RowRoad⟩, ⟨mm_RowRoad, fm_RowRoad___init__, i_RowRoad___init__, kc_RowRoad⟩, ⟨fm_RowRoad_loses, i_RowRoad_loses, k_RowRoad_loses⟩, nf_RowRoad_row, nf_RowRoad_asked, ⟨pg_PaperCaller, hd_PaperCaller, po_PaperCaller, sa_PaperCaller⟩, ⟨mm_PaperCaller, fm_PaperCaller___init__, i_PaperCaller___init__, kc_PaperCaller⟩, ⟨fm_PaperCaller_call, i_PaperCaller_call, k_PaperCaller_call⟩, nf_PaperCaller_paper, ⟨pg_PaperRoad, hd_PaperRoad, po_PaperRoad, sa_PaperRoad⟩, ⟨mm_PaperRoad, fm_PaperRoad___init__, i_PaperRoad___init__, kc_PaperRoad⟩, ⟨fm_PaperRoad_loses, i_PaperRoad_loses, k_PaperRoad_loses⟩, nf_PaperRoad_paper⟩
  have F_beginning := fun_mk (st := s_beginning) l_beginning c_beginning k_beginning
  have F_may_lose := fun_mk (st := s_may_lose) l_may_lose c_may_lose k_may_lose
  have F_is_listener := fun_mk (st := s_is_listener) l_is_listener c_is_listener k_is_listener
  have F_refuse_wrong_turn := fun_mk (st := s_refuse_wrong_turn) l_refuse_wrong_turn c_refuse_wrong_turn k_refuse_wrong_turn
  have F_left_behind := fun_mk (st := s_left_behind) l_left_behind c_left_behind k_left_behind
  have F_quiet_behind := fun_mk (st := s_quiet_behind) l_quiet_behind c_quiet_behind k_quiet_behind
  have F_after : FunD K "after" "after" s_after f_after _ := ⟨⟨_, _, _, _, _, _, _, _, _, _, rfl, l_after, c_after⟩⟩
  have F_broken_ones : FunD K "broken_ones" "broken_ones" s_broken_ones f_broken_ones _ := ⟨⟨_, _, _, _, _, _, _, _, _, _, rfl, l_broken_ones, c_broken_ones⟩⟩
  have F_least_left := fun_mk (st := s_least_left) l_least_left c_least_left k_least_left
  have F_RowCaller_call := fun_mk (st := s_RowCaller_call) l_RowCaller_call c_RowCaller_call k_RowCaller_call
  have F_PaperCaller_call := fun_mk (st := s_PaperCaller_call) l_PaperCaller_call c_PaperCaller_call k_PaperCaller_call
  have F_Caller_call := fun_mk (st := s_Caller_call) l_Caller_call c_Caller_call k_Caller_call
  have F_RowRoad_loses := fun_mk (st := s_RowRoad_loses) l_RowRoad_loses c_RowRoad_loses k_RowRoad_loses
  have F_PaperRoad_loses := fun_mk (st := s_PaperRoad_loses) l_PaperRoad_loses c_PaperRoad_loses k_PaperRoad_loses
  have F_Road_loses := fun_mk (st := s_Road_loses) l_Road_loses c_Road_loses k_Road_loses
  have F_play := fun_mk (st := s_play) l_play c_play k_play
  have F_RowCaller___init__ := fun_mk (st := s_RowCaller___init__) l_RowCaller___init__ c_RowCaller___init__ k_RowCaller___init__
  have F_PaperCaller___init__ := fun_mk (st := s_PaperCaller___init__) l_PaperCaller___init__ c_PaperCaller___init__ k_PaperCaller___init__
  have F_RowRoad___init__ := fun_mk (st := s_RowRoad___init__) l_RowRoad___init__ c_RowRoad___init__ k_RowRoad___init__
  have F_PaperRoad___init__ := fun_mk (st := s_PaperRoad___init__) l_PaperRoad___init__ c_PaperRoad___init__ k_PaperRoad___init__
  have F_walked := fun_mk (st := s_walked) l_walked c_walked k_walked
  have F_law_cell_at := fun_mk (st := s_law_cell_at) l_law_cell_at c_law_cell_at k_law_cell_at
  have F_law_hall := fun_mk (st := s_law_hall) l_law_hall c_law_hall k_law_hall
  have F_law_rows := fun_mk (st := s_law_rows) l_law_rows c_law_rows k_law_rows
  have F_law_papers := fun_mk (st := s_law_papers) l_law_papers c_law_papers k_law_papers
  have F_law_players := fun_mk (st := s_law_players) l_law_players c_law_players k_law_players
  have F_law := fun_mk (st := s_law) l_law c_law k_law
  have B_beginning := F_beginning.binds (ps := ["hall"]) fun _ _ _ _ _ _ us hl => match us, hl with | [_], _ => rfl
  have B_may_lose := F_may_lose.binds (ps := ["hall", "standing"]) fun _ _ _ _ _ _ us hl => match us, hl with | [_, _], _ => rfl
  have B_is_listener := F_is_listener.binds (ps := ["hall", "who"]) fun _ _ _ _ _ _ us hl => match us, hl with | [_, _], _ => rfl
  have B_refuse_wrong_turn := F_refuse_wrong_turn.binds (ps := ["hall", "standing", "who", "lost"]) fun _ _ _ _ _ _ us hl => match us, hl with | [_, _, _, _], _ => rfl
  have B_left_behind := F_left_behind.binds (ps := ["hall", "standing", "who", "lost"]) fun _ _ _ _ _ _ us hl => match us, hl with | [_, _, _, _], _ => rfl
  have B_quiet_behind := F_quiet_behind.binds (ps := ["hall", "standing", "lost"]) fun _ _ _ _ _ _ us hl => match us, hl with | [_, _, _], _ => rfl
  have B_after : Binds K (PySem.W.fnOf "after" "after" (defArgs s_after) (defBody s_after) (defScope s_after) (.ref dt_after) kV_after dc_after pm_after an_after cd_after ct_after) ["hall", "standing", "who", "lost"] [] := fun s us hK hl => by
    have h4 : us.length = 4 := by simpa using hl
    match us, h4 with | [_, _, _, _], _ => exact BindsTo.of_defaults rfl (hK _ _ t_after) rfl rfl rfl
  have B_after_d : Binds K (PySem.W.fnOf "after" "after" (defArgs s_after) (defBody s_after) (defScope s_after) (.ref dt_after) kV_after dc_after pm_after an_after cd_after ct_after) ["hall", "standing", "who", "lost"] [Value.bool false] := fun s us hK hl => by
    have h4 : us.length = 3 := by simpa using hl
    match us, h4 with | [_, _, _], _ => exact BindsTo.of_defaults rfl (hK _ _ t_after) rfl rfl rfl
  have B_broken_ones : Binds K (PySem.W.fnOf "broken_ones" "broken_ones" (defArgs s_broken_ones) (defBody s_broken_ones) (defScope s_broken_ones) (.ref dt_broken_ones) kV_broken_ones dc_broken_ones pm_broken_ones an_broken_ones cd_broken_ones ct_broken_ones) ["hall", "standing", "who", "lost"] [] := fun s us hK hl => by
    have h4 : us.length = 4 := by simpa using hl
    match us, h4 with | [_, _, _, _], _ => exact BindsTo.of_defaults rfl (hK _ _ t_broken_ones) rfl rfl rfl
  have B_broken_ones_d : Binds K (PySem.W.fnOf "broken_ones" "broken_ones" (defArgs s_broken_ones) (defBody s_broken_ones) (defScope s_broken_ones) (.ref dt_broken_ones) kV_broken_ones dc_broken_ones pm_broken_ones an_broken_ones cd_broken_ones ct_broken_ones) ["hall", "standing", "who", "lost"] [Value.bool false] := fun s us hK hl => by
    have h4 : us.length = 3 := by simpa using hl
    match us, h4 with | [_, _, _], _ => exact BindsTo.of_defaults rfl (hK _ _ t_broken_ones) rfl rfl rfl
  have B_least_left := F_least_left.binds (ps := ["standing"]) fun _ _ _ _ _ _ us hl => match us, hl with | [_], _ => rfl
  have B_RowCaller_call := F_RowCaller_call.binds (ps := ["self", "hall", "standing"]) fun _ _ _ _ _ _ us hl => match us, hl with | [_, _, _], _ => rfl
  have B_PaperCaller_call := F_PaperCaller_call.binds (ps := ["self", "hall", "standing"]) fun _ _ _ _ _ _ us hl => match us, hl with | [_, _, _], _ => rfl
  have B_Caller_call := F_Caller_call.binds (ps := ["self", "hall", "standing"]) fun _ _ _ _ _ _ us hl => match us, hl with | [_, _, _], _ => rfl
  have B_RowRoad_loses := F_RowRoad_loses.binds (ps := ["self", "hall", "standing", "who"]) fun _ _ _ _ _ _ us hl => match us, hl with | [_, _, _, _], _ => rfl
  have B_PaperRoad_loses := F_PaperRoad_loses.binds (ps := ["self", "hall", "standing", "who"]) fun _ _ _ _ _ _ us hl => match us, hl with | [_, _, _, _], _ => rfl
  have B_Road_loses := F_Road_loses.binds (ps := ["self", "hall", "standing", "who"]) fun _ _ _ _ _ _ us hl => match us, hl with | [_, _, _, _], _ => rfl
  have B_play := F_play.binds (ps := ["hall", "caller", "road", "turns"]) fun _ _ _ _ _ _ us hl => match us, hl with | [_, _, _, _], _ => rfl
  have B_RowCaller___init__ := F_RowCaller___init__.binds (ps := ["self", "row"]) fun _ _ _ _ _ _ us hl => match us, hl with | [_, _], _ => rfl
  have B_PaperCaller___init__ := F_PaperCaller___init__.binds (ps := ["self", "paper"]) fun _ _ _ _ _ _ us hl => match us, hl with | [_, _], _ => rfl
  have B_RowRoad___init__ := F_RowRoad___init__.binds (ps := ["self", "row"]) fun _ _ _ _ _ _ us hl => match us, hl with | [_, _], _ => rfl
  have B_PaperRoad___init__ := F_PaperRoad___init__.binds (ps := ["self", "paper"]) fun _ _ _ _ _ _ us hl => match us, hl with | [_, _], _ => rfl
  have B_walked := F_walked.binds (ps := ["hall", "standing", "calls", "losses"]) fun _ _ _ _ _ _ us hl => match us, hl with | [_, _, _, _], _ => rfl
  have B_law_cell_at := F_law_cell_at.binds (ps := ["script", "k"]) fun _ _ _ _ _ _ us hl => match us, hl with | [_, _], _ => rfl
  have B_law_hall := F_law_hall.binds (ps := ["script"]) fun _ _ _ _ _ _ us hl => match us, hl with | [_], _ => rfl
  have B_law_rows := F_law_rows.binds (ps := ["script", "many"]) fun _ _ _ _ _ _ us hl => match us, hl with | [_, _], _ => rfl
  have B_law_papers := F_law_papers.binds (ps := ["hall", "row", "truths", "turns"]) fun _ _ _ _ _ _ us hl => match us, hl with | [_, _, _, _], _ => rfl
  have B_law_players := F_law_players.binds (ps := ["script", "hall", "turns"]) fun _ _ _ _ _ _ us hl => match us, hl with | [_, _, _], _ => rfl
  refine ⟨PySem.W.fnOf "law" "law" (defArgs s_law) (defBody s_law) (defScope s_law) .none kV_law dc_law pm_law an_law cd_law ct_law, fun s v => .of_eq rfl, fun base _ _ => ?_⟩
  have G_beginning : FnOk l.prog w K mg base CX0 1 _ _ ["hall"] (sp_beginning K) := ok_beginning T F_beginning 
  have G_may_lose : FnOk l.prog w K mg base CX0 1 _ _ ["hall", "standing"] (sp_may_lose K) := ok_may_lose T F_may_lose 
  have G_is_listener : FnOk l.prog w K mg base CX0 1 _ _ ["hall", "who"] (sp_is_listener K) := ok_is_listener T F_is_listener 
  have G_refuse_wrong_turn : FnOk l.prog w K mg base CX0 2 _ _ ["hall", "standing", "who", "lost"] (sp_refuse_wrong_turn K) := ok_refuse_wrong_turn T F_refuse_wrong_turn G_is_listener B_is_listener G_may_lose B_may_lose
  have G_left_behind : FnOk l.prog w K mg base CX0 3 _ _ ["hall", "standing", "who", "lost"] (sp_left_behind K) := ok_left_behind T F_left_behind G_refuse_wrong_turn B_refuse_wrong_turn
  have G_quiet_behind : FnOk l.prog w K mg base CX0 1 _ _ ["hall", "standing", "lost"] (sp_quiet_behind K) := ok_quiet_behind T F_quiet_behind 
  have G_after : FnOk l.prog w K mg base CX0 4 _ _ ["hall", "standing", "who", "lost"] (sp_after K) := ok_after T F_after G_left_behind B_left_behind G_quiet_behind B_quiet_behind
  have G_broken_ones : FnOk l.prog w K mg base CX0 4 _ _ ["hall", "standing", "who", "lost"] (sp_broken_ones K) := ok_broken_ones T F_broken_ones G_left_behind B_left_behind
  have G_least_left : FnOk l.prog w K mg base CX0 1 _ _ ["standing"] (sp_least_left K) := ok_least_left T F_least_left 
  have G_RowCaller_call : FnOk l.prog w K mg base CX0 2 _ _ ["self", "hall", "standing"] (sp_RowCaller_call K C_Caller C_Road C_RowCaller C_RowRoad C_PaperCaller C_PaperRoad) := ok_RowCaller_call T F_RowCaller_call G_least_left B_least_left
  have G_PaperCaller_call : FnOk l.prog w K mg base CX0 2 _ _ ["self", "hall", "standing"] (sp_PaperCaller_call K C_Caller C_Road C_RowCaller C_RowRoad C_PaperCaller C_PaperRoad) := ok_PaperCaller_call T F_PaperCaller_call G_least_left B_least_left
  have G_Caller_call : FnOk l.prog w K mg base CX0 2 _ _ ["self", "hall", "standing"] (sp_Caller_call K C_Caller C_Road C_RowCaller C_RowRoad C_PaperCaller C_PaperRoad) := ok_Caller_call T F_Caller_call G_least_left B_least_left
  have G_RowRoad_loses : FnOk l.prog w K mg base CX0 2 _ _ ["self", "hall", "standing", "who"] (sp_RowRoad_loses K C_Caller C_Road C_RowCaller C_RowRoad C_PaperCaller C_PaperRoad) := ok_RowRoad_loses T F_RowRoad_loses G_may_lose B_may_lose
  have G_PaperRoad_loses : FnOk l.prog w K mg base CX0 2 _ _ ["self", "hall", "standing", "who"] (sp_PaperRoad_loses K C_Caller C_Road C_RowCaller C_RowRoad C_PaperCaller C_PaperRoad) := ok_PaperRoad_loses T F_PaperRoad_loses G_may_lose B_may_lose
  have G_Road_loses : FnOk l.prog w K mg base CX0 1 _ _ ["self", "hall", "standing", "who"] (sp_Road_loses K C_Caller C_Road C_RowCaller C_RowRoad C_PaperCaller C_PaperRoad) := ok_Road_loses T F_Road_loses 
  have G_play : FnOk l.prog w K mg base CX0 5 _ _ ["hall", "caller", "road", "turns"] (sp_play K C_Caller C_Road C_RowCaller C_RowRoad C_PaperCaller C_PaperRoad) := ok_play T F_play G_beginning B_beginning G_RowCaller_call B_RowCaller_call G_PaperCaller_call B_PaperCaller_call G_Caller_call B_Caller_call G_RowRoad_loses B_RowRoad_loses G_PaperRoad_loses B_PaperRoad_loses G_Road_loses B_Road_loses G_broken_ones B_broken_ones B_broken_ones_d G_after B_after B_after_d
  have G_RowCaller___init__ : FnOk l.prog w K mg base CX0 1 _ _ ["self", "row"] (sp_RowCaller___init__ K C_Caller C_Road C_RowCaller C_RowRoad C_PaperCaller C_PaperRoad) := ok_RowCaller___init__ T F_RowCaller___init__ 
  have G_PaperCaller___init__ : FnOk l.prog w K mg base CX0 1 _ _ ["self", "paper"] (sp_PaperCaller___init__ K C_Caller C_Road C_RowCaller C_RowRoad C_PaperCaller C_PaperRoad) := ok_PaperCaller___init__ T F_PaperCaller___init__ 
  have G_RowRoad___init__ : FnOk l.prog w K mg base CX0 1 _ _ ["self", "row"] (sp_RowRoad___init__ K C_Caller C_Road C_RowCaller C_RowRoad C_PaperCaller C_PaperRoad) := ok_RowRoad___init__ T F_RowRoad___init__ 
  have G_PaperRoad___init__ : FnOk l.prog w K mg base CX0 1 _ _ ["self", "paper"] (sp_PaperRoad___init__ K C_Caller C_Road C_RowCaller C_RowRoad C_PaperCaller C_PaperRoad) := ok_PaperRoad___init__ T F_PaperRoad___init__ 
  have G_walked : FnOk l.prog w K mg base CX0 5 _ _ ["hall", "standing", "calls", "losses"] (sp_walked K) := ok_walked T F_walked G_after B_after B_after_d
  have G_law_cell_at : FnOk l.prog w K mg base CX0 1 _ _ ["script", "k"] (sp_law_cell_at K) := ok_law_cell_at T F_law_cell_at 
  have G_law_hall : FnOk l.prog w K mg base CX0 2 _ _ ["script"] (sp_law_hall K) := ok_law_hall T F_law_hall G_law_cell_at B_law_cell_at
  have G_law_rows : FnOk l.prog w K mg base CX0 1 _ _ ["script", "many"] (sp_law_rows K) := ok_law_rows T F_law_rows 
  have G_law_papers : FnOk l.prog w K mg base CX0 6 _ _ ["hall", "row", "truths", "turns"] (sp_law_papers K C_Caller C_Road C_RowCaller C_RowRoad C_PaperCaller C_PaperRoad) := ok_law_papers T F_law_papers G_play B_play G_RowCaller___init__ B_RowCaller___init__ G_RowRoad___init__ B_RowRoad___init__
  have G_law_players : FnOk l.prog w K mg base CX0 7 _ _ ["script", "hall", "turns"] (sp_law_players K C_Caller C_Road C_RowCaller C_RowRoad C_PaperCaller C_PaperRoad) := ok_law_players T F_law_players G_law_rows B_law_rows G_law_papers B_law_papers G_RowCaller___init__ B_RowCaller___init__ G_PaperCaller___init__ B_PaperCaller___init__ G_RowRoad___init__ B_RowRoad___init__ G_PaperRoad___init__ B_PaperRoad___init__ G_law_cell_at B_law_cell_at
  exact ok_law T F_law G_law_hall B_law_hall G_law_players B_law_players G_play B_play G_walked B_walked G_law_cell_at B_law_cell_at
theorem walk {l : PySem.W.OpenLaw} {q : Program} {loose : List Str} {XP : (Str → Option Value) → Heap → Prop} {YP : World → Heap → Prop} {d : DefRec} {K : Params → PySem.W.Frag} (hn : l.most = some 63) (hdf : d.params.defaults = [])
    (hY : ∀ (w : World) (h : Heap), YP w h → (K w.params).In h)
    (F : ∀ (w : World) (mg : Str → Option Value) (fa : Addr) (h : Heap), (K w.params).In h → h.Ns mainGlobals mg → mg d.name = some (.ref fa) →
      ∃ fd : FuncData, (∀ (s : Shared) (u : Value), BindsTo s fd ⟨[u], []⟩ [("script", u)]) ∧ ∀ base : Heap, (K w.params).In base → base.Ns mainGlobals mg → FnOk l.prog w (K w.params) mg base CX0 8 fa fd ["script"] (sp_law (K w.params))) :
    PySem.W.WalkO q loose XP YP l.row.toRowW d [] (fun f vs => PySem.call f vs) :=
  L2.walk_ofB (n := 63) (k := 8) (x := "script") (CX := fun _ => CX0) (sp := fun w => sp_law (K w.params)) hn (by decide) hdf ⟨rfl, by decide, by decide⟩ hY F (fun _ _ a ns hl hb _ hS => ⟨a, ns, rfl, hS, hl, hb, fun _ => rfl⟩) fun _ _ _ _ _ z => z
end Law
open PySem PySem.W PyProof.Rows
set_option maxRecDepth 100000 in
set_option maxHeartbeats 0 in
theorem PySem.Challenge.cw_roundcall_k79_whole_plays_are_walks_holds : PySem.Challenge.rw_roundcall_k79_whole_plays_are_walks.Holds := by
  w_on; o_law; k_head; (case hw => w_witness2)
  k_fill
  refine Law.walk (l := PySem.Challenge.rw_roundcall_k79_whole_plays_are_walks) rfl rfl (fun w h Y => PySem.W.kIn_of Y) ?F
  case F =>
    intro w mg fa h KX G hmg
    refine' Law.all_mk KX G hmg ?a_beginning ?l_beginning ?c_beginning ?k_beginning ?a_may_lose ?l_may_lose ?c_may_lose ?k_may_lose ?a_is_listener ?l_is_listener ?c_is_listener ?k_is_listener ?a_refuse_wrong_turn ?l_refuse_wrong_turn ?c_refuse_wrong_turn ?k_refuse_wrong_turn ?a_left_behind ?l_left_behind ?c_left_behind ?k_left_behind ?a_quiet_behind ?l_quiet_behind ?c_quiet_behind ?k_quiet_behind ?a_after ?l_after ?c_after ?k_after ?t_after ?a_broken_ones ?l_broken_ones ?c_broken_ones ?k_broken_ones ?t_broken_ones ?a_least_left ?l_least_left ?c_least_left ?k_least_left ?i_RowCaller_call ?l_RowCaller_call ?c_RowCaller_call ?k_RowCaller_call ?i_PaperCaller_call ?l_PaperCaller_call ?c_PaperCaller_call ?k_PaperCaller_call ?i_Caller_call ?l_Caller_call ?c_Caller_call ?k_Caller_call ?i_RowRoad_loses ?l_RowRoad_loses ?c_RowRoad_loses ?k_RowRoad_loses ?i_PaperRoad_loses ?l_PaperRoad_loses ?c_PaperRoad_loses ?k_PaperRoad_loses ?i_Road_loses ?l_Road_loses ?c_Road_loses ?k_Road_loses ?a_play ?l_play ?c_play ?k_play ?i_RowCaller___init__ ?l_RowCaller___init__ ?c_RowCaller___init__ ?k_RowCaller___init__ ?i_PaperCaller___init__ ?l_PaperCaller___init__ ?c_PaperCaller___init__ ?k_PaperCaller___init__ ?i_RowRoad___init__ ?l_RowRoad___init__ ?c_RowRoad___init__ ?k_RowRoad___init__ ?i_PaperRoad___init__ ?l_PaperRoad___init__ ?c_PaperRoad___init__ ?k_PaperRoad___init__ ?a_walked ?l_walked ?c_walked ?k_walked ?a_law_cell_at ?l_law_cell_at ?c_law_cell_at ?k_law_cell_at ?a_law_hall ?l_law_hall ?c_law_hall ?k_law_hall ?a_law_rows ?l_law_rows ?c_law_rows ?k_law_rows ?a_law_papers ?l_law_papers ?c_law_papers ?k_law_papers ?a_law_players ?l_law_players ?c_law_players ?k_law_players ?a_law ?l_law ?c_law ?k_law ?pg_Caller ?hd_Caller ?po_Caller ?sa_Caller ?mm_Caller ?kc_Caller ?fm_Caller_call ?ni_Caller ?pg_Road ?hd_Road ?po_Road ?sa_Road ?mm_Road ?kc_Road ?fm_Road_loses ?ni_Road ?pg_RowCaller ?hd_RowCaller ?po_RowCaller ?sa_RowCaller ?mm_RowCaller ?kc_RowCaller ?fm_RowCaller_call ?fm_RowCaller___init__ ?nf_RowCaller_row ?nf_RowCaller_asked ?pg_RowRoad ?hd_RowRoad ?po_RowRoad ?sa_RowRoad ?mm_RowRoad ?kc_RowRoad ?fm_RowRoad_loses ?fm_RowRoad___init__ ?nf_RowRoad_row ?nf_RowRoad_asked ?pg_PaperCaller ?hd_PaperCaller ?po_PaperCaller ?sa_PaperCaller ?mm_PaperCaller ?kc_PaperCaller ?fm_PaperCaller_call ?fm_PaperCaller___init__ ?nf_PaperCaller_paper ?pg_PaperRoad ?hd_PaperRoad ?po_PaperRoad ?sa_PaperRoad ?mm_PaperRoad ?kc_PaperRoad ?fm_PaperRoad_loses ?fm_PaperRoad___init__ ?nf_PaperRoad_paper ?z_len ?z_max ?z_tuple ?z_enumerate ?z_min ?z_list ?z_dict ?z_zip ?z_range ?ac_Caller ?ac_Road ?ac_RowCaller ?ac_RowRoad ?ac_PaperCaller ?ac_PaperRoad
    (case ac_Caller => k_is)
    (case ac_Road => k_is)
    (case ac_RowCaller => k_is)
    (case ac_RowRoad => k_is)
    (case ac_PaperCaller => k_is)
    (case ac_PaperRoad => k_is)
    (case fm_Caller_call => k_is)
    (case fm_Road_loses => k_is)
    (case fm_RowCaller_call => k_is)
    (case fm_RowCaller___init__ => k_is)
    (case fm_RowRoad_loses => k_is)
    (case fm_RowRoad___init__ => k_is)
    (case fm_PaperCaller_call => k_is)
    (case fm_PaperCaller___init__ => k_is)
    (case fm_PaperRoad_loses => k_is)
    (case fm_PaperRoad___init__ => k_is)
    (case a_beginning => k_is)
    (case l_beginning => k_is)
    (case c_beginning => k_is)
    (case k_beginning => k_is)
    (case a_may_lose => k_is)
    (case l_may_lose => k_is)
    (case c_may_lose => k_is)
    (case k_may_lose => k_is)
    (case a_is_listener => k_is)
    (case l_is_listener => k_is)
    (case c_is_listener => k_is)
    (case k_is_listener => k_is)
    (case a_refuse_wrong_turn => k_is)
    (case l_refuse_wrong_turn => k_is)
    (case c_refuse_wrong_turn => k_is)
    (case k_refuse_wrong_turn => k_is)
    (case a_left_behind => k_is)
    (case l_left_behind => k_is)
    (case c_left_behind => k_is)
    (case k_left_behind => k_is)
    (case a_quiet_behind => k_is)
    (case l_quiet_behind => k_is)
    (case c_quiet_behind => k_is)
    (case k_quiet_behind => k_is)
    (case a_after => k_is)
    (case l_after => k_is)
    (case c_after => k_is)
    (case k_after => k_is)
    (case t_after => k_is)
    (case a_broken_ones => k_is)
    (case l_broken_ones => k_is)
    (case c_broken_ones => k_is)
    (case k_broken_ones => k_is)
    (case t_broken_ones => k_is)
    (case a_least_left => k_is)
    (case l_least_left => k_is)
    (case c_least_left => k_is)
    (case k_least_left => k_is)
    (case i_RowCaller_call => k_is)
    (case l_RowCaller_call => k_is)
    (case c_RowCaller_call => k_is)
    (case k_RowCaller_call => k_is)
    (case i_PaperCaller_call => k_is)
    (case l_PaperCaller_call => k_is)
    (case c_PaperCaller_call => k_is)
    (case k_PaperCaller_call => k_is)
    (case i_Caller_call => k_is)
    (case l_Caller_call => k_is)
    (case c_Caller_call => k_is)
    (case k_Caller_call => k_is)
    (case i_RowRoad_loses => k_is)
    (case l_RowRoad_loses => k_is)
    (case c_RowRoad_loses => k_is)
    (case k_RowRoad_loses => k_is)
    (case i_PaperRoad_loses => k_is)
    (case l_PaperRoad_loses => k_is)
    (case c_PaperRoad_loses => k_is)
    (case k_PaperRoad_loses => k_is)
    (case i_Road_loses => k_is)
    (case l_Road_loses => k_is)
    (case c_Road_loses => k_is)
    (case k_Road_loses => k_is)
    (case a_play => k_is)
    (case l_play => k_is)
    (case c_play => k_is)
    (case k_play => k_is)
    (case i_RowCaller___init__ => k_is)
    (case l_RowCaller___init__ => k_is)
    (case c_RowCaller___init__ => k_is)
    (case k_RowCaller___init__ => k_is)
    (case i_PaperCaller___init__ => k_is)
    (case l_PaperCaller___init__ => k_is)
    (case c_PaperCaller___init__ => k_is)
    (case k_PaperCaller___init__ => k_is)
    (case i_RowRoad___init__ => k_is)
    (case l_RowRoad___init__ => k_is)
    (case c_RowRoad___init__ => k_is)
    (case k_RowRoad___init__ => k_is)
    (case i_PaperRoad___init__ => k_is)
    (case l_PaperRoad___init__ => k_is)
    (case c_PaperRoad___init__ => k_is)
    (case k_PaperRoad___init__ => k_is)
    (case a_walked => k_is)
    (case l_walked => k_is)
    (case c_walked => k_is)
    (case k_walked => k_is)
    (case a_law_cell_at => k_is)
    (case l_law_cell_at => k_is)
    (case c_law_cell_at => k_is)
    (case k_law_cell_at => k_is)
    (case a_law_hall => k_is)
    (case l_law_hall => k_is)
    (case c_law_hall => k_is)
    (case k_law_hall => k_is)
    (case a_law_rows => k_is)
    (case l_law_rows => k_is)
    (case c_law_rows => k_is)
    (case k_law_rows => k_is)
    (case a_law_papers => k_is)
    (case l_law_papers => k_is)
    (case c_law_papers => k_is)
    (case k_law_papers => k_is)
    (case a_law_players => k_is)
    (case l_law_players => k_is)
    (case c_law_players => k_is)
    (case k_law_players => k_is)
    (case a_law => k_is)
    (case l_law => k_is)
    (case c_law => k_is)
    (case k_law => k_is)
    (case pg_Caller => k_is)
    (case hd_Caller => k_is)
    (case po_Caller => k_is)
    (case sa_Caller => k_is)
    (case mm_Caller => k_is)
    (case kc_Caller => k_is)
    (case ni_Caller => k_is)
    (case pg_Road => k_is)
    (case hd_Road => k_is)
    (case po_Road => k_is)
    (case sa_Road => k_is)
    (case mm_Road => k_is)
    (case kc_Road => k_is)
    (case ni_Road => k_is)
    (case pg_RowCaller => k_is)
    (case hd_RowCaller => k_is)
    (case po_RowCaller => k_is)
    (case sa_RowCaller => k_is)
    (case mm_RowCaller => k_is)
    (case kc_RowCaller => k_is)
    (case nf_RowCaller_row => k_is)
    (case nf_RowCaller_asked => k_is)
    (case pg_RowRoad => k_is)
    (case hd_RowRoad => k_is)
    (case po_RowRoad => k_is)
    (case sa_RowRoad => k_is)
    (case mm_RowRoad => k_is)
    (case kc_RowRoad => k_is)
    (case nf_RowRoad_row => k_is)
    (case nf_RowRoad_asked => k_is)
    (case pg_PaperCaller => k_is)
    (case hd_PaperCaller => k_is)
    (case po_PaperCaller => k_is)
    (case sa_PaperCaller => k_is)
    (case mm_PaperCaller => k_is)
    (case kc_PaperCaller => k_is)
    (case nf_PaperCaller_paper => k_is)
    (case pg_PaperRoad => k_is)
    (case hd_PaperRoad => k_is)
    (case po_PaperRoad => k_is)
    (case sa_PaperRoad => k_is)
    (case mm_PaperRoad => k_is)
    (case kc_PaperRoad => k_is)
    (case nf_PaperRoad_paper => k_is)
    (case z_len => k_is)
    (case z_max => k_is)
    (case z_tuple => k_is)
    (case z_enumerate => k_is)
    (case z_min => k_is)
    (case z_list => k_is)
    (case z_dict => k_is)
    (case z_zip => k_is)
    (case z_range => k_is)
