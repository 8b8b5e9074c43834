import PyProof.Rows.All
import Wide.All
import OpenK.AllK
import Wide.FinOn
import Lean
import PyProof.EqAt
import PyProof.EqKinds
import PyProof.TupleCall
import PySem.Challenge.RW_roundcall_k73_players_by_papers
set_option Elab.async false
set_option linter.all false
set_option maxRecDepth 100000
/-! THE HAND LAYER, for ints, bools, texts, own classes, LISTS and tuples (index, slices, in, append, pop ..), calls, loops. Paste it whole ahead of your own text; what your proof does not reach may be deleted. -/
namespace L2
open PySem PySem.Spec PyProof.Rows

/-- a key: an int or a str -/
abbrev Key := Sum Int Str
def keyIs : Key → Value → Bool
  | .inl k, v => Value.isInt k v
  | .inr x, v => Value.isStrOf x v
def keyH (w : World) : Key → Int
  | .inl k => hashInt k
  | .inr x => hashStr w x
theorem keyIs_shape : ∀ {k : Key} {v : Value}, keyIs k v = true → (∃ i t, k = Sum.inl i ∧ v = Value.int i t) ∨ (∃ x t, k = Sum.inr x ∧ v = Value.str x t)
  | .inl i, v, h => by
    obtain ⟨t, e⟩ := Value.isInt_shape (k := i) (v := v) h
    exact .inl ⟨i, t, rfl, e⟩
  | .inr x, v, h => by
    obtain ⟨t, e⟩ := Value.isStrOf_shape (x := x) (v := v) h
    exact .inr ⟨x, t, rfl, e⟩
theorem keyIs_int (i : Int) (t : Tok) : keyIs (.inl i) (.int i t) = true := by simp [keyIs, Value.isInt]
theorem keyIs_str (x : Str) (t : Tok) : keyIs (.inr x) (.str x t) = true := by simp [keyIs, Value.isStrOf]
theorem key_ll (a b : Int) : decide ((Sum.inl a : Key) = Sum.inl b) = (a == b) := by
  by_cases e : a = b
  · subst e; simp
  · have h : ¬ (Sum.inl a : Key) = Sum.inl b := fun q => e (Sum.inl.inj q)
    rw [decide_eq_false h]
    exact (beq_eq_false_iff_ne.mpr e).symm
theorem key_rr (a b : Str) : decide ((Sum.inr a : Key) = Sum.inr b) = decide (a = b) := by
  by_cases e : a = b
  · subst e; simp
  · have h : ¬ (Sum.inr a : Key) = Sum.inr b := fun q => e (Sum.inr.inj q)
    rw [decide_eq_false h, decide_eq_false e]
theorem key_lr (a : Int) (b : Str) : decide ((Sum.inl a : Key) = Sum.inr b) = false := decide_eq_false (fun q => nomatch q)
theorem key_rl (a : Str) (b : Int) : decide ((Sum.inr a : Key) = Sum.inl b) = false := decide_eq_false (fun q => nomatch q)

def mixKind (prog : Program) (w : World) : PySem.KeyKind prog w Key where
  is := keyIs
  hash := keyH w
  inj := fun v a b ha hb => by
    rcases keyIs_shape ha with ⟨i, t, rfl, rfl⟩ | ⟨x, t, rfl, rfl⟩
    · rcases keyIs_shape hb with ⟨j, u, rfl, e⟩ | ⟨y, u, rfl, e⟩
      · injection e with e1 _; rw [e1]
      · exact nomatch e
    · rcases keyIs_shape hb with ⟨j, u, rfl, e⟩ | ⟨y, u, rfl, e⟩
      · exact nomatch e
      · injection e with e1 _; rw [e1]
  byValue := fun k v h => by
    rcases keyIs_shape h with ⟨i, t, rfl, rfl⟩ | ⟨x, t, rfl, rfl⟩ <;> rfl
  pyHash := fun hv h => by
    rcases keyIs_shape hv with ⟨i, t, rfl, rfl⟩ | ⟨x, t, rfl, rfl⟩
    · exact wpAny_pyHash_int h
    · exact wpAny_pyHash_str h
  eqBool := fun hu hv h => by
    rcases keyIs_shape hu with ⟨i, t, rfl, rfl⟩ | ⟨x, t, rfl, rfl⟩
    · rcases keyIs_shape hv with ⟨j, u, rfl, rfl⟩ | ⟨y, u, rfl, rfl⟩
      · rw [key_ll] at h; exact wpAny_eqBool_int h
      · rw [key_lr] at h; exact SeqAt.EqAt.int_str i t y u _ _ _ _ h
    · rcases keyIs_shape hv with ⟨j, u, rfl, rfl⟩ | ⟨y, u, rfl, rfl⟩
      · rw [key_rl] at h; exact SeqAt.EqAt.str_int x t j u _ _ _ _ h
      · rw [key_rr] at h; exact wpAny_eqBool_str h
  «strs» := fun k x t v h => by
    rcases keyIs_shape h with ⟨i, u, rfl, e⟩ | ⟨y, u, rfl, e⟩
    · exact nomatch e
    · injection e with e1 _
      subst e1
      cases v <;> rfl

theorem mixKind_int (prog : Program) (w : World) (i : Int) (t : Tok) : (mixKind prog w).is (.inl i) (.int i t) = true := keyIs_int i t
theorem mixKind_str (prog : Program) (w : World) (x : Str) (t : Tok) : (mixKind prog w).is (.inr x) (.str x t) = true := keyIs_str x t
end L2

namespace L2
open PySem PySem.Spec PyProof.Rows

/-- a value, without the heap -/
inductive V where
  | non | bl (b : Bool) | int (i : Int) | str (x : Str) | byt (b : Array UInt8) | flt (b : UInt64) | ref (a : Addr) | ty (n : String)
  deriving DecidableEq

def RelV : V → Value → Prop
  | .non, u => u = Value.none
  | .bl b, u => u = Value.bool b
  | .int i, u => ∃ t, u = Value.int i t
  | .str x, u => ∃ t, u = Value.str x t
  | .byt b, u => ∃ t, u = Value.bytes b t
  | .flt b, u => ∃ t, u = Value.float b t
  | .ref a, u => u = Value.ref a
  | .ty n, u => u = Value.type n

abbrev Vals : List V → List Value → Prop := Paired RelV
theorem Vals.length {xs : List V} {us : List Value} (r : Vals xs us) : xs.length = us.length := Paired.length r
theorem Vals.get : ∀ {xs : List V} {us : List Value} {i : Nat} {x : V}, Vals xs us → xs[i]? = some x → ∃ u, us[i]? = some u ∧ RelV x u
  | _, _, _, _, .nil, e => by simp at e
  | _, _, 0, _, .cons r _, e => by simp at e; subst e; exact ⟨_, rfl, r⟩
  | _, _, i + 1, x, .cons _ t, e => by
    obtain ⟨u, h1, h2⟩ := Vals.get (i := i) (x := x) t (by simpa using e)
    exact ⟨u, by simpa using h1, h2⟩
theorem Vals.set {x : V} {u : Value} (r : RelV x u) : ∀ {xs : List V} {us : List Value} (i : Nat), Vals xs us → Vals (xs.set i x) (us.set i u)
  | _, _, _, .nil => .nil
  | _, _, 0, .cons _ t => .cons r t
  | _, _, i + 1, .cons q t => .cons q (Vals.set r i t)
theorem Vals.append : ∀ {xs ys : List V} {us ws : List Value}, Vals xs us → Vals ys ws → Vals (xs ++ ys) (us ++ ws)
  | _, _, _, _, .nil, s => s
  | _, _, _, _, .cons r t, s => .cons r (Vals.append t s)
theorem Vals.take : ∀ {xs : List V} {us : List Value} (n : Nat), Vals xs us → Vals (xs.take n) (us.take n)
  | _, _, 0, _ => .nil
  | _, _, _ + 1, .nil => .nil
  | _, _, n + 1, .cons r t => .cons r (Vals.take n t)
theorem Vals.drop : ∀ {xs : List V} {us : List Value} (n : Nat), Vals xs us → Vals (xs.drop n) (us.drop n)
  | _, _, 0, r => r
  | _, _, _ + 1, .nil => .nil
  | _, _, n + 1, .cons _ t => Vals.drop n t
theorem Vals.none_of : ∀ {xs : List V} {us : List Value} {i : Nat}, Vals xs us → xs[i]? = none → us[i]? = none := fun {xs us i} r e => by
  have h1 := r.length
  have h2 : xs.length ≤ i := List.getElem?_eq_none_iff.mp e
  exact List.getElem?_eq_none_iff.mpr (by omega)

def RelO : Option V → Option Value → Prop
  | some v, some u => RelV v u
  | none, none => True
  | _, _ => False
def KV {κ : Type} : List (κ × V) → List (κ × Value) → Prop := Paired fun (p : κ × V) (q : κ × Value) => p.1 = q.1 ∧ RelV p.2 q.2

/-- a key of a dict (00_mix): an int or a text -/
def kV : Key → V
  | .inl i => .int i
  | .inr x => .str x

section
variable {prog : Program} {w : World}
/-- a standing: a tuple of a tuple of ints and an int -/
def IsStand (prog : Program) (w : World) (h : Heap) (k : List Int × Int) (a : Addr) : Prop :=
  ∃ o n u t, h.get? a = some o ∧ o.cls = .type "tuple" ∧ o.data = .seq #[.ref u, .int k.2 t] n ∧ IsTupleKey (intKind prog w) h k.1 u
theorem IsStand.typeIs {s : Shared} {k : List Int × Int} {a : Addr} (x : IsStand prog w s.heap k a) : s.TypeIs (.ref a) "tuple" := let ⟨o, _, _, _, ho, hc, _⟩ := x; ⟨o, ho, hc⟩
theorem IsStand.inj {h : Heap} {a : Addr} {x y : List Int × Int} (hx : IsStand prog w h x a) (hy : IsStand prog w h y a) : x = y := by
  obtain ⟨o, n, u, t, ho, _, hd, hi⟩ := hx
  obtain ⟨o', n', u', t', ho', _, hd', hi'⟩ := hy
  obtain rfl : o = o' := Option.some.inj (ho.symm.trans ho')
  rw [hd] at hd'
  injection hd' with h1 _
  simp only [Array.mk.injEq, List.cons.injEq, Value.ref.injEq, Value.int.injEq, and_true] at h1
  obtain ⟨rfl, h2, _⟩ := h1
  exact Prod.ext (hi.inj hi') h2
theorem IsStand.keeps {h h' : Heap} {k : List Int × Int} {a d : Addr} {o : Obj} {es ep} (x : IsStand prog w h k a) (ho : h.get? d = some o) (hd : o.data = .dict es ep) (hs : Heap.SameBut d h h') : IsStand prog w h' k a := by
  obtain ⟨o', n, u, t, ho', hc, hd', hi⟩ := x
  have hne : a ≠ d := by
    rintro rfl
    obtain rfl : o' = o := Option.some.inj (ho'.symm.trans ho)
    rw [hd] at hd'
    exact nomatch hd'
  exact ⟨o', n, u, t, (hs.2 a hne).trans ho', hc, hd', hi.keeps ho hd hs⟩
def standHash (prog : Program) (w : World) (k : List Int × Int) : Int := reduceHash (Builtin.Tuple.tupleHashOf [tupleKeyHash (intKind prog w) k.1, (intKind prog w).hash k.2])
theorem stand_hash {A : Around} {E : Value → Shared → Prop} {s : Shared} {k : List Int × Int} {a : Addr} {Q : Int → Shared → Prop} (hu : A.units + 8 < cLine) (hk : IsStand prog w s.heap k a) (h : Q (standHash prog w k) { s with toks := s.toks + (k.1.length + 3) }) :
    wpAny (model prog w) A (pyHash (.ref a)) Q E s := by
  have hT := hk.typeIs
  obtain ⟨o, n, u, t, ho, _, hd, hi⟩ := hk
  unfold pyHash
  first | unfold pyHashByItsType | skip
  first | refine wpAny_bind (wpAny_cRoomFor_or (.inr (by omega)) ?_) | skip
  refine wpAny_bind (wpAny_specialOf hT F.slot_tuple_hash.lookup ?_)
  show wpAny _ _ (if (some (Value.builtin "tuple.__hash__") == some Value.none) = true then _ else _) Q E s
  rw [if_neg (by rw [beq_builtin_none]; exact Bool.false_ne_true)]
  refine wpAny_bind (wpAny_specialOf hT F.slot_tuple_hash.lookup ?_)
  show wpAny _ _ (callSpecialIfBoundUnlessNone? (.ref a) "__hash__" _ >>= _) Q E s
  refine wpAny_bind (wpAny_callSpecialIfBoundUnlessNone?_slot hT F.slot_tuple_hash (wpAny_call_entry F.slot_tuple_hash hT F.entry_tuple_hash ?_ (F.args_tuple_hash_1 _)))
  show wpAny _ _ (Builtin.Tuple.tupleItemsOf (.ref a) >>= _) _ _ s
  refine wpAny_bind (wpAny_tupleItemsOf ho hd ?_)
  refine wpAny_bind ?_
  rw [← Array.forIn_toList]
  show wpAny _ _ (forIn [Value.ref u, Value.int k.2 t] _ _) _ _ _
  rw [List.forIn_cons]
  have hin : A.in1.units < cLine := by
    first | (show A.units + 1 < cLine; omega) | (show A.units < cLine; omega) | (simp only [Around.in1]; omega)
  refine wpAny_bind (wpAny_bind (wpAny_pyHash_tuple (knd := intKind prog w) hin hi ?_))
  refine wpAny_pure ?_
  show wpAny _ _ (forIn [Value.int k.2 t] _ _) _ _ _
  rw [List.forIn_cons]
  refine wpAny_bind (wpAny_bind ((intKind prog w).pyHash (k := k.2) (by simp [intKind, Value.isInt]) ?_))
  refine wpAny_pure ?_
  show wpAny _ _ (forIn [] _ _) _ _ _
  rw [List.forIn_nil]
  refine wpAny_pure ?_
  show wpAny _ _ (retInt (Builtin.Tuple.tupleHashOf [tupleKeyHash (intKind prog w) k.1, (intKind prog w).hash k.2])) _ _ _
  refine wpAny_ret_mkInt ?_
  generalize e : Builtin.Tuple.tupleHashOf [tupleKeyHash (intKind prog w) k.1, (intKind prog w).hash k.2] = z
  show wpAny _ _ (if (decide (-(2 : Int) ^ 63 ≤ z) && decide (z < 2 ^ 63)) = true then _ else _) Q E _
  unfold standHash reduceHash at h
  rw [e] at h
  by_cases hr : (decide (-(2 : Int) ^ 63 ≤ z) && decide (z < 2 ^ 63)) = true
  · rw [if_pos hr]
    rw [if_pos hr] at h
    exact wpAny_pure (by simpa [Nat.add_assoc] using h)
  · rw [if_neg hr]
    rw [if_neg hr] at h
    exact wpAny_bind (wpAny_rule (wpAny_pure (by simpa [Nat.add_assoc] using h)))
theorem stand_eq {A : Around} {E : Value → Shared → Prop} {s : Shared} {x y : List Int × Int} {a b : Addr} {Q : Bool → Shared → Prop} (hu : A.units + 8 < cLine) (hx : IsStand prog w s.heap x a) (hy : IsStand prog w s.heap y b) (h : Q (decide (x = y)) s) :
    wpAny (model prog w) A (eqBool (.ref a) (.ref b)) Q E s := by
  unfold eqBool
  try with_reducible refine wpAny_holding ?_
  show wpAny _ _ (if (Value.ref a == Value.ref b) = true then _ else _) Q E s
  by_cases hab : (Value.ref a == Value.ref b) = true
  · rw [if_pos hab]
    have e : a = b := by have := eq_of_beq hab; injection this
    subst e
    obtain rfl := hx.inj hy
    exact wpAny_bind (wpAny_rule (wpAny_pure (by simpa using h)))
  · rw [if_neg hab]
    refine wpAny_bind (wpAny_richCompare_same_room (op := .Eq) hx.typeIs hy.typeIs F.slot_tuple_eq
      (wpAny_call_entry F.slot_tuple_eq hx.typeIs F.entry_tuple_eq ?_ (F.args_tuple_eq_2 _ _)) (by omega))
    have hTb := hy.typeIs
    obtain ⟨oa, na, ua, ta, hoa, _, hda, hia⟩ := hx
    obtain ⟨ob, nb, ub, tb, hob, _, hdb, hib⟩ := hy
    show wpAny _ _ (isInstance (.ref b) (.type "tuple") >>= _) _ _ s
    refine wpAny_bind (wpAny_isInstance hTb isSubtype_tuple_tuple ?_)
    simp only [Bool.not_true, Bool.false_eq_true, if_false]
    refine wpAny_bind (wpAny_tupleItemsOf hoa hda ?_)
    refine wpAny_bind (wpAny_tupleItemsOf hob hdb ?_)
    refine wpAny_bind ?_
    show wpAny _ _ (forIn [(Value.ref ua, Value.ref ub), (Value.int x.2 ta, Value.int y.2 tb)] _ _) _ _ _
    rw [List.forIn_cons]
    have hin : A.in1.units < cLine := by
      first | (show A.units + 1 < cLine; omega) | (show A.units < cLine; omega) | (simp only [Around.in1]; omega)
    refine wpAny_bind (wpAny_bind (wpAny_eqBool_tuple (knd := intKind prog w) hin hia hib ?_))
    by_cases h1 : x.1 = y.1
    · rw [decide_eq_true h1]
      simp only [Bool.not_true, Bool.false_eq_true, if_false]
      refine wpAny_pure ?_
      show wpAny _ _ (forIn [(Value.int x.2 ta, Value.int y.2 tb)] _ _) _ _ _
      rw [List.forIn_cons]
      refine wpAny_bind (wpAny_bind ((intKind prog w).eqBool (a := x.2) (b := y.2) (by simp [intKind, Value.isInt]) (by simp [intKind, Value.isInt]) ?_))
      by_cases h2 : x.2 = y.2
      · rw [decide_eq_true h2]
        simp only [Bool.not_true, Bool.false_eq_true, if_false]
        refine wpAny_pure ?_
        show wpAny _ _ (forIn [] _ _) _ _ _
        rw [List.forIn_nil]
        refine wpAny_pure ?_
        have e : decide (x = y) = true := decide_eq_true (Prod.ext h1 h2)
        rw [e] at h
        exact wpAny_pure ⟨_, rfl, (fun e => nomatch e), wpAny_truthy_bool h⟩
      · rw [decide_eq_false h2]
        simp only [Bool.not_false, if_true]
        have e : decide (x = y) = false := decide_eq_false fun z => h2 (by rw [z])
        rw [e] at h
        exact wpAny_bind (wpAny_pure (wpAny_pure (wpAny_pure (wpAny_pure ⟨_, rfl, (fun e => nomatch e), wpAny_truthy_bool h⟩))))
    · rw [decide_eq_false h1]
      simp only [Bool.not_false, if_true]
      have e : decide (x = y) = false := decide_eq_false fun z => h1 (by rw [z])
      rw [e] at h
      exact wpAny_bind (wpAny_pure (wpAny_pure (wpAny_pure (wpAny_pure ⟨_, rfl, (fun e => nomatch e), wpAny_truthy_bool h⟩))))
theorem quiet7 {A : Around} {E : Value → Shared → Prop} {s : Shared} {ks : List Int} {a : Addr} {Q : Bool → Shared → Prop} (hk : IsTupleKey (intKind prog w) s.heap ks a) (h : Q true s) : wpAny (model prog w) A (eqIsQuiet 7 (.ref a)) Q E s := by
  have hT := hk.typeIs
  obtain ⟨o, items, n, ho, _, hd, hi⟩ := hk
  unfold eqIsQuiet
  refine wpAny_bind (wpAny_specialOf hT F.slot_tuple_eq.lookup ?_)
  show wpAny _ _ (isInstance (.ref a) (.type "tuple") >>= _) _ _ s
  refine wpAny_bind (wpAny_isInstance hT isSubtype_tuple_tuple ?_)
  simp only [Bool.not_true, Bool.false_eq_true, if_false]
  refine wpAny_bind (wpAny_seqItems ho hd ?_)
  refine wpAny_bind ?_
  show wpAny _ _ (forIn items _ _) _ _ s
  rw [← Array.forIn_toList]
  refine wpAny_forIn_list _ (fun rest r s' => r.1 = none ∧ s' = s ∧ ∀ v ∈ rest, carriedByValue v = true) _ ?_ ?_ _ _ ⟨rfl, rfl, hi.byValue⟩
  · rintro v rest r s' ⟨hr, rfl, hall⟩
    rw [eqIsQuiet_byValue _ (hall v List.mem_cons_self)]
    refine wpAny_bind (wpAny_pure ?_)
    simp only [Bool.not_true, Bool.false_eq_true, if_false]
    exact wpAny_pure ⟨rfl, rfl, fun u hu' => hall u (List.mem_cons_of_mem _ hu')⟩
  · rintro ⟨r1, r2⟩ s' ⟨hr, rfl, _⟩
    simp only at hr
    subst hr
    exact wpAny_pure h
theorem stand_quiet {A : Around} {E : Value → Shared → Prop} {s : Shared} {k : List Int × Int} {a : Addr} {Q : Bool → Shared → Prop} (hk : IsStand prog w s.heap k a) (h : Q true s) : wpAny (model prog w) A (eqIsQuiet 8 (.ref a)) Q E s := by
  have hT := hk.typeIs
  obtain ⟨o, n, u, t, ho, _, hd, hi⟩ := hk
  unfold eqIsQuiet
  refine wpAny_bind (wpAny_specialOf hT F.slot_tuple_eq.lookup ?_)
  show wpAny _ _ (isInstance (.ref a) (.type "tuple") >>= _) _ _ s
  refine wpAny_bind (wpAny_isInstance hT isSubtype_tuple_tuple ?_)
  simp only [Bool.not_true, Bool.false_eq_true, if_false]
  refine wpAny_bind (wpAny_seqItems ho hd ?_)
  refine wpAny_bind ?_
  show wpAny _ _ (forIn #[Value.ref u, Value.int k.2 t] _ _) _ _ s
  rw [← Array.forIn_toList]
  show wpAny _ _ (forIn [Value.ref u, Value.int k.2 t] _ _) _ _ s
  rw [List.forIn_cons]
  refine wpAny_bind (wpAny_bind (quiet7 hi ?_))
  simp only [Bool.not_true, Bool.false_eq_true, if_false]
  refine wpAny_pure ?_
  show wpAny _ _ (forIn [Value.int k.2 t] _ _) _ _ s
  rw [List.forIn_cons, eqIsQuiet_byValue _ rfl]
  refine wpAny_bind (wpAny_bind (wpAny_pure ?_))
  simp only [Bool.not_true, Bool.false_eq_true, if_false]
  refine wpAny_pure ?_
  show wpAny _ _ (forIn [] _ _) _ _ s
  rw [List.forIn_nil]
  exact wpAny_pure (wpAny_pure h)
def standKind (prog : Program) (w : World) : HeapKind prog w (List Int × Int) where
  is := IsStand prog w
  hash := standHash prog w
  draws := fun k => k.1.length + 3
  room := fun A => A.units + 8 < cLine
  inj := fun hx hy => hx.inj hy
  keeps := fun x ho hd hs => x.keeps ho hd hs
  pyHash := fun hu hk h => stand_hash hu hk h
  eqBool := fun hu hx hy h => stand_eq hu hx hy h
  quiet := fun hk h => stand_quiet hk h
end
/-- what stands at a tracked address -/
inductive HO where
  /-- a list -/
  | lst (xs : List V)
  /-- a tuple (never changes) -/
  | tup (xs : List V)
  /-- a dict whose keys are ints and texts; one whose keys are tuples of ints and texts (the empty one is both) -/
  | dK (kvs : List (Key × V)) | dT (kvs : List ((List Int × Int) × V))
  /-- a set of ints: its members, its size -/
  | set (S : Int → Bool) (n : Nat)
  /-- an instance of the class at C, its dict at dx, its attributes -/
  | ins (C dx : Addr) (fs : List (Str × V))
  /-- the dict of the instance at x -/
  | own (x : Addr)
  /-- the dict of an exception -/
  | xd (fs : List (Str × V))
  /-- a bound method, f of x -/
  | met (f x : Addr)
  /-- a range object lo, lo + 1, .. below hi -/
  | rng (lo hi : Int)
  /-- a thing that is known to the object (the script; a dict while a loop walks it): read, never written while it is so -/
  | frz (o : Obj) (u : HO)
  /-- a code object's table -/
  | tbl (ps : Array Value)
  /-- any other thing, by what is true of its one object (a def of one's own: SetO a S n := HO.ext fun h => ..) -/
  | ext (φ : Heap → Prop)

abbrev Hp := Addr → Option HO
/-- a standing lies at b -/
def StH (H : Hp) (b : Addr) (k : List Int × Int) : Prop := ∃ u, H b = some (.tup [.ref u, .int k.2]) ∧ H u = some (.tup (k.1.map V.int))
theorem StH.up {H H2 : Hp} {b : Addr} {k : List Int × Int} (ht : ∀ b xs, H b = some (.tup xs) → H2 b = some (.tup xs)) (h : StH H b k) : StH H2 b k := let ⟨u, a1, a2⟩ := h; ⟨u, ht _ _ a1, ht _ _ a2⟩
def upd (H : Hp) (a : Addr) (o : HO) : Hp := fun b => if b = a then some o else H b
theorem upd_same {H : Hp} {a : Addr} {o : HO} : upd H a o a = some o := by unfold upd; rw [if_pos rfl]
theorem upd_ne {H : Hp} {a b : Addr} {o : HO} (h : b ≠ a) : upd H a o b = H b := by unfold upd; rw [if_neg h]
theorem ne_of_none {H : Hp} {a b : Addr} {o : HO} (h : H a = some o) (h' : H b = none) : a ≠ b := by
  intro e; subst e; rw [h] at h'; cases h'

section
variable (P : Program) (w : World)
def ObjOk (H : Hp) (h : Heap) (a : Addr) : HO → Prop
  | .lst xs => xs.length ≤ sizeLine ∧ ∃ (its : List Value) (n : Nat), Vals xs its ∧ h.get? a = some { cls := .type "list", data := .seq its.toArray n }
  | .tup xs => (xs.length ≤ sizeLine ∧ ∃ o, h.get? a = some o ∧ o.dict = none) ∧ ∃ its : List Value, Vals xs its ∧ IsTup h a its.toArray
  | .dK kvs => kvs.length ≤ sizeLine ∧ (a == sysModules) = false ∧ ∃ vs, KV kvs vs ∧ h.DictOf (mixKind P w) a vs
  | .dT kvs => kvs.length ≤ sizeLine ∧ (a == sysModules) = false ∧ ∃ xs : List ((List Int × Int) × Addr × Value),
      Paired (fun (p : (List Int × Int) × V) (q : (List Int × Int) × Addr × Value) => p.1 = q.1 ∧ StH H q.2.1 p.1 ∧ RelV p.2 q.2.2) kvs xs ∧
      ∃ o es ep, h.get? a = some o ∧ o.ExactDict ∧ o.data = .dict es ep ∧ es.toList = xs.map (entryOfKey (standKind P w)) ∧ (xs.map (·.1)).Nodup
  | .set S n => h.SetOf (intKind P w) a S n
  | .ins C dx fs => H dx = some (.own a) ∧ fs.length ≤ 1000 ∧ dx ≠ a ∧ h.get? a = some (PySem.W.instObj C dx) ∧
      ∃ mA, h.Ns1 dx mA ∧ (∀ f, RelO (fs.lookup f) (mA f)) ∧ PySem.Within mA (fs.map (·.1))
  | .own _ => ∃ o, h.get? a = some o
  | .xd fs => ∃ mA, h.Ns1 a mA ∧ ∀ f, RelO (fs.lookup f) (mA f)
  | .rng lo hi => ∃ t u v, h.get? a = some { cls := .type "range", data := .fields #[.int lo t, .int hi u, .int 1 v] }
  | .frz o u => h.get? a = some o ∧ ObjOk H h a u
  | .tbl ps => h.get? a = some { cls := .none, data := .fields ps }
  | .met f x => h.get? a = some (PySem.W.methodObj (.ref f) (.ref x))
  | .ext φ => φ h ∧ (∃ o, h.get? a = some o) ∧ ∀ h1 h2 : Heap, φ h1 → (∀ o, h1.get? a = some o → h2.get? a = some o) → φ h2
/-- the abstract heap is held -/
def HOk (H : Hp) (h : Heap) : Prop := ∀ a o, H a = some o → ObjOk P w H h a o
end

section
variable {P : Program} {w : World} {H H' : Hp} {h h' : Heap} {a : Addr} {o : HO}
theorem ObjOk.lt (x : ObjOk P w H h a o) : a < h.objs.size := by
  cases o with
  | lst xs => obtain ⟨_, _, _, _, e⟩ := x; exact Heap.lt_size e
  | tup xs => obtain ⟨_, _, _, p⟩ := x; exact p.lt
  | dK kvs => obtain ⟨_, _, _, _, o, _, _, e, _⟩ := x; exact Heap.lt_size e
  | dT kvs => obtain ⟨_, _, _, _, o, _, _, e, _⟩ := x; exact Heap.lt_size e
  | set S n => obtain ⟨o, _, _, _, e, _⟩ := x; exact Heap.lt_size e
  | ins C dx fs => obtain ⟨_, _, _, e, _⟩ := x; exact Heap.lt_size e
  | own y => obtain ⟨_, e⟩ := x; exact Heap.lt_size e
  | xd fs => obtain ⟨_, ⟨_, _, _, e, _⟩, _⟩ := x; exact Heap.lt_size e
  | rng lo hi => obtain ⟨_, _, _, e⟩ := x; exact Heap.lt_size e
  | frz ob u => obtain ⟨e, _⟩ := x; exact Heap.lt_size e
  | tbl ps => exact Heap.lt_size (show h.get? a = some _ from x)
  | met f y => exact Heap.lt_size (show h.get? a = some _ from x)
  | ext φ => obtain ⟨_, ⟨_, e⟩, _⟩ := x; exact Heap.lt_size e
theorem Paired.mapP {α β : Type} {F G : α → β → Prop} : ∀ {l₁ : List α} {l₂ : List β}, Paired F l₁ l₂ → (∀ a b, F a b → G a b) → Paired G l₁ l₂
  | _, _, .nil, _ => .nil
  | _, _, .cons r t, f => .cons (f _ _ r) (Paired.mapP t f)
/-- what an object's description leans on: its own object, its own dict, the tuples -/
theorem ObjOk.stay (x : ObjOk P w H h a o) (k : ∀ b u, (b = a ∨ H b = some (.own a)) → h.get? b = some u → h'.get? b = some u)
    (ho : ∀ b, H b = some (.own a) → H' b = some (.own a)) (ht : ∀ b xs, H b = some (.tup xs) → H' b = some (.tup xs)) : ObjOk P w H' h' a o := by
  induction o with
  | lst xs => obtain ⟨z, its, n, r, e⟩ := x; exact ⟨z, its, n, r, k _ _ (.inl rfl) e⟩
  | tup xs => obtain ⟨z, its, r, ob, e, c⟩ := x; exact ⟨⟨z.1, let ⟨o, e2, d⟩ := z.2; ⟨o, k _ _ (.inl rfl) e2, d⟩⟩, its, r, ob, k _ _ (.inl rfl) e, c⟩
  | dK kvs => obtain ⟨z, y, vs, r, ob, es, ep, e, c⟩ := x; exact ⟨z, y, vs, r, ob, es, ep, k _ _ (.inl rfl) e, c⟩
  | dT kvs =>
    obtain ⟨z, y, xs, r, ob, es, ep, e, c⟩ := x
    exact ⟨z, y, xs, Paired.mapP r fun p q z => ⟨z.1, z.2.1.up ht, z.2.2⟩, ob, es, ep, k _ _ (.inl rfl) e, c⟩
  | set S n => obtain ⟨ob, es, ep, t, e, c⟩ := x; exact ⟨ob, es, ep, t, k _ _ (.inl rfl) e, c⟩
  | ins C dx fs =>
    obtain ⟨d, z, ne, e, mA, ⟨od, es, ep, e2, c⟩, r⟩ := x
    exact ⟨ho _ d, z, ne, k _ _ (.inl rfl) e, mA, ⟨od, es, ep, k _ _ (.inr d) e2, c⟩, r⟩
  | own y => obtain ⟨ob, e⟩ := x; exact ⟨ob, k _ _ (.inl rfl) e⟩
  | xd fs => obtain ⟨mA, ⟨od, es, ep, e, c⟩, r⟩ := x; exact ⟨mA, ⟨od, es, ep, k _ _ (.inl rfl) e, c⟩, r⟩
  | rng lo hi => obtain ⟨t, u, v, e⟩ := x; exact ⟨t, u, v, k _ _ (.inl rfl) e⟩
  | frz ob u ih => obtain ⟨e, q⟩ := x; exact ⟨k _ _ (.inl rfl) e, ih q⟩
  | tbl ps =>
    have e : h.get? a = some { cls := .none, data := .fields ps } := x
    show h'.get? a = some { cls := .none, data := .fields ps }
    exact k a _ (.inl rfl) e
  | met f y =>
    have e : h.get? a = some (PySem.W.methodObj (.ref f) (.ref y)) := x
    show h'.get? a = some (PySem.W.methodObj (.ref f) (.ref y))
    exact k a _ (.inl rfl) e
  | ext φ => obtain ⟨p, ⟨o, e⟩, st⟩ := x; exact ⟨st _ _ p fun o q => k _ _ (.inl rfl) q, ⟨o, k _ _ (.inl rfl) e⟩, st⟩
theorem HOk.lt (x : HOk P w H h) (e : H a = some o) : a < h.objs.size := (x a o e).lt
theorem HOk.fresh (x : HOk P w H h) (e : h.objs.size ≤ a) : H a = none := by
  cases q : H a with
  | none => rfl
  | some u => exact absurd (Nat.lt_of_lt_of_le (x.lt q) e) (Nat.lt_irrefl _)
/-- every object of the heap is kept -/
theorem HOk.kept (x : HOk P w H h) (k : ∀ b u, h.get? b = some u → h'.get? b = some u) : HOk P w H h' := fun a o e =>
  (x a o e).stay (fun b u _ q => k b u q) (fun _ q => q) fun _ _ q => q
/-- a new object is laid and tracked -/
theorem HOk.laid (x : HOk P w H h) (k : ∀ b u, h.get? b = some u → h'.get? b = some u) (hp : h.objs.size ≤ a) (new : ObjOk P w (upd H a o) h' a o) : HOk P w (upd H a o) h' := fun b u e => by
  have hn := x.fresh hp
  by_cases hb : b = a
  · subst hb; rw [upd_same] at e; cases e; exact new
  · rw [upd_ne hb] at e
    exact (x b u e).stay (fun c v _ q => k c v q) (fun c q => by rw [upd_ne (ne_of_none q hn)]; exact q) fun c xs q => by rw [upd_ne (ne_of_none q hn)]; exact q
end

/-- what may be read as u: it is u, or a known u -/
def Rd (H : Hp) (a : Addr) (u : HO) : Prop := H a = some u ∨ ∃ o, H a = some (.frz o u)
theorem Rd.of {H : Hp} {a : Addr} {u : HO} (h : H a = some u) : Rd H a u := .inl h
theorem Rd.ok {P : Program} {w : World} {H : Hp} {h : Heap} {a : Addr} {u : HO} (r : Rd H a u) (x : HOk P w H h) : ObjOk P w H h a u := by
  rcases r with r | ⟨o, r⟩
  · exact x a u r
  · obtain ⟨_, q⟩ := x a _ r
    exact q
/-- what may be written -/
def Mut : Option HO → Prop
  | some (.lst _) => True
  | some (.dK _) => True
  | some (.dT _) => True
  | some (.set _ _) => True
  | some (.ins _ _ _) => True
  | some (.ext _) => True
  | _ => False
section
variable {P : Program} {w : World} {H : Hp} {h h' : Heap} {x e : Addr} {o' : HO}
/-- the object at e is changed: x itself, or the dict of the instance x -/
theorem HOk.write (ok : HOk P w H h) (mu : Mut (H x)) (he : e = x ∨ H e = some (.own x)) (k : ∀ b u, b ≠ e → h.get? b = some u → h'.get? b = some u) (heo : ∃ u, h'.get? e = some u)
    (new : ObjOk P w (upd H x o') h' x o') : HOk P w (upd H x o') h' := fun b u q => by
  have nown : ∀ c y, H c = some (.own y) → c ≠ x := fun c y r z => by subst z; rw [r] at mu; exact mu
  have ntup : ∀ c xs, H c = some (.tup xs) → c ≠ x := fun c xs r z => by subst z; rw [r] at mu; exact mu
  by_cases hb : b = x
  · subst hb; rw [upd_same] at q; cases q; exact new
  · rw [upd_ne hb] at q
    by_cases hbe : b = e
    · have q' : H b = some (.own x) := by
        rcases he with z | z
        · exact absurd (hbe.trans z) hb
        · rw [hbe]; exact z
      rw [q] at q'; cases q'
      obtain ⟨v, hv⟩ := heo
      exact ⟨v, by rw [hbe]; exact hv⟩
    · refine (ok b u q).stay (fun c v hc r => k c v ?_ r) (fun c r => by rw [upd_ne (nown c b r)]; exact r) fun c xs r => by rw [upd_ne (ntup c xs r)]; exact r
      rcases hc with rfl | hc
      · exact hbe
      · rintro rfl
        rcases he with z | z
        · exact nown c b hc z
        · rw [hc] at z; cases z; exact hb rfl
end

/-! ### kept unless tracked; of the frames at fs (the callers') the slots may change (an exception that passes writes there); of the records at ex (iterators) nothing is said -/
structure Un (fs ex : List Addr) (H H' : Hp) (h h' : Heap) : Prop where
  keep : ∀ b o, h.get? b = some o → H b = none → b ∉ fs → b ∉ ex → h'.get? b = some o
  slot : ∀ b o, h.get? b = some o → H b = none → b ∈ fs → b ∉ ex → ∃ sl, h'.get? b = some { o with slots := sl }
  free : ∀ b o, h.get? b = some o → H b = none → b ∉ ex → H' b = none
  there : ∀ b o, h.get? b = some o → b ∉ ex → ∃ o', h'.get? b = some o'
  tups : ∀ b xs, H b = some (.tup xs) → H' b = some (.tup xs)
  frzs : ∀ b o u, H b = some (.frz o u) → H' b = some (.frz o u)
  tbls : ∀ b ps, H b = some (.tbl ps) → ∃ more, H' b = some (.tbl (ps ++ more))
section
variable {fs fs' ex ex' : List Addr} {H H1 H2 : Hp} {h h1 h2 h' : Heap} {a x e : Addr} {o : HO}
theorem Un.any (u : Un fs ex H H1 h h1) {b : Addr} {ob : Obj} (q : h.get? b = some ob) (n : H b = none) (hx : b ∉ ex) : ∃ sl, h1.get? b = some { ob with slots := sl } := by
  by_cases hb : b ∈ fs
  · exact u.slot b ob q n hb hx
  · exact ⟨ob.slots, u.keep b ob q n hb hx⟩
theorem Un.trans (a : Un fs ex H H1 h h1) (b : Un fs ex H1 H2 h1 h2) : Un fs ex H H2 h h2 where
  keep := fun c ob q n hc hx => b.keep c ob (a.keep c ob q n hc hx) (a.free c ob q n hx) hc hx
  slot := fun c ob q n hc hx => by
    obtain ⟨sl, e1⟩ := a.slot c ob q n hc hx
    obtain ⟨sl', e2⟩ := b.slot c _ e1 (a.free c ob q n hx) hc hx
    exact ⟨sl', e2⟩
  free := fun c ob q n hx => by
    obtain ⟨o', e1⟩ := a.there c ob q hx
    exact b.free c o' e1 (a.free c ob q n hx) hx
  there := fun c ob q hx => by
    obtain ⟨o', e1⟩ := a.there c ob q hx
    exact b.there c o' e1 hx
  tups := fun c xs q => b.tups c xs (a.tups c xs q)
  frzs := fun c ob xs q => b.frzs c ob xs (a.frzs c ob xs q)
  tbls := fun c ps q => by
    obtain ⟨m1, e1⟩ := a.tbls c ps q
    obtain ⟨m2, e2⟩ := b.tbls c _ e1
    exact ⟨m1 ++ m2, by rw [e2, Array.append_assoc]⟩
theorem Un.kept (k : ∀ b u, h.get? b = some u → h'.get? b = some u) : Un fs ex H H h h' :=
  ⟨fun b ob q _ _ _ => k b ob q, fun b ob q _ _ _ => ⟨ob.slots, k b ob q⟩, fun _ _ _ n _ => n, fun b ob q _ => ⟨ob, k b ob q⟩, fun _ _ q => q, fun _ _ _ q => q, fun _ ps q => ⟨#[], by rw [q]; simp⟩⟩
theorem Un.refl : Un fs ex H H h h := Un.kept fun _ _ q => q
theorem Un.laid (k : ∀ b u, h.get? b = some u → h'.get? b = some u) (hp : h.objs.size ≤ a) (hn : H a = none) : Un fs ex H (upd H a o) h h' where
  keep := fun b u q _ _ _ => k b u q
  slot := fun b u q _ _ _ => ⟨u.slots, k b u q⟩
  free := fun b u q n _ => by rw [upd_ne (Nat.ne_of_lt (Nat.lt_of_lt_of_le (Heap.lt_size q) hp))]; exact n
  there := fun b u q _ => ⟨u, k b u q⟩
  tups := fun b xs q => by rw [upd_ne (ne_of_none q hn)]; exact q
  frzs := fun b u xs q => by rw [upd_ne (ne_of_none q hn)]; exact q
  tbls := fun b ps q => ⟨#[], by rw [upd_ne (ne_of_none q hn), q]; simp⟩
theorem Un.write (mu : Mut (H x)) (he : e = x ∨ H e = some (.own x)) (k : ∀ b u, b ≠ e → h.get? b = some u → h'.get? b = some u) (heo : ∃ u, h'.get? e = some u) : Un fs ex H (upd H x o) h h' := by
  have hx : ∀ b, H b = none → b ≠ x := fun b n z => by subst z; rw [n] at mu; exact mu
  have hb : ∀ b, H b = none → b ≠ e := fun b n z => by
    subst z
    rcases he with r | r
    · exact hx b n r
    · rw [n] at r; cases r
  have hm : ∀ b u, H b = some u → ¬ Mut (some u) → b ≠ x := fun b u q nm z => by subst z; rw [q] at mu; exact nm mu
  refine ⟨fun b u q n _ _ => k b u (hb b n) q, fun b u q n _ _ => ⟨u.slots, k b u (hb b n) q⟩, fun b u q n _ => by rw [upd_ne (hx b n)]; exact n, fun b u q _ => ?_,
    fun b xs q => by rw [upd_ne (hm b _ q fun z => z)]; exact q, fun b u xs q => by rw [upd_ne (hm b _ q fun z => z)]; exact q, fun b ps q => ⟨#[], by rw [upd_ne (hm b _ q fun z => z), q]; simp⟩⟩
  by_cases hbe : b = e
  · subst hbe; exact heo
  · exact ⟨u, k b u hbe q⟩
theorem Un.mono (u : Un fs ex H H1 h h1) (hs : ∀ b ∈ fs, b ∈ fs') (hx : ∀ b ∈ ex, b ∈ ex') : Un fs' ex' H H1 h h1 :=
  ⟨fun b ob q n hb he => u.keep b ob q n (fun z => hb (hs b z)) fun z => he (hx b z), fun _ _ q n _ he => u.any q n fun z => he (hx _ z), fun b ob q n he => u.free b ob q n fun z => he (hx b z), fun b ob q he => u.there b ob q fun z => he (hx b z), u.tups, u.frzs, u.tbls⟩
end

/-! ### the heap without what is tracked -/
def trk (h : Heap) (H : Hp) : List Addr := (List.range h.objs.size).filter fun a => (H a).isSome
def hidT (h : Heap) (H : Hp) : Heap := PySem.W.hideAll h (trk h H)
theorem hidT_size (h : Heap) (H : Hp) : (hidT h H).objs.size = h.objs.size := PySem.W.hideAll_size _ _
theorem hidT_get {h : Heap} {H : Hp} {b : Addr} {o : Obj} (e : h.get? b = some o) (n : H b = none) : (hidT h H).get? b = some o :=
  PySem.W.hideAll_get _ e fun hm => by
    have q : (H b).isSome = true := (List.mem_filter.mp hm).2
    rw [n] at q; simp at q
theorem of_hidT {h : Heap} {H : Hp} {b : Addr} {o : Obj} (e : (hidT h H).get? b = some o) : h.get? b = some o ∧ H b = none := by
  have e' : h.get? b = some o := PySem.W.of_hideAll (trk h H) e
  refine ⟨e', ?_⟩
  cases q : H b with
  | none => rfl
  | some x =>
    have hm : b ∈ trk h H := List.mem_filter.mpr ⟨List.mem_range.mpr (Heap.lt_size e'), by simp [q]⟩
    have z : (hidT h H).get? b = none := PySem.W.hideAll_none (trk h H) hm
    rw [z] at e; cases e

/-! ### OpenK's ledger, filled with every new object but one -/
def allNews (g h : Heap) (L : Addr) : List (Addr × Obj) := (List.range h.objs.size).filterMap fun a => if a = L ∨ (g.get? a).isSome = true then none else (h.get? a).map fun o => (a, o)
def rest (g h : Heap) (L d : Addr) : List (Addr × Obj) := (allNews g h L).filter fun p => decide (p.1 ≠ d)
end L2

namespace L2
open PySem PySem.Spec PyProof.Rows

/-- the module's facts, over the base: the heap at the law's entry without what is tracked there -/
structure Mod (K : PySem.W.Frag) (mg : Str → Option Value) (base : Heap) : Prop where
  kin : K.In base
  glob : base.Ns mainGlobals mg
  blt : ∃ mb, base.Ns builtinsNs mb ∧ ∀ x : Str, x ≠ "__name__" → mb x = bootBuiltins x
  nolimit : base.NoLimit

/-- the context: a def's body (or a comprehension's block) running. base: fixed through the whole law; s₀, H₀: the entry; outer: the frames whose slots others may change (a def's callers); stack: all frames that run;
   ex: iterators that were made ahead of the entry and are walked here (a comprehension's); fn: the names whose cells were made at the entry (a def: all; a comprehension's block: its own); calm: not within an except suite; pn: pins that every state bears; xe: what is wanted of an exception that leaves the code -/
structure Cx where
  prog : Program
  w : World
  K : PySem.W.Frag
  mg : Str → Option Value
  base : Heap
  A : Around
  N : List Str
  s₀ : Shared
  H₀ : Hp
  env : Env
  outer : List Env
  stack : List Env
  ex : List Addr
  fn : Str → Bool
  calm : Bool
  pn : List (Addr × Obj)
  xe : Value → Shared → Prop
/-- the callers' frames -/
def frs (l : List Env) : List Addr := l.filterMap (·.frame)
abbrev Cx.fs (X : Cx) : List Addr := frs X.outer

def Vis (sc : Scope) (x : Str) : Prop := sc.names.lookup x = some .local ∨ sc.names.lookup x = some .cell ∨ sc.names.lookup x = some .free
def Loc (sc : Scope) (x : Str) : Prop := sc.names.lookup x = some .local ∨ sc.names.lookup x = some .cell
def Look (env : Env) (h : Heap) (m : Str → Option Value) (x : Str) (u : Value) : Prop :=
  (env.kindOf x = some .local ∧ m x = some u) ∨ ((env.kindOf x = some .cell ∨ env.kindOf x = some .free) ∧ ∃ c, env.cells.lookup x = some c ∧ h.IsCell c (some u))

structure Cx.Ok (X : Cx) : Prop where
  mod : Mod X.K X.mg X.base
  kind : X.env.scope.kind = .function
  glob : X.env.globals = mainGlobals
  blt : X.env.builtins = builtinsNs
  above : X.s₀.heap.objs.size ≤ X.env.locals
  inj : ∀ x y c, X.env.cells.lookup x = some c → X.env.cells.lookup y = some c → x = y
  has : ∀ x, (X.env.kindOf x = some .cell ∨ X.env.kindOf x = some .free) → ∃ c, X.env.cells.lookup x = some c
  cab : ∀ x c, X.fn x = true → X.env.cells.lookup x = some c → X.s₀.heap.objs.size ≤ c
  hd : X.calm = true → X.A.handled = none
  frames : X.A.frames = some X.stack
  stk : X.stack = X.outer ∨ (X.stack = X.env :: X.outer ∧ X.env.frame = some X.env.locals)
  exf : ∀ b ∈ X.ex, b ≠ X.env.locals ∧ ∀ x c, X.env.cells.lookup x = some c → c ≠ b
  bs : ∀ b o, X.base.get? b = some o → X.s₀.heap.get? b = some o ∧ X.H₀ b = none
  bsz : X.base.objs.size ≤ X.s₀.heap.objs.size
  noex : ∀ b o, X.base.get? b = some o → b ∉ X.ex
  exfs : ∀ b ∈ X.ex, b ∉ X.fs
  funs : X.s₀.heap.FunFrames X.base X.outer
  frf : ∀ b ∈ X.fs, X.H₀ b = none

structure Inv (X : Cx) (pins : List (Addr × Obj)) (σ : List (Option V)) (H : Hp) (s : Shared) : Prop where
  ok : X.Ok
  os : s.os = X.s₀.os
  bare : AllBare s.gens
  base : Un X.fs X.ex X.H₀ H X.s₀.heap s.heap
  loc : ∃ m, s.heap.Ns X.env.locals m ∧ ∀ (i : Nat) (x : Str) (v : V), X.N[i]? = some x → σ[i]? = some (some v) → Vis X.env.scope x → ∃ u, RelV v u ∧ Look X.env s.heap m x u
  cell : ∀ x c, X.env.cells.lookup x = some c → ∃ v, s.heap.IsCell c v
  free : H X.env.locals = none
  freeC : ∀ x c, X.env.cells.lookup x = some c → H c = none
  pin : ∀ p ∈ X.pn ++ pins, s.heap.get? p.1 = some p.2 ∧ H p.1 = none ∧ p.1 ≠ X.env.locals ∧ p.1 ∉ X.fs ∧ ∀ v, p.2.data ≠ .cell v
  hok : HOk X.prog X.w H s.heap
  len : σ.length = X.N.length

section
variable {X : Cx} {pins : List (Addr × Obj)} {σ : List (Option V)} {H H' : Hp} {s : Shared} {h' : Heap}

theorem Cx.Ok.nofr (ok : X.Ok) {b : Addr} {o : Obj} (e : X.base.get? b = some o) : b ∉ X.fs := fun hb => by
  have := (ok.funs.mem hb).1
  rw [e] at this; cases this
theorem Inv.bs (I : Inv X pins σ H s) : ∀ b o, X.base.get? b = some o → s.heap.get? b = some o ∧ H b = none := fun b o e =>
  ⟨I.base.keep b o (I.ok.bs b o e).1 (I.ok.bs b o e).2 (I.ok.nofr e) (I.ok.noex b o e), I.base.free b o (I.ok.bs b o e).1 (I.ok.bs b o e).2 (I.ok.noex b o e)⟩
theorem Inv.bk (I : Inv X pins σ H s) : ∀ b o, X.base.get? b = some o → s.heap.get? b = some o := fun b o e => (I.bs b o e).1
theorem Inv.mod (I : Inv X pins σ H s) : Mod X.K X.mg X.base := I.ok.mod
theorem Inv.kIn (I : Inv X pins σ H s) : X.K.In s.heap := I.ok.mod.kin.keeps I.bk
theorem Inv.nolimit (I : Inv X pins σ H s) : s.heap.NoLimit := I.ok.mod.nolimit.keeps I.bk
/-- the frame over the base: for OpenK's rules (K.In X.base is I.mod.kin) -/
theorem Inv.fr (I : Inv X pins σ H s) : ∃ m, Fr X.base X.env.locals s.heap m :=
  let ⟨m, hn, _⟩ := I.loc
  ⟨m, hn, I.bk, Nat.le_trans I.ok.bsz I.ok.above⟩
theorem Inv.lt (I : Inv X pins σ H s) : X.env.locals < s.heap.objs.size := let ⟨_, hn, _⟩ := I.loc; hn.lt
theorem Inv.sz (I : Inv X pins σ H s) : X.s₀.heap.objs.size ≤ s.heap.objs.size := Nat.le_trans I.ok.above (Nat.le_of_lt I.lt)
theorem Inv.nofs (I : Inv X pins σ H s) {a : Addr} (h : s.heap.objs.size ≤ a) : a ∉ X.fs := fun hb => by
  obtain ⟨_, o, ho, _⟩ := I.ok.funs.mem hb
  exact absurd (Nat.lt_of_lt_of_le (Heap.lt_size ho) (Nat.le_trans I.sz h)) (Nat.lt_irrefl _)
theorem Inv.cne (I : Inv X pins σ H s) : ∀ x c, X.env.cells.lookup x = some c → c ≠ X.env.locals := fun x c e z => by
  obtain ⟨v, o, ho, hd⟩ := I.cell x c e
  obtain ⟨m, ⟨o', es, ep, ho', hd', _⟩, _⟩ := I.loc
  rw [z, ho'] at ho; cases ho; rw [hd'] at hd; cases hd
theorem Inv.funs (I : Inv X pins σ H s) : s.heap.FunFrames X.base X.outer := by
  have all : ∀ (l : List Env), (∀ b ∈ frs l, b ∈ X.fs) → X.s₀.heap.FunFrames X.base l → s.heap.FunFrames X.base l := by
    intro l
    induction l with
    | nil => intro _ _; trivial
    | cons env r ih =>
      intro hs hl
      obtain ⟨hk, ⟨L, o, hf, hn, ho, hd⟩, hr⟩ := hl
      have hL : L ∈ X.fs := hs L (by unfold frs; rw [List.filterMap_cons, hf]; exact List.mem_cons_self)
      obtain ⟨sl, e⟩ := I.base.slot L o ho (I.ok.frf L hL) hL fun z => I.ok.exfs L z hL
      exact ⟨hk, ⟨L, _, hf, hn, e, hd⟩, ih (fun b hb => hs b (by unfold frs; rw [List.filterMap_cons, hf]; exact List.mem_cons_of_mem _ hb)) hr⟩
  exact all X.outer (fun _ hb => hb) I.ok.funs

/-- the frames that run, for a call -/
theorem Inv.stack (I : Inv X pins σ H s) : s.heap.FunFrames X.base X.stack := by
  rcases I.ok.stk with e | ⟨e, hf⟩
  · rw [e]; exact I.funs
  · rw [e]
    obtain ⟨m, hn, _⟩ := I.loc
    refine .cons (by rw [I.ok.kind]; decide) hf hn ?_ I.funs
    exact Heap.get?_none_of_le (Nat.le_trans I.ok.bsz I.ok.above)
theorem Inv.stkSub (I : Inv X pins σ H s) : ∀ b ∈ frs X.stack, b ∈ X.env.locals :: X.fs := fun b hb => by
  rcases I.ok.stk with e | ⟨e, hf⟩
  · rw [e] at hb; exact List.mem_cons_of_mem _ hb
  · rw [e] at hb
    unfold frs at hb
    rw [List.filterMap_cons, hf] at hb
    exact hb
theorem Inv.stkFree (I : Inv X pins σ H s) : ∀ b ∈ frs X.stack, H b = none := fun b hb => by
  rcases List.mem_cons.mp (I.stkSub b hb) with e | hb
  · rw [e]; exact I.free
  · obtain ⟨_, o, ho, _⟩ := I.ok.funs.mem hb
    exact I.base.free b o ho (I.ok.frf b hb) fun z => I.ok.exfs b z hb

/-- THE STEP: the untracked objects but the frame and the records at ch are kept (the callers' frames up to slots), the frame's map is kept, the new abstract heap is held -/
theorem Inv.step {g' : Array GenState} {t' : Nat} {d' : Drawn} {ch : List Addr} (I : Inv X pins σ H s)
    (hch : ∀ b ∈ ch, (b ∈ X.ex ∨ X.s₀.heap.objs.size ≤ b) ∧ b ≠ X.env.locals ∧ (∀ x c, X.env.cells.lookup x = some c → c ≠ b) ∧ ∀ p ∈ X.pn ++ pins, p.1 ≠ b)
    (keep : ∀ b o, b ≠ X.env.locals → b ∉ X.fs → b ∉ ch → s.heap.get? b = some o → H b = none → h'.get? b = some o)
    (slot : ∀ b o, b ≠ X.env.locals → b ∈ X.fs → b ∉ ch → s.heap.get? b = some o → H b = none → ∃ sl, h'.get? b = some { o with slots := sl }) (free : ∀ b o, b ∉ ch → s.heap.get? b = some o → H b = none → H' b = none)
    (there : ∀ b o, b ∉ ch → s.heap.get? b = some o → ∃ o', h'.get? b = some o')
    (tups : ∀ b xs, H b = some (.tup xs) → H' b = some (.tup xs)) (frzs : ∀ b o u, H b = some (.frz o u) → H' b = some (.frz o u)) (tbls : ∀ b ps, H b = some (.tbl ps) → ∃ more, H' b = some (.tbl (ps ++ more)))
    (ns : ∀ m, s.heap.Ns X.env.locals m → h'.Ns X.env.locals m) (hok : HOk X.prog X.w H' h') (hg : AllBare g') :
    Inv X pins σ H' { s with heap := h', gens := g', drawn := d', toks := t' } := by
  have neL : ∀ b o, X.s₀.heap.get? b = some o → b ≠ X.env.locals := fun b o e => Nat.ne_of_lt (Nat.lt_of_lt_of_le (Heap.lt_size e) I.ok.above)
  have neC : ∀ b o, X.s₀.heap.get? b = some o → b ∉ X.ex → b ∉ ch := fun b o e hx hb => by
    rcases (hch b hb).1 with z | z
    · exact hx z
    · exact absurd (Nat.lt_of_lt_of_le (Heap.lt_size e) z) (Nat.lt_irrefl _)
  have cellK : ∀ x c, X.env.cells.lookup x = some c → ∀ v, s.heap.IsCell c v → h'.IsCell c v := fun x c e v ⟨o, ho, hd⟩ => by
    have nch : c ∉ ch := fun z => (hch c z).2.2.1 x c e rfl
    by_cases hc : c ∈ X.fs
    · obtain ⟨sl, q⟩ := slot c o (I.cne x c e) hc nch ho (I.freeC x c e)
      exact ⟨_, q, hd⟩
    · exact ⟨o, keep c o (I.cne x c e) hc nch ho (I.freeC x c e), hd⟩
  refine ⟨I.ok, I.os, hg, ⟨fun b o e n hb hx => ?_, fun b o e n hb hx => ?_, fun b o e n hx => ?_, fun b o e hx => ?_, fun b xs e => tups b xs (I.base.tups b xs e), fun b o xs e => frzs b o xs (I.base.frzs b o xs e), fun b ps e => ?_⟩, ?_, fun x c e => ?_, ?_, fun x c e => ?_, fun p hp => ?_, hok, I.len⟩
  · exact keep b o (neL b o e) hb (neC b o e hx) (I.base.keep b o e n hb hx) (I.base.free b o e n hx)
  · obtain ⟨sl, e1⟩ := I.base.slot b o e n hb hx
    obtain ⟨sl', e2⟩ := slot b _ (neL b o e) hb (neC b o e hx) e1 (I.base.free b o e n hx)
    exact ⟨sl', e2⟩
  · obtain ⟨o', e1⟩ := I.base.there b o e hx
    exact free b o' (neC b o e hx) e1 (I.base.free b o e n hx)
  · obtain ⟨o', e1⟩ := I.base.there b o e hx
    exact there b o' (neC b o e hx) e1
  · obtain ⟨m1, e1⟩ := I.base.tbls b ps e
    obtain ⟨m2, e2⟩ := tbls b _ e1
    exact ⟨m1 ++ m2, by rw [e2, Array.append_assoc]⟩
  · obtain ⟨m, hn, hl⟩ := I.loc
    refine ⟨m, ns m hn, fun i x v e1 e2 e3 => ?_⟩
    obtain ⟨u, r, l⟩ := hl i x v e1 e2 e3
    refine ⟨u, r, ?_⟩
    rcases l with l | ⟨k, c, e, z⟩
    · exact .inl l
    · exact .inr ⟨k, c, e, cellK x c e _ z⟩
  · obtain ⟨v, z⟩ := I.cell x c e
    exact ⟨v, cellK x c e v z⟩
  · obtain ⟨m, ⟨o, _, _, ho, _⟩, _⟩ := I.loc
    exact free _ o (fun z => (hch _ z).2.1 rfl) ho I.free
  · obtain ⟨v, o, ho, hd⟩ := I.cell x c e
    exact free c o (fun z => (hch c z).2.2.1 x c e rfl) ho (I.freeC x c e)
  · obtain ⟨e, n, ne, nf, d⟩ := I.pin p hp
    have nch : p.1 ∉ ch := fun z => (hch p.1 z).2.2.2 p hp rfl
    exact ⟨keep p.1 p.2 ne nf nch e n, free p.1 p.2 nch e n, ne, nf, d⟩
/-- .. where the frame's own object is kept too -/
theorem Inv.un {t' : Nat} (I : Inv X pins σ H s) (u : Un X.fs [] H H' s.heap h') (hok : HOk X.prog X.w H' h') : Inv X pins σ H' { s with heap := h', toks := t' } := by
  obtain ⟨m, ⟨o, es, ep, ho, r⟩, _⟩ := id I.loc
  obtain ⟨sl, hL⟩ := u.any ho I.free (by simp)
  exact I.step (g' := s.gens) (d' := s.drawn) (ch := []) (fun _ z => nomatch z) (fun b o _ hb _ e n => u.keep b o e n hb (by simp)) (fun b o _ hb _ e n => u.slot b o e n hb (by simp)) (fun b o _ e n => u.free b o e n (by simp)) (fun b o _ e => u.there b o e (by simp)) u.tups u.frzs u.tbls (fun m' hm => by
    obtain ⟨o', es', ep', ho', r'⟩ := hm
    rw [ho] at ho'; cases ho'
    exact ⟨_, es', ep', hL, r'⟩) hok I.bare
/-- behind a call (or a comprehension's block): the slots of this frame may have changed too, the records at ch may have turned -/
theorem Inv.call {g' : Array GenState} {t' : Nat} {d' : Drawn} {ch : List Addr} (I : Inv X pins σ H s) (u : Un (frs X.stack) ch H H' s.heap h') (hok : HOk X.prog X.w H' h') (hg : AllBare g')
    (hch : ∀ b ∈ ch, (b ∈ X.ex ∨ X.s₀.heap.objs.size ≤ b) ∧ b ≠ X.env.locals ∧ (∀ x c, X.env.cells.lookup x = some c → c ≠ b) ∧ ∀ p ∈ X.pn ++ pins, p.1 ≠ b) :
    Inv X pins σ H' { s with heap := h', gens := g', drawn := d', toks := t' } := by
  obtain ⟨m, ⟨o, es, ep, ho, r⟩, _⟩ := id I.loc
  obtain ⟨sl, hL⟩ := u.any ho I.free fun z => (hch _ z).2.1 rfl
  exact I.step (ch := ch) hch (fun b o hL hb hc e n => u.keep b o e n (fun z => (List.mem_cons.mp (I.stkSub b z)).elim hL hb) hc) (fun b o _ _ hc e n => u.any e n hc) (fun b o hc e n => u.free b o e n hc) (fun b o hc e => u.there b o e hc) u.tups u.frzs u.tbls (fun m' hm => by
    obtain ⟨o', es', ep', ho', r'⟩ := hm
    rw [ho] at ho'; cases ho'
    exact ⟨_, es', ep', hL, r'⟩) hok hg
/-- an untracked record of ours (an iterator) has turned -/
theorem Inv.turned {t' : Nat} {it : Addr} (I : Inv X pins σ H s) (k : ∀ b o, b ≠ it → s.heap.get? b = some o → h'.get? b = some o) (hn : H it = none) (hL : it ≠ X.env.locals)
    (h1 : it ∈ X.ex ∨ X.s₀.heap.objs.size ≤ it) (h2 : ∀ x c, X.env.cells.lookup x = some c → c ≠ it) (h3 : ∀ p ∈ X.pn ++ pins, p.1 ≠ it) : Inv X pins σ H { s with heap := h', toks := t' } := by
  have nit : ∀ b u, H b = some u → b ≠ it := fun b u e z => by rw [z, hn] at e; cases e
  refine I.step (g' := s.gens) (d' := s.drawn) (ch := [it]) (fun b hb => ?_) (fun b o _ _ hc e _ => k b o (fun z => hc (by simp [z])) e) (fun b o _ _ hc e _ => ⟨o.slots, k b o (fun z => hc (by simp [z])) e⟩) (fun _ _ _ _ n => n)
    (fun b o hc e => ⟨o, k b o (fun z => hc (by simp [z])) e⟩) (fun _ _ e => e) (fun _ _ _ e => e) (fun b ps e => ⟨#[], by rw [e]; simp⟩) (fun m hm => ?_) (fun b u e => ?_) I.bare
  · have e : b = it := by simpa using hb
    subst e
    exact ⟨h1, hL, h2, h3⟩
  · obtain ⟨o, es, ep, ho, r⟩ := hm
    exact ⟨o, es, ep, k _ o (Ne.symm hL) ho, r⟩
  · refine (I.hok b u e).stay (fun c v hc q => k c v ?_ q) (fun _ q => q) fun _ _ q => q
    rcases hc with z | z
    · rw [z]; exact nit b u e
    · exact nit c _ z
theorem Inv.tok (I : Inv X pins σ H s) (t : Nat) : Inv X pins σ H { s with toks := t } := I.un (h' := s.heap) (t' := t) Un.refl I.hok
/-- all objects kept -/
theorem Inv.kept {t' : Nat} (I : Inv X pins σ H s) (k : ∀ b u, s.heap.get? b = some u → h'.get? b = some u) : Inv X pins σ H { s with heap := h', toks := t' } := I.un (Un.kept k) (I.hok.kept k)
/-- a new object laid and tracked -/
theorem Inv.laid {a : Addr} {o : HO} {t' : Nat} (I : Inv X pins σ H s) (k : ∀ b u, s.heap.get? b = some u → h'.get? b = some u) (hp : s.heap.objs.size ≤ a) (new : ObjOk X.prog X.w (upd H a o) h' a o) :
    Inv X pins σ (upd H a o) { s with heap := h', toks := t' } := I.un (Un.laid k hp (I.hok.fresh hp)) (I.hok.laid k hp new)
/-- an object written -/
theorem Inv.write {x e : Addr} {o : HO} {t' : Nat} (I : Inv X pins σ H s) (mu : Mut (H x)) (he : e = x ∨ H e = some (.own x)) (k : ∀ b u, b ≠ e → s.heap.get? b = some u → h'.get? b = some u) (heo : ∃ u, h'.get? e = some u)
    (new : ObjOk X.prog X.w (upd H x o) h' x o) : Inv X pins σ (upd H x o) { s with heap := h', toks := t' } := I.un (Un.write mu he k heo) (I.hok.write mu he k heo new)
/-- forgetting slots, pins -/
theorem Inv.weak {σ' : List (Option V)} (I : Inv X pins σ H s) (hl : σ'.length = σ.length) (w : ∀ (i : Nat) v, σ'[i]? = some (some v) → σ[i]? = some (some v)) : Inv X pins σ' H s :=
  ⟨I.ok, I.os, I.bare, I.base, let ⟨m, hn, hl'⟩ := I.loc; ⟨m, hn, fun i x v e1 e2 e3 => hl' i x v e1 (w i v e2) e3⟩, I.cell, I.free, I.freeC, I.pin, I.hok, hl.trans I.len⟩
theorem Inv.pins_of {pins' : List (Addr × Obj)} (I : Inv X pins σ H s) (h : ∀ p ∈ pins', s.heap.get? p.1 = some p.2 ∧ H p.1 = none ∧ p.1 ≠ X.env.locals ∧ p.1 ∉ X.fs ∧ ∀ v, p.2.data ≠ .cell v) : Inv X pins' σ H s :=
  ⟨I.ok, I.os, I.bare, I.base, I.loc, I.cell, I.free, I.freeC, fun p hp => (List.mem_append.mp hp).elim (fun z => I.pin p (List.mem_append_left _ z)) (h p), I.hok, I.len⟩

theorem nodup_ix {N : List Str} (hN : N.Nodup) {i j : Nat} {x : Str} (a : N[i]? = some x) (b : N[j]? = some x) : i = j := by
  obtain ⟨h1, e1⟩ := List.getElem?_eq_some_iff.mp a
  obtain ⟨h2, e2⟩ := List.getElem?_eq_some_iff.mp b
  exact (List.getElem_inj hN).mp (e1.trans e2.symm)

/-- a name is stored; what changed -/
theorem store_ok2 {M : Model} {A : Around} {E : Value → Shared → Prop} {i : Nat} {x : Str} {v : V} {u : Value} {Q : Unit → Shared → Prop} (I : Inv X pins σ H s) (hN : X.N.Nodup) (hi : X.N[i]? = some x) (hx : Loc X.env.scope x) (r : RelV v u)
    (h : ∀ s', Inv X pins (σ.set i (some v)) H s' → (∃ a, Heap.SameBut a s.heap s'.heap ∧ (a = X.env.locals ∨ X.env.cells.lookup x = some a)) → Q () s') (hf : X.fn x = true ∨ X.env.scope.names.lookup x = some .local := by first | exact .inl rfl | exact .inr rfl | assumption) : wpAny M A (storeName X.env x u) Q E s := by
  obtain ⟨m, hn, hl⟩ := id I.loc
  have hcls : (X.env.scope.kind == .class || (X.env.scope.kind == .module && X.env.locals != X.env.globals)) = false := by rw [I.ok.kind]; rfl
  have hiσ : i < σ.length := by rw [I.len]; exact (List.getElem?_eq_some_iff.mp hi).1
  have cne := I.cne
  have tracked : ∀ {a : Addr} {h' : Heap}, (∃ o, s.heap.get? a = some o ∧ H a = none) → Heap.SameBut a s.heap h' → HOk X.prog X.w H h' := fun {a h'} ha hs b ob e => by
    obtain ⟨_, _, hfree⟩ := ha
    refine (I.hok b ob e).stay (fun c w' hc q => (hs.2 c ?_).trans q) (fun _ q => q) fun _ _ q => q
    rintro rfl
    rcases hc with rfl | hc
    · rw [hfree] at e; cases e
    · rw [hfree] at hc; cases hc
  rcases hx with hk | hk
  · refine wpAny_storeName_local hk hn (fun h' hn' hs => ?_) hcls
    obtain ⟨oL, _, _, hoL, _⟩ := id hn
    refine h _ ⟨I.ok, I.os, I.bare, ⟨fun b o e n hb hx => ?_, fun b o e n hb hx => ?_, I.base.free, fun b o e hx => ?_, I.base.tups, I.base.frzs, I.base.tbls⟩, ⟨_, hn', fun j y v' e1 e2 e3 => ?_⟩, fun y c e => ?_, I.free, I.freeC, fun p hp => ?_, tracked ⟨oL, hoL, I.free⟩ hs, by simpa using I.len⟩ ⟨_, hs, .inl rfl⟩
    · exact (hs.2 b (Nat.ne_of_lt (Nat.lt_of_lt_of_le (Heap.lt_size e) I.ok.above))).trans (I.base.keep b o e n hb hx)
    · obtain ⟨sl, e1⟩ := I.base.slot b o e n hb hx
      exact ⟨sl, (hs.2 b (Nat.ne_of_lt (Nat.lt_of_lt_of_le (Heap.lt_size e) I.ok.above))).trans e1⟩
    · obtain ⟨o', e1⟩ := I.base.there b o e hx
      exact ⟨o', (hs.2 b (Nat.ne_of_lt (Nat.lt_of_lt_of_le (Heap.lt_size e) I.ok.above))).trans e1⟩
    · by_cases hj : j = i
      · subst hj
        rw [hi] at e1; cases e1
        rw [List.getElem?_set_self hiσ] at e2
        cases e2
        exact ⟨u, r, .inl ⟨hk, by simp⟩⟩
      · rw [List.getElem?_set_ne (Ne.symm hj)] at e2
        obtain ⟨u', r', q⟩ := hl j y v' e1 e2 e3
        refine ⟨u', r', ?_⟩
        rcases q with ⟨k, e⟩ | ⟨k, c, e, z⟩
        · refine .inl ⟨k, ?_⟩
          have : y ≠ x := fun e => hj (nodup_ix hN e1 (e ▸ hi))
          simp [this, e]
        · exact .inr ⟨k, c, e, z.sameBut hs (cne y c e)⟩
    · obtain ⟨w', z⟩ := I.cell y c e
      exact ⟨w', z.sameBut hs (cne y c e)⟩
    · obtain ⟨e, n, ne, nf, d⟩ := I.pin p hp
      exact ⟨(hs.2 p.1 ne).trans e, n, ne, nf, d⟩
  · have hfn : X.fn x = true := by
      rcases hf with z | z
      · exact z
      · rw [z] at hk; cases hk
    obtain ⟨c, hc⟩ := I.ok.has x (.inl hk)
    obtain ⟨w', z⟩ := I.cell x c hc
    refine wpAny_storeName_cell I.ok.kind hk hc z (fun h' hc' hs => ?_)
    obtain ⟨oc, hoc, hocd⟩ := id z
    refine h { s with heap := h' } ⟨I.ok, I.os, I.bare, ⟨fun b o e n hb hx => ?_, fun b o e n hb hx => ?_, I.base.free, fun b o e hx => ?_, I.base.tups, I.base.frzs, I.base.tbls⟩, ⟨m, hn.sameBut hs (Ne.symm (cne x c hc)), fun j y v' e1 e2 e3 => ?_⟩, fun y c' e => ?_, I.free, I.freeC, fun p hp => ?_, tracked ⟨oc, hoc, I.freeC x c hc⟩ hs, by simpa using I.len⟩ ⟨c, hs, .inr hc⟩
    · exact (hs.2 b (Nat.ne_of_lt (Nat.lt_of_lt_of_le (Heap.lt_size e) (I.ok.cab x c hfn hc)))).trans (I.base.keep b o e n hb hx)
    · obtain ⟨sl, e1⟩ := I.base.slot b o e n hb hx
      exact ⟨sl, (hs.2 b (Nat.ne_of_lt (Nat.lt_of_lt_of_le (Heap.lt_size e) (I.ok.cab x c hfn hc)))).trans e1⟩
    · obtain ⟨o', e1⟩ := I.base.there b o e hx
      exact ⟨o', (hs.2 b (Nat.ne_of_lt (Nat.lt_of_lt_of_le (Heap.lt_size e) (I.ok.cab x c hfn hc)))).trans e1⟩
    · by_cases hj : j = i
      · subst hj
        rw [hi] at e1; cases e1
        rw [List.getElem?_set_self hiσ] at e2
        cases e2
        exact ⟨u, r, .inr ⟨.inl hk, c, hc, hc'⟩⟩
      · rw [List.getElem?_set_ne (Ne.symm hj)] at e2
        obtain ⟨u', r', q⟩ := hl j y v' e1 e2 e3
        refine ⟨u', r', ?_⟩
        rcases q with q | ⟨k, c', e, z'⟩
        · exact .inl q
        · refine .inr ⟨k, c', e, z'.sameBut hs ?_⟩
          rintro rfl
          exact hj (nodup_ix hN e1 (I.ok.inj _ _ _ e hc ▸ hi))
    · by_cases hcc : c' = c
      · subst hcc; exact ⟨_, hc'⟩
      · obtain ⟨w2, z2⟩ := I.cell y c' e
        exact ⟨w2, z2.sameBut hs hcc⟩
    · obtain ⟨e, n, ne, nf, d⟩ := I.pin p hp
      refine ⟨(hs.2 p.1 ?_).trans e, n, ne, nf, d⟩
      intro q
      rw [q, hoc] at e
      have q' : oc = p.2 := Option.some.inj e
      exact d w' (by rw [← q']; exact hocd)
theorem store_ok {M : Model} {A : Around} {E : Value → Shared → Prop} {i : Nat} {x : Str} {v : V} {u : Value} {Q : Unit → Shared → Prop} (I : Inv X pins σ H s) (hN : X.N.Nodup) (hi : X.N[i]? = some x) (hx : Loc X.env.scope x) (r : RelV v u)
    (h : ∀ s', Inv X pins (σ.set i (some v)) H s' → Q () s') (hf : X.fn x = true ∨ X.env.scope.names.lookup x = some .local := by first | exact .inl rfl | exact .inr rfl | assumption) : wpAny M A (storeName X.env x u) Q E s :=
  store_ok2 I hN hi hx r (fun s' I' _ => h s' I') hf
/-- behind a call or a block, the state as it is -/
theorem Inv.call' {s' : Shared} {ch : List Addr} (I : Inv X pins σ H s) (ho : s'.os = s.os) (u : Un (frs X.stack) ch H H' s.heap s'.heap) (hok : HOk X.prog X.w H' s'.heap) (hg : AllBare s'.gens)
    (hch : ∀ b ∈ ch, (b ∈ X.ex ∨ X.s₀.heap.objs.size ≤ b) ∧ b ≠ X.env.locals ∧ (∀ x c, X.env.cells.lookup x = some c → c ≠ b) ∧ ∀ p ∈ X.pn ++ pins, p.1 ≠ b) : Inv X pins σ H' s' := by
  obtain ⟨h', g', d', t', o'⟩ := s'
  have e : o' = s.os := ho
  subst e
  exact I.call (g' := g') (t' := t') (d' := d') u hok hg hch
end

/-! ### the judgements -/
/-- an exception: its class, its own dict's address (where it has one), the abstract heap behind it -/
abbrev XK := Value → Option Addr → Hp → Prop
abbrev St := List (Option V)
abbrev VK := V → Hp → Prop
/-- an expression's reading; a test's; an argument list's -/
abbrev TE := St → Hp → VK → Prop
abbrev TT := St → Hp → (Bool → Hp → Prop) → Prop
abbrev TA := St → Hp → (List V → Hp → Prop) → Prop
/-- what is wanted behind a statement -/
structure Ends where
  nx : St → Hp → Prop
  rt : VK
  bk : St → Hp → Prop := fun _ _ => False
  ct : St → Hp → Prop := fun _ _ => False
abbrev TS := Ends → St → Hp → Prop

def EP (X : Cx) (pins : List (Addr × Obj)) (σ : St) (Q : VK) (u : Value) (s' : Shared) : Prop := ∃ v H', Inv X pins σ H' s' ∧ RelV v u ∧ Q v H'
def TP (X : Cx) (pins : List (Addr × Obj)) (σ : St) (Q : Bool → Hp → Prop) (b : Bool) (s' : Shared) : Prop := ∃ H', Inv X pins σ H' s' ∧ Q b H'
def AP (X : Cx) (pins : List (Addr × Obj)) (σ : St) (Q : List V → Hp → Prop) (us : List Value) (s' : Shared) : Prop := ∃ vs H', Inv X pins σ H' s' ∧ Vals vs us ∧ Q vs H'
def SP (X : Cx) (pins : List (Addr × Obj)) (D : Ends) (f : Flow) (s' : Shared) : Prop :=
  match f with
  | .next => ∃ σ' H', Inv X pins σ' H' s' ∧ D.nx σ' H'
  | .brk => ∃ σ' H', Inv X pins σ' H' s' ∧ D.bk σ' H'
  | .cont => ∃ σ' H', Inv X pins σ' H' s' ∧ D.ct σ' H'
  | .ret u => ∃ v σ' H', Inv X pins σ' H' s' ∧ RelV v u ∧ D.rt v H'

def PE (X : Cx) (e : Expr) (t : TE) : Prop :=
  ∀ (pins : List (Addr × Obj)) (s : Shared) (σ : St) (H : Hp) (Q : VK), Inv X pins σ H s → t σ H Q → wpAny (model X.prog X.w) X.A (eval e X.env) (EP X pins σ Q) X.xe s
def PT (X : Cx) (e : Expr) (t : TT) : Prop :=
  ∀ (pins : List (Addr × Obj)) (s : Shared) (σ : St) (H : Hp) (Q : Bool → Hp → Prop), Inv X pins σ H s → t σ H Q → wpAny (model X.prog X.w) X.A (isTrue e X.env (eval e X.env)) (TP X pins σ Q) X.xe s
/-- a test whatever its 'whole' is (and, or) -/
def PW (X : Cx) (e : Expr) (t : TT) : Prop :=
  ∀ (whole : Sem Value) (pins : List (Addr × Obj)) (s : Shared) (σ : St) (H : Hp) (Q : Bool → Hp → Prop), Inv X pins σ H s → t σ H Q → wpAny (model X.prog X.w) X.A (isTrue e X.env whole) (TP X pins σ Q) X.xe s
theorem PW.pt {X : Cx} {e : Expr} {t : TT} (h : PW X e t) : PT X e t := h _
/-- an argument list (no star), from the left -/
def PA (X : Cx) (es : List Expr) (t : TA) : Prop :=
  ∀ (pos : Pos) (pins : List (Addr × Obj)) (s : Shared) (σ : St) (H : Hp) (Q : List V → Hp → Prop), Inv X pins σ H s → t σ H Q → wpAny (model X.prog X.w) X.A (spliced (backTo pos (starEach es X.env))) (AP X pins σ Q) X.xe s
def PS (X : Cx) (st : Stmt) (t : TS) : Prop :=
  ∀ (pins : List (Addr × Obj)) (s : Shared) (σ : St) (H : Hp) (D : Ends), Inv X pins σ H s → t D σ H → wpAny (model X.prog X.w) X.A (exec st X.env) (SP X pins D) X.xe s
def PSs (X : Cx) (st : List Stmt) (t : TS) : Prop :=
  ∀ (pins : List (Addr × Obj)) (s : Shared) (σ : St) (H : Hp) (D : Ends), Inv X pins σ H s → t D σ H → wpAny (model X.prog X.w) X.A (execs st X.env) (SP X pins D) X.xe s
/-- weaken the end -/
theorem thn {α : Type} {t : Sem α} {Q Q' : α → Shared → Prop} {M : Model} {A : Around} {E : Value → Shared → Prop} {s : Shared} (h : wpAny M A t Q E s) (hQ : ∀ a s, Q a s → Q' a s) : wpAny M A t Q' E s := wpAny_mono h hQ fun _ _ x => x
end L2

namespace L2
open PySem PySem.Spec PyProof.Rows
section
variable {X : Cx}

/-! ### names and constants -/
def tVar (i : Nat) : TE := fun σ H Q => ∃ v, σ[i]? = some (some v) ∧ Q v H
def tC (v : V) : TE := fun _ H Q => Q v H
theorem pe_var {i : Nat} {x : Str} {pos : Pos} (hN : X.N[i]? = some x) (hv : Vis X.env.scope x) (hd : (x == ("__debug__" : Str)) = false := by decide) (hcd : (x == ("__classdict__" : Str)) = false := by decide) : PE X (.Name x pos) (tVar i) := by
  intro pins s σ H Q I h
  obtain ⟨v, e, h⟩ := h
  obtain ⟨m, hn, hl⟩ := I.loc
  obtain ⟨u, r, l⟩ := hl i x v hN e hv
  have fin : EP X pins σ Q u s := ⟨v, H, I, r, h⟩
  rcases l with ⟨hk, hm⟩ | ⟨hk, c, hc, hcell⟩
  · exact wpAny_Name (wpAny_loadName_local I.ok.kind hk hn hm fin) hd
  · rcases hk with hk | hk
    · exact wpAny_Name (wpAny_loadName_cell I.ok.kind hk hc hcell fin) hd
    · exact wpAny_Name (wpAny_loadName_free I.ok.kind hk hc hcell fin hcd) hd
theorem pe_int {i j pos} : PE X (.Constant (.int i) j pos) (tC (.int i)) := fun _ _ _ H _ I h => wpAny_Constant_int ⟨.int i, H, I.tok _, ⟨_, rfl⟩, h⟩
theorem pe_bl {b j pos} : PE X (.Constant (.bool b) j pos) (tC (.bl b)) := fun _ _ _ H _ I h => Constant_bool ⟨.bl b, H, I, rfl, h⟩
theorem pe_non {j pos} : PE X (.Constant .none j pos) (tC .non) := fun _ _ _ H _ I h => Constant_none ⟨.non, H, I, rfl, h⟩
/-- a global name of the def -/
def Gl (X : Cx) (x : Str) : Prop := X.env.kindOf x = some .globalImplicit
theorem ld_glob {E : Value → Shared → Prop} {pins : List (Addr × Obj)} {s : Shared} {σ : St} {H : Hp} {x : Str} {u : Value} {pos : Pos} {Q : Value → Shared → Prop} (I : Inv X pins σ H s) (hg : Gl X x) (hm : X.mg x = some u) (h : Q u s)
    (hd : (x == ("__debug__" : Str)) = false := by decide) : wpAny (model X.prog X.w) X.A (eval (.Name x pos) X.env) Q E s :=
  Calls.Name_function_global I.ok.kind hg (Calls.loadGlobal_global (by rw [I.ok.glob]; exact I.mod.glob.keeps I.bk) hm h) hd
theorem ld_blt {E : Value → Shared → Prop} {pins : List (Addr × Obj)} {s : Shared} {σ : St} {H : Hp} {x : Str} {u : Value} {pos : Pos} {Q : Value → Shared → Prop} (I : Inv X pins σ H s) (hg : Gl X x) (hm : X.mg x = none) (hv : bootBuiltins x = some u) (h : Q u s)
    (hn : x ≠ "__name__" := by decide) (hd : (x == ("__debug__" : Str)) = false := by decide) : wpAny (model X.prog X.w) X.A (eval (.Name x pos) X.env) Q E s := by
  obtain ⟨mb, h1, h2⟩ := I.mod.blt
  exact Calls.Name_function_global I.ok.kind hg (Calls.loadGlobal_builtin (by rw [I.ok.glob]; exact I.mod.glob.keeps I.bk) hm (by rw [I.ok.blt]; exact h1.keeps I.bk) ((h2 x hn).trans hv) h) hd
/-- a module's constant, a class, a function, as a value -/
theorem pe_glob {x : Str} {v : V} {u : Value} {pos : Pos} (hg : Gl X x) (hm : X.mg x = some u) (r : RelV v u) (hd : (x == ("__debug__" : Str)) = false := by decide) : PE X (.Name x pos) (tC v) :=
  fun _ _ _ H _ I h => ld_glob I hg hm ⟨v, H, I, r, h⟩ hd
theorem pe_bltn {x : Str} {v : V} {u : Value} {pos : Pos} (hg : Gl X x) (hm : X.mg x = none) (hv : bootBuiltins x = some u) (r : RelV v u) (hn : x ≠ "__name__" := by decide) (hd : (x == ("__debug__" : Str)) = false := by decide) : PE X (.Name x pos) (tC v) :=
  fun _ _ _ H _ I h => ld_blt I hg hm hv ⟨v, H, I, r, h⟩ hn hd

/-! ### arithmetic -/
/-- two ints -/
def t2I (ta tb : TE) (k : Int → Int → Hp → Prop) : St → Hp → Prop := fun σ H => ta σ H fun x H1 => tb σ H1 fun y H2 => ∃ i j, x = .int i ∧ y = .int j ∧ k i j H2
def tAdd (ta tb : TE) : TE := fun σ H Q => t2I ta tb (fun i j H2 => Q (.int (i + j)) H2) σ H
def tSub (ta tb : TE) : TE := fun σ H Q => t2I ta tb (fun i j H2 => Q (.int (i - j)) H2) σ H
/-- the left factor below 2^64 -/
def tMul (ta tb : TE) : TE := fun σ H Q => t2I ta tb (fun i j H2 => (-(2 ^ 64) < i ∧ i < 2 ^ 64) ∧ Q (.int (i * j)) H2) σ H
variable {a b : Expr} {ta tb : TE} {pos : Pos}
/-! ### comparisons -/
def PC (X : Cx) (op : CmpOp) (a b : Expr) (t : TE) : Prop :=
  ∀ (pins : List (Addr × Obj)) (s : Shared) (σ : St) (H : Hp) (Q : VK), Inv X pins σ H s → t σ H Q →
    wpAny (model X.prog X.w) X.A (eval a X.env) (fun v s₁ => wpAny (model X.prog X.w) X.A (eval b X.env) (fun u s₂ => wpAny (model X.prog X.w) X.A (compareOp op v u) (EP X pins σ Q) X.xe s₂) X.xe s₁) X.xe s
theorem nobehind (b : Expr) {op : CmpOp} (h : op ≠ .In) (h2 : op ≠ .NotIn) : behindInMarks op b = false := by
  have e1 : (op == CmpOp.In) = false := by cases op <;> first | rfl | exact absurd rfl h
  have e2 : (op == CmpOp.NotIn) = false := by cases op <;> first | rfl | exact absurd rfl h2
  cases b <;> simp [behindInMarks, e1, e2]
def tCmp (p : Int → Int → Bool) (ta tb : TE) : TE := fun σ H Q => t2I ta tb (fun i j H2 => Q (.bl (p i j)) H2) σ H
abbrev tLt : TE → TE → TE := tCmp fun i j => decide (i < j)
abbrev tLe : TE → TE → TE := tCmp fun i j => decide (i ≤ j)
abbrev tGt : TE → TE → TE := tCmp fun i j => decide (j < i)
abbrev tGe : TE → TE → TE := tCmp fun i j => decide (j ≤ i)
abbrev tEqI : TE → TE → TE := tCmp fun i j => decide (i = j)
abbrev tNeI : TE → TE → TE := tCmp fun i j => !decide (i = j)
/-- is None -/
def tIsN (ta : TE) : TE := fun σ H Q => ta σ H fun x H1 => Q (.bl (decide (x = .non))) H1
def tNotN (ta : TE) : TE := fun σ H Q => ta σ H fun x H1 => Q (.bl (!decide (x = .non))) H1
/-- a comparison as a value, as a test -/
def tB (t : TE) : TT := fun σ H Q => t σ H fun x H1 => ∃ c, x = .bl c ∧ Q c H1
theorem pe_cmp {op : CmpOp} {t : TE} (h : PC X op a b t) (h1 : behindInMarks op b = false := by first | exact nobehind _ (by decide) (by decide) | rfl) : PE X (.Compare a [op] [b] pos) t := fun pins s σ H Q I hw => wpAny_Compare1 (h pins s σ H Q I hw) h1
theorem pt_cmp {op : CmpOp} {t : TE} (h : PC X op a b t) (h1 : behindInMarks op b = false := by first | exact nobehind _ (by decide) (by decide) | rfl) : PT X (.Compare a [op] [b] pos) (tB t) := by
  intro pins s σ H Q I hw
  refine wpAny_isTrue_Compare1 (thn (h pins s σ H _ I hw) fun v s1 h1 => thn h1 fun u s2 h2 => thn h2 fun c s3 ⟨x, H1, I1, r1, q1⟩ => ?_) h1
  obtain ⟨d, rfl, q⟩ := q1
  cases r1
  exact wpAny_truthy_bool ⟨H1, I1, q⟩
/-- an expression whose value is a bool, as a test -/
theorem pt_val {e : Expr} {t : TE} (h : PE X e t) (he : ∀ whole, isTrue e X.env whole = (do let v ← whole; standAt e.pos; holding [v] (truthy v)) := by intro _; rfl) : PT X e (tB t) := by
  intro pins s σ H Q I hw
  refine isTrue_plain (thn (h pins s σ H _ I hw) fun v s1 ⟨x, H1, I1, r1, q1⟩ => ?_) (he _)
  obtain ⟨d, rfl, q⟩ := q1
  cases r1
  exact wpAny_truthy_bool ⟨H1, I1, q⟩

/-! ### and, or, not -/
variable {tA tB' : TT} {rest : List Expr}
def tAnd (t u : TT) : TT := fun σ H Q => t σ H fun c H1 => if c = true then u σ H1 Q else Q false H1
def tOr (t u : TT) : TT := fun σ H Q => t σ H fun c H1 => if c = true then Q true H1 else u σ H1 Q
def tNot (t : TT) : TT := fun σ H Q => t σ H fun c H1 => Q (!c) H1
theorem pw_or1 (ha : PT X a tA) : PW X (.BoolOp .Or [a] pos) tA := by
  intro wh pins s σ H Q I h
  refine isTrue_or (thn (ha pins s σ H Q I h) fun c s1 e => ?_)
  cases c with
  | false => exact isTrue_or_nil e
  | true => exact e
theorem pt_not (ha : PT X a tA) : PT X (.UnaryOp .Not a pos) (tNot tA) := by
  intro pins s σ H Q I h
  exact isTrue_not (ha pins s σ H (fun c H1 => Q (!c) H1) I h)
/-- .. as values (bools) -/
def tAndV (ta tb : TE) : TE := fun σ H Q => ta σ H fun x H1 => ∃ c, x = .bl c ∧ if c = true then tb σ H1 Q else Q (.bl false) H1
def tOrV (ta tb : TE) : TE := fun σ H Q => ta σ H fun x H1 => ∃ c, x = .bl c ∧ if c = true then Q (.bl true) H1 else tb σ H1 Q
def tNotV (ta : TE) : TE := fun σ H Q => ta σ H fun x H1 => ∃ c, x = .bl c ∧ Q (.bl (!c)) H1
theorem pe_one {op} {t : TE} (h : PE X a t) : PE X (.BoolOp op [a] pos) t := fun pins s σ H Q I hw => BoolOp_one (h pins s σ H Q I hw)
/-- a if t else b -/
def tIf (t : TT) (ta tb : TE) : TE := fun σ H Q => t σ H fun c H1 => if c = true then ta σ H1 Q else tb σ H1 Q
end
end L2

namespace L2
open PySem PySem.Spec PyProof.Rows

/-! ### a list, a tuple that is read: tracked, frozen, or an object of the module -/
def SqL (K : PySem.W.Frag) (H : Hp) (a : Addr) (xs : List V) : Prop :=
  Rd H a (.lst xs) ∨
    ∃ (o : Obj) (its : Array Value) (n : Nat), K.lookup a = some o ∧ o.cls = .type "list" ∧ o.dict = none ∧ o.data = .seq its n ∧ its.size ≤ sizeLine ∧ Vals xs its.toList
def SqT (K : PySem.W.Frag) (H : Hp) (a : Addr) (xs : List V) : Prop :=
  Rd H a (.tup xs) ∨
    ∃ (o : Obj) (its : Array Value) (n : Nat), K.lookup a = some o ∧ o.cls = .type "tuple" ∧ o.data = .seq its n ∧ its.size ≤ sizeLine ∧ Vals xs its.toList
def absV : Value → Option V
  | .none => some .non
  | .bool b => some (.bl b)
  | .int i _ => some (.int i)
  | .str x _ => some (.str x)
  | .bytes b _ => some (.byt b)
  | .float b _ => some (.flt b)
  | .ref a => some (.ref a)
  | .type n => some (.ty n)
  | _ => none
theorem RelV.abs {x : V} {u : Value} (r : RelV x u) : absV u = some x := by
  cases x with
  | non => cases r; rfl
  | bl _ => cases r; rfl
  | int _ => obtain ⟨t, rfl⟩ := r; rfl
  | str _ => obtain ⟨t, rfl⟩ := r; rfl
  | byt _ => obtain ⟨t, rfl⟩ := r; rfl
  | flt _ => obtain ⟨t, rfl⟩ := r; rfl
  | ref _ => cases r; rfl
  | ty _ => cases r; rfl
theorem RelV.inj {x y : V} {u : Value} (r : RelV x u) (q : RelV y u) : x = y := Option.some.inj (r.abs.symm.trans q.abs)
theorem Vals.inj : ∀ {xs ys : List V} {us : List Value}, Vals xs us → Vals ys us → xs = ys
  | _, _, _, .nil, .nil => rfl
  | _, _, _, .cons r t, .cons r' t' => by rw [r.inj r', Vals.inj t t']
section
variable {X : Cx} {pins : List (Addr × Obj)} {σ : St} {H : Hp} {s : Shared} {a : Addr} {xs ys : List V}
theorem SqL.of {K : PySem.W.Frag} (h : H a = some (.lst xs)) : SqL K H a xs := .inl (.inl h)
theorem SqT.of {K : PySem.W.Frag} (h : H a = some (.tup xs)) : SqT K H a xs := .inl (.inl h)
theorem Inv.list (I : Inv X pins σ H s) (h : SqL X.K H a xs) : ∃ its : List Value, Vals xs its ∧ PlainL s.heap a its.toArray ∧ xs.length ≤ sizeLine := by
  rcases h with h | ⟨o, its, n, hk, hc, hd, hs, hz, r⟩
  · obtain ⟨z, its, n, r, e⟩ := h.ok I.hok
    exact ⟨its, r, ⟨_, n, e, rfl, rfl, rfl⟩, z⟩
  · refine ⟨its.toList, r, ⟨o, n, I.kIn a o hk, hc, hd, by simpa using hs⟩, ?_⟩
    have e := r.length
    simp only [Array.length_toList] at e
    omega
theorem Inv.tuple (I : Inv X pins σ H s) (h : SqT X.K H a xs) : ∃ its : List Value, Vals xs its ∧ IsTup s.heap a its.toArray ∧ xs.length ≤ sizeLine := by
  rcases h with h | ⟨o, its, n, hk, hc, hs, hz, r⟩
  · obtain ⟨z, its, r, p⟩ := h.ok I.hok
    exact ⟨its, r, p, z.1⟩
  · refine ⟨its.toList, r, ⟨o, I.kIn a o hk, hc, n, by simpa using hs⟩, ?_⟩
    have e := r.length
    simp only [Array.length_toList] at e
    omega
theorem Inv.list_inj (I : Inv X pins σ H s) (h : SqL X.K H a xs) (h' : SqL X.K H a ys) : xs = ys := by
  obtain ⟨its, r, ⟨o, n, e, _, _, d⟩, _⟩ := I.list h
  obtain ⟨its', r', ⟨o', n', e', _, _, d'⟩, _⟩ := I.list h'
  rw [e] at e'; cases e'
  rw [d] at d'
  injection d' with d1 _
  have : its = its' := by simpa using congrArg Array.toList d1
  subst this
  exact r.inj r'
theorem Inv.tuple_inj (I : Inv X pins σ H s) (h : SqT X.K H a xs) (h' : SqT X.K H a ys) : xs = ys := by
  obtain ⟨its, r, ⟨o, e, _, n, d⟩, _⟩ := I.tuple h
  obtain ⟨its', r', ⟨o', e', _, n', d'⟩, _⟩ := I.tuple h'
  rw [e] at e'; cases e'
  rw [d] at d'
  injection d' with d1 _
  have : its = its' := by simpa using congrArg Array.toList d1
  subst this
  exact r.inj r'
end

/-! ### another wish about exceptions -/
abbrev Cx.wish (X : Cx) (E : Value → Shared → Prop) : Cx := { X with xe := E }
/-- no exception leaves -/
abbrev Cx.nox (X : Cx) : Cx := X.wish fun _ _ => False
theorem Cx.Ok.wish {X : Cx} (ok : X.Ok) (E : Value → Shared → Prop) : (X.wish E).Ok :=
  ⟨ok.mod, ok.kind, ok.glob, ok.blt, ok.above, ok.inj, ok.has, ok.cab, ok.hd, ok.frames, ok.stk, ok.exf, ok.bs, ok.bsz, ok.noex, ok.exfs, ok.funs, ok.frf⟩
theorem Cx.Ok.unwish {X : Cx} {E : Value → Shared → Prop} (ok : (X.wish E).Ok) : X.Ok :=
  ⟨ok.mod, ok.kind, ok.glob, ok.blt, ok.above, ok.inj, ok.has, ok.cab, ok.hd, ok.frames, ok.stk, ok.exf, ok.bs, ok.bsz, ok.noex, ok.exfs, ok.funs, ok.frf⟩
section
variable {X : Cx} {pins : List (Addr × Obj)} {σ : St} {H : Hp} {s : Shared} {E : Value → Shared → Prop}
theorem Inv.wish (I : Inv X pins σ H s) (E : Value → Shared → Prop) : Inv (X.wish E) pins σ H s := ⟨I.ok.wish E, I.os, I.bare, I.base, I.loc, I.cell, I.free, I.freeC, I.pin, I.hok, I.len⟩
theorem Inv.unwish (I : Inv (X.wish E) pins σ H s) : Inv X pins σ H s := ⟨I.ok.unwish, I.os, I.bare, I.base, I.loc, I.cell, I.free, I.freeC, I.pin, I.hok, I.len⟩
theorem SP.unwish {D : Ends} {f : Flow} {s' : Shared} (h : SP (X.wish E) pins D f s') : SP X pins D f s' := by
  cases f with
  | next => obtain ⟨σ', H', I, q⟩ := h; exact ⟨σ', H', I.unwish, q⟩
  | brk => obtain ⟨σ', H', I, q⟩ := h; exact ⟨σ', H', I.unwish, q⟩
  | cont => obtain ⟨σ', H', I, q⟩ := h; exact ⟨σ', H', I.unwish, q⟩
  | ret u => obtain ⟨v, σ', H', I, r, q⟩ := h; exact ⟨v, σ', H', I.unwish, r, q⟩
theorem PE.nox {e : Expr} {t : TE} (h : PE X.nox e t) : PE X e t := fun pins s σ H Q I hw =>
  wpAny_mono (h pins s σ H Q (I.wish _) hw) (fun _ _ ⟨v, H', I', r, q⟩ => ⟨v, H', I'.unwish, r, q⟩) fun _ _ z => False.elim z
theorem PT.nox {e : Expr} {t : TT} (h : PT X.nox e t) : PT X e t := fun pins s σ H Q I hw =>
  wpAny_mono (h pins s σ H Q (I.wish _) hw) (fun _ _ ⟨H', I', q⟩ => ⟨H', I'.unwish, q⟩) fun _ _ z => False.elim z
theorem PSs.nox {st : List Stmt} {t : TS} (h : PSs X.nox st t) : PSs X st t := fun pins s σ H D I hw =>
  wpAny_mono (h pins s σ H D (I.wish _) hw) (fun _ _ q => q.unwish) fun _ _ z => False.elim z
end

/-! ### blocks and small statements -/
section
variable {X : Cx} {st : Stmt} {rest : List Stmt} {t u : TS} {e : Expr} {te : TE} {pos : Pos}
def tNext : TS := fun D σ H => D.nx σ H
def tSeq (t u : TS) : TS := fun D σ H => t { D with nx := u D } σ H
theorem pss_nil : PSs X [] tNext := fun _ _ σ H _ I h => wpAny_execs_nil ⟨σ, H, I, h⟩
theorem pss_cons (h1 : PS X st t) (h2 : PSs X rest u) : PSs X (st :: rest) (tSeq t u) := by
  intro pins s σ H D I h
  refine wpAny_execs_cons (thn (h1 pins s σ H { D with nx := u D } I h) fun f s1 q => ?_)
  cases f with
  | next =>
    obtain ⟨σ', H', I', q⟩ := q
    exact h2 pins s1 σ' H' D I' q
  | ret v => exact q
  | brk => exact q
  | cont => exact q
theorem pss_one (h1 : PS X st t) : PSs X [st] t := by
  intro pins s σ H D I h
  refine wpAny_execs_cons (thn (h1 pins s σ H D I h) fun f s1 q => ?_)
  cases f with
  | next => exact wpAny_execs_nil q
  | ret v => exact q
  | brk => exact q
  | cont => exact q
def tBreak : TS := fun D σ H => D.bk σ H
def tCont : TS := fun D σ H => D.ct σ H
/-- in a def's body nothing is shown -/
theorem Inv.quiet {pins : List (Addr × Obj)} {σ : St} {H : Hp} {s : Shared} (I : Inv X pins σ H s) : interactive X.env = false := by simp [interactive, I.ok.kind]
/-- an expression whose value is dropped -/
def tDrop (te : TE) : TS := fun D σ H => te σ H fun _ H1 => D.nx σ H1
theorem ps_expr (he : PE X e te) (hs : swapsWith e none pos.line X.env = pure false := by rfl) : PS X (.Expr e pos) (tDrop te) := by
  intro pins s σ H D I h
  exact wpAny_Expr_any (thn (he pins s σ H _ I h) fun v s1 ⟨x, H1, I1, r1, q1⟩ => ⟨σ, H1, I1, q1⟩) I.quiet hs
def tRet (te : TE) : TS := fun D σ H => te σ H D.rt
theorem ps_ret (he : PE X e te) : PS X (.Return (some e) pos) (tRet te) := by
  intro pins s σ H D I h
  exact wpAny_Return_some (thn (he pins s σ H _ I h) fun v s1 ⟨x, H1, I1, r1, q1⟩ => ⟨x, σ, H1, I1, r1, q1⟩)
def tRetN : TS := fun D _ H => D.rt .non H
def tIfS (c : TT) (t u : TS) : TS := fun D σ H => c σ H fun b H1 => if b = true then t D σ H1 else u D σ H1
theorem ps_if {c : Expr} {a b : List Stmt} {tc : TT} (hc : PT X c tc) (ha : PSs X a t) (hb : PSs X b u) : PS X (.If c a b pos) (tIfS tc t u) := by
  intro pins s σ H D I h
  refine wpAny_If (thn (hc pins s σ H _ I h) fun d s1 ⟨H1, I1, q1⟩ => ?_)
  cases d with
  | true => exact ha pins s1 σ H1 D I1 q1
  | false => exact hb pins s1 σ H1 D I1 q1
/-- code that the proof never comes to -/
def tNever : TS := fun _ _ _ => False
end

/-! ### targets -/
abbrev TG := V → St → Hp → (St → Hp → Prop) → Prop
abbrev TGs := List V → St → Hp → (St → Hp → Prop) → Prop
def PG (X : Cx) (target : Expr) (t : TG) : Prop :=
  ∀ (pins : List (Addr × Obj)) (s : Shared) (σ : St) (H : Hp) (v : V) (u : Value) (Q : St → Hp → Prop), Inv X pins σ H s → RelV v u → t v σ H Q →
    wpAny (model X.prog X.w) X.A (assign target X.env u) (fun _ s' => ∃ σ' H', Inv X pins σ' H' s' ∧ Q σ' H') X.xe s
/-- several targets, one after another -/
def PGs (X : Cx) (ts : List Expr) (t : TGs) : Prop :=
  ∀ (pins : List (Addr × Obj)) (s : Shared) (σ : St) (H : Hp) (vs : List V) (us : List Value) (Q : St → Hp → Prop), Inv X pins σ H s → Vals vs us → t vs σ H Q →
    wpAny (model X.prog X.w) X.A (assignInOrder ((assignEach ts X.env).map (·.2)) us) (fun _ s' => ∃ σ' H', Inv X pins σ' H' s' ∧ Q σ' H') X.xe s
/-- o[i] = v, by values -/
abbrev TSet := V → V → V → Hp → (Hp → Prop) → Prop
def PSet (X : Cx) (t : TSet) : Prop :=
  ∀ (pins : List (Addr × Obj)) (s : Shared) (σ : St) (H : Hp) (o i v : V) (ov iv u : Value) (Q : Hp → Prop), Inv X pins σ H s → RelV o ov → RelV i iv → RelV v u → t o i v H Q →
    wpAny (model X.prog X.w) X.A (setItem ov iv u) (fun _ s' => ∃ H', Inv X pins σ H' s' ∧ Q H') X.xe s
/-- a op= b, by values -/
abbrev TIp := V → V → Hp → VK → Prop
def PIp (X : Cx) (op : Operator) (t : TIp) : Prop :=
  ∀ (pins : List (Addr × Obj)) (s : Shared) (σ : St) (H : Hp) (x y : V) (v u : Value) (Q : VK), Inv X pins σ H s → RelV x v → RelV y u → t x y H Q →
    wpAny (model X.prog X.w) X.A (inplaceOp op v u) (EP X pins σ Q) X.xe s
section
variable {X : Cx} {pos : Pos}
def gName (i : Nat) : TG := fun v σ H Q => Q (σ.set i (some v)) H
theorem pg_name {i : Nat} {x : Str} (hN : X.N.Nodup) (hi : X.N[i]? = some x) (hx : Loc X.env.scope x) (hf : X.fn x = true ∨ X.env.scope.names.lookup x = some .local := by first | exact .inl rfl | exact .inr rfl | assumption) : PG X (.Name x pos) (gName i) := by
  intro pins s σ H v u Q I r h
  exact wpAny_assign_Name (store_ok I hN hi hx r (fun s' I' => ⟨_, H, I', h⟩) hf)
def gNil : TGs := fun vs σ H Q => vs = [] ∧ Q σ H
def gCons (t : TG) (u : TGs) : TGs := fun vs σ H Q => ∃ v r, vs = v :: r ∧ t v σ H fun σ' H' => u r σ' H' Q
theorem pgs_nil : PGs X [] gNil := by
  intro pins s σ H vs us Q I r h
  obtain ⟨e, h⟩ := h
  subst e
  cases r
  exact assignInOrder_nil ⟨σ, H, I, h⟩
theorem pgs_cons {e : Expr} {es : List Expr} {t : TG} {u : TGs} (h1 : PG X e t) (h2 : PGs X es u)
    (hs : (assignEach (e :: es) X.env).map (·.2) = assign e X.env :: (assignEach es X.env).map (·.2) := by rfl) : PGs X (e :: es) (gCons t u) := by
  intro pins s σ H vs us Q I r h
  obtain ⟨v, vr, e1, h⟩ := h
  subst e1
  cases r with
  | cons r rr =>
    rw [hs]
    refine assignInOrder_cons (thn (h1 pins s σ H _ _ _ I r h) fun _ s1 ⟨σ1, H1, I1, q1⟩ => ?_)
    exact h2 pins s1 σ1 H1 _ _ Q I1 rr q1
/-- (a, b, ..) = a tuple of that length -/
def gTup (K : PySem.W.Frag) (n : Nat) (t : TGs) : TG := fun v σ H Q => ∃ a xs, v = .ref a ∧ SqT K H a xs ∧ xs.length = n ∧ t xs σ H Q
theorem pg_tup {es : List Expr} {k : Nat} {t : TGs} {n : Nat} (hc : X.calm = true) (h : PGs X es t)
    (hn : (assignEach es X.env).length = n := by rfl) (hst : (assignEach es X.env).findIdx? (·.1) = none := by rfl) : PG X (.Tuple es k pos) (gTup X.K n t) := by
  intro pins s σ H v u Q I r hw
  obtain ⟨a, xs, e1, hq, hl, hw⟩ := hw
  subst e1
  cases r
  obtain ⟨its, rv, ht, hz⟩ := I.tuple hq
  refine assign_Tuple_tuple (I.ok.hd hc) ht (by simp [hn, ← hl, rv.length]) hst fun h' hx => ?_
  have I1 : Inv X pins σ H { s with heap := h' } := I.kept (t' := s.toks) fun b o e => hx b o (Nat.ne_of_lt (Heap.lt_size e)) e
  exact h pins _ σ H xs _ Q I1 (by simpa using rv) hw
/-- o[i] = .. -/
def gSub (to ti : TE) (t : TSet) : TG := fun v σ H Q => to σ H fun o H1 => ti σ H1 fun i H2 => t o i v H2 fun H3 => Q σ H3
/-- target = value -/
def tAsg (te : TE) (g : TG) : TS := fun D σ H => te σ H fun x H1 => g x σ H1 D.nx
theorem ps_asg {tg e : Expr} {te : TE} {g : TG} (he : PE X e te) (hg : PG X tg g) (hs : swapsWithSole [tg] e pos.line X.env = pure false := by rfl) (hw : swappedStores [tg] e X.env = pure none := by rfl)
    (h1 : (assignEach [tg] X.env).map (·.2) = [assign tg X.env] := by rfl) : PS X (.Assign [tg] e pos) (tAsg te g) := by
  intro pins s σ H D I h
  refine wpAny_Assign_stores (thn (he pins s σ H _ I h) fun v s1 ⟨x, H1, I1, r1, q1⟩ => ?_) hs hw
  rw [h1]
  exact thn (hg pins s1 σ H1 x v _ I1 r1 q1) fun _ s2 q => q
/-- name = value -/
theorem ps_set {i : Nat} {x : Str} {e : Expr} {te : TE} {pos' : Pos} (hN : X.N.Nodup) (hi : X.N[i]? = some x) (hx : Loc X.env.scope x) (he : PE X e te) (hs : swapsWith e (some (.Name x pos')) pos.line X.env = pure false := by rfl) (hf : X.fn x = true ∨ X.env.scope.names.lookup x = some .local := by first | exact .inl rfl | exact .inr rfl | assumption) :
    PS X (.Assign [.Name x pos'] e pos) (tAsg te (gName i)) := by
  intro pins s σ H D I h
  refine wpAny_Assign_Name (thn (he pins s σ H _ I h) fun v s1 ⟨y, H1, I1, r1, q1⟩ => ?_) hs
  exact store_ok I1 hN hi hx r1 (fun s2 I2 => ⟨_, H1, I2, q1⟩) hf
/-- a, b = x, y with plain local names: stored from the right; the pair itself is not tracked (the opening rows as in PyProof/Rows/TupAssign.lean:23) -/
def tPar (i j : Nat) (ta : TA) : TS := fun D σ H => ta σ H fun vs H1 => ∃ v w, vs = [v, w] ∧ D.nx ((σ.set i (some v)).set j (some w)) H1
/-- name op= e -/
def tAug (i : Nat) (te : TE) (ti : TIp) : TS := fun D σ H => ∃ x, σ[i]? = some (some x) ∧ te σ H fun y H1 => ti x y H1 fun z H2 => D.nx (σ.set i (some z)) H2
/-- o[i] op= e -/
def tAugS (to ti te : TE) (tget : V → V → Hp → VK → Prop) (tip : TIp) (tset : TSet) : TS := fun D σ H => to σ H fun o H1 => ti σ H1 fun i H2 => tget o i H2 fun x H3 => te σ H3 fun y H4 => tip x y H4 fun z H5 => tset o i z H5 fun H6 => D.nx σ H6
/-- o[i], by values -/
def PGet (X : Cx) (t : V → V → Hp → VK → Prop) : Prop :=
  ∀ (pins : List (Addr × Obj)) (s : Shared) (σ : St) (H : Hp) (o i : V) (ov iv : Value) (Q : VK), Inv X pins σ H s → RelV o ov → RelV i iv → t o i H Q →
    wpAny (model X.prog X.w) X.A (getItem ov iv) (EP X pins σ Q) X.xe s
/-- ints -/
def ipI (f : Int → Int → Int) : TIp := fun x y H Q => ∃ i j, x = .int i ∧ y = .int j ∧ Q (.int (f i j)) H
end

/-! ### while -/
section
variable {X : Cx} {pos : Pos}
/-- the invariant W with its measure -/
def tWhile (c : TT) (tb : TS) : TS := fun D σ H => ∃ W : Nat → St → Hp → Prop, (∃ m, W m σ H) ∧ ∀ m σ H, W m σ H →
  c σ H fun b H1 => if b = true then ∃ N : St → Hp → Prop, (∀ σ' H', N σ' H' → ∃ m', m' < m ∧ W m' σ' H') ∧ tb { D with nx := N, ct := N, bk := D.nx } σ H1 else D.nx σ H1
end

/-! ### what a loop or a comprehension walks -/
/-- at turn i: it yields x (the heap may grow), or it stops -/
structure It where
  go : Nat → Hp → Prop
  yld : Nat → Hp → V → Hp → Prop
  stop : Nat → Hp → Prop
/-- the iterator's own objects may turn: they are not the frame's, not pinned, younger than the entry (or a comprehension's own) -/
def FpOk (X : Cx) (pins : List (Addr × Obj)) (H : Hp) (b : Addr) : Prop :=
  H b = none ∧ b ≠ X.env.locals ∧ b ∉ X.fs ∧ (b ∈ X.ex ∨ X.s₀.heap.objs.size ≤ b) ∧ (∀ x c, X.env.cells.lookup x = some c → c ≠ b) ∧ ∀ p ∈ X.pn ++ pins, p.1 ≠ b
theorem Inv.fpOk {X : Cx} {pins : List (Addr × Obj)} {σ : St} {H H' : Hp} {s : Shared} {b : Addr} (I : Inv X pins σ H s) (hb : s.heap.objs.size ≤ b) (hn : H' b = none) : FpOk X pins H' b := by
  refine ⟨hn, Nat.ne_of_gt (Nat.lt_of_lt_of_le I.lt hb), I.nofs hb, .inr (Nat.le_trans I.sz hb), fun x c e z => ?_, fun p hp z => ?_⟩
  · obtain ⟨v, q⟩ := I.cell x c e
    exact absurd (Nat.lt_of_lt_of_le q.lt (by rw [z]; exact hb)) (Nat.lt_irrefl _)
  · exact absurd (Nat.lt_of_lt_of_le (Heap.lt_size (I.pin p hp).1) (by rw [z]; exact hb)) (Nat.lt_irrefl _)
structure Turn (P : Program) (w : World) (K : PySem.W.Frag) (tg : Expr) (J : It) (fp : List Addr) (it : Addr) (tn : Nat → Heap → Prop) : Prop where
  mem : it ∈ fp
  obj : ∀ i h, tn i h → ∀ b ∈ fp, ∃ o, h.get? b = some o ∧ ∀ v, o.data ≠ .cell v
  keep : ∀ i h h', tn i h → (∀ b ∈ fp, ∀ o, h.get? b = some o → h'.get? b = some o) → tn i h'
  item : ∀ (X : Cx), X.prog = P → X.w = w → X.K = K → X.calm = true → ∀ (i : Nat) (pins : List (Addr × Obj)) (s : Shared) (σ : St) (H : Hp) (E : Value → Shared → Prop), Inv X pins σ H s → (∀ b ∈ fp, FpOk X pins H b) → tn i s.heap → J.go i H →
    wpAny (model P w) X.A (pyNext (.ref it)) (fun r s1 => ∃ u, r = some u ∧
      wpAny (model P w) X.A (letOwnedTupleGo tg (.ref it) u) (fun _ s2 => ∃ x H', Inv X pins σ H' s2 ∧ RelV x u ∧ J.yld i H x H' ∧ tn (i + 1) s2.heap ∧ ∀ b ∈ fp, H' b = none) E s1) E s
  done : ∀ (X : Cx), X.prog = P → X.w = w → X.K = K → X.calm = true → ∀ (i : Nat) (pins : List (Addr × Obj)) (s : Shared) (σ : St) (H : Hp) (E : Value → Shared → Prop), Inv X pins σ H s → (∀ b ∈ fp, FpOk X pins H b) → tn i s.heap → J.stop i H →
    wpAny (model P w) X.A (pyNext (.ref it)) (fun r s1 => r = none ∧ Inv X pins σ H s1) E s
  self : ∀ (A : Around) (i : Nat) (s : Shared) (Q : Value → Shared → Prop) (E : Value → Shared → Prop), tn i s.heap → Q (.ref it) s → wpAny (model P w) A (pyIter (.ref it)) Q E s
abbrev TI := St → Hp → (It → Hp → Prop) → Prop
/-- an iterator has come -/
def PIE (X : Cx) (pins : List (Addr × Obj)) (σ : St) (tg : Expr) (R : It → Hp → Prop) (itv : Value) (s2 : Shared) : Prop :=
  ∃ (it : Addr) (fp : List Addr) (tn : Nat → Heap → Prop) (J : It) (H' : Hp), itv = .ref it ∧ Inv X pins σ H' s2 ∧ Turn X.prog X.w X.K tg J fp it tn ∧ tn 0 s2.heap ∧ (∀ b ∈ fp, FpOk X pins H' b) ∧ R J H'
def PI (X : Cx) (tg iter : Expr) (wi : TI) : Prop :=
  ∀ (pins : List (Addr × Obj)) (s : Shared) (σ : St) (H : Hp) (R : It → Hp → Prop), Inv X pins σ H s → wi σ H R →
    wpAny (model X.prog X.w) X.A (eval iter X.env) (fun v s1 => wpAny (model X.prog X.w) X.A (pyIter v) (PIE X pins σ tg R) X.xe s1) X.xe s

/-- the step ahead of the store is nothing for an iterator that keeps no tuple -/
theorem go_of {M : Model} {A : Around} {E : Value → Shared → Prop} {s : Shared} {tg : Expr} {it : Addr} {u : Value} {o : Obj} {n : String} {vs : Array Value} {Q : Unit → Shared → Prop} (ho : s.heap.get? it = some o) (hc : o.cls = .type n) (hd : o.data = .fields vs)
    (hn : ["enumerate", "zip", "dict_itemiterator", "dict_reverseitemiterator", "odict_iterator", "itertools.zip_longest", "itertools.pairwise"].contains n = false) (hQ : Q () s) : wpAny M A (letOwnedTupleGo tg (.ref it) u) Q E s := by
  unfold letOwnedTupleGo
  cases tg <;> first
    | exact wpAny_pure hQ
    | (cases u <;> first
        | exact wpAny_pure hQ
        | (refine wpAny_bind (wpAny_load ho ?_)
           rw [hc, hd]
           show wpAny M A (if (["enumerate", "zip", "dict_itemiterator", "dict_reverseitemiterator", "odict_iterator", "itertools.zip_longest", "itertools.pairwise"].contains n && vs[0]? == some (rawInt _)) = true then _ else _) Q E s
           rw [if_neg (by intro h; rw [hn, Bool.false_and] at h; cases h)]
           exact wpAny_pure hQ))

/-- the list at a, as it stands at each turn (a loop may append to it) -/
def Itl (K : PySem.W.Frag) (a : Addr) : It :=
  ⟨fun i H => ∃ xs x, SqL K H a xs ∧ xs[i]? = some x, fun i H x H' => H' = H ∧ ∀ xs, SqL K H a xs → xs[i]? = some x, fun i H => ∃ xs, SqL K H a xs ∧ xs.length ≤ i⟩
def Itt (K : PySem.W.Frag) (a : Addr) : It :=
  ⟨fun i H => ∃ xs x, SqT K H a xs ∧ xs[i]? = some x, fun i H x H' => H' = H ∧ ∀ xs, SqT K H a xs → xs[i]? = some x, fun i H => ∃ xs, SqT K H a xs ∧ xs.length ≤ i⟩
/-- lo, lo + 1, .. (n of them) -/
def Itr (lo : Int) (n : Nat) : It := ⟨fun i _ => i < n, fun i H x H' => H' = H ∧ x = .int (lo + i), fun i _ => n ≤ i⟩
theorem turn_list {P : Program} {w : World} {K : PySem.W.Frag} {tg : Expr} (a it : Addr) : Turn P w K tg (Itl K a) [it] it (fun i h => h.IsListIter it a i) where
  mem := by simp
  obj := fun i h st b hb => by
    have e : b = it := by simpa using hb
    subst e
    obtain ⟨o, e, c, d⟩ := st
    exact ⟨o, e, fun v z => by rw [d] at z; cases z⟩
  keep := fun i h h' st k => st.at fun o e => k it (by simp) o e
  item := by
    intro X hP hw hK hc i pins s σ H E I hf st hg
    subst hP hw hK
    obtain ⟨xs, x, hq, hx⟩ := hg
    obtain ⟨its, rv, p, hz⟩ := I.list hq
    obtain ⟨u, hu, ru⟩ := rv.get hx
    obtain ⟨f0, f1, f2, f3, f4, f5⟩ := hf it (by simp)
    refine wpAny_pyNext_list_item st p.isList (x := u) (by simpa using hu) fun h' st' sb => ?_
    have I1 : Inv X pins σ H { s with heap := h' } := I.turned (t' := s.toks) (fun b o hb e => (sb.2 b hb).trans e) f0 f1 f3 f4 f5
    obtain ⟨o, e, c, d⟩ := id st'
    exact ⟨u, rfl, go_of (s := { s with heap := h' }) e c d (by decide) ⟨x, H, I1, ru, ⟨rfl, fun ys hy => by rw [I.list_inj hy hq]; exact hx⟩, st', fun b hb => (hf b hb).1⟩⟩
  done := by
    intro X hP hw hK hc i pins s σ H E I hf st hg
    subst hP hw hK
    obtain ⟨xs, hq, hx⟩ := hg
    obtain ⟨its, rv, p, hz⟩ := I.list hq
    obtain ⟨f0, f1, f2, f3, f4, f5⟩ := hf it (by simp)
    have hl := rv.length
    exact wpAny_pyNext_list_end (I.ok.hd hc) st p.isList (by simp; omega) fun h' eb => ⟨rfl, I.turned (t' := s.toks) (fun b o hb e => eb b o hb e) f0 f1 f3 f4 f5⟩
  self := fun _ _ _ _ _ st h => wpAny_pyIter_listiter st h
theorem turn_tuple {P : Program} {w : World} {K : PySem.W.Frag} {tg : Expr} (a it : Addr) : Turn P w K tg (Itt K a) [it] it (fun i h => h.IsTupleIter it a i) where
  mem := by simp
  obj := fun i h st b hb => by
    have e : b = it := by simpa using hb
    subst e
    obtain ⟨o, e, c, d⟩ := st
    exact ⟨o, e, fun v z => by rw [d] at z; cases z⟩
  keep := fun i h h' st k => st.at fun o e => k it (by simp) o e
  item := by
    intro X hP hw hK hc i pins s σ H E I hf st hg
    subst hP hw hK
    obtain ⟨xs, x, hq, hx⟩ := hg
    obtain ⟨its, rv, p, hz⟩ := I.tuple hq
    obtain ⟨u, hu, ru⟩ := rv.get hx
    obtain ⟨f0, f1, f2, f3, f4, f5⟩ := hf it (by simp)
    refine wpAny_pyNext_tuple_item st (show s.heap.IsTuple a its.toArray from p) (x := u) (by simpa using hu) fun h' st' sb => ?_
    have I1 : Inv X pins σ H { s with heap := h' } := I.turned (t' := s.toks) (fun b o hb e => (sb.2 b hb).trans e) f0 f1 f3 f4 f5
    obtain ⟨o, e, c, d⟩ := id st'
    exact ⟨u, rfl, go_of (s := { s with heap := h' }) e c d (by decide) ⟨x, H, I1, ru, ⟨rfl, fun ys hy => by rw [I.tuple_inj hy hq]; exact hx⟩, st', fun b hb => (hf b hb).1⟩⟩
  done := by
    intro X hP hw hK hc i pins s σ H E I hf st hg
    subst hP hw hK
    obtain ⟨xs, hq, hx⟩ := hg
    obtain ⟨its, rv, p, hz⟩ := I.tuple hq
    obtain ⟨f0, f1, f2, f3, f4, f5⟩ := hf it (by simp)
    have hl := rv.length
    exact wpAny_pyNext_tuple_end (I.ok.hd hc) st (show s.heap.IsTuple a its.toArray from p) (by simp; omega) fun h' eb => ⟨rfl, I.turned (t' := s.toks) (fun b o hb e => eb b o hb e) f0 f1 f3 f4 f5⟩
  self := fun _ _ _ _ _ st h => wpAny_pyIter_tupleiter st h
theorem turn_range {P : Program} {w : World} {K : PySem.W.Frag} {tg : Expr} (it : Addr) (lo : Int) (n : Nat) : Turn P w K tg (Itr lo n) [it] it (fun i h => IsRangeIter h it (lo + (i : Nat) * 1) ((n : Int) - (i : Nat)) 1) where
  mem := by simp
  obj := fun i h st b hb => by
    have e : b = it := by simpa using hb
    subst e
    exact ⟨_, st, fun v z => by
      have z' : Data.fields _ = Data.cell v := z
      cases z'⟩
  keep := fun i h h' st k => k it (by simp) _ st
  item := by
    intro X hP hw hK hc i pins s σ H E I hf st hg
    subst hP hw hK
    obtain ⟨f0, f1, f2, f3, f4, f5⟩ := hf it (by simp)
    have W := Walks.range (prog := X.prog) (w := X.w) (I.ok.hd hc) it lo 1 n
    refine W.item i s _ _ hg st fun v h' tk hv st' kk => ?_
    obtain ⟨t, rfl⟩ := hv
    have I1 : Inv X pins σ H { s with heap := h', toks := tk } := I.turned (fun b o hb e => kk b o (by simpa using hb) e) f0 f1 f3 f4 f5
    refine ⟨_, rfl, go_of (s := { s with heap := h', toks := tk }) (n := "range_iterator") st' rfl rfl (by decide) ⟨.int (lo + i), H, I1, ⟨t, ?_⟩, ⟨rfl, rfl⟩, st', fun b hb => (hf b hb).1⟩⟩
    rw [Int.mul_one]
  done := by
    intro X hP hw hK hc i pins s σ H E I hf st hg
    subst hP hw hK
    obtain ⟨f0, f1, f2, f3, f4, f5⟩ := hf it (by simp)
    exact wpAny_pyNext_range_end (I.ok.hd hc) st (by have : n ≤ i := hg; omega) fun h' eb => ⟨rfl, I.turned (t' := s.toks) (fun b o hb e => eb b o hb e) f0 f1 f3 f4 f5⟩
  self := fun _ _ _ _ _ st h => wpAny_pyIter_rangeiter st h
end L2

namespace L2
open PySem PySem.Spec PyProof.Rows
section
variable {X : Cx} {tg : Expr}
def iList (K : PySem.W.Frag) (tl : TE) : TI := fun σ H R => tl σ H fun x H1 => ∃ a, x = .ref a ∧ (∃ xs, SqL K H1 a xs) ∧ R (Itl K a) H1
def iTup (K : PySem.W.Frag) (tl : TE) : TI := fun σ H R => tl σ H fun x H1 => ∃ a, x = .ref a ∧ (∃ xs, SqT K H1 a xs) ∧ R (Itt K a) H1
/-- a range object just made, walked -/
theorem range_it {pins : List (Addr × Obj)} {σ : St} {H : Hp} {s : Shared} {R : It → Hp → Prop} {E : Value → Shared → Prop} {lo hi : Int} {t u v : Tok} {tk : Nat} (I : Inv X pins σ H s) (h1 : -(2 ^ 62) ≤ lo) (h2 : lo < 2 ^ 62) (h3 : -(2 ^ 62) ≤ hi) (h4 : hi < 2 ^ 62)
    (q : R (Itr lo (hi - lo).toNat) H) : wpAny (model X.prog X.w) X.A (pyIter (.ref s.heap.objs.size)) (PIE X pins σ tg R) E { s with heap := s.heap.push { cls := .type "range", data := .fields #[.int lo t, .int hi u, .int 1 v] }, toks := tk } := by
  refine wpAny_pyIter_range (IsRange.new ..) (small_one h1 h2 h3 h4) ?_
  have I1 : Inv X pins σ H { s with heap := s.heap.push { cls := .type "range", data := .fields #[.int lo t, .int hi u, .int 1 v] }, toks := tk } := I.kept fun b o e => Heap.get?_push_of_some _ e
  refine ⟨(s.heap.push { cls := .type "range", data := .fields #[.int lo t, .int hi u, .int 1 v] }).objs.size, [(s.heap.push { cls := .type "range", data := .fields #[.int lo t, .int hi u, .int 1 v] }).objs.size], _, _, H, rfl,
    I1.kept (t' := tk) fun b o e => Heap.get?_push_of_some _ e, turn_range _ lo (hi - lo).toNat, ?_, fun b hb => ?_, q⟩
  · have e1 : lo + ((0 : Nat) : Int) * 1 = lo := by simp
    have e2 : (((hi - lo).toNat : Nat) : Int) - ((0 : Nat) : Int) = Builtin.Range.rangeSize lo hi 1 := by rw [rangeSize_one]; split <;> omega
    show IsRangeIter _ _ (lo + ((0 : Nat) : Int) * 1) ((((hi - lo).toNat : Nat) : Int) - ((0 : Nat) : Int)) 1
    rw [e1, e2]
    exact Heap.get?_push_size _ rfl
  · have e : b = (s.heap.push { cls := .type "range", data := .fields #[.int lo t, .int hi u, .int 1 v] }).objs.size := by simpa using hb
    subst e
    exact I1.fpOk (Nat.le_refl _) (I1.hok.fresh (Nat.le_refl _))
def iRng1 (ta : TA) : TI := fun σ H R => ta σ H fun vs H1 => ∃ j : Int, vs = [.int j] ∧ -(2 ^ 62) ≤ j ∧ j < 2 ^ 62 ∧ R (Itr 0 j.toNat) H1
def iRng2 (ta : TA) : TI := fun σ H R => ta σ H fun vs H1 => ∃ i j : Int, vs = [.int i, .int j] ∧ (-(2 ^ 62) ≤ i ∧ i < 2 ^ 62 ∧ -(2 ^ 62) ≤ j ∧ j < 2 ^ 62) ∧ R (Itr i (j - i).toNat) H1
theorem pi_range1 {a : Expr} {ta : TA} {p pos : Pos} (hg : Gl X "range") (hm : X.mg "range" = none) (ha : PA X [a] ta) (hs : starEach [a] X.env = [(false, eval a X.env)] := by rfl) : PI X tg (.Call (.Name "range" p) [a] [] pos) (iRng1 ta) := by
  intro pins s σ H R I h
  refine Call_ (ld_blt I hg hm boot_range (PyProof.Rows.callWith_type1 (thn (ha pos pins s σ H _ I h) fun us s1 ⟨vs, H1, I1, r1, q1⟩ => ?_) hs rfl))
  obtain ⟨j, e, q1, q2, q⟩ := q1
  subst e
  cases r1 with
  | cons r rr =>
    cases rr
    obtain ⟨t, rfl⟩ := r
    exact call_range_1 (range_it I1 (by omega) (by omega) q1 q2 (by simpa using q))
/-! ### for -/
/-- W: the invariant by the turn and a measure; N: what the body is to reach -/
def tFor (wi : TI) (g : TG) (tb : TS) : TS := fun D σ H => wi σ H fun J H1 => ∃ W : Nat → Nat → St → Hp → Prop, (∃ m, W 0 m σ H1) ∧ ∀ i m σ H, W i m σ H →
  (J.stop i H ∧ D.nx σ H) ∨ (J.go i H ∧ ∃ N : St → Hp → Prop, (∀ σ' H', N σ' H' → ∃ m', m' < m ∧ W (i + 1) m' σ' H') ∧ ∀ x H', J.yld i H x H' → g x σ H' fun σ2 H2 => tb { D with nx := N, ct := N, bk := D.nx } σ2 H2)
/-- the records at fp as they stand -/
def pinsAt (fp : List Addr) (h : Heap) : List (Addr × Obj) := fp.filterMap fun b => (h.get? b).map fun o => (b, o)
theorem mem_pinsAt {fp : List Addr} {h : Heap} {b : Addr} {o : Obj} (hb : b ∈ fp) (e : h.get? b = some o) : (b, o) ∈ pinsAt fp h := List.mem_filterMap.mpr ⟨b, hb, by rw [e]; rfl⟩
theorem of_pinsAt {fp : List Addr} {h : Heap} {p : Addr × Obj} (hp : p ∈ pinsAt fp h) : p.1 ∈ fp ∧ h.get? p.1 = some p.2 := by
  obtain ⟨b, hb, e⟩ := List.mem_filterMap.mp hp
  cases q : h.get? b with
  | none => rw [q] at e; cases e
  | some o =>
    rw [q] at e
    have e' : (b, o) = p := Option.some.inj e
    subst e'
    exact ⟨hb, q⟩
theorem Inv.pinned {pins : List (Addr × Obj)} {σ : St} {H : Hp} {s : Shared} {fp : List Addr} (I : Inv X pins σ H s) (hf : ∀ b ∈ fp, FpOk X pins H b) (ho : ∀ b ∈ fp, ∃ o, s.heap.get? b = some o ∧ ∀ v, o.data ≠ .cell v) : Inv X (pins ++ pinsAt fp s.heap) σ H s :=
  I.pins_of fun p hp => (List.mem_append.mp hp).elim (fun z => I.pin p (List.mem_append_right _ z)) fun z => by
    obtain ⟨hb, e⟩ := of_pinsAt z
    obtain ⟨f0, f1, f2, _⟩ := hf p.1 hb
    obtain ⟨o, e', d⟩ := ho p.1 hb
    rw [e] at e'; cases e'
    exact ⟨e, f0, f1, f2, d⟩
theorem Inv.unpinned {pins pl : List (Addr × Obj)} {σ : St} {H : Hp} {s : Shared} (I : Inv X (pins ++ pl) σ H s) : Inv X pins σ H s := I.pins_of fun p hp => I.pin p (List.mem_append_right _ (List.mem_append_left _ hp))
theorem ps_for {iter : Expr} {body : List Stmt} {wi : TI} {g : TG} {tb : TS} {pos : Pos} (hp : PassesOwn (model X.prog X.w) X.A X.env X.xe) (hc : X.calm = true) (hi : PI X tg iter wi) (hg : PG X tg g) (hb : PSs X body tb)
    (hs : ∀ x, foldedSetIterable iter X.env x = pure x := by intro _; rfl) : PS X (.For tg iter body [] pos) (tFor wi g tb) := by
  intro pins s σ H D I h
  refine wpAny_For (thn (hi pins s σ H _ I h) fun v s1 h1 => thn h1 fun itv s2 h2 => ?_) hs
  obtain ⟨it, fp, tn, J, H2, e, I2, T, st2, f2, W, ⟨m0, w0⟩, turn⟩ := h2
  subst e
  -- what stays true of the iterator's objects through the loop
  have stat : ∀ {H' : Hp}, (∀ b ∈ fp, H' b = none) → ∀ b ∈ fp, FpOk X pins H' b := fun hn b hb => ⟨hn b hb, (f2 b hb).2⟩
  refine codeAny_forLoop_any (fun n s' => ∃ i σ' H', Inv X pins σ' H' s' ∧ tn i s'.heap ∧ (∀ b ∈ fp, H' b = none) ∧ W i n σ' H') ?_ m0 ⟨0, σ, H2, I2, st2, fun b hb => (f2 b hb).1, w0⟩
  rintro n s3 ⟨i, σ3, H3, I3, st3, fr3, w3⟩
  rcases turn i n σ3 H3 w3 with ⟨stop, qn⟩ | ⟨go, N, hN, step⟩
  · refine wpAny_passesOwn hp (thn (T.done X rfl rfl rfl hc i pins s3 σ3 H3 X.xe I3 (stat fr3) st3 stop) fun r s4 ⟨hr, I4⟩ => ?_)
    subst hr
    exact wpAny_execs_nil ⟨σ3, H3, I4, qn⟩
  · refine wpAny_passesOwn hp (thn (T.item X rfl rfl rfl hc i pins s3 σ3 H3 X.xe I3 (stat fr3) st3 go) fun r s4 ⟨u, hr, h4⟩ => ?_)
    subst hr
    refine wpAny_passesOwn hp (thn h4 fun _ s5 ⟨x, H5, I5, r5, y5, st5, fr5⟩ => ?_)
    have I5' := I5.pinned (stat fr5) (T.obj _ _ st5)
    refine wpAny_passesOwn hp (thn (hg _ s5 σ3 H5 x u _ I5' r5 (step x H5 y5)) fun _ s6 ⟨σ6, H6, I6, q6⟩ => ?_)
    refine wpAny_passesOwn hp (thn (hb _ s6 σ6 H6 _ I6 q6) fun f s7 q7 => ?_)
    have again : ∀ {σ7 : St} {H7 : Hp}, Inv X (pins ++ pinsAt fp s5.heap) σ7 H7 s7 → N σ7 H7 → ∃ m, m < n ∧ ∃ i σ' H', Inv X pins σ' H' s7 ∧ tn i s7.heap ∧ (∀ b ∈ fp, H' b = none) ∧ W i m σ' H' := fun {σ7 H7} I7 n7 => by
      obtain ⟨m', hm, w7⟩ := hN σ7 H7 n7
      refine ⟨m', hm, i + 1, σ7, H7, I7.unpinned, T.keep _ _ _ st5 fun b hb o e => (I7.pin (b, o) (List.mem_append_right _ (List.mem_append_right _ (mem_pinsAt hb e)))).1, fun b hb => ?_, w7⟩
      obtain ⟨o, e, d⟩ := T.obj _ _ st5 b hb
      exact (I7.pin (b, o) (List.mem_append_right _ (List.mem_append_right _ (mem_pinsAt hb e)))).2.1
    cases f with
    | next => obtain ⟨σ7, H7, I7, n7⟩ := q7; exact again I7 n7
    | cont => obtain ⟨σ7, H7, I7, n7⟩ := q7; exact again I7 n7
    | brk => obtain ⟨σ7, H7, I7, q7⟩ := q7; exact ⟨σ7, H7, I7.unpinned, q7⟩
    | ret v => obtain ⟨x7, σ7, H7, I7, r7, q7⟩ := q7; exact ⟨x7, σ7, H7, I7.unpinned, r7, q7⟩
end

/-! ### the forms one uses -/
/-- over a list that the body leaves as it is -/
theorem for_list {K : PySem.W.Frag} {a : Addr} {xs : List V} {g : TG} {tb : TS} {D : Ends} {σ : St} {H : Hp} (Pv : Nat → St → Hp → Prop) (h0 : Pv 0 σ H) (hl : ∀ i σ H, i ≤ xs.length → Pv i σ H → SqL K H a xs)
    (hs : ∀ i x σ H, xs[i]? = some x → Pv i σ H → g x σ H fun σ2 H2 => tb { D with nx := Pv (i + 1), ct := Pv (i + 1), bk := D.nx } σ2 H2) (hd : ∀ σ H, Pv xs.length σ H → D.nx σ H) :
    ∃ W : Nat → Nat → St → Hp → Prop, (∃ m, W 0 m σ H) ∧ ∀ i m σ H, W i m σ H →
      ((Itl K a).stop i H ∧ D.nx σ H) ∨ ((Itl K a).go i H ∧ ∃ N : St → Hp → Prop, (∀ σ' H', N σ' H' → ∃ m', m' < m ∧ W (i + 1) m' σ' H') ∧ ∀ x H', (Itl K a).yld i H x H' → g x σ H' fun σ2 H2 => tb { D with nx := N, ct := N, bk := D.nx } σ2 H2) := by
  refine ⟨fun i m σ H => m = xs.length - i ∧ i ≤ xs.length ∧ Pv i σ H, ⟨xs.length, by simp, Nat.zero_le _, h0⟩, ?_⟩
  rintro i m σ H ⟨rfl, hi, p⟩
  have q := hl i σ H hi p
  by_cases hlt : i < xs.length
  · refine .inr ⟨⟨xs, xs[i], q, by simp [hlt]⟩, Pv (i + 1), fun σ' H' p' => ⟨xs.length - (i + 1), by omega, rfl, hlt, p'⟩, fun x H' y => ?_⟩
    obtain ⟨e, y⟩ := y
    subst e
    exact hs i x σ _ (y xs q) p
  · have e : i = xs.length := by omega
    subst e
    exact .inl ⟨⟨xs, q, Nat.le_refl _⟩, hd σ H p⟩
theorem for_tup {K : PySem.W.Frag} {a : Addr} {xs : List V} {g : TG} {tb : TS} {D : Ends} {σ : St} {H : Hp} (Pv : Nat → St → Hp → Prop) (h0 : Pv 0 σ H) (hl : ∀ i σ H, i ≤ xs.length → Pv i σ H → SqT K H a xs)
    (hs : ∀ i x σ H, xs[i]? = some x → Pv i σ H → g x σ H fun σ2 H2 => tb { D with nx := Pv (i + 1), ct := Pv (i + 1), bk := D.nx } σ2 H2) (hd : ∀ σ H, Pv xs.length σ H → D.nx σ H) :
    ∃ W : Nat → Nat → St → Hp → Prop, (∃ m, W 0 m σ H) ∧ ∀ i m σ H, W i m σ H →
      ((Itt K a).stop i H ∧ D.nx σ H) ∨ ((Itt K a).go i H ∧ ∃ N : St → Hp → Prop, (∀ σ' H', N σ' H' → ∃ m', m' < m ∧ W (i + 1) m' σ' H') ∧ ∀ x H', (Itt K a).yld i H x H' → g x σ H' fun σ2 H2 => tb { D with nx := N, ct := N, bk := D.nx } σ2 H2) := by
  refine ⟨fun i m σ H => m = xs.length - i ∧ i ≤ xs.length ∧ Pv i σ H, ⟨xs.length, by simp, Nat.zero_le _, h0⟩, ?_⟩
  rintro i m σ H ⟨rfl, hi, p⟩
  have q := hl i σ H hi p
  by_cases hlt : i < xs.length
  · refine .inr ⟨⟨xs, xs[i], q, by simp [hlt]⟩, Pv (i + 1), fun σ' H' p' => ⟨xs.length - (i + 1), by omega, rfl, hlt, p'⟩, fun x H' y => ?_⟩
    obtain ⟨e, y⟩ := y
    subst e
    exact hs i x σ _ (y xs q) p
  · have e : i = xs.length := by omega
    subst e
    exact .inl ⟨⟨xs, q, Nat.le_refl _⟩, hd σ H p⟩
theorem for_range {lo : Int} {n : Nat} {g : TG} {tb : TS} {D : Ends} {σ : St} {H : Hp} (Pv : Nat → St → Hp → Prop) (h0 : Pv 0 σ H)
    (hs : ∀ i σ H, i < n → Pv i σ H → g (.int (lo + i)) σ H fun σ2 H2 => tb { D with nx := Pv (i + 1), ct := Pv (i + 1), bk := D.nx } σ2 H2) (hd : ∀ σ H, Pv n σ H → D.nx σ H) :
    ∃ W : Nat → Nat → St → Hp → Prop, (∃ m, W 0 m σ H) ∧ ∀ i m σ H, W i m σ H →
      ((Itr lo n).stop i H ∧ D.nx σ H) ∨ ((Itr lo n).go i H ∧ ∃ N : St → Hp → Prop, (∀ σ' H', N σ' H' → ∃ m', m' < m ∧ W (i + 1) m' σ' H') ∧ ∀ x H', (Itr lo n).yld i H x H' → g x σ H' fun σ2 H2 => tb { D with nx := N, ct := N, bk := D.nx } σ2 H2) := by
  refine ⟨fun i m σ H => m = n - i ∧ i ≤ n ∧ Pv i σ H, ⟨n, by simp, Nat.zero_le _, h0⟩, ?_⟩
  rintro i m σ H ⟨rfl, hi, p⟩
  by_cases hlt : i < n
  · refine .inr ⟨hlt, Pv (i + 1), fun σ' H' p' => ⟨n - (i + 1), by omega, rfl, hlt, p'⟩, fun x H' y => ?_⟩
    obtain ⟨e, y⟩ := y
    subst e y
    exact hs i σ _ hlt p
  · have e : i = n := by omega
    subst e
    exact .inl ⟨Nat.le_refl _, hd σ H p⟩
end L2

namespace L2
open PySem PySem.Spec PyProof.Rows

abbrev R2 := V → V → Hp → VK → Prop
/-- a two-place operation on values: f is binaryOp op, inplaceOp op or compareOp op -/
def OpR (X : Cx) (f : Value → Value → Sem Value) (r : R2) : Prop :=
  ∀ (pins : List (Addr × Obj)) (s : Shared) (σ : St) (H : Hp) (x y : V) (v u : Value) (Q : VK), Inv X pins σ H s → RelV x v → RelV y u → r x y H Q →
    wpAny (model X.prog X.w) X.A (f v u) (EP X pins σ Q) X.xe s
/-- a one-place operation -/
def UnR (X : Cx) (f : Value → Sem Value) (r : V → Hp → VK → Prop) : Prop :=
  ∀ (pins : List (Addr × Obj)) (s : Shared) (σ : St) (H : Hp) (x : V) (v : Value) (Q : VK), Inv X pins σ H s → RelV x v → r x H Q →
    wpAny (model X.prog X.w) X.A (f v) (EP X pins σ Q) X.xe s
/-- a call of a value that is known (a builtin, a type) with values -/
def CallR (X : Cx) (f : Value) (r : List V → Hp → VK → Prop) : Prop :=
  ∀ (pins : List (Addr × Obj)) (s : Shared) (σ : St) (H : Hp) (xs : List V) (us : List Value) (Q : VK), Inv X pins σ H s → Vals xs us → r xs H Q →
    wpAny (model X.prog X.w) X.A (call f us) (EP X pins σ Q) X.xe s
/-- a value's truth -/
def TruR (X : Cx) (r : V → Hp → (Bool → Hp → Prop) → Prop) : Prop :=
  ∀ (pins : List (Addr × Obj)) (s : Shared) (σ : St) (H : Hp) (x : V) (v : Value) (Q : Bool → Hp → Prop), Inv X pins σ H s → RelV x v → r x H Q →
    wpAny (model X.prog X.w) X.A (truthy v) (TP X pins σ Q) X.xe s

def tOp (r : R2) (ta tb : TE) : TE := fun σ H Q => ta σ H fun x H1 => tb σ H1 fun y H2 => r x y H2 Q
def tUn (r : V → Hp → VK → Prop) (ta : TE) : TE := fun σ H Q => ta σ H fun x H1 => r x H1 Q
/-- ints in, under C, and a value out -/
def rI (C : Int → Int → Prop) (g : Int → Int → V) : R2 := fun x y H Q => ∃ i j, x = .int i ∧ y = .int j ∧ C i j ∧ Q (g i j) H
def rI0 (g : Int → Int → V) : R2 := fun x y H Q => ∃ i j, x = .int i ∧ y = .int j ∧ Q (g i j) H
def rU (g : Int → V) : V → Hp → VK → Prop := fun x H Q => ∃ i, x = .int i ∧ Q (g i) H

section
variable {X : Cx} {a b c : Expr} {ta tb tc : TE} {pos : Pos}

theorem binT (ha : PE X a ta) (hb : PE X b tb) {pins : List (Addr × Obj)} {s : Shared} {σ : St} {H : Hp} {R : V → V → Hp → Prop} (I : Inv X pins σ H s)
    (h : ta σ H fun x H1 => tb σ H1 fun y H2 => R x y H2) {Q : Value → Shared → Prop} {f : Value → Value → Sem Value}
    (hf : ∀ v u s2 x y H2, Inv X pins σ H2 s2 → RelV x v → RelV y u → R x y H2 → wpAny (model X.prog X.w) X.A (f v u) Q X.xe s2) :
    wpAny (model X.prog X.w) X.A (eval a X.env) (fun v s₁ => wpAny (model X.prog X.w) X.A (eval b X.env) (fun u s₂ => wpAny (model X.prog X.w) X.A (f v u) Q X.xe s₂) X.xe s₁) X.xe s := by
  refine thn (ha pins s σ H _ I h) fun v s1 ⟨x, H1, I1, r1, q1⟩ => ?_
  refine thn (hb pins s1 σ H1 _ I1 q1) fun u s2 ⟨y, H2, I2, r2, q2⟩ => ?_
  exact hf v u s2 x y H2 I2 r1 r2 q2

theorem pe_op {op : Operator} {r : R2} (ho : OpR X (binaryOp op) r) (ha : PE X a ta) (hb : PE X b tb) : PE X (.BinOp a op b pos) (tOp r ta tb) := by
  intro pins s σ H Q I h
  exact wpAny_BinOp (binT ha hb I h fun v u s2 x y H2 I2 rx ry q => ho pins s2 σ H2 x y v u Q I2 rx ry q)
/-! ### ints -/
theorem opI {f : Value → Value → Sem Value} {C : Int → Int → Prop} {g : Int → Int → Int}
    (rule : ∀ (i j : Int) (t u : Tok) (s : Shared) (Q : Value → Shared → Prop) (E : Value → Shared → Prop), C i j → Q (.int (g i j) s.toks) { s with toks := s.toks + 1 } → wpAny (model X.prog X.w) X.A (f (.int i t) (.int j u)) Q E s) :
    OpR X f (rI C fun i j => .int (g i j)) := by
  intro pins s σ H x y v u Q I rx ry h
  obtain ⟨i, j, rfl, rfl, hc, q⟩ := h
  obtain ⟨t, rfl⟩ := rx
  obtain ⟨t', rfl⟩ := ry
  exact rule i j t t' s _ _ hc ⟨.int (g i j), H, I.tok _, ⟨_, rfl⟩, q⟩
theorem opI0 {f : Value → Value → Sem Value} {g : Int → Int → Int}
    (rule : ∀ (i j : Int) (t u : Tok) (s : Shared) (Q : Value → Shared → Prop) (E : Value → Shared → Prop), Q (.int (g i j) s.toks) { s with toks := s.toks + 1 } → wpAny (model X.prog X.w) X.A (f (.int i t) (.int j u)) Q E s) :
    OpR X f (rI0 fun i j => .int (g i j)) := by
  intro pins s σ H x y v u Q I rx ry h
  obtain ⟨i, j, rfl, rfl, q⟩ := h
  obtain ⟨t, rfl⟩ := rx
  obtain ⟨t', rfl⟩ := ry
  exact rule i j t t' s _ _ ⟨.int (g i j), H, I.tok _, ⟨_, rfl⟩, q⟩
theorem opB0 {f : Value → Value → Sem Value} {g : Int → Int → Bool}
    (rule : ∀ (i j : Int) (t u : Tok) (s : Shared) (Q : Value → Shared → Prop) (E : Value → Shared → Prop), Q (.bool (g i j)) s → wpAny (model X.prog X.w) X.A (f (.int i t) (.int j u)) Q E s) :
    OpR X f (rI0 fun i j => .bl (g i j)) := by
  intro pins s σ H x y v u Q I rx ry h
  obtain ⟨i, j, rfl, rfl, q⟩ := h
  obtain ⟨t, rfl⟩ := rx
  obtain ⟨t', rfl⟩ := ry
  exact rule i j t t' s _ _ ⟨.bl (g i j), H, I, rfl, q⟩

def CDiv (i j : Int) : Prop := 0 < j ∧ j < 1073741824
def CDivN (i j : Int) : Prop := j ≠ 0 ∧ j.natAbs < 1073741824
def CPow (i j : Int) : Prop := 0 ≤ j ∧ j ≤ 1000000 ∧ i.natAbs < 2 ^ 64
def CMul (i j : Int) : Prop := (-(2 ^ 64) < i ∧ i < 2 ^ 64) ∨ (-(2 ^ 64) < j ∧ j < 2 ^ 64)
theorem CMul.ok {i j : Int} (h : CMul i j) : IntMulOk i j := by
  rcases h with ⟨h1, h2⟩ | ⟨h1, h2⟩
  · exact .of_left (intBits_le_64 h1 h2)
  · exact .of_right (intBits_le_64 h1 h2)
theorem op_add : OpR X (binaryOp .Add) (rI0 fun i j => .int (i + j)) := opI0 fun _ _ _ _ _ _ _ q => add_int q
theorem op_sub : OpR X (binaryOp .Sub) (rI0 fun i j => .int (i - j)) := opI0 fun _ _ _ _ _ _ _ q => sub_int q
/-- // by a positive divisor -/
theorem op_fdiv : OpR X (binaryOp .FloorDiv) (rI CDiv fun i j => .int (i / j)) := opI fun i j _ _ _ _ _ hc q => by
  have h1 : (0 : Int) < j := hc.1
  have h2 : j < 1073741824 := hc.2
  exact floordiv_int (by omega) (by rw [Int.fdiv_eq_ediv_of_nonneg i (by omega)]; exact q) (.inl (PyProof.noPylong_small (by omega)))
/-- % by a positive divisor of any size -/
theorem op_mod : OpR X (binaryOp .Mod) (rI (fun _ j => 0 < j) fun i j => .int (i % j)) := opI fun i j _ _ _ _ _ hc q => by
  have h1 : (0 : Int) < j := hc
  exact mod_int' (by omega) (by rw [Int.fmod_eq_emod_of_nonneg i (by omega)]; exact q)
theorem op_pow : OpR X (binaryOp .Pow) (rI CPow fun i j => .int (i ^ j.toNat)) := opI fun _ _ _ _ _ _ _ hc q => pow_int_small hc.1 hc.2.1 hc.2.2 q
/-! ### bools among ints: n += (a < b) -/
end

/-! ### comparisons -/
/-- the scalars that == tells apart as data does -/
def scal : V → V → Bool
  | .non, .non => true | .non, .int _ => true | .int _, .non => true | .non, .bl _ => true | .bl _, .non => true | .non, .str _ => true | .str _, .non => true
  | .int _, .int _ => true | .bl _, .bl _ => true | .str _, .str _ => true | .byt _, .byt _ => true
  | .int _, .str _ => true | .str _, .int _ => true | .bl _, .str _ => true | .str _, .bl _ => true
  | _, _ => false
def rEq : R2 := fun x y H Q => scal x y = true ∧ Q (.bl (decide (x = y))) H
def rNe : R2 := fun x y H Q => scal x y = true ∧ Q (.bl (!decide (x = y))) H

theorem dec_int {i j : Int} : decide (V.int i = V.int j) = (i == j) := by
  rw [Bool.eq_iff_iff]
  simp
theorem dec_bl {i j : Bool} : decide (V.bl i = V.bl j) = (i == j) := by
  rw [Bool.eq_iff_iff]
  simp
theorem dec_str {i j : Str} : decide (V.str i = V.str j) = (i == j) := by
  rw [Bool.eq_iff_iff]
  simp
theorem dec_byt {i j : Array UInt8} : decide (V.byt i = V.byt j) = (i.toList == j.toList) := by
  rw [Bool.eq_iff_iff]
  cases i
  cases j
  simp

section
variable {X : Cx} {a b c : Expr} {ta tb tc : TE} {pos : Pos}
theorem fin_bl {pins : List (Addr × Obj)} {σ : St} {H : Hp} {s : Shared} {Q : VK} {k k' : Bool} (I : Inv X pins σ H s) (q : Q (.bl k) H) (e : k = k') : EP X pins σ Q (.bool k') s := by
  subst e
  exact ⟨.bl k, H, I, rfl, q⟩
theorem op_eq : OpR X (compareOp .Eq) rEq := by
  intro pins s σ H x y v u Q I rx ry h
  obtain ⟨hs, q⟩ := h
  cases x with
  | non =>
    cases rx
    cases y with
    | non => cases ry; exact PySem.EqNone.eq_none_none (fin_bl I q (by simp))
    | bl j => cases ry; exact PySem.EqNone.eq_none_bool (fin_bl I q (by simp))
    | int j => obtain ⟨t', rfl⟩ := ry; exact PySem.EqNone.eq_none_int (fin_bl I q (by simp))
    | str j => obtain ⟨t', rfl⟩ := ry; exact PySem.EqNone.eq_none_str (fin_bl I q (by simp))
    | _ => exact absurd (show false = true from hs) Bool.false_ne_true
  | bl i =>
    cases rx
    cases y with
    | non => cases ry; exact PySem.EqNone.eq_bool_none (fin_bl I q (by simp))
    | bl j => cases ry; exact eq_bool (fin_bl I q dec_bl)
    | str j => obtain ⟨t', rfl⟩ := ry; exact PySem.EqMixed.eq_bool_str (fin_bl I q (by simp))
    | _ => exact absurd (show false = true from hs) Bool.false_ne_true
  | int i =>
    obtain ⟨t, rfl⟩ := rx
    cases y with
    | non => cases ry; exact PySem.EqNone.eq_int_none (fin_bl I q (by simp))
    | int j => obtain ⟨t', rfl⟩ := ry; exact eq_int (fin_bl I q dec_int)
    | str j => obtain ⟨t', rfl⟩ := ry; exact PySem.EqMixed.eq_int_str (fin_bl I q (by simp))
    | _ => exact absurd (show false = true from hs) Bool.false_ne_true
  | str i =>
    obtain ⟨t, rfl⟩ := rx
    cases y with
    | non => cases ry; exact PySem.EqNone.eq_str_none (fin_bl I q (by simp))
    | bl j => cases ry; exact PySem.EqMixed.eq_str_bool (fin_bl I q (by simp))
    | int j => obtain ⟨t', rfl⟩ := ry; exact PySem.EqMixed.eq_str_int (fin_bl I q (by simp))
    | str j => obtain ⟨t', rfl⟩ := ry; exact eq_str (fin_bl I q dec_str)
    | _ => exact absurd (show false = true from hs) Bool.false_ne_true
  | byt i =>
    obtain ⟨t, rfl⟩ := rx
    cases y with
    | byt j => obtain ⟨t', rfl⟩ := ry; exact PySem.W.eq_bytes (fin_bl I q dec_byt)
    | _ => exact absurd (show false = true from hs) Bool.false_ne_true
  | _ => cases y <;> exact absurd (show false = true from hs) Bool.false_ne_true
theorem op_ne : OpR X (compareOp .NotEq) rNe := by
  intro pins s σ H x y v u Q I rx ry h
  obtain ⟨hs, q⟩ := h
  cases x with
  | non =>
    cases rx
    cases y with
    | non => cases ry; exact PySem.EqNone.ne_none_none (fin_bl I q (by simp))
    | bl j => cases ry; exact PySem.EqNone.ne_none_bool (fin_bl I q (by simp))
    | int j => obtain ⟨t', rfl⟩ := ry; exact PySem.EqNone.ne_none_int (fin_bl I q (by simp))
    | str j => obtain ⟨t', rfl⟩ := ry; exact PySem.EqNone.ne_none_str (fin_bl I q (by simp))
    | _ => exact absurd (show false = true from hs) Bool.false_ne_true
  | bl i =>
    cases rx
    cases y with
    | non => cases ry; exact PySem.EqNone.ne_bool_none (fin_bl I q (by simp))
    | bl j => cases ry; exact ne_bool (fin_bl I q (congrArg not dec_bl))
    | str j => obtain ⟨t', rfl⟩ := ry; exact PySem.EqMixed.ne_bool_str (fin_bl I q (by simp))
    | _ => exact absurd (show false = true from hs) Bool.false_ne_true
  | int i =>
    obtain ⟨t, rfl⟩ := rx
    cases y with
    | non => cases ry; exact PySem.EqNone.ne_int_none (fin_bl I q (by simp))
    | int j => obtain ⟨t', rfl⟩ := ry; exact ne_int (fin_bl I q (congrArg not dec_int))
    | str j => obtain ⟨t', rfl⟩ := ry; exact PySem.EqMixed.ne_int_str (fin_bl I q (by simp))
    | _ => exact absurd (show false = true from hs) Bool.false_ne_true
  | str i =>
    obtain ⟨t, rfl⟩ := rx
    cases y with
    | non => cases ry; exact PySem.EqNone.ne_str_none (fin_bl I q (by simp))
    | bl j => cases ry; exact PySem.EqMixed.ne_str_bool (fin_bl I q (by simp))
    | int j => obtain ⟨t', rfl⟩ := ry; exact PySem.EqMixed.ne_str_int (fin_bl I q (by simp))
    | str j => obtain ⟨t', rfl⟩ := ry; exact ne_str (fin_bl I q (congrArg not dec_str))
    | _ => exact absurd (show false = true from hs) Bool.false_ne_true
  | byt i =>
    obtain ⟨t, rfl⟩ := rx
    cases y with
    | byt j => obtain ⟨t', rfl⟩ := ry; exact PySem.W.ne_bytes (fin_bl I q (congrArg not dec_byt))
    | _ => exact absurd (show false = true from hs) Bool.false_ne_true
  | _ => cases y <;> exact absurd (show false = true from hs) Bool.false_ne_true

theorem op_lt : OpR X (compareOp .Lt) (rI0 fun i j => .bl (decide (i < j))) := opB0 fun _ _ _ _ _ _ _ q => lt_int q
theorem op_gt : OpR X (compareOp .Gt) (rI0 fun i j => .bl (decide (j < i))) := opB0 fun _ _ _ _ _ _ _ q => gt_int q
/-- is None, is not None: the right side a value none -/
theorem op_isN : OpR X (compareOp .Is) (fun x y H Q => y = .non ∧ Q (.bl (decide (x = .non))) H) := by
  intro pins s σ H x y v u Q I rx ry h
  obtain ⟨rfl, q⟩ := h
  cases ry
  refine is_none_gen (fin_bl I q ?_)
  cases x <;> first
    | (cases rx; rfl)
    | (obtain ⟨t, rfl⟩ := rx; rfl)
theorem op_notN : OpR X (compareOp .IsNot) (fun x y H Q => y = .non ∧ Q (.bl (!decide (x = .non))) H) := by
  intro pins s σ H x y v u Q I rx ry h
  obtain ⟨rfl, q⟩ := h
  cases ry
  refine isnot_none_gen (fin_bl I q ?_)
  cases x <;> first
    | (cases rx; rfl)
    | (obtain ⟨t, rfl⟩ := rx; rfl)

/-- is, is not of two objects that are tracked lists or instances -/
def isObj : HO → Bool
  | .lst _ => true
  | .ins _ _ _ => true
  | _ => false
/-- two rules for one operation: by cases -/
theorem OpR.or {f : Value → Value → Sem Value} {r r' : R2} (h : OpR X f r) (h' : OpR X f r') : OpR X f (fun x y H Q => r x y H Q ∨ r' x y H Q) := by
  intro pins s σ H x y v u Q I rx ry q
  rcases q with q | q
  · exact h pins s σ H x y v u Q I rx ry q
  · exact h' pins s σ H x y v u Q I rx ry q

theorem nomark (b : Expr) {op : CmpOp} (h : op ≠ .In := by decide) (h2 : op ≠ .NotIn := by decide) : behindInMarks op b = false := by
  have e1 : (op == CmpOp.In) = false := by cases op <;> first | rfl | exact absurd rfl h
  have e2 : (op == CmpOp.NotIn) = false := by cases op <;> first | rfl | exact absurd rfl h2
  cases b <;> simp [behindInMarks, e1, e2]
/-- a comparison as a value; hm: nomark b, or (for in, not in) by with_unfolding_all rfl -/
theorem pe_cmpR {op : CmpOp} {r : R2} (ho : OpR X (compareOp op) r) (ha : PE X a ta) (hb : PE X b tb) (hm : behindInMarks op b = false) : PE X (.Compare a [op] [b] pos) (tOp r ta tb) := by
  intro pins s σ H Q I h
  exact wpAny_Compare1 (binT ha hb I h fun v u s2 x y H2 I2 rx ry q => ho pins s2 σ H2 x y v u Q I2 rx ry q) hm
/-- a reading of a value as a test -/
def tTest (t : TE) : TT := fun σ H Q => t σ H fun x H' => ∃ k, x = .bl k ∧ Q k H'
theorem pt_cmpR {op : CmpOp} {r : R2} (ho : OpR X (compareOp op) r) (ha : PE X a ta) (hb : PE X b tb) (hm : behindInMarks op b = false) : PT X (.Compare a [op] [b] pos) (tTest (tOp r ta tb)) := by
  intro pins s σ H Q I h
  refine wpAny_isTrue_Compare1 (thn (ha pins s σ H _ I h) fun v s1 ⟨x, H1, I1, r1, q1⟩ => thn (hb pins s1 σ H1 _ I1 q1) fun u s2 ⟨y, H2, I2, r2, q2⟩ =>
    thn (ho pins s2 σ H2 x y v u _ I2 r1 r2 q2) fun c s3 ⟨z, H3, I3, r3, k, e, q3⟩ => ?_) hm
  subst e
  cases r3
  exact wpAny_truthy_bool ⟨H3, I3, q3⟩
/-- a op1 b op2 c -/
def tChain (r r' : R2) (ta tb tc : TE) : TE := fun σ H Q => ta σ H fun x H1 => tb σ H1 fun y H2 => r x y H2 fun z H3 => ∃ k, z = .bl k ∧
  (if k = true then tc σ H3 fun w' H4 => r' y w' H4 Q else Q (.bl false) H3)
/-! ### truth -/
/-- a value's truth by the abstract heap -/
def TruV (K : PySem.W.Frag) (x : V) (H : Hp) (k : Bool) : Prop :=
  match x with
  | .non => k = false
  | .bl b => k = b
  | .int i => k = (i != 0)
  | .str y => y.length ≤ sizeLine ∧ k = ((y.length : Int) != 0)
  | .byt y => y.size ≤ sizeLine ∧ k = ((y.size : Int) != 0)
  | .ref p => (∃ xs, SqL K H p xs ∧ k = !xs.isEmpty) ∨ (∃ xs, SqT K H p xs ∧ k = !xs.isEmpty) ∨ ∃ kvs, H p = some (.dK kvs) ∧ k = !kvs.isEmpty
  | _ => False
theorem line63 : (sizeLine : Nat) < 2 ^ 63 := by rw [sizeLine_eq]; decide
/-! ### strs and bytes -/
def PlainIxT (b : Expr) : Prop := ∀ o i, subscripted b false o i = operate [o, i] (getItem o i)
/-! ### scalar builtins, by CallR -/
theorem vals1 {x : V} {us : List Value} (r : Vals [x] us) : ∃ u, us = [u] ∧ RelV x u := by
  cases r with
  | cons r1 r2 => cases r2; exact ⟨_, rfl, r1⟩
theorem vals2 {x y : V} {us : List Value} (r : Vals [x, y] us) : ∃ u w', us = [u, w'] ∧ RelV x u ∧ RelV y w' := by
  cases r with
  | cons r1 r2 =>
    cases r2 with
    | cons r3 r4 => cases r4; exact ⟨_, _, rfl, r1, r3⟩
/-- len of a str, a bytes, a list, a tuple -/
def LenV (K : PySem.W.Frag) (x : V) (H : Hp) (n : Nat) : Prop :=
  match x with
  | .str y => y.length ≤ sizeLine ∧ n = y.length
  | .byt y => y.size ≤ sizeLine ∧ n = y.size
  | .ref p => (∃ xs, SqL K H p xs ∧ n = xs.length) ∨ ∃ xs, SqT K H p xs ∧ n = xs.length
  | _ => False
end
end L2

namespace L2
open PySem PySem.Spec PyProof.Rows

/-! ### an instance, its attributes a map -/
structure ObjM (h : Heap) (x dx C : Addr) (mA : Str → Option Value) : Prop where
  obj : h.get? x = some (PySem.W.instObj C dx)
  ns : h.Ns1 dx mA
  ne : dx ≠ x

theorem lookIn_ns {h : Heap} {dx : Addr} {mA : Str → Option Value} (n : h.Ns1 dx mA) : ∃ od, h.get? dx = some od ∧ ∀ name, PySem.W.lookIn name od = some (mA name) := by
  obtain ⟨o, es, ep, ho, hd, hk, _, hm⟩ := n
  refine ⟨o, ho, fun name => ?_⟩
  have e := hm name
  unfold nsFind findBy at e
  rw [← Array.find?_toList] at e
  unfold PySem.W.lookIn
  rw [hd]
  dsimp only
  split
  · rename_i y q
    rw [q] at e
    exact congrArg some e
  · rename_i q
    rw [q] at e
    have a : es.toList.any (·.refKey) = false := by
      rw [List.any_eq_false]
      intro y hy
      obtain ⟨z, t, hkey⟩ := hk y (Array.mem_toList_iff.mp hy)
      simp [DictEntry.refKey, hkey]
    have a' : ¬ es.toList.any (·.refKey) = true := by rw [a]; exact Bool.false_ne_true
    rw [if_neg a']
    exact congrArg some e

theorem ObjM.look {h : Heap} {x dx C : Addr} {mA : Str → Option Value} (I : ObjM h x dx C mA) : ∃ od, PySem.W.InstAt h x (PySem.W.instObj C dx) C (some od) ∧ ∀ name, PySem.W.lookIn name od = some (mA name) :=
  let ⟨od, ho, hl⟩ := lookIn_ns I.ns
  ⟨od, ⟨I.obj, rfl, rfl, ho⟩, hl⟩

section
variable {prog : Program} {w : World} {A : Around} {E : Value → Shared → Prop} {s : Shared} {K : PySem.W.Frag} {x dx C f : Addr} {mA : Str → Option Value} {name : Str} {v : Value}

theorem get_map {expr : Bool} {Q : Value → Shared → Prop} (X : K.In s.heap) (I : ObjM s.heap x dx C mA) (hg : PySem.W.plainGet K C name = true) (hh : PySem.W.hasDictIn K C = true)
    (ha : PySem.W.findIn K (.ref C) name = some none) (hv : mA name = some v) (hv' : PySem.W.handedIn v = true) (h : Q v { s with toks := s.toks + 1 }) :
    wpAny (model prog w) A (getAttr (.ref x) name expr) Q E s := by
  obtain ⟨od, J, hl⟩ := I.look
  exact PySem.W.get_value X J (PySem.W.plainGet_of hg).1 (PySem.W.findObj_own hh ha rfl (by rw [hl, hv])) hv' h

theorem get_meth {pl : Sem Bool} {Q : Value × List Value → Shared → Prop} (X : K.In s.heap) (I : ObjM s.heap x dx C mA) (hg : PySem.W.plainGet K C name = true)
    (hf : PySem.W.findIn K (.ref C) name = some (some (.ref f))) (ht : PySem.W.isFn K (.ref f) = true) (hv : mA name = none) (h : Q (.ref f, [.ref x]) s) :
    wpAny (model prog w) A (getMethod (.ref x) name pl) Q E s := by
  obtain ⟨od, J, hl⟩ := I.look
  exact PySem.W.method_fn X J (PySem.W.plainGet_of hg).1 (PySem.W.plainGet_of hg).2 hf (beq_iff_eq.mp ht) (by show (PySem.W.lookIn name od).map (·.isSome) = some false; rw [hl, hv]; rfl) h

theorem set_map {ns : List Str} {Q : Unit → Shared → Prop} (X : K.In s.heap) (I : ObjM s.heap x dx C mA)
    (hs : PySem.W.findIn K (.ref C) "__setattr__" = some (some (.builtin "object.__setattr__"))) (hp : PySem.W.plainOver K C = true) (ht : PySem.W.takerIn K C name = some none) (hh : PySem.W.hasDictIn K C = true)
    (hw : PySem.Within mA ns) (hsz : ns.length ≤ sizeLine)
    (h : ∀ h', ObjM h' x dx C (fun y => if y = name then some v else mA y) → Heap.SameBut dx s.heap h' → Q () { s with heap := h', toks := s.toks + 2 }) :
    wpAny (model prog w) A (setAttr (.ref x) name v) Q E s := by
  obtain ⟨od, J, hl⟩ := I.look
  refine PySem.W.set_plain X J hs (PySem.W.osa_open (s := { s with toks := s.toks + 1 }) (r := none) X J hp ht fun b => ?_)
  obtain ⟨cd, hc, hd'⟩ := PySem.W.any_some hh
  have hx : s.heap.get? x = some ⟨.ref C, some dx, .plain, #[]⟩ := I.obj
  refine wpAny_bind (wpAny_pure (wpAny_bind (wpAny_bind (wpAny_loadPart hx (wpAny_bind (PySem.W.Looks.here (s := { s with toks := s.toks + 1 }) (PySem.W.looks_clsIn X hc) ?_))))))
  rw [hd']
  refine wpAny_pure (a := some dx) (wpAny_bind (wpAny_pure (wpAny_bind ?_)))
  refine wpAny_nsSet1 (s := { s with toks := s.toks + 1 }) I.ns fun h' hn2 hs2 => ?_
  obtain ⟨oD, esD, epD, hoD, hdD, hcD⟩ := hn2.count (PySem.Within.cons name v hw)
  refine wpAny_bind (wpAny_lookBehind hoD (by rw [hdD]; exact pastItsLine_dict (Nat.le_trans hcD (by rw [List.length_cons]; omega))) ?_)
  exact wpAny_pure (h _ ⟨(hs2.2 _ (Ne.symm I.ne)).trans I.obj, hn2, I.ne⟩ hs2)

/-- C(..): the dict at the heap's end, the instance behind it; then its __init__ -/
theorem make_map {R : Result → Shared → Prop} {vs : List Value} {kw : List (Str × Value)} (X : K.In s.heap) (hm : PySem.W.makesIn K C = true)
    (hi : PySem.W.findIn K (.ref C) "__init__" = some (some (.ref f))) (hf : PySem.W.typeIn K (.ref f) = some (.type "function"))
    (h : codeAny (model prog w) (A.under (.builtin "type.__call__" ⟨.ref C :: vs, kw⟩)) (.call (.ref f) ⟨.ref (s.heap.objs.size + 1) :: vs, kw⟩) (PySem.W.InitBack (s.heap.objs.size + 1) R)
      { s with heap := (s.heap.push PySem.W.emptyDict).push (PySem.W.instObj C s.heap.objs.size) }) :
    codeAny (model prog w) A (.call (.ref C) ⟨vs, kw⟩) R s := by
  obtain ⟨hh, g, d, t, os⟩ := s
  exact PySem.W.make_core (PySem.W.makes_of X hm) (PySem.W.looks_findIn X hi) (fun self => PySem.W.bind_fn X self hf) (.inl rfl) h
end

/-! ### the attributes as a list of pairs -/
def putF (f : Str) (v : V) : List (Str × V) → List (Str × V)
  | [] => [(f, v)]
  | (g, x) :: r => if g = f then (g, v) :: r else (g, x) :: putF f v r
theorem lookup_putF (f g : Str) (v : V) : ∀ fs : List (Str × V), (putF f v fs).lookup g = if g = f then some v else fs.lookup g
  | [] => by
    show List.lookup g [(f, v)] = _
    by_cases h : g = f
    · have hb : (g == f) = true := beq_iff_eq.mpr h
      simp only [List.lookup, hb, if_pos h]
    · have hb : (g == f) = false := beq_eq_false_iff_ne.mpr h
      simp only [List.lookup, hb, if_neg h]
  | (k, x) :: r => by
    have ih := lookup_putF f g v r
    rw [show putF f v ((k, x) :: r) = (if k = f then (k, v) :: r else (k, x) :: putF f v r) from rfl]
    by_cases hk : k = f
    · rw [if_pos hk]
      by_cases h : g = k
      · have hb : (g == k) = true := beq_iff_eq.mpr h
        simp only [List.lookup, hb, if_pos (h.trans hk)]
      · have hb : (g == k) = false := beq_eq_false_iff_ne.mpr h
        simp only [List.lookup, hb, if_neg (fun e : g = f => h (e.trans hk.symm))]
    · rw [if_neg hk]
      by_cases h : g = k
      · have hb : (g == k) = true := beq_iff_eq.mpr h
        simp only [List.lookup, hb, if_neg (fun e : g = f => hk (h.symm.trans e))]
      · have hb : (g == k) = false := beq_eq_false_iff_ne.mpr h
        simp only [List.lookup, hb]
        exact ih
theorem keys_putF (f : Str) (v : V) : ∀ fs : List (Str × V), f ∈ (putF f v fs).map (·.1) ∧ ∀ g, g ∈ fs.map (·.1) → g ∈ (putF f v fs).map (·.1)
  | [] => ⟨by simp [putF], fun g h => by simp at h⟩
  | (k, x) :: r => by
    obtain ⟨i1, i2⟩ := keys_putF f v r
    rw [show putF f v ((k, x) :: r) = (if k = f then (k, v) :: r else (k, x) :: putF f v r) from rfl]
    by_cases hk : k = f
    · rw [if_pos hk]
      subst hk
      exact ⟨by simp, fun g h => by simpa using h⟩
    · rw [if_neg hk]
      refine ⟨?_, fun g h => ?_⟩
      · rw [List.map_cons]
        exact List.mem_cons_of_mem _ i1
      · rw [List.map_cons] at h ⊢
        rcases List.mem_cons.mp h with e | e
        · exact List.mem_cons.mpr (.inl e)
        · exact List.mem_cons_of_mem _ (i2 g e)
theorem length_putF (f : Str) (v : V) : ∀ fs : List (Str × V), (putF f v fs).length ≤ fs.length + 1
  | [] => by simp [putF]
  | (k, x) :: r => by
    have ih := length_putF f v r
    rw [show putF f v ((k, x) :: r) = (if k = f then (k, v) :: r else (k, x) :: putF f v r) from rfl]
    by_cases hk : k = f
    · rw [if_pos hk, List.length_cons, List.length_cons]; omega
    · rw [if_neg hk, List.length_cons, List.length_cons]; omega

theorem RelO.some_of {v : V} {o : Option Value} (r : RelO (some v) o) : ∃ u, o = some u ∧ RelV v u := by
  cases o with
  | none => exact (show False from r).elim
  | some u => exact ⟨u, rfl, r⟩
theorem RelO.none_of {o : Option Value} (r : RelO none o) : o = none := by
  cases o with
  | none => rfl
  | some u => exact (show False from r).elim
theorem handed_of {v : V} {u : Value} (r : RelV v u) : PySem.W.handedIn u = true := by
  cases v with
  | non => cases (show u = Value.none from r); rfl
  | bl b => cases (show u = Value.bool b from r); rfl
  | int i => obtain ⟨t, e⟩ := (show ∃ t, u = Value.int i t from r); cases e; rfl
  | str x => obtain ⟨t, e⟩ := (show ∃ t, u = Value.str x t from r); cases e; rfl
  | byt b => obtain ⟨t, e⟩ := (show ∃ t, u = Value.bytes b t from r); cases e; rfl
  | flt b => obtain ⟨t, e⟩ := (show ∃ t, u = Value.float b t from r); cases e; rfl
  | ref a => cases (show u = Value.ref a from r); rfl
  | ty n => cases (show u = Value.type n from r); rfl

section
variable {P : Program} {w : World} {H H' : Hp} {h h' : Heap} {a C dx : Addr} {fs fs' : List (Str × V)}
theorem ins_get (hok : HOk P w H h) (e : H a = some (.ins C dx fs)) : ∃ mA, ObjM h a dx C mA ∧ (∀ f, RelO (fs.lookup f) (mA f)) ∧ PySem.Within mA (fs.map (·.1)) ∧ fs.length ≤ 1000 ∧ H dx = some (.own a) := by
  obtain ⟨d, z, ne, ob, mA, n, r, q⟩ := (show ObjOk P w H h a (.ins C dx fs) from hok a _ e)
  exact ⟨mA, ⟨ob, n, ne⟩, r, q, z, d⟩
end

/-! ### what of the text a class must have -/
structure Cls (K : PySem.W.Frag) (C : Addr) : Prop where
  pg : PySem.W.plainGet K C Str.empty = true
  hd : PySem.W.hasDictIn K C = true
  po : PySem.W.plainOver K C = true
  sa : PySem.W.findIn K (.ref C) "__setattr__" = some (some (.builtin "object.__setattr__"))
theorem Cls.get {K : PySem.W.Frag} {C : Addr} (c : Cls K C) (f : Str) : PySem.W.plainGet K C f = true := c.pg
/-- no class of it has the name -/
def NoAttr (K : PySem.W.Frag) (C : Addr) (f : Str) : Prop := PySem.W.findIn K (.ref C) f = some none
theorem NoAttr.taker {K : PySem.W.Frag} {C : Addr} {f : Str} (n : NoAttr K C f) : PySem.W.takerIn K C f = some none := by
  unfold PySem.W.takerIn
  rw [show PySem.W.findIn K (.ref C) f = some none from n]
  rfl
/-- a constant of the class -/
structure Con (K : PySem.W.Frag) (C : Addr) (f : Str) (v : V) (u : Value) : Prop where
  at_ : PySem.W.findIn K (.ref C) f = some (some u)
  rel : RelV v u
  get : PySem.W.specialIn K u "__get__" = some none
  cp : PySem.W.copiedNames.contains f = false
/-- a method: a plain def of the class or of one above it -/
structure Meth (K : PySem.W.Frag) (C : Addr) (m : Str) (f : Addr) : Prop where
  at_ : PySem.W.findIn K (.ref C) m = some (some (.ref f))
  fn : PySem.W.isFn K (.ref f) = true
  kp : PySem.W.keepIn K (.ref f) = true

section
variable {X : Cx} {pins : List (Addr × Obj)} {σ : St} {H : Hp} {s : Shared} {a C dx : Addr} {fs : List (Str × V)} {f : Str} {v : V} {A : Around} {E : Value → Shared → Prop}

theorem getattr_ok {b : Bool} {Q : Value → Shared → Prop} (I : Inv X pins σ H s) (e : H a = some (.ins C dx fs)) (c : Cls X.K C) (n : NoAttr X.K C f) (l : fs.lookup f = some v)
    (h : ∀ u s', Inv X pins σ H s' → RelV v u → Q u s') : wpAny (model X.prog X.w) A (getAttr (.ref a) f b) Q E s := by
  obtain ⟨mA, O, r, _, _, _⟩ := ins_get I.hok e
  obtain ⟨u, hu, ru⟩ := RelO.some_of (v := v) (o := mA f) (by rw [← l]; exact r f)
  exact get_map I.kIn O (c.get f) c.hd n hu (handed_of ru) (h u _ (I.tok _) ru)

theorem getmeth_ok {m : Str} {g : Addr} {pl : Sem Bool} {Q : Value × List Value → Shared → Prop} (I : Inv X pins σ H s) (e : H a = some (.ins C dx fs)) (c : Cls X.K C) (k : Meth X.K C m g) (l : fs.lookup m = none)
    (h : Q (.ref g, [.ref a]) s) : wpAny (model X.prog X.w) A (getMethod (.ref a) m pl) Q E s := by
  obtain ⟨mA, O, r, _, _, _⟩ := ins_get I.hok e
  have hn : mA m = none := RelO.none_of (by rw [← l]; exact r m)
  exact get_meth I.kIn O (c.get m) k.at_ k.fn hn h

theorem setattr_ok {y : V} {u : Value} {Q : Unit → Shared → Prop} (I : Inv X pins σ H s) (e : H a = some (.ins C dx fs)) (c : Cls X.K C) (n : NoAttr X.K C f) (hl : fs.length < 1000) (ry : RelV y u)
    (h : ∀ s', Inv X pins σ (upd H a (.ins C dx (putF f y fs))) s' → Q () s') : wpAny (model X.prog X.w) A (setAttr (.ref a) f u) Q E s := by
  obtain ⟨mA, O, r, wi, _, ho⟩ := ins_get I.hok e
  have hz : (fs.map (·.1)).length ≤ sizeLine := by rw [List.length_map, sizeLine_eq]; omega
  refine set_map I.kIn O c.sa c.po n.taker c.hd wi hz fun h' O' sb => h _ ?_
  have hd : ∃ o, h'.get? dx = some o := let ⟨o, _, _, e', _⟩ := O'.ns; ⟨o, e'⟩
  refine I.write (x := a) (e := dx) (by rw [e]; exact True.intro) (.inr ho) (fun b q hb z => (sb.2 b hb).trans z) hd ?_
  refine ⟨by rw [upd_ne O.ne]; exact ho, ?_, O.ne, O'.obj, _, O'.ns, fun g => ?_, fun g hg => ?_⟩
  · have := length_putF f y fs; omega
  · show RelO ((putF f y fs).lookup g) (if g = f then some u else mA g)
    rw [lookup_putF]
    by_cases q : g = f
    · rw [if_pos q, if_pos q]; exact ry
    · rw [if_neg q, if_neg q]; exact r g
  · by_cases q : g = f
    · rw [q]; exact (keys_putF f y fs).1
    · refine (keys_putF f y fs).2 g (wi g fun z => hg ?_)
      show (if g = f then some u else mA g) = none
      rw [if_neg q]; exact z

/-- a new instance, tracked, without attributes -/
theorem Inv.made (I : Inv X pins σ H s) : Inv X pins σ (upd (upd H s.heap.objs.size (.own (s.heap.objs.size + 1))) (s.heap.objs.size + 1) (.ins C s.heap.objs.size []))
    { s with heap := (s.heap.push PySem.W.emptyDict).push (PySem.W.instObj C s.heap.objs.size) } := by
  have e1 : (s.heap.push PySem.W.emptyDict).get? s.heap.objs.size = some PySem.W.emptyDict := Heap.get?_push_size s.heap rfl
  have e2 : ((s.heap.push PySem.W.emptyDict).push (PySem.W.instObj C s.heap.objs.size)).get? (s.heap.objs.size + 1) = some (PySem.W.instObj C s.heap.objs.size) := by
    have := Heap.get?_push_size (s.heap.push PySem.W.emptyDict) (o := PySem.W.instObj C s.heap.objs.size) rfl
    rwa [Heap.size_push] at this
  have e3 : (s.heap.push PySem.W.emptyDict).Ns s.heap.objs.size (fun _ => none) := ⟨PySem.W.emptyDict, #[], _, e1, rfl, (fun e he => absurd he (by simp)), fun _ => rfl⟩
  have I1 := I.laid (a := s.heap.objs.size) (o := .own (s.heap.objs.size + 1)) (h' := s.heap.push PySem.W.emptyDict) (t' := s.toks) (fun b u q => Heap.get?_push_of_some _ q) (Nat.le_refl _) ⟨_, e1⟩
  refine I1.laid (a := s.heap.objs.size + 1) (o := .ins C s.heap.objs.size []) (t' := s.toks) (fun b u q => Heap.get?_push_of_some _ q) (Nat.le_of_eq (Heap.size_push _ _)) ?_
  have ne : s.heap.objs.size ≠ s.heap.objs.size + 1 := Nat.ne_of_lt (Nat.lt_succ_self _)
  refine ⟨by rw [upd_ne ne, upd_same], Nat.zero_le _, ne, e2, fun _ => none, (Heap.Ns1.of_empty e3).at fun o q => Heap.get?_push_of_some _ q, fun _ => True.intro, fun y hy => absurd rfl hy⟩

/-- e.f where nothing but the object is asked: through attributeBase (super) and the last hold -/
theorem attr_of {prog : Program} {w : World} {env : Env} {e : Expr} {f : Str} {pos : Pos} {s : Shared} {Q : Value → Shared → Prop} (hb : attributeBase e f env (eval e env) = eval e env)
    (h : wpAny (model prog w) A (eval e env) (fun o s₁ => wpAny (model prog w) A (getAttr o f true) Q E s₁) E s) : wpAny (model prog w) A (eval (.Attribute e f pos) env) Q E s :=
  Attribute_any_ h (by rw [arm_eval_Attribute, hb])
end

/-! ### readings and rules -/
/-- e.f, an attribute of the instance -/
def tFld (K : PySem.W.Frag) (ta : TE) (f : Str) : TE := fun σ H Q => ta σ H fun x H1 => ∃ a C dx fs v, x = .ref a ∧ H1 a = some (.ins C dx fs) ∧ Cls K C ∧ NoAttr K C f ∧ fs.lookup f = some v ∧ Q v H1
/-- e.f, a constant of the class -/
def tCon (K : PySem.W.Frag) (ta : TE) (f : Str) : TE := fun σ H Q => ta σ H fun x H1 => ∃ a C dx fs v u, x = .ref a ∧ H1 a = some (.ins C dx fs) ∧ Cls K C ∧ Con K C f v u ∧ fs.lookup f = none ∧ Q v H1
/-- e.f = value -/
def sFld (K : PySem.W.Frag) (ta tv : TE) (f : Str) : TS := fun D σ H => tv σ H fun y H1 => ta σ H1 fun x H2 => ∃ a C dx fs, x = .ref a ∧ H2 a = some (.ins C dx fs) ∧ Cls K C ∧ NoAttr K C f ∧ fs.length < 1000 ∧
  D.nx σ (upd H2 a (.ins C dx (putF f y fs)))
/-- an augmented operator on two values -/
def InOp (X : Cx) (op : Operator) (rd : V → V → Hp → VK → Prop) : Prop :=
  ∀ (pins : List (Addr × Obj)) (s : Shared) (σ : St) (H : Hp) (x y : V) (u v : Value) (Q : VK), Inv X pins σ H s → RelV x u → RelV y v → rd x y H Q → wpAny (model X.prog X.w) X.A (inplaceOp op u v) (EP X pins σ Q) X.xe s
/-- e.f op= value -/
def sFldAug (K : PySem.W.Frag) (ta tv : TE) (rd : V → V → Hp → VK → Prop) (f : Str) : TS := fun D σ H => ta σ H fun x H1 => ∃ a C dx fs v, x = .ref a ∧ H1 a = some (.ins C dx fs) ∧ Cls K C ∧ NoAttr K C f ∧ fs.lookup f = some v ∧
  tv σ H1 fun y H2 => rd v y H2 fun z H3 => ∃ dx' fs', H3 a = some (.ins C dx' fs') ∧ fs'.length < 1000 ∧ D.nx σ (upd H3 a (.ins C dx' (putF f z fs')))

section
variable {X : Cx} {o e value : Expr} {f : Str} {pos pos' tpos : Pos} {ta tv : TE}
theorem pe_fld (he : PE X e ta) (hb : attributeBase e f X.env (eval e X.env) = eval e X.env) : PE X (.Attribute e f pos) (tFld X.K ta f) := by
  intro pins s σ H Q I h
  refine attr_of hb (thn (he pins s σ H _ I h) fun u s1 ⟨x, H1, I1, rx, a, C, dx, fs, v, ex, ea, c, n, l, q⟩ => ?_)
  subst ex
  obtain rfl : u = Value.ref a := rx
  exact getattr_ok I1 ea c n l fun u' s2 I2 ru => ⟨v, H1, I2, ru, q⟩
theorem ps_fld (ha : PE X o ta) (hv : PE X value tv) (hs : swapsWith value (some (.Attribute o f pos')) pos.line X.env = pure false) : PS X (.Assign [.Attribute o f pos'] value pos) (sFld X.K ta tv f) := by
  intro pins s σ H D I h
  refine plainObj_wpAny_Assign_Attribute (thn (hv pins s σ H _ I h) fun u s1 ⟨y, H1, I1, ry, q⟩ => thn (ha pins s1 σ H1 _ I1 q) fun ov s2 ⟨x, H2, I2, rx, a, C, dx, fs, ex, ea, c, n, l, q2⟩ => ?_) hs
  subst ex
  obtain rfl : ov = Value.ref a := rx
  exact setattr_ok I2 ea c n l ry fun s3 I3 => ⟨σ, _, I3, q2⟩
def rAdd : V → V → Hp → VK → Prop := fun x y H Q => ∃ i j, x = .int i ∧ y = .int j ∧ Q (.int (i + j)) H
def rSub : V → V → Hp → VK → Prop := fun x y H Q => ∃ i j, x = .int i ∧ y = .int j ∧ Q (.int (i - j)) H
end

/-! ### isinstance -/
section
variable {X : Cx} {pins : List (Addr × Obj)} {σ : St} {H : Hp} {s : Shared} {A : Around} {E : Value → Shared → Prop} {Q : Value → Shared → Prop} {c : Value} {b : Bool}
/-- the type of a value, as the fragment's deciders take it; for an instance its class -/
inductive TyOf (K : PySem.W.Frag) (H : Hp) : V → Value → Prop where
  | non : TyOf K H .non (.type "NoneType")
  | bl (x : Bool) : TyOf K H (.bl x) (.type "bool")
  | int (i : Int) : TyOf K H (.int i) (.type "int")
  | str (x : Str) : TyOf K H (.str x) (.type "str")
  | flt (x : UInt64) : TyOf K H (.flt x) (.type "float")
  | lst {a : Addr} {xs : List V} (e : H a = some (.lst xs)) : TyOf K H (.ref a) (.type "list")
  | frz {a : Addr} {o : Obj} {xs : List V} (e : H a = some (.frz o (.lst xs))) : TyOf K H (.ref a) (.type "list")
  | tup {a : Addr} {xs : List V} (e : H a = some (.tup xs)) : TyOf K H (.ref a) (.type "tuple")
  | dK {a : Addr} {kvs : List (Key × V)} (e : H a = some (.dK kvs)) : TyOf K H (.ref a) (.type "dict")
  | dT {a : Addr} {kvs : List ((List Int × Int) × V)} (e : H a = some (.dT kvs)) : TyOf K H (.ref a) (.type "dict")
  | ins {a C dx : Addr} {fs : List (Str × V)} (e : H a = some (.ins C dx fs)) (cl : Cls K C) (ha : PySem.W.findIn K (.ref C) "__class__" = some (some (.builtin "object.__class__")))
      (hn : PySem.W.specialIn K (.builtin "object.__class__") "__get__" = some (some (.builtin "getset_descriptor.__get__"))) (htk : PySem.W.takesIn K (.builtin "object.__class__") = some true)
      (hm : PySem.W.mroIn K C (.type "object") = some true) : TyOf K H (.ref a) (.ref C)
/-- isinstance(x, c) for one class c, a built-in or an own one: kitOne's answer -/
theorem isinst_ok {x : V} {u t : Value} (I : Inv X pins σ H s) (rx : RelV x u) (ty : TyOf X.K H x t) (e : PySem.W.kitOne X.K t c = some b) (h : ∀ tk, Q (.bool b) { s with toks := tk }) :
    wpAny (model X.prog X.w) A (call (.builtin "isinstance") [u, c]) Q E s := by
  cases ty with
  | non => cases (show u = Value.none from rx); exact PySem.W.kia_one PySem.W.kitx_none I.kIn True.intro e (fun z => nomatch z) h
  | bl y => cases (show u = Value.bool y from rx); exact PySem.W.kia_one PySem.W.kitx_bool I.kIn True.intro e (fun z => nomatch z) h
  | int i => obtain ⟨t, q⟩ := (show ∃ t, u = Value.int i t from rx); cases q; exact PySem.W.kia_one PySem.W.kitx_int I.kIn True.intro e (fun z => nomatch z) h
  | str y => obtain ⟨t, q⟩ := (show ∃ t, u = Value.str y t from rx); cases q; exact PySem.W.kia_one PySem.W.kitx_str I.kIn True.intro e (fun z => nomatch z) h
  | flt y => obtain ⟨t, q⟩ := (show ∃ t, u = Value.float y t from rx); cases q; exact PySem.W.kia_one PySem.W.kitx_float I.kIn True.intro e (fun z => nomatch z) h
  | @lst a xs ea =>
    cases (show u = Value.ref a from rx)
    obtain ⟨_, _, n, _, h1⟩ := (show ObjOk X.prog X.w H s.heap a (.lst xs) from I.hok a _ ea)
    exact PySem.W.kia_one PySem.W.kitx_list I.kIn ⟨_, h1, rfl⟩ e (fun z => nomatch z) h
  | @frz a ob xs ea =>
    cases (show u = Value.ref a from rx)
    obtain ⟨_, _, _, n, _, h1⟩ := (show ObjOk X.prog X.w H s.heap a (.frz ob (.lst xs)) from I.hok a _ ea)
    exact PySem.W.kia_one PySem.W.kitx_list I.kIn ⟨_, h1, rfl⟩ e (fun z => nomatch z) h
  | @tup a xs ea =>
    cases (show u = Value.ref a from rx)
    obtain ⟨_, _, _, p⟩ := (show ObjOk X.prog X.w H s.heap a (.tup xs) from I.hok a _ ea)
    obtain ⟨o, h1, h2, _⟩ := p
    exact PySem.W.kia_one PySem.W.kitx_tuple I.kIn ⟨o, h1, h2⟩ e (fun z => nomatch z) h
  | @dK a kvs ea =>
    cases (show u = Value.ref a from rx)
    obtain ⟨_, _, vs, _, p⟩ := (show ObjOk X.prog X.w H s.heap a (.dK kvs) from I.hok a _ ea)
    obtain ⟨o, es, ep, h1, h2, _⟩ := p
    exact PySem.W.kia_one PySem.W.kitx_dict I.kIn ⟨o, h1, h2.1⟩ e (fun z => nomatch z) h
  | @dT a kvs ea =>
    cases (show u = Value.ref a from rx)
    obtain ⟨_, _, xs, _, o, es, ep, h1, h2, _⟩ := (show ObjOk X.prog X.w H s.heap a (.dT kvs) from I.hok a _ ea)
    exact PySem.W.kia_one PySem.W.kitx_dict I.kIn ⟨o, h1, h2.1⟩ e (fun z => nomatch z) h
  | @ins a C dx fs ea cl ha hn htk hm =>
    cases (show u = Value.ref a from rx)
    obtain ⟨mA, O, _⟩ := ins_get I.hok ea
    obtain ⟨od, J, _⟩ := O.look
    exact PySem.W.kia_one (PySem.W.kitx_own (cl.get _) cl.hd ha hn htk hm) I.kIn J e (fun z => nomatch z) h
end
end L2

namespace L2
open PySem PySem.Spec PyProof.Rows

/-! ### room -/
structure Room (k : Nat) (A : Around) : Prop where
  hd : A.handled = none
  dp : A.depth + 3 * k + 5 < recursionLimit
  un : A.units + 16 * k + 200 < cLine
theorem Room.mono {j k : Nat} {A : Around} (r : Room k A) (h : j ≤ k) : Room j A := ⟨r.hd, by have := r.dp; omega, by have := r.un; omega⟩
theorem Room.deeper {k : Nat} {A : Around} (r : Room (k + 1) A) (env : Env) : Room k (A.deeper env) :=
  ⟨r.hd, by have := r.dp; show A.depth + 1 + 3 * k + 5 < _; omega, by have := r.un; show A.units + 3 + 16 * k + 200 < _; omega⟩
theorem Room.in1 {k : Nat} {A : Around} (r : Room (k + 1) A) : Room k A.in1 :=
  ⟨r.hd, by have := r.dp; show A.depth + 3 * k + 5 < _; omega, by have := r.un; show A.units + 1 + 16 * k + 200 < _; omega⟩
theorem make_depth {A : Around} {C : Addr} {us : List Value} {kw : List (Str × Value)} : (A.under (.builtin "type.__call__" ⟨.ref C :: us, kw⟩)).depth = A.depth + 1 := by
  first | rfl | simp [Around.under, Code.weight, Code.isCreation, Code.isGuard, Code.isCaller, Code.frames, Code.isFrame, guardIds]
theorem make_units {A : Around} {C : Addr} {us : List Value} {kw : List (Str × Value)} : (A.under (.builtin "type.__call__" ⟨.ref C :: us, kw⟩)).units = A.units + 1 := by
  first | rfl | simp [Around.under, Code.cUnits, Code.frames, Code.isFrame]
theorem Room.make {k : Nat} {A : Around} (r : Room (k + 1) A) (C : Addr) (us : List Value) (kw : List (Str × Value)) : Room k (A.under (.builtin "type.__call__" ⟨.ref C :: us, kw⟩)) :=
  ⟨r.hd, by have := r.dp; rw [make_depth]; omega, by have := r.un; rw [make_units]; omega⟩
theorem Room.depth {k : Nat} {A : Around} (r : Room k A) : A.depth < recursionLimit := by have := r.dp; omega
theorem Room.units {k : Nat} {A : Around} (r : Room k A) : A.units + 64 < cLine := by have := r.un; omega
/-! ### argument lists and displays -/
def tNil : TA := fun _ H Q => Q [] H
def tCons (ta : TE) (tr : TA) : TA := fun σ H Q => ta σ H fun x H1 => tr σ H1 fun xs H2 => Q (x :: xs) H2
section
variable {X : Cx} {e : Expr} {es : List Expr} {te : TE} {t : TA} {pos : Pos}
theorem pa_nil : PA X [] tNil := fun _ _ _ _ H Q I h => Calls.spliced_nil ⟨[], H, I, .nil, h⟩
theorem pa_cons (ha : PE X e te) (hr : PA X es t) (hs : starEach (e :: es) X.env = (false, eval e X.env) :: starEach es X.env := by rfl) : PA X (e :: es) (tCons te t) := by
  intro pos pins s σ H Q I h
  rw [hs]
  show wpAny _ _ (spliced ((false, eval e X.env) :: backTo pos (starEach es X.env))) _ _ s
  refine Calls.spliced_cons (thn (ha pins s σ H _ I h) fun u s1 ⟨x, H1, I1, r1, q1⟩ => ?_)
  exact thn (hr pos pins s1 σ H1 _ I1 q1) fun us s2 ⟨xs, H2, I2, r2, q2⟩ => ⟨x :: xs, H2, I2, .cons r1 r2, q2⟩

/-- a tuple, a list of written items -/
def tTup (t : TA) : TE := fun σ H Q => t σ H fun xs H1 => xs.length ≤ sizeLine ∧ ∀ p, H1 p = none → Q (.ref p) (upd H1 p (.tup xs))
def tLst (t : TA) : TE := fun σ H Q => t σ H fun xs H1 => xs.length ≤ sizeLine ∧ ∀ p, H1 p = none → Q (.ref p) (upd H1 p (.lst xs))
theorem pe_tup {x1} (h : PA X es t) : PE X (.Tuple es x1 pos) (tTup t) := by
  intro pins s σ H Q I hq
  refine wpAny_Tuple_spliced (thn (h pos pins s σ H _ I hq) fun us s1 ⟨xs, H1, I1, r, z, q⟩ => ⟨by rw [← r.length]; exact z, ?_⟩)
  have hf : H1 s1.heap.objs.size = none := I1.hok.fresh (Nat.le_refl _)
  refine ⟨.ref s1.heap.objs.size, upd H1 s1.heap.objs.size (.tup xs), I1.laid (t' := s1.toks) (fun b u e => Heap.get?_push_of_some _ e) (Nat.le_refl _) ?_, rfl, q _ hf⟩
  exact ⟨⟨z, ⟨_, Heap.get?_push_size _ rfl, rfl⟩⟩, us, r, ⟨_, Heap.get?_push_size _ rfl, rfl, _, rfl⟩⟩
theorem pe_lst (h : PA X es t) : PE X (.List es pos) (tLst t) := by
  intro pins s σ H Q I hq
  refine wpAny_List_spliced (thn (h pos pins s σ H _ I hq) fun us s1 ⟨xs, H1, I1, r, z, q⟩ => ⟨by rw [← r.length]; exact z, ?_⟩)
  have hf : H1 s1.heap.objs.size = none := I1.hok.fresh (Nat.le_refl _)
  refine ⟨.ref s1.heap.objs.size, upd H1 s1.heap.objs.size (.lst xs), I1.laid (t' := s1.toks) (fun b u e => Heap.get?_push_of_some _ e) (Nat.le_refl _) ?_, rfl, q _ hf⟩
  exact ⟨z, us, 0, r, Heap.get?_push_size _ rfl⟩
end

/-! ### what a def promises -/
/-- a def's promise: the bound arguments in the parameters' order, the heap, the wanted end, the wanted exception -/
abbrev Sp := List V → Hp → VK → XK → Prop
/-- how an exception lies behind a call (file 08 gives it): the callers' frames, abstract heap and state ahead of the call, the wish, the exception, the state -/
abbrev CXT := List Env → Hp → Shared → XK → Value → Shared → Prop

/-- the state at a call -/
structure Env0 (P : Program) (w : World) (K : PySem.W.Frag) (mg : Str → Option Value) (base : Heap) (A : Around) (outer : List Env) (s : Shared) (H : Hp) : Prop where
  frames : A.frames = some outer
  mod : Mod K mg base
  bs : ∀ b o, base.get? b = some o → s.heap.get? b = some o ∧ H b = none
  bsz : base.objs.size ≤ s.heap.objs.size
  funs : s.heap.FunFrames base outer
  frf : ∀ b ∈ frs outer, H b = none
  hok : HOk P w H s.heap
  bare : AllBare s.gens
/-- a call's end -/
def CE (outer : List Env) (P : Program) (w : World) (H : Hp) (s : Shared) (Q : VK) (u : Value) (s' : Shared) : Prop :=
  ∃ v H', s'.os = s.os ∧ AllBare s'.gens ∧ Un (frs outer) [] H H' s.heap s'.heap ∧ HOk P w H' s'.heap ∧ RelV v u ∧ Q v H'
def CR (CX : CXT) (outer : List Env) (P : Program) (w : World) (H : Hp) (s : Shared) (Q : VK) (E : XK) (r : Result) (s' : Shared) : Prop :=
  match r with
  | .ok (.ret u) => CE outer P w H s Q u s'
  | .ok _ => False
  | .error e => CX outer H s E e s'
structure FnOk (P : Program) (w : World) (K : PySem.W.Frag) (mg : Str → Option Value) (base : Heap) (CX : CXT) (k : Nat) (f : Addr) (fd : FuncData) (ps : List Str) (sp : Sp) : Prop where
  len : ∀ vs H Q E, sp vs H Q E → vs.length = ps.length
  run : ∀ (A : Around) (outer : List Env) (s : Shared) (H : Hp) (args : Args) (us : List Value) (vs : List V) (Q : VK) (E : XK), Room k A → Env0 P w K mg base A outer s H → BindsTo s fd args (ps.zip us) → Vals vs us → sp vs H Q E →
    codeAny (model P w) A (.call (.ref f) args) (CR CX outer P w H s Q E) s
theorem FnOk.mono {P : Program} {w : World} {K : PySem.W.Frag} {mg : Str → Option Value} {base : Heap} {CX : CXT} {j k : Nat} {f : Addr} {fd : FuncData} {ps : List Str} {sp : Sp} (F : FnOk P w K mg base CX j f fd ps sp) (h : j ≤ k) :
    FnOk P w K mg base CX k f fd ps sp := ⟨F.len, fun A outer s H args us vs Q E hr => F.run A outer s H args us vs Q E (hr.mono h)⟩
/-- a weaker promise -/
theorem FnOk.imp {P : Program} {w : World} {K : PySem.W.Frag} {mg : Str → Option Value} {base : Heap} {CX : CXT} {k : Nat} {f : Addr} {fd : FuncData} {ps : List Str} {sp sp' : Sp} (F : FnOk P w K mg base CX k f fd ps sp)
    (h : ∀ vs H Q E, sp' vs H Q E → sp vs H Q E) : FnOk P w K mg base CX k f fd ps sp' :=
  ⟨fun vs H Q E q => F.len vs H Q E (h _ _ _ _ q), fun A outer s H args us vs Q E hr he hb hv hs => F.run A outer s H args us vs Q E hr he hb hv (h _ _ _ _ hs)⟩

theorem Env0.make {P : Program} {w : World} {K : PySem.W.Frag} {mg : Str → Option Value} {base : Heap} {A : Around} {outer : List Env} {s : Shared} {H : Hp} (e : Env0 P w K mg base A outer s H) (C : Addr) (us : List Value) (kw : List (Str × Value)) :
    Env0 P w K mg base (A.under (.builtin "type.__call__" ⟨.ref C :: us, kw⟩)) outer s H := ⟨by first | exact e.frames | (simpa [Around.under, Code.envs, Code.isFrame, pushEnvs] using e.frames), e.mod, e.bs, e.bsz, e.funs, e.frf, e.hok, e.bare⟩
theorem Env0.in1 {P : Program} {w : World} {K : PySem.W.Frag} {mg : Str → Option Value} {base : Heap} {A : Around} {outer : List Env} {s : Shared} {H : Hp} (e : Env0 P w K mg base A outer s H) :
    Env0 P w K mg base A.in1 outer s H := ⟨e.frames, e.mod, e.bs, e.bsz, e.funs, e.frf, e.hok, e.bare⟩

section
variable {X : Cx} {pins : List (Addr × Obj)} {σ : St} {H : Hp} {s s' : Shared}
/-- from a body: what a callee wants -/
theorem Inv.env0 (I : Inv X pins σ H s) : Env0 X.prog X.w X.K X.mg X.base X.A X.stack s H :=
  ⟨I.ok.frames, I.ok.mod, I.bs, Nat.le_trans I.ok.bsz I.sz, I.stack, I.stkFree, I.hok, I.bare⟩
/-- behind a call -/
theorem Inv.after {Q : VK} {u : Value} (I : Inv X pins σ H s) (h : CE X.stack X.prog X.w H s Q u s') : EP X pins σ Q u s' := by
  obtain ⟨v, H', os, bare, un, hok, r, q⟩ := h
  obtain ⟨hh, g, d, t, os'⟩ := s'
  obtain rfl : os' = s.os := os
  exact ⟨v, H', I.call (h' := hh) (g' := g) (d' := d) (t' := t) (ch := []) un hok bare (fun b z => absurd z (by simp)), r, q⟩
end

/-! ### calls -/
/-- f(..): the written arguments, then the defaults dvs; E: what is wanted of an exception -/
def tCall (sp : Sp) (dvs : List V) (E : XK) (t : TA) : TE := fun σ H Q => t σ H fun vs H1 => sp (vs ++ dvs) H1 Q E
/-- o.m(..) of an instance of the class at C -/
def tMeth (C : Addr) (m : Str) (sp : Sp) (dvs : List V) (E : XK) (ta : TE) (t : TA) : TE := fun σ H Q => ta σ H fun x H1 => ∃ a dx fs, x = .ref a ∧ H1 a = some (.ins C dx fs) ∧ fs.lookup m = none ∧
  t σ H1 fun vs H2 => sp (x :: (vs ++ dvs)) H2 Q E
/-- C(..): a new instance and its dict, then __init__ -/
def tMake (C : Addr) (sp : Sp) (dvs : List V) (E : XK) (t : TA) : TE := fun σ H Q => t σ H fun vs H1 => ∀ x dx, H1 x = none → H1 dx = none → dx ≠ x →
  sp (.ref x :: (vs ++ dvs)) (upd (upd H1 dx (.own x)) x (.ins C dx [])) (fun v H2 => v = .non ∧ Q (.ref x) H2) E

/-- how the parameters are bound: us the positional arguments, kw the keywords' values by name, ds the defaults that fill up -/
def Binds (K : PySem.W.Frag) (fd : FuncData) (ps : List Str) (ds : List Value) : Prop :=
  ∀ (s : Shared) (us : List Value), K.In s.heap → (us ++ ds).length = ps.length → BindsTo s fd ⟨us, []⟩ (ps.zip (us ++ ds))
/-- every parameter is given -/
theorem Binds.all {K : PySem.W.Frag} {fd : FuncData} {ps : List Str} (h : ∀ us : List Value, us.length = ps.length → bindArgs fd ⟨us, []⟩ = pure (ps.zip us)) : Binds K fd ps [] := fun s us _ hl => by
  rw [List.append_nil] at hl ⊢
  exact .of_eq (h us hl)

/-- an exception of a callee reaches what this body wants of exceptions -/
def Passes (CX : CXT) (X : Cx) (E : XK) : Prop := ∀ (pins : List (Addr × Obj)) (σ : St) (H : Hp) (s : Shared) (e : Value) (s' : Shared), Inv X pins σ H s → CX X.stack H s E e s' → X.xe e s'

section
variable {X : Cx} {CX : CXT} {k : Nat} {f C : Addr} {fd : FuncData} {ps : List Str} {sp : Sp} {dvs : List V} {ds : List Value} {E : XK} {x m : Str} {p pos apos : Pos} {e o : Expr} {es : List Expr} {ta : TE} {t : TA}

/-- the callee runs -/
theorem run_fn {pins : List (Addr × Obj)} {σ : St} {H : Hp} {s : Shared} {Q : VK} {us : List Value} {vs : List V} (F : FnOk X.prog X.w X.K X.mg X.base CX k f fd ps sp) (hr : Room k X.A) (hb : Binds X.K fd ps ds) (hd : Vals dvs ds) (hx : Passes CX X E)
    (I : Inv X pins σ H s) (r : Vals vs us) (h : sp (vs ++ dvs) H Q E) : wpAny (model X.prog X.w) X.A (call (.ref f) us) (EP X pins σ Q) X.xe s := by
  have r2 : Vals (vs ++ dvs) (us ++ ds) := r.append hd
  have hl : (us ++ ds).length = ps.length := by rw [← r2.length]; exact F.len _ _ _ _ h
  refine wpAny_call (codeAny_mono (F.run X.A X.stack s H ⟨us, []⟩ (us ++ ds) (vs ++ dvs) Q E hr I.env0 (hb s us I.kIn hl) r2 h) fun r s' hq => ?_)
  cases r with
  | error e => exact hx pins σ H s e s' I hq
  | ok fl =>
    cases fl with
    | ret u => exact I.after hq
    | next => exact False.elim hq
    | brk => exact False.elim hq
    | cont => exact False.elim hq

theorem pe_call (F : FnOk X.prog X.w X.K X.mg X.base CX k f fd ps sp) (hr : Room k X.A) (hg : Gl X x) (hm : X.mg x = some (.ref f)) (hk : PySem.W.keepIn X.K (.ref f) = true) (hb : Binds X.K fd ps ds) (hd : Vals dvs ds) (hx : Passes CX X E)
    (ha : PA X (e :: es) t) (hdb : (x == ("__debug__" : Str)) = false := by decide) (he : starEach (e :: es) X.env = (false, eval e X.env) :: starEach es X.env := by rfl) (hpl : (backTo pos (starEach es X.env)).any (·.1) = false := by rfl) :
    PE X (.Call (.Name x p) (e :: es) [] pos) (tCall sp dvs E t) := by
  intro pins s σ H Q I h
  refine wpAny_Call_Name_kw (ld_glob I hg hm ?_ hdb)
  refine PySem.W.callWith_K (h₀ := X.base) I.ok.mod.kin hk (thn (ha pos pins s σ H _ I h) fun us s1 ⟨vs, H1, I1, r, q⟩ => ⟨I1.kIn, ?_⟩) he hpl
  exact run_fn F hr hb hd hx I1 r q
/-- o.m(e, ..) -/
theorem pe_meth {pl : Sem Bool} (he : PE X o ta) (c : Cls X.K C) (hm : Meth X.K C m f) (F : FnOk X.prog X.w X.K X.mg X.base CX k f fd ps sp) (hr : Room k X.A) (hb : Binds X.K fd ps ds) (hd : Vals dvs ds) (hx : Passes CX X E) (ha : PA X (e :: es) t)
    (hst : starEach (e :: es) X.env = (false, eval e X.env) :: starEach es X.env := by rfl) (hpl : (backTo pos (starEach es X.env)).any (·.1) = false := by rfl)
    (ht : eval (.Call (.Attribute o m apos) (e :: es) [] pos) X.env = (do
      let ov ← eval o X.env
      standAt apos.atName
      let (f, first) ← holding [ov] (getMethod ov m pl)
      callWith pos f first (backTo pos (starEach (e :: es) X.env)) (backToKw pos (keywordEach [] X.env))) := by rfl) :
    PE X (.Call (.Attribute o m apos) (e :: es) [] pos) (tMeth C m sp dvs E ta t) := by
  intro pins s σ H Q I h
  refine PySem.W.methodCall_KW (pl := pl) (thn (he pins s σ H _ I h) fun u s1 ⟨x, H1, I1, rx, a, dx, fs, ex, ea, l, q⟩ => ?_) ht
  subst ex
  obtain rfl : u = Value.ref a := rx
  refine getmeth_ok I1 ea c hm l ?_
  refine PySem.W.callWith_K (first := [.ref a]) (h₀ := X.base) I.ok.mod.kin hm.kp (thn (ha pos pins s1 σ H1 _ I1 q) fun us s2 ⟨vs, H2, I2, r, q2⟩ => ⟨I2.kIn, ?_⟩) hst hpl
  exact run_fn (us := .ref a :: us) (vs := .ref a :: vs) F hr hb hd hx I2 (.cons rfl r) q2
/-- what a class must have to be made -/
structure Mk (K : PySem.W.Frag) (C f : Addr) : Prop where
  makes : PySem.W.makesIn K C = true
  init : PySem.W.findIn K (.ref C) "__init__" = some (some (.ref f))
  fn : PySem.W.isFn K (.ref f) = true
  kp : PySem.W.keepIn K (.ref C) = true

theorem run_make {pins : List (Addr × Obj)} {σ : St} {H : Hp} {s : Shared} {Q : VK} {us : List Value} {vs : List V} (M : Mk X.K C f) (F : FnOk X.prog X.w X.K X.mg X.base CX k f fd ps sp) (hr : Room (k + 1) X.A) (hb : Binds X.K fd ps ds) (hd : Vals dvs ds)
    (hx : Passes CX X E) (I : Inv X pins σ H s) (r : Vals vs us)
    (h : ∀ x dx, H x = none → H dx = none → dx ≠ x → sp (.ref x :: (vs ++ dvs)) (upd (upd H dx (.own x)) x (.ins C dx [])) (fun v H2 => v = .non ∧ Q (.ref x) H2) E) :
    wpAny (model X.prog X.w) X.A (call (.ref C) us) (EP X pins σ Q) X.xe s := by
  have hq := h (s.heap.objs.size + 1) s.heap.objs.size (I.hok.fresh (Nat.le_succ _)) (I.hok.fresh (Nat.le_refl _)) (Nat.ne_of_lt (Nat.lt_succ_self _))
  have I2 := Inv.made (C := C) I
  have r2 : Vals (V.ref (s.heap.objs.size + 1) :: (vs ++ dvs)) (Value.ref (s.heap.objs.size + 1) :: (us ++ ds)) := .cons rfl (r.append hd)
  have hl : (Value.ref (s.heap.objs.size + 1) :: us ++ ds).length = ps.length := by
    have e := r2.length
    rw [F.len _ _ _ _ hq] at e
    exact e.symm
  refine wpAny_call (make_map (f := f) I.kIn M.makes M.init (beq_iff_eq.mp M.fn) (codeAny_mono (F.run _ X.stack _ _ ⟨Value.ref (s.heap.objs.size + 1) :: us, []⟩ (Value.ref (s.heap.objs.size + 1) :: (us ++ ds)) _ _ E (hr.make C us [])
    (I2.env0.make C us []) (hb _ (Value.ref (s.heap.objs.size + 1) :: us) I2.kIn hl) r2 hq) fun r s' hq' => ?_))
  cases r with
  | error e => exact hx pins σ _ _ e s' I2 hq'
  | ok fl =>
    cases fl with
    | ret u =>
      obtain ⟨v, H', I3, rv, ev, q3⟩ := I2.after hq'
      subst ev
      exact ⟨rv, ⟨V.ref (s.heap.objs.size + 1), H', I3, rfl, q3⟩⟩
    | next => exact False.elim hq'
    | brk => exact False.elim hq'
    | cont => exact False.elim hq'
theorem pe_make (M : Mk X.K C f) (F : FnOk X.prog X.w X.K X.mg X.base CX k f fd ps sp) (hr : Room (k + 1) X.A) (hg : Gl X x) (hm : X.mg x = some (.ref C)) (hb : Binds X.K fd ps ds) (hd : Vals dvs ds) (hx : Passes CX X E)
    (ha : PA X (e :: es) t) (hdb : (x == ("__debug__" : Str)) = false := by decide) (he : starEach (e :: es) X.env = (false, eval e X.env) :: starEach es X.env := by rfl) (hpl : (backTo pos (starEach es X.env)).any (·.1) = false := by rfl) :
    PE X (.Call (.Name x p) (e :: es) [] pos) (tMake C sp dvs E t) := by
  intro pins s σ H Q I h
  refine wpAny_Call_Name_kw (ld_glob I hg hm ?_ hdb)
  refine PySem.W.callWith_K (h₀ := X.base) I.ok.mod.kin M.kp (thn (ha pos pins s σ H _ I h) fun us s1 ⟨vs, H1, I1, r, q⟩ => ⟨I1.kIn, ?_⟩) he hpl
  exact run_make M F hr hb hd hx I1 r q
end

/-! ### keywords -/
/-- the values of the keywords, from the left -/
def PK (X : Cx) (kws : List Keyword) (t : TA) : Prop :=
  ∀ (pos : Pos) (pins : List (Addr × Obj)) (s : Shared) (σ : St) (H : Hp) (Q : List V → Hp → Prop), Inv X pins σ H s → t σ H Q → wpAny (model X.prog X.w) X.A (evalAll ((backToKw pos (keywordEach kws X.env)).map (·.2))) (AP X pins σ Q) X.xe s
section
variable {X : Cx} {CX : CXT} {k : Nat} {f C : Addr} {fd : FuncData} {ps ks : List Str} {sp : Sp} {E : XK} {x m : Str} {p pos apos kpos : Pos} {e o : Expr} {es : List Expr} {kws : List Keyword} {te ta : TE} {t tk : TA} {nm : Option Str}
/-- how a call with keywords binds: g puts the positional values us and the keywords' values ws (names ks) in the parameters' order, defaults among them -/
structure KBinds (K : PySem.W.Frag) (fd : FuncData) (ps ks : List Str) (g : List Value → List Value → List Value) (gV : List V → List V → List V) : Prop where
  to : ∀ (s : Shared) (us ws : List Value), K.In s.heap → (g us ws).length = ps.length → BindsTo s fd ⟨us, ks.zip ws⟩ (ps.zip (g us ws))
  rel : ∀ {vs : List V} {us : List Value} {zs : List V} {ws : List Value}, Vals vs us → Vals zs ws → Vals (gV vs zs) (g us ws)
def tCallK (sp : Sp) (gV : List V → List V → List V) (E : XK) (t tk : TA) : TE := fun σ H Q => t σ H fun vs H1 => tk σ H1 fun zs H2 => sp (gV vs zs) H2 Q E
variable {g : List Value → List Value → List Value} {gV : List V → List V → List V}
end

/-! ### a def's body keeps its promise -/
/-- names: the parameters first -/
structure FnScope (N P : List Str) (sc : Scope) : Prop where
  kind : sc.kind = .function
  co : sc.isCoroutine = false
  gen : sc.isGenerator = false
  nd : N.Nodup
  pre : N.take P.length = P
  par : ∀ x ∈ P, sc.names.lookup x = some .local ∨ sc.names.lookup x = some .cell
  nofree : ∀ y ∈ sc.names, y.2 ≠ .free

theorem bindL_out {kindOf : Str → Option NameKind} {x : Str} : ∀ {binds : List (Str × Value)} {m : Str → Option Value}, (∀ v, (x, v) ∉ binds) → bindL kindOf binds m x = m x
  | [], _, _ => rfl
  | (n, v) :: r, m, h => by
    unfold bindL
    rw [bindL_out fun w hw => h w (List.mem_cons_of_mem _ hw)]
    split
    · have : x ≠ n := by rintro rfl; exact h v List.mem_cons_self
      simp [this]
    · rfl
theorem bindC_out {kindOf : Str → Option NameKind} {x : Str} : ∀ {binds : List (Str × Value)} {m : Str → Option Value}, (∀ v, (x, v) ∉ binds) → bindC kindOf binds m x = m x
  | [], _, _ => rfl
  | (n, v) :: r, m, h => by
    unfold bindC
    rw [bindC_out fun w hw => h w (List.mem_cons_of_mem _ hw)]
    split
    · rfl
    · have : x ≠ n := by rintro rfl; exact h v List.mem_cons_self
      simp [this]
theorem bindL_get {kindOf : Str → Option NameKind} {x : Str} {v : Value} : ∀ {P : List Str} {vs : List Value} {i : Nat} {m : Str → Option Value}, P.Nodup → P[i]? = some x → vs[i]? = some v → kindOf x = some .local →
    bindL kindOf (P.zip vs) m x = some v
  | [], _, _, _, _, h, _, _ => by simp at h
  | _ :: _, [], _, _, _, _, h, _ => by simp at h
  | p :: P, w :: vs, 0, m, nd, h1, h2, hk => by
    simp at h1 h2; subst h1; subst h2
    show bindL kindOf ((p, w) :: P.zip vs) m p = _
    unfold bindL
    rw [bindL_out fun v hv => (List.nodup_cons.mp nd).1 (List.of_mem_zip hv).1, if_pos hk]
    simp
  | p :: P, w :: vs, i + 1, m, nd, h1, h2, hk => by
    show bindL kindOf ((p, w) :: P.zip vs) m x = _
    unfold bindL
    exact bindL_get (i := i) (List.nodup_cons.mp nd).2 (by simpa using h1) (by simpa using h2) hk
theorem bindC_get {kindOf : Str → Option NameKind} {x : Str} {v : Value} : ∀ {P : List Str} {vs : List Value} {i : Nat} {m : Str → Option Value}, P.Nodup → P[i]? = some x → vs[i]? = some v → kindOf x ≠ some .local →
    bindC kindOf (P.zip vs) m x = some v
  | [], _, _, _, _, h, _, _ => by simp at h
  | _ :: _, [], _, _, _, _, h, _ => by simp at h
  | p :: P, w :: vs, 0, m, nd, h1, h2, hk => by
    simp at h1 h2; subst h1; subst h2
    show bindC kindOf ((p, w) :: P.zip vs) m p = _
    unfold bindC
    rw [bindC_out fun v hv => (List.nodup_cons.mp nd).1 (List.of_mem_zip hv).1, if_neg hk]
    simp
  | p :: P, w :: vs, i + 1, m, nd, h1, h2, hk => by
    show bindC kindOf ((p, w) :: P.zip vs) m x = _
    unfold bindC
    exact bindC_get (i := i) (List.nodup_cons.mp nd).2 (by simpa using h1) (by simpa using h2) hk

/-- the names' values at the entry -/
def start (N : List Str) (vs : List V) : St := vs.map some ++ List.replicate (N.length - vs.length) none

/-- the context of a def's body, at its entry; an exception leaves the frame, then lies as CX says -/
def cxOf (CX : CXT) (P : Program) (w : World) (K : PySem.W.Frag) (mg : Str → Option Value) (base : Heap) (N : List Str) (qual : Str) (scope : Scope) (f : Addr) (cd : Value) (A : Around) (outer : List Env) (s : Shared) (H : Hp) (E : XK) : Cx where
  prog := P
  w := w
  K := K
  mg := mg
  base := base
  A := A.deeper (envOfC qual scope s.heap.objs.size f cd)
  N := N
  s₀ := s
  H₀ := H
  env := envOfC qual scope s.heap.objs.size f cd
  outer := outer
  stack := envOfC qual scope s.heap.objs.size f cd :: outer
  ex := []
  calm := true
  fn := fun _ => true
  pn := []
  xe := fun e s' => wpAny (model P w) (A.deeper (envOfC qual scope s.heap.objs.size f cd)) (leaving (envOfC qual scope s.heap.objs.size f cd) e) (fun _ s'' => CX outer H s E e s'') (fun e' s'' => CX outer H s E e' s'') s'

theorem cell_has {sc : Scope} {n : Nat} {x : Str} (h : sc.names.lookup x = some .cell) : ∃ c, (cellsFrom n sc.names []).lookup x = some c := by
  have q := PySem.W.cellsFrom_some sc.names n [] (.inl h)
  exact Option.isSome_iff_exists.mp q

theorem inv_start {CX : CXT} {P : Program} {w : World} {K : PySem.W.Frag} {mg : Str → Option Value} {base : Heap} {N ps : List Str} {qual : Str} {scope : Scope} {f : Addr} {cd : Value} {A : Around} {outer : List Env} {s s1 : Shared} {H : Hp} {E : XK} {us : List Value} {vs : List V}
    (S : FnScope N ps scope) (hd : A.handled = none) (e0 : Env0 P w K mg base A outer s H) (hl : vs.length = ps.length) (r : Vals vs us)
    (x : InCallC s s.heap.objs.size (bindL (envOfC qual scope s.heap.objs.size f cd).kindOf (ps.zip us) fun _ => none) (cellsFrom (s.heap.objs.size + 1) scope.names []) (bindC (envOfC qual scope s.heap.objs.size f cd).kindOf (ps.zip us) fun _ => none) s1) :
    Inv (cxOf CX P w K mg base N qual scope f cd A outer s H E) [] (start N vs) H s1 := by
  have hpl : ps.length ≤ N.length := by have := congrArg List.length S.pre; rw [List.length_take] at this; omega
  obtain ⟨h1, tk, rfl, hk⟩ := x.done
  have noA : ∀ b : Addr, b ∉ (cxOf CX P w K mg base N qual scope f cd A outer s H E).ex := fun b z => absurd (show b ∈ ([] : List Addr) from z) (by simp)
  refine ⟨⟨e0.mod, S.kind, rfl, rfl, Nat.le_refl _, fun y z c h1 h2 => ?_, fun y hy => ?_, fun y c _ h => ?_, fun _ => hd, Around.frames_deeper e0.frames, .inr ⟨rfl, rfl⟩, fun b z => absurd z (noA b), e0.bs, e0.bsz, fun b _ _ => noA b, fun b z => absurd z (noA b), e0.funs, e0.frf⟩,
    rfl, e0.bare, Un.kept hk, ⟨_, x.toInCall.ns, fun i y v h1 h2 h3 => ?_⟩, fun y c h => ⟨_, x.cell y c h⟩, e0.hok.fresh (Nat.le_refl _), fun y c h => ?_, fun p hp => absurd (show p ∈ ([] : List (Addr × Obj)) from hp) (by simp), e0.hok.kept hk, ?_⟩
  · exact name_of_addr x.apart (PySem.mem_of_lookup h1) (PySem.mem_of_lookup h2)
  · have hy : scope.names.lookup y = some .cell ∨ scope.names.lookup y = some .free := hy
    rcases hy with hy | hy
    · exact cell_has hy
    · exact absurd rfl (S.nofree _ (PySem.mem_of_lookup hy))
  · exact Nat.le_of_lt (x.above y c (PySem.mem_of_lookup h))
  · have hi : i < vs.length := by
      unfold start at h2
      by_cases hi : i < vs.length
      · exact hi
      · rw [List.getElem?_append_right (by simpa using hi)] at h2
        rw [List.getElem?_replicate] at h2
        split at h2 <;> cases h2
    have ha : vs[i]? = some v := by
      unfold start at h2
      rw [List.getElem?_append_left (by simpa using hi), List.getElem?_map] at h2
      cases e : vs[i]? with
      | none => rw [e] at h2; cases h2
      | some a => rw [e] at h2; cases h2; rfl
    obtain ⟨u, hu, rv⟩ := r.get ha
    have hp : ps[i]? = some y := by
      rw [← S.pre, List.getElem?_take_of_lt (by omega)]; exact h1
    have ndP : ps.Nodup := by rw [← S.pre]; exact S.nd.sublist (List.take_sublist _ _)
    refine ⟨u, rv, ?_⟩
    rcases S.par y (List.mem_of_getElem? hp) with k | k
    · exact .inl ⟨k, bindL_get ndP hp hu k⟩
    · obtain ⟨c, e⟩ := cell_has (n := s.heap.objs.size + 1) k
      refine .inr ⟨.inl k, c, e, ?_⟩
      have q := x.cell y c e
      rw [bindC_get ndP hp hu (by show scope.names.lookup y ≠ _; rw [k]; decide)] at q
      exact q
  · exact e0.hok.fresh (Nat.le_of_lt (x.above y c (PySem.mem_of_lookup h)))
  · unfold start
    show _ = N.length
    rw [List.length_append, List.length_map, List.length_replicate]
    omega

/-- THE RULE: a def (or a method) of the text, by its body. The body's reading t is chosen for each entry; it is run at the parameters' values -/
theorem fn_of {CX : CXT} {P : Program} {w : World} {K : PySem.W.Frag} {mg : Str → Option Value} {base : Heap} {k : Nat} {f : Addr} {name qual : Str} {params : Arguments} {body : List Stmt} {scope : Scope} {dV kV doc pm cdv ct oc : Value} {an od : Option Addr}
    {osl : Array (Option Value)} {N ps : List Str} {sp : Sp} (lk : K.lookup f = some ⟨oc, od, .func (PySem.W.fnOf name qual params body scope dV kV doc pm an cdv ct), osl⟩) (hcd : PySem.W.codeIn K cdv qual = true) (S : FnScope N ps scope)
    (len : ∀ vs H Q E, sp vs H Q E → vs.length = ps.length)
    (hbody : ∀ (A : Around) (outer : List Env) (s : Shared) (H : Hp) (vs : List V) (Q : VK) (E : XK), Room k (A.deeper (envOfC qual scope s.heap.objs.size f cdv)) → sp vs H Q E →
      ∃ t, PSs (cxOf CX P w K mg base N qual scope f cdv A outer s H E) body t ∧ t { nx := fun _ H' => Q .non H', rt := Q } (start N vs) H) :
    FnOk P w K mg base CX (k + 1) f (PySem.W.fnOf name qual params body scope dV kV doc pm an cdv ct) ps sp := by
  refine ⟨len, fun A outer s H args us vs Q E hr e0 hb r hsp => ?_⟩
  have hl := len _ _ _ _ hsp
  have KX : K.In s.heap := e0.mod.kin.keeps fun b o e => (e0.bs b o e).1
  have lim : s.heap.NoLimit := e0.mod.nolimit.keeps fun b o e => (e0.bs b o e).1
  have hkind : ∀ y ∈ ps.zip us, scope.names.lookup y.1 = some .local ∨ (scope.names.lookup y.1 = some .cell ∧ ((cellsFrom (s.heap.objs.size + 1) scope.names []).lookup y.1).isSome = true) := fun ⟨n, v⟩ hy => by
    rcases S.par n (List.of_mem_zip hy).1 with q | q
    · exact .inl q
    · exact .inr ⟨q, PySem.W.cellsFrom_some _ _ _ (.inl q)⟩
  refine codeAny_call_function hr.depth (KX _ _ lk) rfl S.co S.gen rfl (PySem.W.codeRec_of KX hcd) (hb _ _ _ _ ?_)
  refine wpAny_newFunctionEnv_cells S.kind hkind fun env he s1 x => ?_
  subst he
  refine ⟨lim.keeps x.toInCall.keep, codeAny_func ?_⟩
  obtain ⟨t, ht, hq⟩ := hbody A outer s H vs Q E (hr.deeper _) hsp
  have I : Inv (cxOf CX P w K mg base N qual scope f cdv A outer s H E) [] (start N vs) H s1 := inv_start S hr.hd e0 hl r x
  refine wpAny_mono (ht [] s1 (start N vs) H _ I hq) (fun fl s' hs => ?_) fun e s' hs => hs
  have fin : ∀ {σ' : St} {H' : Hp} {v : V} {u : Value}, Inv (cxOf CX P w K mg base N qual scope f cdv A outer s H E) [] σ' H' s' → RelV v u → Q v H' → CE outer P w H s Q u s' :=
    fun {σ' H' v u} J rv q => ⟨v, H', J.os, J.bare, J.base, J.hok, rv, q⟩
  cases fl with
  | ret u =>
    obtain ⟨v, σ', H', J, rv, q⟩ := hs
    exact fin J rv q
  | next =>
    obtain ⟨σ', H', J, q⟩ := hs
    exact fin (v := V.non) (u := Value.none) J rfl q
  | brk =>
    obtain ⟨_, _, _, q⟩ := hs
    exact False.elim q
  | cont =>
    obtain ⟨_, _, _, q⟩ := hs
    exact False.elim q
end L2

namespace L2
open PySem PySem.Spec PyProof.Rows
section
variable {X : Cx} {x : Str} {p pos : Pos} {e : Expr} {es : List Expr} {t : TA} {id T : String} {r : List V → Hp → VK → Prop}

def tCB (r : List V → Hp → VK → Prop) (t : TA) : TE := fun σ H Q => t σ H fun vs H1 => r vs H1 Q
/-- f(e, ..), f a built-in function -/
theorem pe_callB (hc : CallR X (.builtin id) r) (hg : Gl X x) (hm : X.mg x = none) (hv : bootBuiltins x = some (.builtin id)) (ha : PA X (e :: es) t) (hn : x ≠ "__name__" := by decide) (hdb : (x == ("__debug__" : Str)) = false := by decide)
    (he : starEach (e :: es) X.env = (false, eval e X.env) :: starEach es X.env := by rfl) (hpl : (backTo pos (starEach es X.env)).any (·.1) = false := by rfl) : PE X (.Call (.Name x p) (e :: es) [] pos) (tCB r t) := by
  intro pins s σ H Q I h
  refine wpAny_Call_Name_kw (ld_blt I hg hm hv ?_ hn hdb)
  exact PyProof.Rows.callWith_builtin1 (thn (ha pos pins s σ H _ I h) fun us s1 ⟨vs, H1, I1, r1, q1⟩ => hc pins s1 σ H1 vs us Q I1 r1 q1) he hpl
/-- T(e, ..), T a built-in type -/
theorem pe_callTy (hc : CallR X (.type T) r) (hg : Gl X x) (hm : X.mg x = none) (hv : bootBuiltins x = some (.type T)) (ha : PA X (e :: es) t) (hn : x ≠ "__name__" := by decide) (hdb : (x == ("__debug__" : Str)) = false := by decide)
    (he : starEach (e :: es) X.env = (false, eval e X.env) :: starEach es X.env := by rfl) (hpl : (backTo pos (starEach es X.env)).any (·.1) = false := by rfl) : PE X (.Call (.Name x p) (e :: es) [] pos) (tCB r t) := by
  intro pins s σ H Q I h
  refine wpAny_Call_Name_kw (ld_blt I hg hm hv ?_ hn hdb)
  exact PyProof.Rows.callWith_type1 (thn (ha pos pins s σ H _ I h) fun us s1 ⟨vs, H1, I1, r1, q1⟩ => hc pins s1 σ H1 vs us Q I1 r1 q1) he hpl
end
end L2

namespace HT
open PySem PyProof.Rows

/-- t < u of tuples of ints -/
def lexLt : List Int → List Int → Bool
  | [], [] => false
  | [], _ :: _ => true
  | _ :: _, [] => false
  | x :: xs, y :: ys => if x = y then lexLt xs ys else decide (x < y)
section
open PySem.SeqAt
open PySem.AutoSeq1 (wpAny_loadPart')
open PySem.MeetsSeq PySem.MeetsSeq2 PySem.MeetsSeq3

end

section
variable {prog : Program} {w : World} {A : Around} {E : Value → Shared → Prop} {s : Shared}

/-! ### t[a:b], not the whole -/
/-- a slice's bound as a place among n (d where it is left out) -/
def sIx (n d : Nat) : Option Int → Nat
  | none => d
  | some v => if v < 0 then (v + (n : Int)).toNat else min v.toNat n
theorem sIx_none (n d : Nat) : sIx n d none = d := rfl
theorem sIx_nat (n d k : Nat) : sIx n d (some (k : Int)) = min k n := by
  show (if (k : Int) < 0 then ((k : Int) + (n : Int)).toNat else min (k : Int).toNat n) = min k n
  rw [if_neg (by omega), Int.toNat_natCast]
end
end HT

namespace L2
open PySem PySem.Spec PyProof.Rows

/-! ### the parts of a slice -/
abbrev TO := St → Hp → (Option Int → Hp → Prop) → Prop
/-- a slice's part (left out, or an int) -/
def PO (X : Cx) (e : Option Expr) (t : TO) : Prop :=
  ∀ (pins : List (Addr × Obj)) (s : Shared) (σ : St) (H : Hp) (Q : Option Int → Hp → Prop), Inv X pins σ H s → t σ H Q →
    wpAny (model X.prog X.w) X.A (evalPart e X.env) (fun u s' => ∃ o H', Inv X pins σ H' s' ∧ IsPart u o ∧ Q o H') X.xe s
def tNoPart : TO := fun _ H Q => Q none H
def tPart (t : TE) : TO := fun σ H Q => t σ H fun x H1 => ∃ i, x = .int i ∧ Q (some i) H1

theorem intsAre_of {ns : List Int} : ∀ {us : List Value}, Vals (ns.map V.int) us → IntsAre us ns := by
  induction ns with
  | nil => intro us r; rw [List.map_nil] at r; cases r; exact .nil
  | cons n ns ih =>
    intro us r
    rw [List.map_cons] at r
    cases r with
    | cons r1 r2 =>
      obtain ⟨t, e⟩ := r1
      subst e
      exact .cons n t (ih r2)

section
variable {X : Cx} {e : Expr} {te : TE} {lo hi : Option Expr} {tl th : TO} {pos p2 : Pos}

theorem po_none : PO X none tNoPart := by
  intro pins s σ H Q I h
  rw [evalPart_none]
  exact wpAny_pure ⟨none, H, I, .none, h⟩
theorem po_some (h : PE X e te) : PO X (some e) (tPart te) := by
  intro pins s σ H Q I hw
  rw [evalPart_some]
  refine thn (h pins s σ H _ I hw) fun u s1 ⟨x, H1, I1, r1, q1⟩ => ?_
  obtain ⟨i, rfl, q⟩ := q1
  obtain ⟨t, rfl⟩ := r1
  exact ⟨some i, H1, I1, .int i t, q⟩

/-- what a slice of a value is, by values: the slice object stands at sl -/
def SlR (X : Cx) (r : V → Option Int → Option Int → Hp → VK → Prop) : Prop :=
  ∀ (pins : List (Addr × Obj)) (s : Shared) (σ : St) (H : Hp) (x : V) (v vl vu : Value) (lo hi : Option Int) (sl : Addr) (Q : VK), Inv X pins σ H s → RelV x v → s.heap.IsSliceOf sl vl vu .none → IsPart vl lo → IsPart vu hi → r x lo hi H Q →
    ∃ T id, typeLookup (.type T) "__getitem__" = pure (some (.builtin id)) ∧ s.TypeIs v T ∧ wpAny (model X.prog X.w) X.A (getItem v (.ref sl)) (EP X pins σ Q) X.xe s
theorem SlR.or {r r' : V → Option Int → Option Int → Hp → VK → Prop} (h : SlR X r) (h' : SlR X r') : SlR X (fun x lo hi H Q => r x lo hi H Q ∨ r' x lo hi H Q) := by
  intro pins s σ H x v vl vu lo hi sl Q I rx hs pl pu q
  rcases q with q | q
  · exact h pins s σ H x v vl vu lo hi sl Q I rx hs pl pu q
  · exact h' pins s σ H x v vl vu lo hi sl Q I rx hs pl pu q
def tSl (r : V → Option Int → Option Int → Hp → VK → Prop) (te : TE) (tl th : TO) : TE := fun σ H Q => te σ H fun x H1 => tl σ H1 fun l H2 => th σ H2 fun u H3 => r x l u H3 Q
/-- a[lo:hi], any a -/
theorem pe_slice {r : V → Option Int → Option Int → Hp → VK → Prop} (hr : SlR X r) (he : PE X e te) (hl : PO X lo tl) (hu : PO X hi th) : PE X (.Subscript e (.Slice lo hi none p2) pos) (tSl r te tl th) := by
  intro pins s σ H Q I h
  refine Subscript_ (thn (he pins s σ H _ I h) fun v s1 ⟨x, H1, I1, r1, q1⟩ => ?_)
  refine wpAny_Slice (thn (hl pins s1 σ H1 _ I1 q1) fun vl s2 ⟨l, H2, I2, pl, q2⟩ => thn (hu pins s2 σ H2 _ I2 q2) fun vu s3 ⟨u, H3, I3, pu, q3⟩ => ?_)
  rw [evalPart_none]
  refine wpAny_pure ?_
  have I4 : Inv X pins σ H3 { s3 with heap := s3.heap.push { cls := .type "slice", data := .fields #[vl, vu, .none] } } := I3.kept (t' := s3.toks) fun b ob q => Heap.get?_push_of_some _ q
  obtain ⟨T, id, hT, ht, hg⟩ := hr pins { s3 with heap := s3.heap.push { cls := .type "slice", data := .fields #[vl, vu, .none] } } σ H3 x v vl vu l u s3.heap.objs.size Q I4 r1 (Heap.IsSliceOf.new ..) pl pu q3
  show wpAny (model X.prog X.w) X.A (subscriptTail e (.Slice lo hi none p2) v (.ref s3.heap.objs.size)) (EP X pins σ Q) X.xe { s3 with heap := s3.heap.push { cls := .type "slice", data := .fields #[vl, vu, .none] } }
  exact tail_any (ops := [.ref s3.heap.objs.size, v]) ht hT hg (by with_unfolding_all rfl)

/-- the items of xs[lo:hi] -/
def cutV (xs : List V) (lo hi : Option Int) : List V := (xs.drop (HT.sIx xs.length 0 lo)).take (HT.sIx xs.length xs.length hi - HT.sIx xs.length 0 lo)
theorem cutV_length (xs : List V) (lo hi : Option Int) : (cutV xs lo hi).length ≤ xs.length := by
  unfold cutV
  rw [List.length_take, List.length_drop]
  omega
/-- t[lo:hi], not the whole of it (the whole would be t itself) -/
def rSlT (K : PySem.W.Frag) : V → Option Int → Option Int → Hp → VK → Prop := fun x lo hi H Q => ∃ a xs, x = .ref a ∧ SqT K H a xs ∧
  ¬ (HT.sIx xs.length 0 lo = 0 ∧ HT.sIx xs.length xs.length hi = xs.length) ∧ ∀ p, H p = none → Q (.ref p) (upd H p (.tup (cutV xs lo hi)))
/-! ### t < u, t + u -/
def rLtT (K : PySem.W.Frag) : R2 := fun x y H Q => ∃ a b ns ms, x = .ref a ∧ y = .ref b ∧ SqT K H a (ns.map V.int) ∧ SqT K H b (ms.map V.int) ∧ Q (.bl (HT.lexLt ns ms)) H
/-- t + u, t not empty: u empty gives t itself -/
def rCatT (K : PySem.W.Frag) : R2 := fun x y H Q => ∃ a b xs ys, x = .ref a ∧ y = .ref b ∧ SqT K H a xs ∧ SqT K H b ys ∧ xs ≠ [] ∧ xs.length + ys.length ≤ sizeLine ∧
  (ys = [] → Q (.ref a) H) ∧ (ys ≠ [] → ∀ p, H p = none → Q (.ref p) (upd H p (.tup (xs ++ ys))))
end
end L2

namespace L2
open PySem PySem.Spec PyProof.Rows

/-! ### places -/
/-- the place that an index of any sign means -/
def ixN (n : Nat) (i : Int) : Option Nat := if 0 ≤ i then (if i < n then some i.toNat else none) else if -(n : Int) ≤ i then some (i + n).toNat else none
def atI {α : Type} (xs : List α) (i : Int) : Option α := (ixN xs.length i).bind fun j => xs[j]?
theorem ixN_seq {n : Nat} {i : Int} {j : Nat} (h : ixN n i = some j) : seqIndex? i n = some j ∧ j < n ∧ -(n : Int) ≤ i ∧ i < n := by
  unfold ixN at h
  by_cases h0 : 0 ≤ i
  · rw [if_pos h0] at h
    by_cases h1 : i < n
    · rw [if_pos h1] at h
      have e : i.toNat = j := Option.some.inj h
      exact ⟨by rw [seqIndex_of h0 h1, e], by omega, by omega, h1⟩
    · rw [if_neg h1] at h; cases h
  · rw [if_neg h0] at h
    by_cases h1 : -(n : Int) ≤ i
    · rw [if_pos h1] at h
      have e : (i + n).toNat = j := Option.some.inj h
      exact ⟨by rw [seqIndex_neg (by omega) h1, e], by omega, h1, by omega⟩
    · rw [if_neg h1] at h; cases h
theorem atI_get {α : Type} {xs : List α} {i : Int} {v : α} (h : atI xs i = some v) : ∃ j, seqIndex? i xs.length = some j ∧ xs[j]? = some v ∧ j < xs.length ∧ -(xs.length : Int) ≤ i ∧ i < xs.length := by
  unfold atI at h
  cases e : ixN xs.length i with
  | none => rw [e] at h; cases h
  | some j =>
    rw [e] at h
    obtain ⟨h1, h2, h3, h4⟩ := ixN_seq e
    exact ⟨j, h1, h, h2, h3, h4⟩
theorem atI_nat {α : Type} {xs : List α} {j : Nat} {v : α} (h : xs[j]? = some v) : atI xs (j : Int) = some v := by
  have hj : j < xs.length := (List.getElem?_eq_some_iff.mp h).1
  have e : ixN xs.length (j : Int) = some j := by
    unfold ixN
    rw [if_pos (by omega), if_pos (by omega)]; simp
  unfold atI; rw [e]; exact h
/-! ### what may be subscripted -/
/-- what stands as an index of a plain subscript -/
def PlainIx (b : Expr) : Prop := ∀ o i, subscripted b false o i = operate [o, i] (getItem o i)
/-- a subscript by values -/
def IxR (X : Cx) (r : R2) : Prop :=
  ∀ (value slice : Expr) (pins : List (Addr × Obj)) (s : Shared) (σ : St) (H : Hp) (x y : V) (v u : Value) (Q : VK), Inv X pins σ H s → RelV x v → RelV y u → r x y H Q →
    subscripted slice false v u = operate [v, u] (getItem v u) → wpAny (model X.prog X.w) X.A (subscriptTail value slice v u) (EP X pins σ Q) X.xe s
/-- a call of a builtin's method by values: the receiver, the arguments -/
def MtR (X : Cx) (id : String) (r : V → List V → Hp → VK → Prop) : Prop :=
  ∀ (pins : List (Addr × Obj)) (s : Shared) (σ : St) (H : Hp) (x : V) (xs : List V) (v : Value) (us : List Value) (Q : VK), Inv X pins σ H s → RelV x v → Vals xs us → r x xs H Q →
    wpAny (model X.prog X.w) X.A (call (.builtin id) (v :: us)) (EP X pins σ Q) X.xe s
section
variable {X : Cx} {a b : Expr} {ta tb : TE} {pos : Pos}
theorem IxR.or {r r' : R2} (h : IxR X r) (h' : IxR X r') : IxR X (fun x y H Q => r x y H Q ∨ r' x y H Q) := by
  intro value slice pins s σ H x y v u Q I rx ry q hs
  rcases q with q | q
  · exact h value slice pins s σ H x y v u Q I rx ry q hs
  · exact h' value slice pins s σ H x y v u Q I rx ry q hs
theorem MtR.or {id : String} {r r' : V → List V → Hp → VK → Prop} (h : MtR X id r) (h' : MtR X id r') : MtR X id (fun x xs H Q => r x xs H Q ∨ r' x xs H Q) := by
  intro pins s σ H x xs v us Q I rx rs q
  rcases q with q | q
  · exact h pins s σ H x xs v us Q I rx rs q
  · exact h' pins s σ H x xs v us Q I rx rs q
/-- a[b] -/
theorem pe_ix {r : R2} (hr : IxR X r) (ha : PE X a ta) (hb : PE X b tb) (hs : PlainIx b) : PE X (.Subscript a b pos) (tOp r ta tb) := by
  intro pins s σ H Q I h
  exact Subscript_ (binT ha hb I h fun v u s2 x y H2 I2 rx ry q => hr a b pins s2 σ H2 x y v u Q I2 rx ry q (hs _ _))

def rIxL (K : PySem.W.Frag) : R2 := fun x y H Q => ∃ p xs i v, x = .ref p ∧ y = .int i ∧ SqL K H p xs ∧ atI xs i = some v ∧ Q v H
def rIxT (K : PySem.W.Frag) : R2 := fun x y H Q => ∃ p xs i v, x = .ref p ∧ y = .int i ∧ SqT K H p xs ∧ atI xs i = some v ∧ Q v H
def rIxS : R2 := fun x y H Q => ∃ z i c, x = .str z ∧ y = .int i ∧ z.length ≤ sizeLine ∧ atI z.cps.toList i = some c ∧ Q (.str ⟨#[c]⟩) H
theorem ix_list : IxR X (rIxL X.K) := by
  intro value slice pins s σ H x y v u Q I rx ry h hs
  obtain ⟨p, xs, i, z, rfl, rfl, hq, he, q⟩ := h
  cases rx
  obtain ⟨t, rfl⟩ := ry
  obtain ⟨its, r, pl, hz⟩ := I.list hq
  obtain ⟨j, h1, h2, h3, h4, h5⟩ := atI_get he
  obtain ⟨w, ew, rw'⟩ := r.get h2
  have hl := r.length
  have hn := line63
  have fin : EP X pins σ Q w s := ⟨z, H, I, rw', q⟩
  by_cases h0 : 0 ≤ i
  · have hj : i.toNat = j := by
      rw [seqIndex_of h0 h5] at h1
      exact Option.some.inj h1
    exact item_listR pl.isList h0 (by omega) (by rw [hj]; simpa using ew) fin hs
  · have hj : (i + (its.toArray.size : Int)).toNat = j := by
      rw [seqIndex_neg (by omega) h4] at h1
      rw [List.size_toArray, ← hl]
      exact Option.some.inj h1
    exact subscriptTail_builtinR (x := w) pl.isList.typeIs slot_list_getitem.lookup
      (wpAny_getItem_list_neg (Q := fun r s' => r = w ∧ EP X pins σ Q r s') pl.isList (by omega) (by rw [List.size_toArray] <;> omega) (by omega) (by rw [hj]; simpa using ew) ⟨rfl, fin⟩) hs
theorem ix_tup : IxR X (rIxT X.K) := by
  intro value slice pins s σ H x y v u Q I rx ry h hs
  obtain ⟨p, xs, i, z, rfl, rfl, hq, he, q⟩ := h
  cases rx
  obtain ⟨t, rfl⟩ := ry
  obtain ⟨its, r, pl, hz⟩ := I.tuple hq
  obtain ⟨j, h1, h2, h3, h4, h5⟩ := atI_get he
  obtain ⟨w, ew, rw'⟩ := r.get h2
  have hl := r.length
  have hn := line63
  have fin : EP X pins σ Q w s := ⟨z, H, I, rw', q⟩
  exact subscriptTail_builtinR (x := w) pl.typeIs slot_tuple_getitem.lookup
    (getItem_tuple (j := j) (Q := fun r s' => r = w ∧ EP X pins σ Q r s') pl (by omega) (by omega) (by rw [List.size_toArray, ← hl]; exact h1) (by simpa using ew) ⟨rfl, fin⟩) hs
/-- list, tuple or str -/
def rIx (K : PySem.W.Frag) : R2 := fun x y H Q => rIxL K x y H Q ∨ rIxT K x y H Q ∨ rIxS x y H Q
/-! ### xs[i] = v, any sign -/
theorem Inv.lst {pins : List (Addr × Obj)} {σ : St} {H : Hp} {s : Shared} {p : Addr} {xs : List V} (I : Inv X pins σ H s) (h : H p = some (.lst xs)) :
    ∃ (its : List Value) (n : Nat), Vals xs its ∧ s.heap.get? p = some { cls := .type "list", data := .seq its.toArray n } ∧ xs.length ≤ sizeLine := by
  obtain ⟨z, its, n, r, e⟩ := I.hok p _ h
  exact ⟨its, n, r, e, z⟩
def rSetL : V → V → V → Hp → (Hp → Prop) → Prop := fun o i v H Q => ∃ p xs k j, o = .ref p ∧ i = .int k ∧ H p = some (.lst xs) ∧ ixN xs.length k = some j ∧ Q (upd H p (.lst (xs.set j v)))
/-! ### slices -/
theorem slice_bounds (lo hi : Option Int) (n : Nat) : (sliceBounds lo hi none n).1 = ((HT.sIx n 0 lo : Nat) : Int) ∧ (sliceBounds lo hi none n).2.1 = ((HT.sIx n n hi : Nat) : Int) ∧ (sliceBounds lo hi none n).2.2 = 1 := by
  refine ⟨?_, ?_, rfl⟩
  · cases lo with
    | none => simp [sliceBounds, HT.sIx]
    | some i =>
      simp only [sliceBounds, HT.sIx, Option.getD_none, show (1 : Int) > 0 by decide, if_true]
      by_cases h : i < 0
      · simp only [h, if_true] <;> omega
      · simp only [h, if_false] <;> omega
  · cases hi with
    | none => simp [sliceBounds, HT.sIx]
    | some i =>
      simp only [sliceBounds, HT.sIx, Option.getD_none, show (1 : Int) > 0 by decide, if_true]
      by_cases h : i < 0
      · simp only [h, if_true] <;> omega
      · simp only [h, if_false] <;> omega
theorem slicePick_cut (its : List Value) (lo hi : Option Int) : slicePick its.toArray lo hi none = ((its.drop (HT.sIx its.length 0 lo)).take (HT.sIx its.length its.length hi - HT.sIx its.length 0 lo)).toArray := by
  obtain ⟨h1, h2, h3⟩ := slice_bounds lo hi its.toArray.size
  unfold slicePick
  rw [h1, h2, h3]
  simp only [sliceRange_one, pick_run, List.size_toArray] <;> rfl
/-- xs[lo:hi] of a list: a new list -/
def rSlL (K : PySem.W.Frag) : V → Option Int → Option Int → Hp → VK → Prop := fun x lo hi H Q => ∃ a xs, x = .ref a ∧ SqL K H a xs ∧ ∀ p, H p = none → Q (.ref p) (upd H p (.lst (cutV xs lo hi)))
theorem sl_list : SlR X (rSlL X.K) := by
  intro pins s σ H x v vl vu lo hi sl Q I rx hs pl pu h
  obtain ⟨a, xs, rfl, hx, q⟩ := h
  cases rx
  obtain ⟨its, r, ht, hz⟩ := I.list hx
  have hlen := r.length
  refine ⟨"list", _, slot_list_getitem.lookup, ht.isList.typeIs, ?_⟩
  refine wpAny_getItem_list_slice ht.isList hs pl pu .none (by simp) ?_ (by rw [List.size_toArray] <;> omega)
  rw [slicePick_cut, ← hlen]
  refine ⟨.ref s.heap.objs.size, _, I.laid (t' := s.toks) (o := .lst (cutV xs lo hi)) (fun b ob q => Heap.get?_push_of_some _ q) (Nat.le_refl _) ?_, rfl, q _ (I.hok.fresh (Nat.le_refl _))⟩
  exact ⟨Nat.le_trans (cutV_length xs lo hi) hz, _, 0, (r.drop (HT.sIx xs.length 0 lo)).take (HT.sIx xs.length xs.length hi - HT.sIx xs.length 0 lo), Heap.get?_push_size _ rfl⟩

/-! ### in, not in: flat items -/
def flatV : V → Bool
  | .non => true
  | .bl _ => true
  | .int _ => true
  | .str _ => true
  | _ => false
/-- == of flat values -/
def eqV : V → V → Bool
  | .non, .non => true
  | .bl a, .bl b => a == b
  | .bl a, .int b => (if a then 1 else 0) == b
  | .int a, .bl b => a == (if b then 1 else 0)
  | .int a, .int b => a == b
  | .str a, .str b => a == b
  | _, _ => false
theorem eqAt_V {A : Around} {s : Shared} {y x : V} {u v : Value} (ry : RelV y u) (rx : RelV x v) (fy : flatV y = true) (fx : flatV x = true) : SeqAt.EqAt A s u v (eqV y x) := by
  cases y with
  | non =>
    cases ry
    cases x with
    | non => cases rx; exact SeqAt.EqAt.same _
    | bl b => cases rx; exact SeqAt.EqAt.none_bool b
    | int b => obtain ⟨t, rfl⟩ := rx; exact SeqAt.EqAt.none_int b t
    | str b => obtain ⟨t, rfl⟩ := rx; exact SeqAt.EqAt.none_str b t
    | _ => exact absurd (show false = true from fx) Bool.false_ne_true
  | bl a =>
    cases ry
    cases x with
    | non => cases rx; exact SeqAt.EqAt.bool_none a
    | bl b => cases rx; exact SeqAt.EqAt.bool_bool a b
    | int b => obtain ⟨t, rfl⟩ := rx; exact SeqAt.EqAt.bool_int a b t
    | str b => obtain ⟨t, rfl⟩ := rx; exact SeqAt.EqAt.bool_str a b t
    | _ => exact absurd (show false = true from fx) Bool.false_ne_true
  | int a =>
    obtain ⟨t', rfl⟩ := ry
    cases x with
    | non => cases rx; exact SeqAt.EqAt.int_none a t'
    | bl b => cases rx; exact SeqAt.EqAt.int_bool a t' b
    | int b => obtain ⟨t, rfl⟩ := rx; exact SeqAt.EqAt.int_int a t' b t
    | str b => obtain ⟨t, rfl⟩ := rx; exact SeqAt.EqAt.int_str a t' b t
    | _ => exact absurd (show false = true from fx) Bool.false_ne_true
  | str a =>
    obtain ⟨t', rfl⟩ := ry
    cases x with
    | non => cases rx; exact SeqAt.EqAt.str_none a t'
    | bl b => cases rx; exact SeqAt.EqAt.str_bool a t' b
    | int b => obtain ⟨t, rfl⟩ := rx; exact SeqAt.EqAt.str_int a t' b t
    | str b => obtain ⟨t, rfl⟩ := rx; exact SeqAt.EqAt.str_str a t' b t
    | _ => exact absurd (show false = true from fx) Bool.false_ne_true
  | _ => exact absurd (show false = true from fy) Bool.false_ne_true
/-- the items' answers, read off the values (a value's own answer does not lean on its token) -/
def eqU (x : V) (u : Value) : Bool := match u with
  | .none => eqV .non x
  | .bool b => eqV (.bl b) x
  | .int i _ => eqV (.int i) x
  | .str z _ => eqV (.str z) x
  | _ => false
theorem eqU_of {x y : V} {u : Value} (r : RelV y u) (f : flatV y = true) : eqU x u = eqV y x := by
  cases y with
  | non => cases r; rfl
  | bl b => cases r; rfl
  | int i => obtain ⟨t, rfl⟩ := r; rfl
  | str z => obtain ⟨t, rfl⟩ := r; rfl
  | _ => exact absurd (show false = true from f) Bool.false_ne_true
theorem mem_eqAt {A : Around} {s : Shared} {x : V} {v : Value} (rx : RelV x v) (fx : flatV x = true) : ∀ {xs : List V} {us : List Value}, Vals xs us → xs.all flatV = true → ∀ u ∈ us, SeqAt.EqAt A s u v (eqU x u)
  | _, _, .nil, _ => fun u hu => by cases hu
  | y :: xs, u :: us, .cons r t, f => fun u' hu => by
    rw [List.all_cons, Bool.and_eq_true] at f
    rcases List.mem_cons.mp hu with rfl | hu
    · rw [eqU_of r f.1]; exact eqAt_V r rx f.1 fx
    · exact mem_eqAt rx fx t f.2 u' hu
def inV (x : V) (xs : List V) : Bool := xs.any fun y => eqV y x
/-- x in a list or tuple of flat items -/
def rIn (K : PySem.W.Frag) (neg : Bool) : R2 := fun x y H Q => ∃ p xs, y = .ref p ∧ (SqL K H p xs ∨ SqT K H p xs) ∧ flatV x = true ∧ xs.all flatV = true ∧ Q (.bl (if neg then !inV x xs else inV x xs)) H
/-! ### len, list(x), tuple(x) of any list or tuple that is read -/
theorem call_len_seq : CallR X (.builtin "len") (fun xs H Q => ∃ p ys, xs = [.ref p] ∧ (SqL X.K H p ys ∨ SqT X.K H p ys) ∧ Q (.int ys.length) H) := by
  intro pins s σ H xs us Q I r h
  obtain ⟨p, ys, rfl, hq, q⟩ := h
  obtain ⟨u, rfl, rx⟩ := vals1 r
  cases rx
  have hn := line63
  rcases hq with hq | hq
  · obtain ⟨its, r', pl, hz⟩ := I.list hq
    have hlen := r'.length
    exact Calls.call_len_list pl.isList (by simp only [List.size_toArray] <;> omega) ⟨.int ys.length, H, I.tok _, ⟨s.toks + 1, by rw [List.size_toArray, hlen]⟩, q⟩
  · obtain ⟨its, r', pl, hz⟩ := I.tuple hq
    have hlen := r'.length
    exact len_tuple pl (by simp only [List.size_toArray] <;> omega) ⟨.int ys.length, H, I.tok _, ⟨s.toks + 1, by rw [List.size_toArray, hlen]⟩, q⟩
theorem CallR.or {f : Value} {r r' : List V → Hp → VK → Prop} (h : CallR X f r) (h' : CallR X f r') : CallR X f (fun xs H Q => r xs H Q ∨ r' xs H Q) := by
  intro pins s σ H xs us Q I rs q
  rcases q with q | q
  · exact h pins s σ H xs us Q I rs q
  · exact h' pins s σ H xs us Q I rs q
theorem call_list_of : CallR X (.type "list") (fun xs H Q => ∃ p ys, xs = [.ref p] ∧ (SqL X.K H p ys ∨ SqT X.K H p ys) ∧ ∀ l, H l = none → Q (.ref l) (upd H l (.lst ys))) := by
  intro pins s σ H xs us Q I r h
  obtain ⟨p, ys, rfl, hq, q⟩ := h
  obtain ⟨u, rfl, rx⟩ := vals1 r
  cases rx
  have fin : ∀ (its : List Value), Vals ys its → ys.length ≤ sizeLine → ∀ (h' : Heap) (c' : Nat), (∀ b o', s.heap.get? b = some o' → h'.get? b = some o') →
      h'.get? s.heap.objs.size = some { cls := .type "list", dict := none, data := .seq its.toArray c', slots := #[] } → EP X pins σ Q (.ref s.heap.objs.size) { s with heap := h' } := fun its r' hz h' c' kp e =>
    ⟨.ref s.heap.objs.size, _, I.laid (t' := s.toks) kp (Nat.le_refl _) (show ObjOk X.prog X.w _ h' _ (.lst ys) from ⟨hz, its, c', r', e⟩), rfl, q _ (I.hok.fresh (Nat.le_refl _))⟩
  rcases hq with hq | hq
  · obtain ⟨its, r', pl, hz⟩ := I.list hq
    have hlen := r'.length
    obtain ⟨o, ho, hc, n, hd⟩ := pl.isList
    exact call_list_seq p (.inl rfl) ho hc hd (fun h' c' kp e => fin its r' hz h' c' kp e) (by simp only [List.size_toArray] <;> omega)
  · obtain ⟨its, r', pl, hz⟩ := I.tuple hq
    have hlen := r'.length
    obtain ⟨o, ho, hc, n, hd⟩ := pl
    exact call_list_seq p (.inr rfl) ho hc hd (fun h' c' kp e => fin its r' hz h' c' kp e) (by simp only [List.size_toArray] <;> omega)
theorem call_tuple_of : CallR X (.type "tuple") (fun xs H Q => ∃ p ys, xs = [.ref p] ∧ ((SqL X.K H p ys ∧ ∀ l, H l = none → Q (.ref l) (upd H l (.tup ys))) ∨ (SqT X.K H p ys ∧ Q (.ref p) H))) := by
  intro pins s σ H xs us Q I r h
  obtain ⟨p, ys, rfl, h⟩ := h
  obtain ⟨u, rfl, rx⟩ := vals1 r
  cases rx
  rcases h with ⟨hq, q⟩ | ⟨hq, q⟩
  · obtain ⟨its, r', pl, hz⟩ := I.list hq
    have hlen := r'.length
    refine call_tuple_list pl.isList (fun h' kp => ?_) (by simp only [List.size_toArray] <;> omega)
    have I1 : Inv X pins σ H { s with heap := h' } := I.kept (t' := s.toks) kp
    have I2 : Inv X pins σ (upd H h'.objs.size (.tup ys)) { s with heap := h'.push { cls := .type "tuple", data := .seq its.toArray } } :=
      I1.laid (t' := s.toks) (fun b o e => Heap.get?_push_of_some _ e) (Nat.le_refl _) (show ObjOk X.prog X.w _ _ _ (.tup ys) from ⟨⟨hz, ⟨_, Heap.get?_push_size _ rfl, rfl⟩⟩, its, r', IsTup.new _ _⟩)
    exact ⟨.ref h'.objs.size, _, I2, rfl, q _ (I1.hok.fresh (Nat.le_refl _))⟩
  · obtain ⟨its, r', pl, hz⟩ := I.tuple hq
    exact call_tuple_same pl ⟨.ref p, H, I, rfl, q⟩

/-! ### the call of a builtin's method: o.m(..) -/
/-- the value is of that builtin type -/
def tyV (K : PySem.W.Frag) (T : String) (x : V) (H : Hp) : Prop := match x with
  | .str _ => T = "str"
  | .int _ => T = "int"
  | .ref p => (T = "list" ∧ ∃ xs, SqL K H p xs) ∨ (T = "tuple" ∧ ((∃ o, K.lookup p = some o ∧ o.cls = .type "tuple" ∧ o.dict = none) ∨ ∃ xs, H p = some (.tup xs))) ∨
      (T = "dict" ∧ ((∃ kvs, H p = some (.dK kvs)) ∨ ∃ kvs, H p = some (.dT kvs))) ∨ (T = "set" ∧ ∃ S n, H p = some (.set S n))
  | _ => False
theorem tyV_is {pins : List (Addr × Obj)} {σ : St} {H : Hp} {s : Shared} {T : String} {x : V} {v : Value} (I : Inv X pins σ H s) (r : RelV x v) (ty : tyV X.K T x H) :
    s.TypeIs v T ∧ ∀ a, v = .ref a → ∃ ob, s.heap.get? a = some ob ∧ ob.dict = none := by
  cases x with
  | str z =>
    obtain ⟨t, rfl⟩ := r
    cases (show T = "str" from ty)
    exact ⟨typeIs_str s z t, fun _ e => nomatch e⟩
  | int i =>
    obtain ⟨t, rfl⟩ := r
    cases (show T = "int" from ty)
    exact ⟨typeIs_int s i t, fun _ e => nomatch e⟩
  | ref p =>
    cases r
    rcases ty with ⟨rfl, xs, hq⟩ | ⟨rfl, ⟨o, hk, hc, hd⟩ | ⟨ys, hk⟩⟩ | ⟨rfl, hk⟩ | ⟨rfl, S, n, hk⟩
    · obtain ⟨its, _, pl, _⟩ := I.list hq
      refine ⟨pl.isList.typeIs, fun a e => ?_⟩
      cases e
      obtain ⟨o, n, e, c, hd, _⟩ := pl
      exact ⟨o, e, hd⟩
    · refine ⟨⟨o, I.kIn p o hk, hc⟩, fun a e => ?_⟩
      cases e
      exact ⟨o, I.kIn _ o hk, hd⟩
    · obtain ⟨⟨_, o2, e2, d2⟩, _, _, ⟨o1, e1, c1, _⟩⟩ := (show ObjOk X.prog X.w H s.heap p (.tup ys) from I.hok p _ hk)
      refine ⟨⟨o1, e1, c1⟩, fun a ea => ?_⟩
      cases ea
      exact ⟨o2, e2, d2⟩
    · have z : ∃ o, s.heap.get? p = some o ∧ o.ExactDict := by
        rcases hk with ⟨kvs, hk⟩ | ⟨kvs, hk⟩
        · obtain ⟨_, _, _, _, o, _, _, e, ex, _⟩ := I.hok p _ hk
          exact ⟨o, e, ex⟩
        · obtain ⟨_, _, _, _, o, _, _, e, ex, _⟩ := I.hok p _ hk
          exact ⟨o, e, ex⟩
      obtain ⟨o, e, ex⟩ := z
      refine ⟨⟨o, e, ex.1⟩, fun a e2 => ?_⟩
      cases e2
      exact ⟨o, e, ex.2.1⟩
    · obtain ⟨o, _, _, _, e, ex, _⟩ := I.hok p _ hk
      refine ⟨⟨o, e, ex.1⟩, fun a e2 => ?_⟩
      cases e2
      exact ⟨o, e, ex.2.1⟩
  | _ => exact False.elim ty
def tBM0 (K : PySem.W.Frag) (T : String) (r : V → List V → Hp → VK → Prop) (to : TE) : TE := fun σ H Q => to σ H fun x H1 => tyV K T x H1 ∧ r x [] H1 Q
def tBM (K : PySem.W.Frag) (T : String) (r : V → List V → Hp → VK → Prop) (to : TE) (t : TA) : TE := fun σ H Q => to σ H fun x H1 => tyV K T x H1 ∧ t σ H1 fun xs H2 => r x xs H2 Q
variable {o e : Expr} {es : List Expr} {to : TE} {t : TA} {name : Str} {apos cpos : Pos} {T id : String} {r : V → List V → Hp → VK → Prop}
theorem pe_bm0 (pa : PlainAttrs T) (slot : Slot T name id) (hty : typeOf (.builtin id) = pure (.type "method_descriptor")) (hm : MtR X id r) (ho : PE X o to)
    (hbase : attributeBase o name X.env (eval o X.env) = eval o X.env := by rfl) (hline : (apos.endLine == cpos.line) = true := by rfl) : PE X (.Call (.Attribute o name apos) [] [] cpos) (tBM0 X.K T r to) := by
  intro pins s σ H Q I h
  refine wpAny_Call_method0_late hbase hline (thn (ho pins s σ H _ I h) fun v s1 ⟨x, H1, I1, r1, ty, q1⟩ => ?_)
  obtain ⟨h1, h2⟩ := tyV_is I1 r1 ty
  exact ⟨T, id, pa, slot, hty, h1, h2, Calls.callWith_builtin rfl (PySem.evalArgs_none (hm pins s1 σ H1 x [] v [] Q I1 r1 .nil q1))⟩
theorem pe_bm (pa : PlainAttrs T) (slot : Slot T name id) (hty : typeOf (.builtin id) = pure (.type "method_descriptor")) (hm : MtR X id r) (ho : PE X o to) (ha : PA X (e :: es) t)
    (hbase : attributeBase o name X.env (eval o X.env) = eval o X.env := by rfl)
    (hfew : ((backTo cpos (starEach (e :: es) X.env)).all (fun x => !x.1) && (backToKw cpos (keywordEach [] X.env)).all (fun x => x.1.isSome)
      && decide ((e :: es).length + ([] : List Keyword).length + (if ([] : List Keyword).isEmpty then 0 else 1) < 30)) = true := by rfl)
    (hline : (apos.endLine == cpos.line) = true := by rfl) (hs : starEach (e :: es) X.env = (false, eval e X.env) :: starEach es X.env := by rfl) (hplain : (backTo cpos (starEach es X.env)).any (·.1) = false := by rfl) :
    PE X (.Call (.Attribute o name apos) (e :: es) [] cpos) (tBM X.K T r to t) := by
  intro pins s σ H Q I h
  refine wpAny_Call_method_late hbase hfew hline rfl (thn (ho pins s σ H _ I h) fun v s1 ⟨x, H1, I1, r1, ty, q1⟩ => ?_)
  obtain ⟨h1, h2⟩ := tyV_is I1 r1 ty
  refine ⟨T, id, pa, slot, hty, h1, h2, ?_⟩
  have hA := ha cpos pins s1 σ H1 _ I1 q1
  rw [hs] at hA ⊢
  refine Calls.callWith_builtin (by show (false || (backTo cpos (starEach es X.env)).any (·.1)) = false; rw [hplain] <;> rfl) (Calls.evalArgs_plain ?_)
  exact thn hA fun us s2 ⟨vs, H2, I2, r2, q2⟩ => hm pins s2 σ H2 x vs v us Q I2 r1 r2 q2
/- xs.append(e), list.index on a module's tuple .. are MtR facts of 06m -/
end
end L2

namespace L2
open PySem PySem.Spec PyProof.Rows

def MtM (X : Cx) (id : String) (r : V → List V → Hp → VK → Prop) : Prop :=
  ∀ (pins : List (Addr × Obj)) (s : Shared) (σ : St) (H : Hp) (x : V) (xs : List V) (v : Value) (us : List Value) (Q : VK), Inv X pins σ H s → RelV x v → Vals xs us → r x xs H Q →
    wpAny (model X.prog X.w) X.A (call (.builtin id) (v :: us)) (EP X pins σ Q) X.xe s

/-! ### lists of values -/
theorem Vals.one : ∀ {x : V} {us : List Value}, Vals [x] us → ∃ u, us = [u] ∧ RelV x u
  | _, _, .cons r .nil => ⟨_, rfl, r⟩
theorem Vals.two : ∀ {x y : V} {us : List Value}, Vals [x, y] us → ∃ u v, us = [u, v] ∧ RelV x u ∧ RelV y v
  | _, _, _, .cons r (.cons q .nil) => ⟨_, _, rfl, r, q⟩
theorem Vals.zero : ∀ {us : List Value}, Vals [] us → us = []
  | _, .nil => rfl
theorem Vals.dropLast {xs : List V} {us : List Value} (h : Vals xs us) : Vals xs.dropLast us.dropLast := by
  induction h with
  | nil => exact .nil
  | cons r t ih =>
    cases t with
    | nil => exact .nil
    | cons q t' => exact .cons r ih
theorem Vals.eraseIdx : ∀ {xs : List V} {us : List Value} (i : Nat), Vals xs us → Vals (xs.eraseIdx i) (us.eraseIdx i)
  | _, _, _, .nil => .nil
  | _, _, 0, .cons _ t => t
  | _, _, i + 1, .cons r t => .cons r (Vals.eraseIdx i t)
theorem Vals.reverse {xs : List V} {us : List Value} (h : Vals xs us) : Vals xs.reverse us.reverse := by
  induction h with
  | nil => exact .nil
  | cons r t ih => rw [List.reverse_cons, List.reverse_cons]; exact Vals.append ih (.cons r .nil)
theorem Vals.rep {xs : List V} {us : List Value} (h : Vals xs us) : ∀ k : Nat, Vals (List.replicate k xs).flatten (List.replicate k us).flatten
  | 0 => .nil
  | k + 1 => by
    rw [List.replicate_succ, List.replicate_succ, List.flatten_cons, List.flatten_cons]
    exact Vals.append h (Vals.rep h k)
theorem foldl_rep (its : List Value) : ∀ (k : Nat) (acc : List Value),
    List.foldl (fun x1 x2 => x1 ++ x2) acc.toArray (List.replicate k its.toArray) = (acc ++ (List.replicate k its).flatten).toArray
  | 0, acc => by simp
  | k + 1, acc => by
    have e : acc.toArray ++ its.toArray = (acc ++ its).toArray := by simp
    have e2 : (acc ++ its) ++ (List.replicate k its).flatten = acc ++ (List.replicate (k + 1) its).flatten := by
      rw [List.replicate_succ, List.flatten_cons, List.append_assoc]
    rw [← e2, ← foldl_rep its k (acc ++ its), ← e, List.replicate_succ, List.foldl_cons]

section
variable {X : Cx} {pins : List (Addr × Obj)} {σ : St} {H : Hp} {s : Shared} {l b : Addr} {xs ys zs : List V}

/-! ### the two steps: a tracked list is rewritten, a new list is laid -/
theorem Inv.lset {its its' : List Value} {n : Nat} {f : Array Value → Array Value} {t' : Nat} (I : Inv X pins σ H s) (hH : H l = some (.lst xs))
    (e : s.heap.get? l = some { cls := .type "list", data := .seq its.toArray n }) (hf : f its.toArray = its'.toArray) (hv : Vals ys its') (hz : ys.length ≤ sizeLine) :
    Inv X pins σ (upd H l (.lst ys)) { s with heap := s.heap.update l (Obj.mapSeq f), toks := t' } := by
  have q := PySem.IsL.update e f
  rw [hf] at q
  refine I.write (x := l) (e := l) (by rw [hH]; exact trivial) (.inl rfl) (fun b' u hb hu => (Heap.get?_update_other s.heap (Obj.mapSeq f) (Ne.symm hb)).trans hu) ⟨_, q⟩ ?_
  exact ⟨hz, its', _, hv, q⟩
theorem Inv.lnew {its : List Value} {t' : Nat} (I : Inv X pins σ H s) (hv : Vals ys its) (hz : ys.length ≤ sizeLine) :
    Inv X pins σ (upd H s.heap.objs.size (.lst ys)) { s with heap := s.heap.push { cls := .type "list", data := .seq its.toArray }, toks := t' } :=
  I.laid (fun _ _ q => Heap.get?_push_of_some _ q) (Nat.le_refl _) ⟨hz, its, 0, hv, Heap.get?_push_size _ rfl⟩
theorem Inv.fresh (I : Inv X pins σ H s) : H s.heap.objs.size = none := I.hok.fresh (Nat.le_refl _)
theorem Inv.lstM (I : Inv X pins σ H s) (hH : H l = some (.lst xs)) : xs.length ≤ sizeLine ∧ ∃ (its : List Value) (n : Nat), Vals xs its ∧ xs.length = its.length ∧ s.heap.get? l = some { cls := .type "list", data := .seq its.toArray n } := by
  obtain ⟨z, its, n, r, e⟩ := I.hok l _ hH
  exact ⟨z, its, n, r, r.length, e⟩

theorem notLongL {n : Nat} (h : n ≤ sizeLine) : Builtin.List.listTooLong n = false := by
  unfold Builtin.List.listTooLong
  exact decide_eq_false (by omega)
end

section
variable {X : Cx}

/-! ### methods -/
def rAppend : V → List V → Hp → VK → Prop := fun x vs H Q => ∃ l xs y, x = .ref l ∧ vs = [y] ∧ H l = some (.lst xs) ∧ xs.length < sizeLine ∧ Q .non (upd H l (.lst (xs ++ [y])))
theorem mt_append : MtM X "list.append" rAppend := by
  intro pins s σ H x vs v us Q I rx rv h
  obtain ⟨l, xs, y, rfl, rfl, hH, hz, q⟩ := h
  cases rx
  obtain ⟨u, rfl, ru⟩ := rv.one
  obtain ⟨z, its, n, r, hl, e⟩ := I.lstM hH
  refine call_meets F.slot_list_append ⟨_, e, rfl⟩ F.entry_list_append (F.args_list_append_2 _ _) (PySem.list_append l its.toArray n u (by rw [List.size_toArray]; omega)) ⟨e, ?_⟩
  refine ⟨.non, _, I.lset (its' := its ++ [u]) hH e (by simp) (r.append (.cons ru .nil)) ?_, rfl, q⟩
  rw [List.length_append, List.length_singleton]
  omega

def rExtend : V → List V → Hp → VK → Prop := fun x vs H Q => ∃ l b xs zs, x = .ref l ∧ vs = [.ref b] ∧ H l = some (.lst xs) ∧ H b = some (.lst zs) ∧ xs.length + zs.length ≤ sizeLine ∧ Q .non (upd H l (.lst (xs ++ zs)))
def rPop : V → List V → Hp → VK → Prop := fun x vs H Q => ∃ l xs y, x = .ref l ∧ vs = [] ∧ H l = some (.lst xs) ∧ xs[xs.length - 1]? = some y ∧ Q y (upd H l (.lst xs.dropLast))
def rPopAt : V → List V → Hp → VK → Prop := fun x vs H Q => ∃ l xs i k y, x = .ref l ∧ vs = [.int i] ∧ H l = some (.lst xs) ∧ -(2 ^ 63) ≤ i ∧ i < 2 ^ 63 ∧ seqIndex? i xs.length = some k ∧ xs[k]? = some y ∧ Q y (upd H l (.lst (xs.eraseIdx k)))
def rReverse : V → List V → Hp → VK → Prop := fun x vs H Q => ∃ l xs, x = .ref l ∧ vs = [] ∧ H l = some (.lst xs) ∧ Q .non (upd H l (.lst xs.reverse))
def rClear : V → List V → Hp → VK → Prop := fun x vs H Q => ∃ l xs, x = .ref l ∧ vs = [] ∧ H l = some (.lst xs) ∧ Q .non (upd H l (.lst []))
theorem mt_clear : MtM X "list.clear" rClear := by
  intro pins s σ H x vs v us Q I rx rv h
  obtain ⟨l, xs, rfl, rfl, hH, q⟩ := h
  cases rx
  have hus := rv.zero
  subst hus
  obtain ⟨z, its, n, r, hl, e⟩ := I.lstM hH
  refine call_meets F.slot_list_clear ⟨_, e, rfl⟩ F.entry_list_clear (F.args_list_clear_1 _) (AutoSeq1.list_clear_list_0 l its.toArray n (by rw [List.size_toArray]; omega)) ⟨e, ?_⟩
  exact ⟨.non, _, I.lset (its' := []) (ys := []) hH e rfl .nil (Nat.zero_le _), rfl, q⟩

/-! ### list + list, list += list, list * int -/
def rCat : R2 := fun x y H Q => ∃ l b xs zs, x = .ref l ∧ y = .ref b ∧ H l = some (.lst xs) ∧ H b = some (.lst zs) ∧ xs.length + zs.length ≤ sizeLine ∧ ∀ p, H p = none → Q (.ref p) (upd H p (.lst (xs ++ zs)))
theorem op_cat : OpR X (binaryOp .Add) rCat := by
  intro pins s σ H x y v u Q I rx ry h
  obtain ⟨l, b, xs, zs, rfl, rfl, hH, hB, hz, q⟩ := h
  cases rx
  cases ry
  obtain ⟨z, its, n, r, hl, e⟩ := I.lstM hH
  obtain ⟨z2, its2, n2, r2, hl2, e2⟩ := I.lstM hB
  refine PySem.P.add_list e e2 ?_ (by rw [List.size_toArray, List.size_toArray]; omega)
  have ea : its.toArray ++ its2.toArray = (its ++ its2).toArray := by simp
  rw [ea]
  exact ⟨.ref _, _, I.lnew (t' := s.toks) (r.append r2) (by rw [List.length_append]; omega), rfl, q _ I.fresh⟩
/-- a list times an int (a negative one is nothing) -/
def rRep : R2 := fun x y H Q => ∃ l k xs, x = .ref l ∧ y = .int k ∧ H l = some (.lst xs) ∧ -(2 ^ 63) ≤ k ∧ k < 2 ^ 63 ∧ xs.length * k.toNat ≤ sizeLine ∧
  ∀ p, H p = none → Q (.ref p) (upd H p (.lst (List.replicate k.toNat xs).flatten))
theorem len_rep {α : Type} (xs : List α) (k : Nat) : (List.replicate k xs).flatten.length = k * xs.length := by
  induction k with
  | zero => simp
  | succ k ih => rw [List.replicate_succ, List.flatten_cons, List.length_append, ih, Nat.succ_mul, Nat.add_comm]
theorem op_rep : OpR X (binaryOp .Mult) rRep := by
  intro pins s σ H x y v u Q I rx ry h
  obtain ⟨l, k, xs, rfl, rfl, hH, h1, h2, hz, q⟩ := h
  cases rx
  obtain ⟨t, rfl⟩ := ry
  obtain ⟨z, its, n, r, hl, e⟩ := I.lstM hH
  have hlen : its.toArray.size * k.toNat ≤ sizeLine := by rw [List.size_toArray, ← hl]; exact hz
  have hcap : ¬ its.toArray.size * k.toNat > (2 ^ 63 - 1) / 8 := by
    have : (sizeLine : Nat) ≤ (2 ^ 63 - 1) / 8 := by decide
    omega
  have hfit : ¬ (!Builtin.List.listFitsIndex k) = true := by
    rw [fitsIndex_both h1 h2]
    exact Bool.false_ne_true
  have hlong : ¬ Builtin.List.listTooLong (its.toArray.size * k.toNat) = true := by
    rw [notLongL hlen]
    exact Bool.false_ne_true
  have hnew : List.foldl (fun x1 x2 => x1 ++ x2) #[] (List.replicate (if its.toArray.isEmpty = true then 0 else k.toNat) its.toArray) = (List.replicate k.toNat its).flatten.toArray := by
    have f0 : ∀ m : Nat, List.foldl (fun x1 x2 => x1 ++ x2) #[] (List.replicate m its.toArray) = (List.replicate m its).flatten.toArray := fun m => by
      have := foldl_rep its m []
      rw [List.nil_append] at this
      exact this
    rw [f0]
    cases its with
    | nil => simp
    | cons a r' => rw [if_neg (by simp)]
  refine wpAny_binaryOp_repeat_ref (T := "list") (U := "int") (by decide) ⟨_, e, rfl⟩ (fun s' => typeIs_int s' k t) noFill_list_mul F.fills_int_mul F.slot_int_rmul repeat_list F.slot_int_index.lookup
    (call_meets F.slot_int_rmul (typeIs_int s k t) F.entry_int_rmul (F.args_int_rmul_2 _ _) (int___rmul___int_list k t l its.toArray n)
      ⟨e, rfl, ⟨_, e, rfl⟩, call_meets F.slot_list_mul ⟨_, e, rfl⟩ F.entry_list_mul (F.args_list_mul_2 _ _) (AutoListH.list___mul___list_int_3 l its.toArray n k t hfit hcap hlong) ⟨e, ?_⟩⟩)
  rw [hnew]
  exact ⟨.ref _, _, I.lnew (t' := s.toks) (r.rep k.toNat) (by rw [len_rep, Nat.mul_comm]; exact hz), rfl, q _ I.fresh⟩

/-! ### del xs[i] -/
end

/-! ### xs[a:b] = ys -/
section
variable {prog : Program} {w : World} {A : Around} {E : Value → Shared → Prop} {s : Shared}
end

section
variable {X : Cx}
end
end L2

namespace Att
open PySem PySem.W PySem.Calls PyProof.Rows

/-! ### the script -/
theorem ints_of_wellAll {P : Params} {h : Heap} : ∀ (ns : List Int) (vs : List Value), WellAll P h vs (ns.map WData.int) → IntsAre vs ns := by
  intro ns
  induction ns with
  | nil =>
    intro vs w
    rw [List.map_nil] at w
    cases w
    exact .nil
  | cons n ns ih =>
    intro vs w
    rw [List.map_cons] at w
    cases w with
    | cons a b =>
      cases a
      exact .cons _ _ (ih _ b)

theorem script_of {l : OpenLaw} {n : Nat} (hn : l.most = some n) {P : Params} {h : Heap} {args : List WData} {vals : List Value}
    (hpre : l.row.toRowW.claim.pre args = true) (hwl : WellAll P h vals args) :
    ∃ a vs ns, vals = [Value.ref a] ∧ args = [WData.list (ns.map WData.int)] ∧ h.get? a = some { cls := .type "list", data := .seq vs.toArray } ∧ IntsAre vs ns ∧ ns.length ≤ n := by
  have hsh : WShape.hasAll [] args [.list .int] = true := (pre_splitW hpre).1
  have hc : l.pre.holds [] { args := args } = true := (pre_splitW hpre).2
  obtain ⟨d, r, rfl, h1, h2⟩ := hasAllW_cons hsh
  obtain rfl := hasAllW_nil h2
  obtain ⟨xs, rfl, h3⟩ := hasW_list h1
  obtain ⟨ns, rfl⟩ := items_int h3
  have hlen : ns.length ≤ n := by
    unfold OpenLaw.pre at hc
    have h4 : (WTm.not (.lt (.lit (.int (n : Int))) (.len (.arg 0)))).holds [] { args := [.list (ns.map .int)] } = true := by
      have h4 := (holds_andW hc).1
      rw [hn] at h4
      exact h4
    have h5 := condW_of h4 (w_not (w_lt w_lit (w_len_list (w_arg rfl))))
    rw [List.length_map] at h5
    refine Nat.le_of_not_lt fun q => ?_
    have q' : (n : Int) < ((ns.length : Nat) : Int) := by omega
    first
      | (rw [decide_eq_true q'] at h5; exact absurd h5 (by decide))
      | (simp at h5; omega)
  cases hwl with
  | cons w1 w2 =>
    cases w2
    cases w1 with
    | list ho hall => exact ⟨_, _, ns, rfl, rfl, ho, ints_of_wellAll ns _ hall, hlen⟩

theorem post_true (l : OpenLaw) (args : List WData) : l.row.toRowW.claim.post args (.bool true) args = true :=
  postW_of (r := l.row.toRowW) (X := (true == true))
    (show WShape.has [] (.bool true) .bool = true by first | rfl | decide | simp [WShape.has, WShape.arms, WShape.armsAll])
    (show (WTm.eq .res (.lit (.bool true))).value [] { args := args, res := some (.bool true), after := args } = some (.bool (true == true)) from w_eq_bool (w_res rfl) w_lit) rfl

/-! ### the attachment: holds_open's last premise (the goal 'hc' behind k_head) from a wpAny of the law's body -/
/-! ### rules over ANY heap (no ledger) from facts about the written part K: the library's own take a ledger (News) for what they write -/
section
variable {prog : Program} {w : World} {A : Around} {E : Value → Shared → Prop} {s : Shared} {K : Frag}

/-! the whole heap as the ledger: makes every rule that writes through a ledger a rule over any heap -/
def noObjs (h : Heap) : Heap := { h with objs := #[] }
def ledger (h : Heap) (L d : Addr) : List (Addr × Obj) := (List.range h.objs.size).filterMap fun a => if a = L ∨ a = d then none else (h.get? a).map fun o => (a, o)
end
end Att

namespace L2
open PySem PySem.Spec PyProof.Rows

theorem vals_ints : ∀ {vs : List Value} {ns : List Int}, IntsAre vs ns → Vals (ns.map V.int) vs
  | _, _, .nil => .nil
  | _, _, .cons n t h => .cons ⟨t, rfl⟩ (vals_ints h)

/-- nothing is tracked but the script, known to the object (or it is an object of the module) -/
def Only (H : Hp) : Prop := ∀ b, H b = none ∨ ∃ o xs, H b = some (.frz o (.lst xs))

/-- THE HEAD: the law's promise, at the heap behind the top. F, the promise of the law's def, may use that base is part of the heap (so K.In base, base.Ns mainGlobals mg stand in Mod) -/
theorem law_call {P : Program} {w : World} {K : PySem.W.Frag} {mg mb : Str → Option Value} {CX : CXT} {k : Nat} {fa a : Addr} {fd : FuncData} {x : Str} {sp : Sp} {s₁ : Shared} {vs : List Value} {ns : List Int}
    (KX : K.In s₁.heap) (hns : s₁.heap.Ns mainGlobals mg) (hb : s₁.heap.Ns builtinsNs mb) (hbb : ∀ x : Str, x ≠ "__name__" → mb x = bootBuiltins x) (hlim : s₁.heap.NoLimit) (hg : s₁.gens = #[])
    (ha : s₁.heap.get? a = some { cls := .type "list", data := .seq vs.toArray }) (hi : IntsAre vs ns) (hl : ns.length ≤ sizeLine) (hr : Room k callerA)
    (F : ∀ base : Heap, K.In base → base.Ns mainGlobals mg → FnOk P w K mg base CX k fa fd [x] sp) (hbind : ∀ (s : Shared) (u : Value), BindsTo s fd ⟨[u], []⟩ [(x, u)])
    (hsp : ∀ H : Hp, Only H → SqL K H a (ns.map V.int) → sp [.ref a] H (fun v _ => v = .bl true) fun _ _ _ => False)
    (hCX : ∀ H e s', CX [] H s₁ (fun _ _ _ => False) e s' → False) :
    codeAny (model P w) callerA (.call (.ref fa) ⟨[.ref a], []⟩) (fun r s' => r = .ok (.ret (.bool true)) ∧ OldK s₁.heap s'.heap ∧ s'.os = s₁.os ∧ AllBare s'.gens) s₁ := by
  have rv := vals_ints hi
  have lenV := hi.length
  -- from an abstract heap in which nothing but the script may be tracked
  have core : ∀ H : Hp, Only H → SqL K H a (ns.map V.int) → HOk P w H s₁.heap → (∀ b, H b ≠ none → b = a) → (H a ≠ none → K.lookup a = none) →
      codeAny (model P w) callerA (.call (.ref fa) ⟨[.ref a], []⟩) (fun r s' => r = .ok (.ret (.bool true)) ∧ OldK s₁.heap s'.heap ∧ s'.os = s₁.os ∧ AllBare s'.gens) s₁ := by
    intro H hO hS hok hA hK
    have base_of : ∀ {b : Addr} {o : Obj}, s₁.heap.get? b = some o → H b = none → (hidT s₁.heap H).get? b = some o := fun e n => hidT_get e n
    have noA : ∀ {b : Addr} {o : Obj} {es : Array DictEntry} {ep : Nat}, s₁.heap.get? b = some o → o.data = .dict es ep → H b = none := fun {b o es ep} e d => by
      cases q : H b with
      | none => rfl
      | some u =>
        have e' : b = a := hA b (by rw [q]; simp)
        subst e'
        rw [ha] at e; cases e
        have d' : Data.seq vs.toArray _ = Data.dict es ep := d
        cases d'
    have nsK : ∀ {b : Addr} {m : Str → Option Value}, s₁.heap.Ns b m → (hidT s₁.heap H).Ns b m := fun {b m} ⟨o, es, ep, e, d, r⟩ => ⟨o, es, ep, base_of e (noA e d), d, r⟩
    have hKb : K.In (hidT s₁.heap H) := fun b o e => base_of (KX b o e) (by
      cases q : H b with
      | none => rfl
      | some u =>
        have e' : b = a := hA b (by rw [q]; simp)
        subst e'
        rw [hK (by rw [q]; simp)] at e; cases e)
    have hM : Mod K mg (hidT s₁.heap H) := ⟨hKb, nsK hns, ⟨mb, nsK hb, hbb⟩, let ⟨mc, h1, h2⟩ := hlim; ⟨mc, nsK h1, h2⟩⟩
    have e0 : Env0 P w K mg (hidT s₁.heap H) callerA [] s₁ H := ⟨rfl, hM, fun b o e => of_hidT e, Nat.le_of_eq (hidT_size _ _), trivial, fun b hb => absurd (show b ∈ ([] : List Addr) from hb) (by simp), hok, .of_eq hg⟩
    refine codeAny_mono ((F _ hKb (nsK hns)).run callerA [] s₁ H ⟨[.ref a], []⟩ [.ref a] [.ref a] _ _ hr e0 (hbind s₁ (.ref a)) (.cons rfl .nil) (hsp H hO hS)) fun r s' h => ?_
    cases r with
    | error e => exact (hCX H e s' h).elim
    | ok fl =>
      cases fl with
      | next => exact False.elim h
      | brk => exact False.elim h
      | cont => exact False.elim h
      | ret u =>
        obtain ⟨v, H', os, bare, un, hok', r', q⟩ := h
        have q' : v = .bl true := q
        subst q'
        obtain rfl : u = Value.bool true := r'
        refine ⟨rfl, OldK.of_keep fun b o e => ?_, os, bare⟩
        cases q : H b with
        | none => exact un.keep b o e q (by intro z; exact absurd (show b ∈ ([] : List Addr) from z) (by simp)) (by simp)
        | some u =>
          rcases hO b with z | ⟨ob, xs, z⟩
          · rw [q] at z; cases z
          · have z2 := un.frzs b ob _ z
            obtain ⟨e1, _⟩ := hok b _ z
            obtain ⟨e2, _⟩ := hok' b _ z2
            rw [e] at e1; cases e1
            exact e2
  cases hk : K.lookup a with
  | some o =>
    -- the script is one of the module's own objects
    have e := KX a o hk
    rw [ha] at e
    cases e
    refine core (fun _ => none) (fun _ => .inl rfl) (.inr ⟨_, vs.toArray, _, hk, rfl, rfl, rfl, by rw [List.size_toArray, lenV]; exact hl, by simpa using rv⟩) (fun b u z => by have z' : (none : Option HO) = some u := z; cases z') (fun b z => absurd rfl z) fun z => absurd rfl z
  | none =>
    refine core (fun b => if b = a then some (.frz { cls := .type "list", data := .seq vs.toArray } (.lst (ns.map V.int))) else none) (fun b => ?_) (.inl (.inr ⟨{ cls := .type "list", data := .seq vs.toArray }, if_pos rfl⟩)) (fun b u z => ?_) (fun b z => ?_) fun _ => hk
    · by_cases hb : b = a
      · exact .inr ⟨_, _, if_pos hb⟩
      · exact .inl (if_neg hb)
    · by_cases hb : b = a
      · have z' := (if_pos hb).symm.trans z
        cases z'
        subst hb
        exact ⟨ha, by rw [List.length_map]; exact hl, vs, _, rv, ha⟩
      · have z' := (if_neg hb).symm.trans z
        cases z'
    · by_cases hb : b = a
      · exact hb
      · exact absurd (if_neg hb) z
end L2

namespace L2
open PySem PySem.Spec PyProof.Rows

abbrev KOf {K : PySem.W.Frag} {h : Heap} (_ : K.In h) : PySem.W.Frag := K

end L2

/-! SHORT WORDS over the layer: a def of the text, its body, what a loop and a test want. -/
namespace L2
open PySem PySem.Spec PyProof.Rows

/-! ### the text by places -/
/-- the j-th statement of a class's body -/
def inClass (s : Stmt) (j : Nat) : Stmt := match s with
  | .ClassDef _ _ _ body _ _ _ _ _ _ _ => body.getD j (.Pass ⟨0, 0, 0, 0⟩)
  | _ => .Pass ⟨0, 0, 0, 0⟩
def defArgs (s : Stmt) : Arguments := match s with
  | .FunctionDef _ a _ _ _ _ _ _ _ _ => a
  | _ => { posonlyargs := [], args := [], vararg := none, kwonlyargs := [], kw_defaults := [], kwarg := none, defaults := [] }
def defBody (s : Stmt) : List Stmt := match s with
  | .FunctionDef _ _ b _ _ _ _ _ _ _ => b
  | _ => []
def defScope (s : Stmt) : Scope := match s with
  | .FunctionDef _ _ _ _ _ _ sc _ _ _ => sc
  | _ => { kind := .function, names := [], isGenerator := false, isCoroutine := false }

/-! ### no exception leaves a def -/
abbrev CX0 : CXT := fun _ _ _ _ _ _ => False
abbrev E0 : XK := fun _ _ _ => False
theorem pass0 {X : Cx} : Passes CX0 X E0 := fun _ _ _ _ _ _ _ h => h.elim

/-! ### a def (or method) of the text as it stands behind the top -/
structure Fun (K : PySem.W.Frag) (x qual : Str) (st : Stmt) (f : Addr) (fd : FuncData) : Prop where
  ex : ∃ (oc : Value) (od : Option Addr) (kV doc pm : Value) (an : Option Addr) (cdv ct : Value) (osl : Array (Option Value)),
    fd = PySem.W.fnOf x qual (defArgs st) (defBody st) (defScope st) .none kV doc pm an cdv ct ∧ K.lookup f = some ⟨oc, od, .func fd, osl⟩ ∧ PySem.W.codeIn K cdv qual = true
  kp : PySem.W.keepIn K (.ref f) = true
section
variable {P : Program} {w : World} {K : PySem.W.Frag} {mg : Str → Option Value} {base : Heap}
/-- THE RULE for a def: its body as a term of rules, and the reading of that term -/
theorem Fun.ok {x qual : Str} {st : Stmt} {f : Addr} {fd : FuncData} {N ps : List Str} {k : Nat} {sp : Sp} (F : Fun K x qual st f fd) (S : FnScope N ps (defScope st)) (len : ∀ vs H Q E, sp vs H Q E → vs.length = ps.length)
    (hbody : ∀ (cdv : Value) (A : Around) (outer : List Env) (s : Shared) (H : Hp) (vs : List V) (Q : VK) (E : XK), Room k (A.deeper (envOfC qual (defScope st) s.heap.objs.size f cdv)) → sp vs H Q E →
      ∃ t, PSs (cxOf CX0 P w K mg base N qual (defScope st) f cdv A outer s H E).nox (defBody st) t ∧ t { nx := fun _ H' => Q .non H', rt := Q } (start N vs) H) : FnOk P w K mg base CX0 (k + 1) f fd ps sp := by
  obtain ⟨oc, od, kV, doc, pm, an, cdv, ct, osl, rfl, lk, hcd⟩ := F.ex
  refine fn_of lk hcd S len fun A outer s H vs Q E hr hsp => ?_
  obtain ⟨t, h, q⟩ := hbody cdv A outer s H vs Q E hr hsp
  exact ⟨t, h.nox, q⟩
/-- how its arguments bind (no defaults): h is «fun _ _ _ _ _ _ us hl => match us, hl with | [_, _], _ => rfl», one _ a parameter -/
theorem Fun.binds {x qual : Str} {st : Stmt} {f : Addr} {fd : FuncData} {ps : List Str} (F : Fun K x qual st f fd)
    (h : ∀ (kV doc pm : Value) (an : Option Addr) (cdv ct : Value) (us : List Value), us.length = ps.length → bindArgs (PySem.W.fnOf x qual (defArgs st) (defBody st) (defScope st) .none kV doc pm an cdv ct) ⟨us, []⟩ = pure (ps.zip us)) : Binds K fd ps [] := by
  obtain ⟨oc, od, kV, doc, pm, an, cdv, ct, osl, rfl, lk, hcd⟩ := F.ex
  exact .all (h kV doc pm an cdv ct)
theorem fun_mk {x qual : Str} {st : Stmt} {f : Addr} {oc : Value} {od an : Option Addr} {osl : Array (Option Value)} {kV doc pm cdv ct : Value} (l : K.lookup f = some ⟨oc, od, .func (PySem.W.fnOf x qual (defArgs st) (defBody st) (defScope st) .none kV doc pm an cdv ct), osl⟩)
    (c : PySem.W.codeIn K cdv qual = true) (k : PySem.W.keepIn K (.ref f) = true) : Fun K x qual st f (PySem.W.fnOf x qual (defArgs st) (defBody st) (defScope st) .none kV doc pm an cdv ct) := ⟨⟨oc, od, kV, doc, pm, an, cdv, ct, osl, rfl, l, c⟩, k⟩
end
theorem small1000 {n : Nat} (h : n ≤ 1000) : n < sizeLine := Nat.lt_of_le_of_lt h (by decide)

/-! ### expressions in short: the name that stands in the i-th slot -/
section
variable {X : Cx}
theorem pv (i : Nat) {x : Str} {pos : Pos} (hN : X.N[i]? = some x := by rfl) (hv : Vis X.env.scope x := by first | exact Or.inl rfl | exact Or.inr (Or.inl rfl) | exact Or.inr (Or.inr rfl)) (hd : (x == ("__debug__" : Str)) = false := by decide)
    (hcd : (x == ("__classdict__" : Str)) = false := by decide) : PE X (.Name x pos) (tVar i) := pe_var hN hv hd hcd
end

/-! ### tests -/
theorem ite2 {c A B : Prop} [Decidable c] (h1 : c → A) (h2 : ¬ c → B) : if c then A else B := by
  by_cases h : c
  · rw [if_pos h]
    exact h1 h
  · rw [if_neg h]
    exact h2 h
/-! ### heaps -/
/-- all that was tracked is as it was -/
def Same (H H' : Hp) : Prop := ∀ b o, H b = some o → H' b = some o
theorem Same.refl (H : Hp) : Same H H := fun _ _ h => h
theorem Same.trans {H H1 H2 : Hp} (a : Same H H1) (b : Same H1 H2) : Same H H2 := fun c o h => b c o (a c o h)
theorem Same.free {H H' : Hp} (e : Same H H') {l : Addr} (h : H' l = Option.none) : H l = Option.none := by
  cases q : H l with
  | none => rfl
  | some o =>
    rw [e l o q] at h
    cases h
theorem Same.seq {K : PySem.W.Frag} {H H' : Hp} {a : Addr} {xs : List V} (e : Same H H') (h : SqL K H a xs) : SqL K H' a xs := by
  rcases h with (h | ⟨o, h⟩) | h
  · exact .inl (.inl (e _ _ h))
  · exact .inl (.inr ⟨o, e _ _ h⟩)
  · exact .inr h

end L2

set_option Elab.async false
set_option linter.all false
set_option maxRecDepth 100000
set_option maxHeartbeats 4000000
namespace L2
open PySem PySem.Spec PyProof.Rows

/-! ### comprehensions -/
def closL (cells : List (Str × Addr)) : List (Str × NameKind) → List (Str × Addr) → List (Str × Addr)
  | [], cs => cs
  | (n, k) :: r, cs => if k == NameKind.free then closL cells r ((n, (cells.lookup n).getD 0) :: cs) else closL cells r cs
theorem closL_sub {cells : List (Str × Addr)} {x : Str} {c : Addr} : ∀ {names : List (Str × NameKind)} {cs : List (Str × Addr)}, (closL cells names cs).lookup x = some c →
    cs.lookup x = some c ∨ ((x, NameKind.free) ∈ names ∧ c = (cells.lookup x).getD 0)
  | [], cs, h => .inl h
  | (n, k) :: r, cs, h => by
    unfold closL at h
    by_cases hk : (k == NameKind.free) = true
    · rw [if_pos hk] at h
      rcases closL_sub h with h1 | ⟨h1, h2⟩
      · rw [List.lookup_cons] at h1
        by_cases hx : (x == n) = true
        · rw [hx] at h1
          have e : x = n := eq_of_beq hx
          have e2 : k = NameKind.free := eq_of_beq hk
          subst e e2
          exact .inr ⟨List.mem_cons_self, (Option.some.inj h1).symm⟩
        · have hx' : (x == n) = false := by simpa using hx
          rw [hx'] at h1
          exact .inl h1
      · exact .inr ⟨List.mem_cons_of_mem _ h1, h2⟩
    · rw [if_neg hk] at h
      rcases closL_sub h with h1 | ⟨h1, h2⟩
      · exact .inl h1
      · exact .inr ⟨List.mem_cons_of_mem _ h1, h2⟩
theorem closL_keep {cells : List (Str × Addr)} {x : Str} : ∀ {names : List (Str × NameKind)} {cs : List (Str × Addr)}, (∃ c, cs.lookup x = some c) → ∃ c, (closL cells names cs).lookup x = some c
  | [], cs, h => h
  | (n, k) :: r, cs, h => by
    unfold closL
    by_cases hk : (k == NameKind.free) = true
    · rw [if_pos hk]
      refine closL_keep ?_
      rw [List.lookup_cons]
      cases hx : x == n with
      | true => exact ⟨_, rfl⟩
      | false => exact h
    · rw [if_neg hk]
      exact closL_keep h
theorem closL_has {cells : List (Str × Addr)} {x : Str} : ∀ {names : List (Str × NameKind)} {cs : List (Str × Addr)}, (x, NameKind.free) ∈ names → ∃ c, (closL cells names cs).lookup x = some c
  | [], cs, h => by cases h
  | (n, k) :: r, cs, h => by
    unfold closL
    rcases List.mem_cons.mp h with e | h
    · have e1 : x = n := congrArg Prod.fst e
      have e2 : NameKind.free = k := congrArg Prod.snd e
      subst e1 e2
      rw [if_pos (by decide)]
      refine closL_keep ⟨(cells.lookup x).getD 0, ?_⟩
      rw [List.lookup_cons, beq_self_eq_true]
    · by_cases hk : (k == NameKind.free) = true
      · rw [if_pos hk]
        exact closL_has h
      · rw [if_neg hk]
        exact closL_has h
theorem relabel_free {env : Env} : ∀ {names : List (Str × NameKind)} {x : Str} {k' : NameKind}, (∀ y ∈ names, y.2 ≠ NameKind.cell) → k' ≠ .local → (k' = .cell ∨ k' = .free) →
    (names.map fun (n, k) => if (k == NameKind.free && env.scope.kind == .function && env.kindOf n == some .cell) then (n, NameKind.cell) else (n, k)).lookup x = some k' → (x, NameKind.free) ∈ names
  | [], _, _, _, _, _, h => by simp at h
  | (n, k) :: r, x, k', hc, hl, hk', h => by
    have ih := @relabel_free env r x k' (fun y hy => hc y (List.mem_cons_of_mem _ hy)) hl hk'
    have h0 : List.lookup x ((if (k == NameKind.free && env.scope.kind == .function && env.kindOf n == some .cell) = true then (n, NameKind.cell) else (n, k)) :: (r.map fun (n, k) => if (k == NameKind.free && env.scope.kind == .function && env.kindOf n == some .cell) then (n, NameKind.cell) else (n, k))) = some k' := h
    by_cases hcnd : (k == NameKind.free && env.scope.kind == .function && env.kindOf n == some .cell) = true
    · rw [if_pos hcnd, List.lookup_cons] at h0
      have e2 : k = NameKind.free := by
        have q := (Bool.and_eq_true_iff.mp (Bool.and_eq_true_iff.mp hcnd).1).1
        exact eq_of_beq q
      cases hx : x == n with
      | true =>
        have e : x = n := eq_of_beq hx
        subst e e2
        exact List.mem_cons_self
      | false =>
        rw [hx] at h0
        exact List.mem_cons_of_mem _ (ih h0)
    · rw [if_neg hcnd, List.lookup_cons] at h0
      cases hx : x == n with
      | true =>
        rw [hx] at h0
        have e : x = n := eq_of_beq hx
        have e3 : k = k' := Option.some.inj h0
        subst e e3
        rcases hk' with z | z
        · exact absurd z (hc _ List.mem_cons_self)
        · subst z
          exact List.mem_cons_self
      | false =>
        rw [hx] at h0
        exact List.mem_cons_of_mem _ (ih h0)

structure CompSc (sc scope : Scope) (N tgs : List Str) (fr : List Nat) : Prop where
  kind : scope.kind = .function
  nocell : ∀ y ∈ scope.names, y.2 ≠ NameKind.cell
  loc : ∀ y ∈ scope.names, y.2 = NameKind.local → scope.names.lookup y.1 = some NameKind.local
  free : ∀ y ∈ scope.names, y.2 = NameKind.free → sc.names.lookup y.1 = some NameKind.cell
  frs : ∀ j ∈ fr, (N[j]?.bind fun x => scope.names.lookup x) = some NameKind.free

def compN (N tgs : List Str) (fr : List Nat) : List Str := tgs ++ fr.map fun j => (N[j]?).getD ⟨#[]⟩
def compFr (fr : List Nat) (σ : St) : St := fr.map fun j => (σ[j]?).getD none
def compSt (n : Nat) (fr : List Nat) (σ : St) : St := List.replicate n none ++ compFr fr σ

def compCx (X : Cx) (Nc : List Str) (scope : Scope) (C : Addr) (s2 : Shared) (H2 : Hp) (fp : List Addr) : Cx :=
  { X with N := Nc, s₀ := s2, H₀ := H2, env := compEnvC scope (closL X.env.cells scope.names []) C X.env, outer := X.stack, ex := fp, fn := fun _ => false, pn := [], xe := fun _ _ => False }

def PTs (X : Cx) (ifs : List Expr) (t : TT) : Prop :=
  ∀ (pins : List (Addr × Obj)) (s : Shared) (σ : St) (H : Hp) (Q : Bool → Hp → Prop), Inv X pins σ H s → t σ H Q →
    wpAny (model X.prog X.w) X.A (forIn ifs true fun c r => if r = true then do let ok ← isTrue c X.env (eval c X.env); pure (ForInStep.yield ok) else pure (ForInStep.yield r)) (TP X pins σ Q) X.xe s
def tYes : TT := fun _ H Q => Q true H
theorem pts_nil {X : Cx} : PTs X [] tYes := fun _ _ _ H _ I h => wpAny_tests_nil ⟨H, I, h⟩
section
variable {prog : Program} {w : World} {A : Around} {R : Result → Shared → Prop} {s : Shared}
theorem compLoop_any {elt target iter : Expr} {ifs : List Expr} {scope : Scope} {pos : Pos} {it acc : Value} {env : Env} (I : Nat → Shared → Prop)
    (turn : ∀ n s, I n s → wpAny (model prog w) A (pyNext it) (fun r s₁ => match r with
      | none => R (.ok .next) s₁
      | some v => wpAny (model prog w) A (letOwnedTupleGo target it v) (fun _ s₁' => wpAny (model prog w) A (assign target env v) (fun _ s₂ =>
          wpAny (model prog w) A (forIn ifs true fun c r => if r = true then do let ok ← isTrue c env (eval c env); pure (ForInStep.yield ok) else pure (ForInStep.yield r)) (fun ok s₃ =>
            if ok = true then wpAny (model prog w) A (eval elt env) (fun x s₄ =>
              wpAny (model prog w) A (call (.builtin "list.append") [acc, x]) (fun _ s₅ => ∃ m, m < n ∧ I m s₅) (fun _ _ => False) s₄) (fun _ _ => False) s₃
            else ∃ m, m < n ∧ I m s₃) (fun _ _ => False) s₂) (fun _ _ => False) s₁') (fun _ _ => False) s₁) (fun _ _ => False) s)
    (n : Nat) (h : I n s) :
    codeAny (model prog w) A (.compLoop (.ListComp elt [⟨target, iter, ifs, 0⟩] scope pos) 0 it acc env) R s := by
  refine codeAny_loop rfl I (fun n s hI => ?_) n h
  show wpAny _ A ((compTurn (.ListComp elt [⟨target, iter, ifs, 0⟩] scope pos) 0 it acc env).onRaise (fun x => do noteFrame x env; theTreesLotGoes x)) _ _ s
  refine wpAny_noted ?_
  rw [compTurn_list]
  refine wpAny_bind (wpAny_standAt (wpAny_bind (wpAny_mono (turn n s hI) (fun r s₁ h₁ => ?_) fun _ _ h' => h'.elim)))
  cases r with
  | none => exact wpAny_pure h₁
  | some v =>
    refine wpAny_bind (wpAny_mono h₁ (fun _ s₁' h₁' => ?_) fun _ _ h' => h'.elim)
    refine wpAny_bind (wpAny_mono h₁' (fun _ s₂ h₂ => wpAny_bind (wpAny_mono h₂ (fun ok s₃ h₃ => ?_) fun _ _ h' => h'.elim)) fun _ _ h' => h'.elim)
    cases ok with
    | false => exact wpAny_pure ⟨rfl, h₃⟩
    | true =>
      exact wpAny_bind (wpAny_bind (wpAny_mono h₃ (fun x s₄ h₄ => wpAny_bind (wpAny_mono h₄ (fun _ s₅ h₅ => wpAny_pure (wpAny_pure ⟨rfl, h₅⟩)) fun _ _ h' => h'.elim)) fun _ _ h' => h'.elim))
end

/-- the comprehension's turns, from the heap H1 behind the iterator's making; D: the list that is built -/
def CompRun (n : Nat) (fr : List Nat) (J : It) (g : TG) (tt : TT) (te : TE) (σ : St) (D : Addr) (H1 : Hp) (Q : Hp → Prop) : Prop :=
  ∃ W : Nat → Nat → List V → Hp → Prop, (∃ m, W 0 m [] (upd H1 D (.lst []))) ∧ ∀ i m ys H', W i m ys H' →
    (J.stop i H' ∧ Q H') ∨ (J.go i H' ∧ ∀ x H2, J.yld i H' x H2 → g x (compSt n fr σ) H2 fun σ3 H3 => (∃ zs : St, zs.length = n ∧ σ3 = zs ++ compFr fr σ) ∧ tt σ3 H3 fun b H4 =>
      if b = true then te σ3 H4 fun y H5 => H5 D = some (.lst ys) ∧ ys.length < sizeLine ∧ ∃ m', m' < m ∧ W (i + 1) m' (ys ++ [y]) (upd H5 D (.lst (ys ++ [y])))
      else ∃ m', m' < m ∧ W (i + 1) m' ys H4)
def tComp (n : Nat) (fr : List Nat) (wi : TI) (g : TG) (tt : TT) (te : TE) : TE := fun σ H Q => wi σ H fun J H1 => ∀ D, H1 D = none → CompRun n fr J g tt te σ D H1 (Q (.ref D))
def tCompSet (n : Nat) (fr : List Nat) (wi : TI) (g : TG) (tt : TT) (te : TE) (i : Nat) : TS := fun D σ H => wi σ H fun J H1 => ∀ l, H1 l = none → CompRun n fr J g tt te σ l H1 (D.nx (σ.set i (some (.ref l))))

section
variable {X : Cx} {tg iter elt : Expr} {ifs : List Expr} {scope sc : Scope} {tgs : List Str} {fr : List Nat} {wi : TI} {g : TG} {tt : TT} {te : TE} {pos : Pos}

theorem comp_core {pins : List (Addr × Obj)} {σ : St} {H2 : Hp} {s2 : Shared} {it : Addr} {fp : List Addr} {tn : Nat → Heap → Prop} {J : It} {RR : Value → Addr → Result → Shared → Prop} {E : Value → Shared → Prop} {Qf : Hp → Prop}
    (hsc : X.env.scope = sc) (S : CompSc sc scope X.N tgs fr) (hc : X.calm = true)
    (hg : ∀ C s2 H2 fp, PG (compCx X (compN X.N tgs fr) scope C s2 H2 fp) tg g) (ht : ∀ C s2 H2 fp, PTs (compCx X (compN X.N tgs fr) scope C s2 H2 fp) ifs tt) (he : ∀ C s2 H2 fp, PE (compCx X (compN X.N tgs fr) scope C s2 H2 fp) elt te)
    (I2 : Inv X pins σ H2 s2) (T : Turn X.prog X.w X.K tg J fp it tn) (st2 : tn 0 s2.heap) (f2 : ∀ b ∈ fp, FpOk X pins H2 b)
    (run : CompRun tgs.length fr J g tt te σ s2.heap.objs.size H2 Qf)
    (hRR : ∀ (C : Addr) (H3 : Hp) (s4 : Shared), Inv X pins σ H3 s4 → FpOk X pins H3 C → (∃ m, s4.heap.Ns C m) → Qf H3 → RR (.ref s2.heap.objs.size) C (.ok .next) s4) :
    wpAny (model X.prog X.w) X.A (newList []) (fun acc s₃ => wpAny (model X.prog X.w) X.A (newFunctionEnv scope X.env.globals (closL X.env.cells scope.names []) [] X.env.qual none .none (some X.env)) (fun cenv s₄ =>
      codeAny (model X.prog X.w) X.A (.compStart (.ListComp elt [⟨tg, iter, ifs, 0⟩] scope pos) 0 (.ref it) acc { cenv with scope := relabel scope X.env }) (RR acc cenv.locals) s₄) E s₃) E s2 := by
  refine wpAny_newObj_type (wpAny_newFunctionEnv S.nocell (by intro y hy; simp at hy) (fun h₁ hns₁ hsb₁ => ?_) S.kind)
  dsimp only at hns₁ hsb₁ ⊢
  generalize hG2 : s2.heap.push { cls := .type "list", dict := none, data := .seq ([] : List Value).toArray } = G2 at hns₁ hsb₁ ⊢
  have hC : G2.objs.size = s2.heap.objs.size + 1 := by rw [← hG2, Heap.size_push]
  have hDC : s2.heap.objs.size ≠ G2.objs.size := by rw [hC]; exact Nat.ne_of_lt (Nat.lt_succ_self _)
  have hle : s2.heap.objs.size ≤ G2.objs.size := by rw [hC]; exact Nat.le_succ _
  have below : ∀ b, b < s2.heap.objs.size → b ≠ G2.objs.size ∧ b ≠ s2.heap.objs.size := fun b hb => ⟨Nat.ne_of_lt (Nat.lt_of_lt_of_le hb hle), Nat.ne_of_lt hb⟩
  have old : ∀ b o, s2.heap.get? b = some o → h₁.get? b = some o := fun b o e => hsb₁.extBut b o (below b (Heap.lt_size e)).1 (Heap.get?_push_of_some _ (hG2 ▸ Heap.get?_push_of_some _ e))
  have accO : h₁.get? s2.heap.objs.size = some { cls := .type "list", data := .seq ([] : List Value).toArray 0 } := hsb₁.extBut _ _ hDC (Heap.get?_push_of_some _ (hG2 ▸ Heap.get?_push_size _ rfl))
  have hfree0 : ∀ y ∈ scope.names, y.2 = NameKind.free → ∃ c, X.env.cells.lookup y.1 = some c := fun y hy e => I2.ok.has y.1 (.inl (by show X.env.scope.names.lookup y.1 = _; rw [hsc]; exact S.free y hy e))
  have subC : ∀ x c, (closL X.env.cells scope.names []).lookup x = some c → X.env.cells.lookup x = some c := fun x c e => by
    rcases closL_sub e with z | ⟨z1, z2⟩
    · simp at z
    · obtain ⟨c', e'⟩ := hfree0 _ z1 rfl
      rw [z2, e']
      rfl
  have cellLt : ∀ x c, X.env.cells.lookup x = some c → c < s2.heap.objs.size := fun x c e => by
    obtain ⟨v, q⟩ := I2.cell x c e
    exact q.lt
  have fpLt : ∀ b ∈ fp, b < s2.heap.objs.size := fun b hb => by
    obtain ⟨o, e, _⟩ := T.obj 0 _ st2 b hb
    exact Heap.lt_size e
  have ok3 : (compCx X (compN X.N tgs fr) scope G2.objs.size s2 H2 fp).Ok := by
    refine ⟨I2.ok.mod, S.kind, I2.ok.glob, I2.ok.blt, hle, fun x y c e1 e2 => I2.ok.inj x y c (subC x c e1) (subC y c e2), fun x hx => ?_, fun x c z _ => absurd z Bool.false_ne_true, I2.ok.hd, I2.ok.frames, .inl rfl,
      fun b hb => ⟨(below b (fpLt b hb)).1, fun x c e => (f2 b hb).2.2.2.2.1 x c (subC x c e)⟩, I2.bs, Nat.le_trans I2.ok.bsz I2.sz, fun b o e hb => ?_, fun b hb z => ?_, I2.stack, I2.stkFree⟩
    · rcases hx with hx | hx
      · exact closL_has (relabel_free (env := X.env) S.nocell (by decide) (.inl rfl) hx)
      · exact closL_has (relabel_free (env := X.env) S.nocell (by decide) (.inr rfl) hx)
    · rcases (f2 b hb).2.2.2.1 with z | z
      · exact I2.ok.noex b o e z
      · exact absurd (Nat.lt_of_lt_of_le (Heap.lt_size e) (Nat.le_trans I2.ok.bsz z)) (Nat.lt_irrefl _)
    · rcases List.mem_cons.mp (I2.stkSub b z) with z | z
      · exact (f2 b hb).2.1 z
      · exact (f2 b hb).2.2.1 z
  have I3 : Inv (compCx X (compN X.N tgs fr) scope G2.objs.size s2 H2 fp) [] (compSt tgs.length fr σ) (upd H2 s2.heap.objs.size (.lst [])) { s2 with heap := h₁, toks := s2.toks + ([] : List (Str × Value)).length } := by
    refine ⟨ok3, rfl, I2.bare, Un.laid old (Nat.le_refl _) I2.fresh, ⟨_, hns₁, fun i x v e1 e2 e3 => ?_⟩, fun x c e => ?_, ?_, fun x c e => ?_, fun p hp => absurd (show p ∈ ([] : List (Addr × Obj)) from hp) (by simp), I2.hok.laid old (Nat.le_refl _) ⟨Nat.zero_le _, [], 0, .nil, accO⟩, ?_⟩
    · -- a name of the comprehension that has a value at the start is one of the def's cells
      have hi : tgs.length ≤ i := by
        refine Nat.le_of_not_lt fun hlt => ?_
        unfold compSt at e2
        rw [List.getElem?_append_left (by simpa using hlt), List.getElem?_replicate, if_pos hlt] at e2
        cases e2
      have e2' : (compFr fr σ)[i - tgs.length]? = some (some v) := by
        unfold compSt at e2
        rw [List.getElem?_append_right (by simpa using hi)] at e2
        simpa using e2
      have e1' : (fr.map fun j => (X.N[j]?).getD ⟨#[]⟩)[i - tgs.length]? = some x := by
        have e1 : (compN X.N tgs fr)[i]? = some x := e1
        unfold compN at e1
        rw [List.getElem?_append_right hi] at e1
        exact e1
      unfold compFr at e2'
      rw [List.getElem?_map] at e1' e2'
      cases ej : fr[i - tgs.length]? with
      | none => rw [ej] at e1'; cases e1'
      | some j =>
        rw [ej] at e1' e2'
        have e1j : (X.N[j]?).getD ⟨#[]⟩ = x := Option.some.inj e1'
        have e2j : (σ[j]?).getD none = some v := Option.some.inj e2'
        have hfr := S.frs j (List.mem_of_getElem? ej)
        cases eN : X.N[j]? with
        | none => rw [eN] at hfr; cases hfr
        | some x' =>
          rw [eN] at hfr e1j
          have ex : x' = x := e1j
          subst ex
          have hfx : scope.names.lookup x' = some NameKind.free := hfr
          have hσ : σ[j]? = some (some v) := by
            cases eσ : σ[j]? with
            | none => rw [eσ] at e2j; cases e2j
            | some o => rw [eσ] at e2j; exact congrArg some e2j
          have hmem := PySem.mem_of_lookup hfx
          have hkc : X.env.scope.names.lookup x' = some NameKind.cell := by rw [hsc]; exact S.free _ hmem rfl
          obtain ⟨m, hn, hl⟩ := I2.loc
          obtain ⟨u, ru, lk⟩ := hl j x' v eN hσ (.inr (.inl hkc))
          refine ⟨u, ru, .inr ⟨?_, ?_⟩⟩
          · have e3 : (relabel scope X.env).names.lookup x' = some NameKind.local ∨ (relabel scope X.env).names.lookup x' = some NameKind.cell ∨ (relabel scope X.env).names.lookup x' = some NameKind.free := e3
            rcases e3 with z | z | z
            · exfalso
              -- a free name is not relabelled as a local
              have key : ∀ (names : List (Str × NameKind)), names.lookup x' = some NameKind.free → (names.map fun (n, k) => if (k == NameKind.free && X.env.scope.kind == .function && X.env.kindOf n == some .cell) then (n, NameKind.cell) else (n, k)).lookup x' ≠ some NameKind.local := by
                intro names
                induction names with
                | nil => intro h; simp at h
                | cons p r ih =>
                  obtain ⟨n, k⟩ := p
                  intro h h2
                  have h2 : List.lookup x' ((if (k == NameKind.free && X.env.scope.kind == .function && X.env.kindOf n == some .cell) = true then (n, NameKind.cell) else (n, k)) :: (r.map fun (n, k) => if (k == NameKind.free && X.env.scope.kind == .function && X.env.kindOf n == some .cell) then (n, NameKind.cell) else (n, k))) = some NameKind.local := h2
                  rw [List.lookup_cons] at h
                  cases hx : x' == n with
                  | true =>
                    rw [hx] at h
                    have ek : k = NameKind.free := Option.some.inj h
                    subst ek
                    split at h2
                    · rw [List.lookup_cons, hx] at h2; cases h2
                    · rw [List.lookup_cons, hx] at h2; cases h2
                  | false =>
                    rw [hx] at h
                    split at h2
                    · rw [List.lookup_cons, hx] at h2; exact ih h h2
                    · rw [List.lookup_cons, hx] at h2; exact ih h h2
              exact key scope.names hfx z
            · exact .inl z
            · exact .inr z
          · obtain ⟨c, ec⟩ := closL_has (cells := X.env.cells) (cs := []) hmem
            rcases lk with ⟨k1, _⟩ | ⟨_, c', ec', ic⟩
            · have k1 : X.env.scope.names.lookup x' = some NameKind.local := k1
              rw [hkc] at k1; cases k1
            · have q := subC _ _ ec
              rw [ec'] at q
              have q' : c' = c := Option.some.inj q
              subst q'
              exact ⟨_, ec, ic.keeps old⟩
    · obtain ⟨v, q⟩ := I2.cell x c (subC x c e)
      exact ⟨v, q.keeps old⟩
    · show upd H2 s2.heap.objs.size (.lst []) G2.objs.size = none
      rw [upd_ne hDC.symm]
      exact I2.hok.fresh hle
    · rw [upd_ne (Nat.ne_of_lt (cellLt x c (subC x c e)))]
      exact I2.freeC x c (subC x c e)
    · unfold compSt compFr
      show _ = (compN X.N tgs fr).length
      unfold compN
      simp
  obtain ⟨W, ⟨m0, w0⟩, turn⟩ := run
  have stat : ∀ {H' : Hp}, (∀ b ∈ fp, H' b = none) → ∀ b ∈ fp, FpOk (compCx X (compN X.N tgs fr) scope G2.objs.size s2 H2 fp) [] H' b := fun hn b hb =>
    ⟨hn b hb, (below b (fpLt b hb)).1, ok3.exfs b hb, .inl hb, (ok3.exf b hb).2, fun p hp => absurd (show p ∈ ([] : List (Addr × Obj)) from hp) (by simp)⟩
  have fr3 : ∀ b ∈ fp, upd H2 s2.heap.objs.size (.lst []) b = none := fun b hb => by rw [upd_ne (below b (fpLt b hb)).2]; exact (f2 b hb).1
  have st3 : tn 0 h₁ := T.keep 0 _ _ st2 fun b _ o e => old b o e
  have fin : ∀ {H3 : Hp} {s4 : Shared}, Inv (compCx X (compN X.N tgs fr) scope G2.objs.size s2 H2 fp) [] (compSt tgs.length fr σ) H3 s4 → Qf H3 → RR (.ref s2.heap.objs.size) G2.objs.size (.ok .next) s4 := fun {H3 s4} I4 q => by
    obtain ⟨m, hn, _⟩ := id I4.loc
    have ub : Un (frs X.stack) fp H2 H3 s2.heap s4.heap := I4.base
    refine hRR G2.objs.size H3 s4 (I2.call' (ch := fp) (s' := s4) I4.os ub I4.hok I4.bare fun b hb => ⟨(f2 b hb).2.2.2.1, (f2 b hb).2.1, (f2 b hb).2.2.2.2.1, (f2 b hb).2.2.2.2.2⟩) (I2.fpOk hle I4.free) ⟨m, hn⟩ q
  have loop : ∀ s₃ : Shared, s₃ = { s2 with heap := h₁, toks := s2.toks + ([] : List (Str × Value)).length } →
      codeAny (model X.prog X.w) X.A (.compLoop (.ListComp elt [⟨tg, iter, ifs, 0⟩] scope pos) 0 (.ref it) (.ref s2.heap.objs.size) (compEnvC scope (closL X.env.cells scope.names []) G2.objs.size X.env)) (RR (.ref s2.heap.objs.size) G2.objs.size) s₃ := by
    rintro s₃ rfl
    refine compLoop_any (fun n s' => ∃ i ys H', Inv (compCx X (compN X.N tgs fr) scope G2.objs.size s2 H2 fp) [] (compSt tgs.length fr σ) H' s' ∧ tn i s'.heap ∧ (∀ b ∈ fp, H' b = none) ∧ W i n ys H') ?_ m0 ⟨0, [], _, I3, st3, fr3, w0⟩
    rintro n s5 ⟨i, ys, H3, J3, sti, fri, w3⟩
    rcases turn i n ys H3 w3 with ⟨stop, q⟩ | ⟨go, step⟩
    · refine wpAny_mono (T.done (compCx X (compN X.N tgs fr) scope G2.objs.size s2 H2 fp) rfl rfl rfl hc i [] s5 _ H3 (fun _ _ => False) J3 (stat fri) sti stop) (fun r s6 ⟨hr, J4⟩ => ?_) (fun _ _ f => f)
      subst hr
      exact fin J4 q
    · refine wpAny_mono (T.item (compCx X (compN X.N tgs fr) scope G2.objs.size s2 H2 fp) rfl rfl rfl hc i [] s5 _ H3 (fun _ _ => False) J3 (stat fri) sti go) (fun r s6 ⟨u, hr, h6⟩ => ?_) (fun _ _ f => f)
      subst hr
      refine wpAny_mono h6 (fun _ s7 ⟨x, H7, J7, r7, y7, st7, fr7⟩ => ?_) (fun _ _ f => f)
      have J7' := J7.pinned (stat fr7) (T.obj _ _ st7)
      refine wpAny_mono (hg G2.objs.size s2 H2 fp _ s7 _ H7 x u _ J7' r7 (step x H7 y7)) (fun _ s8 ⟨σ8, H8, J8, ⟨zs, hz, e8⟩, q8⟩ => ?_) (fun _ _ f => f)
      have again : ∀ {H9 : Hp} {s9 : Shared} {ys' : List V}, Inv (compCx X (compN X.N tgs fr) scope G2.objs.size s2 H2 fp) ([] ++ pinsAt fp s7.heap) σ8 H9 s9 → (∃ m', m' < n ∧ W (i + 1) m' ys' H9) →
          ∃ m, m < n ∧ ∃ i ys H', Inv (compCx X (compN X.N tgs fr) scope G2.objs.size s2 H2 fp) [] (compSt tgs.length fr σ) H' s9 ∧ tn i s9.heap ∧ (∀ b ∈ fp, H' b = none) ∧ W i m ys H' := fun {H9 s9 ys'} J9 ⟨m', hm, w9⟩ => by
        refine ⟨m', hm, i + 1, ys', H9, J9.unpinned.weak ?_ ?_, T.keep _ _ _ st7 fun b hb o e => (J9.pin (b, o) (List.mem_append_right _ (List.mem_append_right _ (mem_pinsAt hb e)))).1, fun b hb => ?_, w9⟩
        · rw [e8]; unfold compSt; simp [hz]
        · intro k v ek
          rw [e8]
          unfold compSt at ek
          by_cases hk : k < tgs.length
          · rw [List.getElem?_append_left (by simpa using hk), List.getElem?_replicate, if_pos hk] at ek
            cases ek
          · rw [List.getElem?_append_right (by simpa using hk)] at ek
            rw [List.getElem?_append_right (by omega), hz]
            simpa using ek
        · obtain ⟨o, e, d⟩ := T.obj _ _ st7 b hb
          exact (J9.pin (b, o) (List.mem_append_right _ (List.mem_append_right _ (mem_pinsAt hb e)))).2.1
      refine wpAny_mono (ht G2.objs.size s2 H2 fp _ s8 σ8 H8 _ J8 q8) (fun ok s9 ⟨H9, J9, q9⟩ => ?_) (fun _ _ f => f)
      cases ok with
      | false =>
        rw [if_neg Bool.false_ne_true] at q9 ⊢
        exact again J9 q9
      | true =>
        rw [if_pos rfl] at q9 ⊢
        refine wpAny_mono (he G2.objs.size s2 H2 fp _ s9 σ8 H9 _ J9 q9) (fun y s10 ⟨v10, H10, J10, r10, hD, hlen, q10⟩ => ?_) (fun _ _ f => f)
        refine wpAny_mono (mt_append (X := compCx X (compN X.N tgs fr) scope G2.objs.size s2 H2 fp) _ s10 σ8 H10 (.ref s2.heap.objs.size) [v10] (.ref s2.heap.objs.size) [y] (fun _ H11 => H11 = upd H10 s2.heap.objs.size (.lst (ys ++ [v10]))) J10 rfl (.cons r10 .nil) ⟨_, ys, v10, rfl, rfl, hD, hlen, rfl⟩) (fun _ s11 ⟨_, H11, J11, _, e11⟩ => ?_) (fun _ _ f => f)
        subst e11
        exact again J11 q10
  exact codeAny_compStart_list (loop _ rfl) (T.self _ 0 _ _ _ st3 (loop _ rfl))

theorem pe_comp (hi : PI X tg iter wi) (sc : Scope) (hsc : X.env.scope = sc) (S : CompSc sc scope X.N tgs fr) (hc : X.calm = true) (hclos : closureFor scope X.env = pure (closL X.env.cells scope.names []))
    (hg : ∀ C s2 H2 fp, PG (compCx X (compN X.N tgs fr) scope C s2 H2 fp) tg g) (ht : ∀ C s2 H2 fp, PTs (compCx X (compN X.N tgs fr) scope C s2 H2 fp) ifs tt) (he : ∀ C s2 H2 fp, PE (compCx X (compN X.N tgs fr) scope C s2 H2 fp) elt te)
    (hs : ∀ x, foldedSetIterable iter X.env x = pure x := by intro _; rfl) : PE X (.ListComp elt [⟨tg, iter, ifs, 0⟩] scope pos) (tComp tgs.length fr wi g tt te) := by
  intro pins s σ H Q I h
  rw [eval_ListComp]
  refine wpAny_comprehension_free (use := none) rfl hs hclos S.kind S.loc (wpAny_mono (hi pins s σ H _ I h) (fun v s1 h1 => wpAny_mono h1 (fun itv s2 h2 => ?_) fun _ _ e => e) fun _ _ e => e)
  obtain ⟨it, fp, tn, J, H2, e, I2, T, st2, f2, R2⟩ := h2
  subst e
  refine comp_core (RR := fun acc C => compPost (model X.prog X.w) X.A X.xe none (EP X pins σ Q) acc C) hsc S hc hg ht he I2 T st2 f2 (R2 _ I2.fresh) ?_
  intro C H3 s4 I4 fC ⟨m, hn⟩ q
  refine ⟨m, hn, fun h' hs' => ⟨.ref s2.heap.objs.size, H3, ?_, rfl, q⟩⟩
  obtain ⟨hh, gg, dd, tt', oo⟩ := s4
  exact I4.turned (h' := h') (t' := tt') (it := C) (fun b o hb e => hs'.extBut b o hb e) fC.1 fC.2.1 fC.2.2.2.1 fC.2.2.2.2.1 fC.2.2.2.2.2

theorem ps_setComp {i : Nat} {y : Str} {py spos : Pos} (hN : X.N.Nodup) (hiy : X.N[i]? = some y) (hi : PI X tg iter wi) (sc : Scope) (hsc : X.env.scope = sc) (S : CompSc sc scope X.N tgs fr) (hc : X.calm = true)
    (hclos : closureFor scope X.env = pure (closL X.env.cells scope.names []))
    (hg : ∀ C s2 H2 fp, PG (compCx X (compN X.N tgs fr) scope C s2 H2 fp) tg g) (ht : ∀ C s2 H2 fp, PTs (compCx X (compN X.N tgs fr) scope C s2 H2 fp) ifs tt) (he : ∀ C s2 H2 fp, PE (compCx X (compN X.N tgs fr) scope C s2 H2 fp) elt te)
    (hy : X.env.scope.names.lookup y = some NameKind.local)
    (hsw : swapsWith (.ListComp elt [⟨tg, iter, ifs, 0⟩] scope pos) (some (.Name y py)) spos.line X.env = pure true)
    (hs : ∀ x, foldedSetIterable iter X.env x = pure x := by intro _; rfl) :
    PS X (.Assign [.Name y py] (.ListComp elt [⟨tg, iter, ifs, 0⟩] scope pos) spos) (tCompSet tgs.length fr wi g tt te i) := by
  intro pins s σ H D I h
  rw [exec_Assign_Name_used _ _ _ _ hsw]
  refine wpAny_bind (wpAny_standAt (wpAny_bind ?_))
  show wpAny _ X.A (do let _ ← comprehension (.ListComp elt [⟨tg, iter, ifs, 0⟩] scope pos) scope X.env _ (newList []) false (eval iter X.env) (some (assign (.Name y py) X.env))) _ _ s
  refine wpAny_bind (wpAny_mono (wpAny_comprehension_free (use := some (assign (.Name y py) X.env)) (Q := fun _ s' => SP X pins D .next s') rfl hs hclos S.kind S.loc
    (wpAny_mono (hi pins s σ H _ I h) (fun v s1 h1 => wpAny_mono h1 (fun itv s2 h2 => ?_) fun _ _ e => e) fun _ _ e => e)) (fun _ s' hq => wpAny_pure (wpAny_pure hq)) fun _ _ e => e)
  obtain ⟨it, fp, tn, J, H2, e, I2, T, st2, f2, R2⟩ := h2
  subst e
  refine comp_core (RR := fun acc C => compPost (model X.prog X.w) X.A X.xe (some (assign (.Name y py) X.env)) (fun _ s' => SP X pins D .next s') acc C) hsc S hc hg ht he I2 T st2 f2 (R2 _ I2.fresh) ?_
  intro C H3 s4 I4 fC ⟨m, hn⟩ q
  refine wpAny_assign_Name (store_ok2 (v := .ref s2.heap.objs.size) I4 hN hiy (.inl hy) rfl (fun s5 I5 ⟨a, hsb, ha⟩ => ?_) (.inr hy))
  have hLC : C ≠ a := by
    rcases ha with z | z
    · rw [z]; exact fC.2.1
    · exact fun z2 => fC.2.2.2.2.1 y a z z2.symm
  refine ⟨m, hn.sameBut hsb hLC, fun h' hs' => ⟨_, H3, ?_, q⟩⟩
  obtain ⟨hh, gg, dd, tt', oo⟩ := s5
  exact I5.turned (h' := h') (t' := tt') (it := C) (fun b o hb e => hs'.extBut b o hb e) fC.1 fC.2.1 fC.2.2.2.1 fC.2.2.2.2.1 fC.2.2.2.2.2
end
end L2

set_option Elab.async false
set_option linter.all false
set_option maxRecDepth 100000
set_option maxHeartbeats 4000000
namespace L2
open PySem PySem.Spec PyProof.Rows
open PySem.Builtin.Int (intBits)

/-! ### products of great numbers -/
section
variable {X : Cx}
theorem op_mulO : OpR X (binaryOp .Mult) (rI IntMulOk fun i j => .int (i * j)) := opI fun _ _ _ _ _ _ _ hc q => mul_int q hc
end
theorem mulOk {a b : Int} {m n : Nat} (ha : intBits a ≤ m) (hb : intBits b ≤ n) (h : m + n ≤ 134217728) : IntMulOk a b := PyProof.Rows.mulOk_of_bits ha hb h
theorem mulOk_r {a b : Int} (h1 : -(2 ^ 64) < b) (h2 : b < 2 ^ 64) : IntMulOk a b := IntMulOk.of_right (intBits_le_64 h1 h2)
theorem mulOk_l {a b : Int} (h1 : -(2 ^ 64) < a) (h2 : a < 2 ^ 64) : IntMulOk a b := IntMulOk.of_left (intBits_le_64 h1 h2)
/-! ### isinstance of a built-in class -/
def kitB (T C : String) : Option Bool := if (Value.type T == Value.type C) = true then some true else if PySem.W.kitMeta C = true then (fastBuiltinMro T).map (·.contains (Value.type C)) else none
theorem kitOne_B (K : PySem.W.Frag) (T C : String) : PySem.W.kitOne K (.type T) (.type C) = kitB T C := rfl
theorem kb_int_int : kitB "int" "int" = some true := by decide +kernel
theorem kb_int_bool : kitB "int" "bool" = some false := by decide +kernel
theorem kb_bool_bool : kitB "bool" "bool" = some true := by decide +kernel
section
variable {X : Cx}
/-- isinstance(x, C): x of the built-in type T -/
def rIsi (K : PySem.W.Frag) : List V → Hp → VK → Prop := fun xs H Q => ∃ x T C b, xs = [x, .ty C] ∧ TyOf K H x (.type T) ∧ kitB T C = some b ∧ Q (.bl b) H
theorem call_isi : CallR X (.builtin "isinstance") (rIsi X.K) := by
  intro pins s σ H xs us Q I r h
  obtain ⟨x, T, C, b, rfl, ty, e, q⟩ := h
  obtain ⟨u, w', rfl, rx, rc⟩ := vals2 r
  obtain rfl : w' = Value.type C := rc
  exact isinst_ok I rx ty ((kitOne_B X.K T C).trans e) fun tk => ⟨.bl b, H, I.tok _, rfl, q⟩
/-- the name of a built-in type -/
theorem pe_ty {x : Str} {T : String} {pos : Pos} (hg : Gl X x) (hm : X.mg x = none) (hv : bootBuiltins x = some (.type T)) (hn : x ≠ "__name__" := by decide) (hd : (x == ("__debug__" : Str)) = false := by decide) : PE X (.Name x pos) (tC (.ty T)) :=
  pe_bltn hg hm hv rfl hn hd
end

/-! ### data: what a value is, through the heap -/
mutual
def Rp (H : Hp) : PyData → V → Prop
  | .none, v => v = .non
  | .bool b, v => v = .bl b
  | .int i, v => v = .int i
  | .tuple ds, v => ∃ a xs, v = .ref a ∧ H a = some (.tup xs) ∧ RpAll H ds xs
  | .list ds, v => ∃ a xs, v = .ref a ∧ H a = some (.lst xs) ∧ RpAll H ds xs
  | .str x, v => v = .str x ∧ PyData.strOk x = true
  | .dict _, _ => False
def RpAll (H : Hp) : List PyData → List V → Prop
  | [], vs => vs = []
  | d :: ds, vs => ∃ x xs, vs = x :: xs ∧ Rp H d x ∧ RpAll H ds xs
end
mutual
theorem rp_can {H : Hp} : ∀ (d : PyData) (v : V), Rp H d v → d.canLay0 = true
  | .none, _, _ => rfl
  | .bool _, _, _ => rfl
  | .int _, _, _ => rfl
  | .tuple ds, _, h => by
    unfold Rp at h
    obtain ⟨a, xs, _, _, h⟩ := h
    exact rpAll_can ds xs h
  | .list ds, _, h => by
    unfold Rp at h
    obtain ⟨a, xs, _, _, h⟩ := h
    exact rpAll_can ds xs h
  | .str x, v, h => by
    unfold Rp at h
    exact h.2
  | .dict _, _, h => by unfold Rp at h; exact h.elim
theorem rpAll_can {H : Hp} : ∀ (ds : List PyData) (vs : List V), RpAll H ds vs → PyData.canLayAll0 ds = true
  | [], _, _ => rfl
  | d :: ds, vs, h => by
    unfold RpAll at h
    obtain ⟨x, xs, _, h1, h2⟩ := h
    show (d.canLay0 && PyData.canLayAll0 ds) = true
    rw [rp_can d x h1, rpAll_can ds xs h2]
    rfl
end
section
variable {X : Cx} {pins : List (Addr × Obj)} {σ : St} {H : Hp} {s : Shared}
mutual
theorem rp_reads (I : Inv X pins σ H s) : ∀ (d : PyData) (v : V) (u : Value), Rp H d v → RelV v u → ∃ as, Reads s.heap u d as
  | .none, v, u, h, r => by
    unfold Rp at h
    subst h
    cases r
    exact ⟨_, .none⟩
  | .bool b, v, u, h, r => by
    unfold Rp at h
    subst h
    cases r
    exact ⟨_, .bool b⟩
  | .int i, v, u, h, r => by
    unfold Rp at h
    subst h
    obtain ⟨t, rfl⟩ := r
    exact ⟨_, .int i t⟩
  | .tuple ds, v, u, h, r => by
    unfold Rp at h
    obtain ⟨a, xs, rfl, ha, h⟩ := h
    cases r
    obtain ⟨_, its, rv, p⟩ := I.hok a _ ha
    obtain ⟨o, h1, h2, n, h3⟩ := p
    obtain ⟨as, q⟩ := rpAll_reads I ds xs its h rv
    exact ⟨_, .tuple h1 h2 h3 (by simpa using q)⟩
  | .list ds, v, u, h, r => by
    unfold Rp at h
    obtain ⟨a, xs, rfl, ha, h⟩ := h
    cases r
    obtain ⟨_, its, n, rv, p⟩ := I.hok a _ ha
    obtain ⟨as, q⟩ := rpAll_reads I ds xs its h rv
    exact ⟨_, .list p rfl rfl (by simpa using q)⟩
  | .str x, v, u, h, r => by
    unfold Rp at h
    obtain ⟨rfl, _⟩ := h
    obtain ⟨t, rfl⟩ := r
    exact ⟨_, .str x t⟩
  | .dict _, _, _, h, _ => by unfold Rp at h; exact h.elim
theorem rpAll_reads (I : Inv X pins σ H s) : ∀ (ds : List PyData) (vs : List V) (us : List Value), RpAll H ds vs → Vals vs us → ∃ as, ReadsAll s.heap us ds as
  | [], vs, us, h, r => by
    unfold RpAll at h
    subst h
    cases r
    exact ⟨_, .nil⟩
  | d :: ds, vs, us, h, r => by
    unfold RpAll at h
    obtain ⟨x, xs, rfl, h1, h2⟩ := h
    cases r with
    | cons r1 r2 =>
      obtain ⟨as, q1⟩ := rp_reads I d x _ h1 r1
      obtain ⟨bs, q2⟩ := rpAll_reads I ds xs _ h2 r2
      exact ⟨_, .cons q1 q2⟩
end
end
section
variable {X : Cx} {k : Nat}
def rEqD (neg : Bool) : R2 := fun x y H Q => ∃ d e : PyData, Rp H d x ∧ Rp H e y ∧ d.depth ≤ 60 ∧ Q (.bl (if neg then !PyData.eqv d e else PyData.eqv d e)) H
theorem op_eqD (hr : Room k X.A) : OpR X (compareOp .Eq) (rEqD false) := by
  intro pins s σ H x y v u Q I rx ry h
  obtain ⟨d, e, h1, h2, hd, q⟩ := h
  obtain ⟨as, q1⟩ := rp_reads I d x v h1 rx
  obtain ⟨bs, q2⟩ := rp_reads I e y u h2 ry
  have hu := hr.units
  exact PySem.SeqAt.compareEq_reads q1 q2 (rp_can d x h1) (rp_can e y h2) (by omega) ⟨.bl (PyData.eqv d e), H, I, rfl, q⟩
theorem op_neD (hr : Room k X.A) : OpR X (compareOp .NotEq) (rEqD true) := by
  intro pins s σ H x y v u Q I rx ry h
  obtain ⟨d, e, h1, h2, hd, q⟩ := h
  obtain ⟨as, q1⟩ := rp_reads I d x v h1 rx
  obtain ⟨bs, q2⟩ := rp_reads I e y u h2 ry
  have hu := hr.units
  exact PySem.SeqAt.compareNe_reads q1 q2 (rp_can d x h1) (rp_can e y h2) (by omega) ⟨.bl (!PyData.eqv d e), H, I, rfl, q⟩
end
theorem rp_ints {H : Hp} : ∀ ns : List Int, RpAll H (ns.map PyData.int) (ns.map V.int)
  | [] => by unfold RpAll; rfl
  | n :: ns => by
    show RpAll H (PyData.int n :: ns.map PyData.int) (V.int n :: ns.map V.int)
    unfold RpAll
    exact ⟨_, _, rfl, by unfold Rp; rfl, rp_ints ns⟩

/-! ### more of heaps -/
theorem Same.new {H H' : Hp} {p : Addr} {o : HO} (e : Same H H') (h : H p = none) : Same H (upd H' p o) := fun b u q => by
  rw [upd_ne (ne_of_none q h)]
  exact e b u q
theorem Same.upd {H : Hp} {p : Addr} {o : HO} (h : H p = none) : Same H (upd H p o) := (Same.refl H).new h

/-! ### the law's head, with the numbers' sizes -/
theorem walk_ofB {l : PySem.W.OpenLaw} {n k : Nat} {q : Program} {loose : List Str} {XP : (Str → Option Value) → Heap → Prop} {YP : World → Heap → Prop} {d : DefRec} {K : Params → PySem.W.Frag} {CX : World → CXT} {sp : World → Sp} {x : Str}
    (hn : l.most = some n) (hn2 : n ≤ sizeLine) (hdf : d.params.defaults = []) (hr : Room k callerA)
    (hY : ∀ (w : World) (h : Heap), YP w h → (K w.params).In h)
    (F : ∀ (w : World) (mg : Str → Option Value) (fa : Addr) (h : Heap), (K w.params).In h → h.Ns mainGlobals mg → mg d.name = some (.ref fa) →
      ∃ fd : FuncData, (∀ (s : Shared) (u : Value), BindsTo s fd ⟨[u], []⟩ [(x, u)]) ∧
        ∀ base : Heap, (K w.params).In base → base.Ns mainGlobals mg → FnOk l.prog w (K w.params) mg base (CX w) k fa fd [x] (sp w))
    (hsp : ∀ (w : World) (H : Hp) (a : Addr) (ns : List Int), ns.length ≤ n → (∀ z ∈ ns, intBits z ≤ 2 ^ 20) → Only H → SqL (K w.params) H a (ns.map V.int) → sp w [.ref a] H (fun v _ => v = .bl true) fun _ _ _ => False)
    (hCX : ∀ (w : World) (H : Hp) (s : Shared) (e : Value) (s' : Shared), CX w [] H s (fun _ _ _ => False) e s' → False) :
    PySem.W.WalkO q loose XP YP l.row.toRowW d [] (fun f vs => PySem.call f vs) := by
  intro w s₀ s₁ mg mb G Y fa o pm cd doc dV kV ho hd hcd hD hmg hg args vals as hpre hlay hrd hwl hlo
  obtain rfl : dV = .none := PySem.W.Dflts.none hD hdf
  obtain rfl : kV = .none := PySem.W.Dflts.noKw hD
  obtain ⟨a, vs, ns, rfl, rfl, hobj, hints, hlen⟩ := Att.script_of hn hpre hwl
  have big : ∀ z ∈ ns, intBits z ≤ 2 ^ 20 := fun z hz => by
    have l1 := (PySem.W.layW_cons hlay).1
    have l2 := PySem.W.layableW_item l1 (.int z) (List.mem_map.mpr ⟨z, hz, rfl⟩)
    have l3 := (PySem.W.layableW_iff.mp l2).2.2
    simpa only [PySem.W.WData.weight, Builtin.Int.intBits] using l3
  have KX := hY w _ Y
  obtain ⟨fd, hb, hF⟩ := F w mg fa _ KX G.T.g hmg
  refine PySem.W.enter_call (codeAny_mono (law_call KX G.T.g G.T.b G.T.builtins G.T.nolimit hg hobj hints (Nat.le_trans hlen hn2) hr hF hb (fun H hO hS => hsp w H a ns hlen big hO hS) fun H e s' => hCX w H s₁ e s') fun r s' hq => ?_)
  obtain ⟨rfl, h2, h3, h4⟩ := hq
  exact ⟨.inl ⟨.bool true, .bool true, [], rfl, fun _ => rfl, .bool true, Att.post_true l _, fun _ => ⟨List.Pairwise.nil, fun _ hm => (nomatch hm)⟩⟩, h2, h3, h4⟩
end L2

set_option Elab.async false
set_option linter.all false
set_option maxRecDepth 100000
set_option maxHeartbeats 4000000
namespace L2
open PySem PySem.Spec PyProof.Rows
open PySem.Builtin.Int (intBits)

section
variable {X : Cx} {tg : Expr}
/-! ### an item of a list or a tuple -/
def rIxQ (K : PySem.W.Frag) : R2 := fun x y H Q => ∃ p xs i v, x = .ref p ∧ y = .int i ∧ (SqL K H p xs ∨ SqT K H p xs) ∧ atI xs i = some v ∧ Q v H
theorem ix_sq (K : PySem.W.Frag) (hK : X.K = K := by rfl) : IxR X (rIxQ K) := by
  subst hK
  intro value slice pins s σ H x y v u Q I rx ry h hs
  obtain ⟨p, xs, i, z, e1, e2, h | h, ea, q⟩ := h
  · exact ix_list value slice pins s σ H x y v u Q I rx ry ⟨p, xs, i, z, e1, e2, h, ea, q⟩ hs
  · exact ix_tup value slice pins s σ H x y v u Q I rx ry ⟨p, xs, i, z, e1, e2, h, ea, q⟩ hs
/-! ### rules of the layer with the text's part K told, for a comprehension's inside -/
def rLen (K : PySem.W.Frag) : List V → Hp → VK → Prop := fun xs H Q => ∃ p ys, xs = [.ref p] ∧ (SqL K H p ys ∨ SqT K H p ys) ∧ Q (.int ys.length) H
theorem call_lenK (K : PySem.W.Frag) (hK : X.K = K := by rfl) : CallR X (.builtin "len") (rLen K) := by
  subst hK
  exact call_len_seq
theorem call_isiK (K : PySem.W.Frag) (hK : X.K = K := by rfl) : CallR X (.builtin "isinstance") (rIsi K) := by
  subst hK
  exact call_isi
theorem sl_listK (K : PySem.W.Frag) (hK : X.K = K := by rfl) : SlR X (rSlL K) := by
  subst hK
  exact sl_list
theorem pg_tupK (K : PySem.W.Frag) {es : List Expr} {kk : Nat} {t : TGs} {n : Nat} {pos : Pos} (hc : X.calm = true) (h : PGs X es t) (hK : X.K = K := by rfl)
    (hn : (assignEach es X.env).length = n := by rfl) (hst : (assignEach es X.env).findIdx? (·.1) = none := by rfl) : PG X (.Tuple es kk pos) (gTup K n t) := by
  subst hK
  exact pg_tup hc h hn hst
/-! ### a walk over a list or a tuple -/
def iSq (K : PySem.W.Frag) (tl : TE) : TI := fun σ H R => tl σ H fun x H1 => ∃ a, x = .ref a ∧ (((∃ xs, SqL K H1 a xs) ∧ R (Itl K a) H1) ∨ ((∃ xs, SqT K H1 a xs) ∧ R (Itt K a) H1))
theorem pi_sq {l : Expr} {tl : TE} (hl : PE X l tl) : PI X tg l (iSq X.K tl) := by
  intro pins s σ H R I h
  refine thn (hl pins s σ H _ I h) fun v s1 ⟨x, H1, I1, r1, q1⟩ => ?_
  obtain ⟨a, e, q1⟩ := q1
  subst e
  cases r1
  rcases q1 with ⟨⟨xs, hq⟩, q⟩ | ⟨⟨xs, hq⟩, q⟩
  · obtain ⟨its, rv, p, hz⟩ := I1.list hq
    refine wpAny_pyIter_list p.isList ?_
    refine ⟨s1.heap.objs.size, [s1.heap.objs.size], _, _, H1, rfl, I1.kept (t' := s1.toks) fun b o e => Heap.get?_push_of_some _ e, turn_list a _, ⟨_, Heap.get?_push_size _ rfl, rfl, rfl⟩, fun b hb => ?_, q⟩
    have e : b = s1.heap.objs.size := by simpa using hb
    subst e
    exact I1.fpOk (Nat.le_refl _) (I1.hok.fresh (Nat.le_refl _))
  · obtain ⟨its, rv, p, hz⟩ := I1.tuple hq
    refine wpAny_pyIter_tuple (show s1.heap.IsTuple a its.toArray from p) ?_
    refine ⟨s1.heap.objs.size, [s1.heap.objs.size], _, _, H1, rfl, I1.kept (t' := s1.toks) fun b o e => Heap.get?_push_of_some _ e, turn_tuple a _, ⟨_, Heap.get?_push_size _ rfl, rfl, rfl⟩, fun b hb => ?_, q⟩
    have e : b = s1.heap.objs.size := by simpa using hb
    subst e
    exact I1.fpOk (Nat.le_refl _) (I1.hok.fresh (Nat.le_refl _))
end

/-! ### the turns of a comprehension: the forms one uses -/
theorem comp_range {fr : List Nat} {te : TE} {σ : St} {D : Addr} {H1 : Hp} {Q : Hp → Prop} {lo : Int} {cnt : Nat} (Pv : Nat → List V → Hp → Prop) (h0 : Pv 0 [] (upd H1 D (.lst [])))
    (hs : ∀ i ys H, i < cnt → Pv i ys H → ∀ Qe : VK, (∀ y H5, H5 D = some (.lst ys) → ys.length < sizeLine → Pv (i + 1) (ys ++ [y]) (upd H5 D (.lst (ys ++ [y]))) → Qe y H5) → te (some (.int (lo + i)) :: compFr fr σ) H Qe)
    (hd : ∀ ys H, Pv cnt ys H → Q H) : CompRun 1 fr (Itr lo cnt) (gName 0) tYes te σ D H1 Q := by
  refine ⟨fun i m ys H => m = cnt - i ∧ i ≤ cnt ∧ Pv i ys H, ⟨cnt, by simp, Nat.zero_le _, h0⟩, ?_⟩
  rintro i m ys H' ⟨rfl, hi, p⟩
  by_cases hlt : i < cnt
  · refine .inr ⟨hlt, fun x H2 y => ?_⟩
    obtain ⟨e, y⟩ := y
    subst e y
    refine ⟨⟨[some (.int (lo + i))], rfl, rfl⟩, ?_⟩
    simp only [tYes, ↓reduceIte]
    exact hs i ys _ hlt p _ fun y H5 hD hz pv => ⟨hD, hz, cnt - (i + 1), by omega, rfl, hlt, pv⟩
  · have e : i = cnt := by omega
    subst e
    exact .inl ⟨Nat.le_refl _, hd ys H' p⟩
theorem comp_list {K : PySem.W.Frag} {a : Addr} {xs : List V} {fr : List Nat} {te : TE} {σ : St} {D : Addr} {H1 : Hp} {Q : Hp → Prop} (Pv : Nat → List V → Hp → Prop) (h0 : Pv 0 [] (upd H1 D (.lst [])))
    (hl : ∀ i ys H, i ≤ xs.length → Pv i ys H → SqL K H a xs)
    (hs : ∀ i x ys H, xs[i]? = some x → Pv i ys H → ∀ Qe : VK, (∀ y H5, H5 D = some (.lst ys) → ys.length < sizeLine → Pv (i + 1) (ys ++ [y]) (upd H5 D (.lst (ys ++ [y]))) → Qe y H5) → te (some x :: compFr fr σ) H Qe)
    (hd : ∀ ys H, Pv xs.length ys H → Q H) : CompRun 1 fr (Itl K a) (gName 0) tYes te σ D H1 Q := by
  refine ⟨fun i m ys H => m = xs.length - i ∧ i ≤ xs.length ∧ Pv i ys H, ⟨xs.length, by simp, Nat.zero_le _, h0⟩, ?_⟩
  rintro i m ys H' ⟨rfl, hi, p⟩
  have q := hl i ys H' hi p
  by_cases hlt : i < xs.length
  · refine .inr ⟨⟨xs, xs[i], q, by simp [hlt]⟩, fun x H2 y => ?_⟩
    obtain ⟨e, y⟩ := y
    subst e
    refine ⟨⟨[some x], rfl, rfl⟩, ?_⟩
    simp only [tYes, ↓reduceIte]
    exact hs i x ys _ (y xs q) p _ fun y H5 hD hz pv => ⟨hD, hz, xs.length - (i + 1), by omega, rfl, hlt, pv⟩
  · have e : i = xs.length := by omega
    subst e
    exact .inl ⟨⟨xs, q, Nat.le_refl _⟩, hd ys H' p⟩
/-! ### the script's cells -/
def cellI (ns : List Int) (k : Int) : Int := (ns[k.toNat]?).getD 0
theorem atI_int {ns : List Int} {k : Int} (h0 : 0 ≤ k) (h : k < ns.length) : atI (ns.map V.int) k = some (.int (cellI ns k)) := by
  obtain ⟨j, rfl⟩ : ∃ j : Nat, k = j := ⟨k.toNat, by omega⟩
  have hj : j < ns.length := by omega
  refine atI_nat ?_
  unfold cellI
  rw [List.getElem?_map, Int.toNat_natCast, List.getElem?_eq_getElem hj]
  rfl
theorem cellI_out {ns : List Int} {k : Int} (h0 : 0 ≤ k) (h : ¬ k < ns.length) : cellI ns k = 0 := by
  unfold cellI
  rw [List.getElem?_eq_none (by omega)]
  rfl
theorem SqT.same {K : PySem.W.Frag} {H H' : Hp} {a : Addr} {xs : List V} (e : Same H H') (h : SqT K H a xs) : SqT K H' a xs := by
  rcases h with (h | ⟨o, h⟩) | h
  · exact .inl (.inl (e _ _ h))
  · exact .inl (.inr ⟨o, e _ _ h⟩)
  · exact .inr h
theorem ite_t {c : Bool} {A B : Prop} (hc : c = true) (h : A) : if c = true then A else B := by rw [if_pos hc]; exact h
theorem ite_f {c : Bool} {A B : Prop} (hc : c = false) (h : B) : if c = true then A else B := by rw [if_neg (by rw [hc]; exact Bool.false_ne_true)]; exact h
theorem lenOk {xs : List V} (h : xs.length ≤ 1000 := by simp) : xs.length ≤ sizeLine := Nat.le_of_lt (small1000 h)
theorem small63 {n : Nat} (h : n ≤ 1000) : n ≤ sizeLine := Nat.le_of_lt (small1000 h)
end L2

set_option Elab.async false
set_option linter.all false
set_option maxRecDepth 100000
set_option maxHeartbeats 4000000
namespace L2
open PySem PySem.Spec PyProof.Rows
open PySem.Builtin.Int (intBits)

/-! ### tuples of ints, pairs -/
def dT (ws : List Int) : PyData := .tuple (ws.map PyData.int)
def dL (ws : List Int) : PyData := .list (ws.map PyData.int)
def dP (d e : PyData) : PyData := .tuple [d, e]
def dO : Option Int → PyData
  | none => .none
  | some i => .int i
def vO : Option Int → V
  | none => .non
  | some i => .int i
theorem rp_int {H : Hp} (i : Int) : Rp H (.int i) (.int i) := by unfold Rp; rfl
theorem rp_dT {H : Hp} {t : Addr} {ws : List Int} (h : H t = some (.tup (ws.map V.int))) : Rp H (dT ws) (.ref t) := by
  unfold dT Rp
  exact ⟨t, _, rfl, h, rp_ints ws⟩
theorem rp_dP {H : Hp} {p : Addr} {d e : PyData} {x y : V} (h : H p = some (.tup [x, y])) (hd : Rp H d x) (he : Rp H e y) : Rp H (dP d e) (.ref p) := by
  unfold dP Rp
  refine ⟨p, _, rfl, h, ?_⟩
  unfold RpAll
  refine ⟨x, _, rfl, hd, ?_⟩
  unfold RpAll
  refine ⟨y, _, rfl, he, ?_⟩
  unfold RpAll
  rfl
theorem depthAll_ints : ∀ ws : List Int, PyData.depthAll (ws.map PyData.int) = 0
  | [] => rfl
  | w :: ws => by
    show max (PyData.depth (.int w)) (PyData.depthAll (ws.map PyData.int)) = 0
    rw [depthAll_ints ws]
    rfl
theorem depth_dT (ws : List Int) : (dT ws).depth = 1 := by
  show PyData.depthAll (ws.map PyData.int) + 1 = 1
  rw [depthAll_ints]
theorem depth_dP (d e : PyData) : (dP d e).depth = max d.depth e.depth + 1 := by
  show max d.depth (max e.depth 0) + 1 = _
  rw [Nat.max_zero]
theorem eqvAll_ints : ∀ xs ys : List Int, PyData.eqvAll (xs.map PyData.int) (ys.map PyData.int) = decide (xs = ys)
  | [], [] => rfl
  | x :: xs, y :: ys => by
    show (PyData.eqv (.int x) (.int y) && PyData.eqvAll (xs.map PyData.int) (ys.map PyData.int)) = _
    rw [eqvAll_ints xs ys]
    show ((x == y) && decide (xs = ys)) = _
    by_cases h1 : x = y <;> by_cases h2 : xs = ys <;> simp [h1, h2]
  | [], _ :: _ => rfl
  | _ :: _, [] => rfl
end L2

set_option Elab.async false
set_option linter.all false
set_option maxRecDepth 100000
set_option maxHeartbeats 4000000
namespace L2
open PySem PySem.Spec PyProof.Rows
open PySem.Builtin.Int (intBits)

section
variable {X : Cx} {pins : List (Addr × Obj)} {σ : St} {H : Hp} {s : Shared} {h' : Heap}
end

/-! ### zip of two lists, unpacked -/
def Itz (K : PySem.W.Frag) (l1 l2 : Addr) : It :=
  ⟨fun i H => ∃ xs ys x y, SqL K H l1 xs ∧ SqL K H l2 ys ∧ xs[i]? = some x ∧ ys[i]? = some y,
   fun i H v H' => ∃ T x y, v = .ref T ∧ H T = none ∧ H' = upd H T (.tup [x, y]) ∧ (∀ xs, SqL K H l1 xs → xs[i]? = some x) ∧ ∀ ys, SqL K H l2 ys → ys[i]? = some y,
   fun i H => ∃ xs ys, SqL K H l1 xs ∧ SqL K H l2 ys ∧ (xs.length ≤ i ∨ ys.length ≤ i)⟩
section
variable {X : Cx}
def iZip (K : PySem.W.Frag) (ta : TA) : TI := fun σ H R => ta σ H fun vs H1 => ∃ a b, vs = [.ref a, .ref b] ∧ (∃ xs, SqL K H1 a xs) ∧ (∃ ys, SqL K H1 b ys) ∧ R (Itz K a b) H1
end

/-! ### enumerate of a list, unpacked -/
def Ite (K : PySem.W.Frag) (l : Addr) : It :=
  ⟨fun i H => ∃ xs x, SqL K H l xs ∧ xs[i]? = some x,
   fun i H v H' => ∃ T x, v = .ref T ∧ H T = none ∧ H' = upd H T (.tup [.int i, x]) ∧ ∀ xs, SqL K H l xs → xs[i]? = some x,
   fun i H => ∃ xs, SqL K H l xs ∧ xs.length ≤ i⟩
section
variable {X : Cx}
def iEnum (K : PySem.W.Frag) (ta : TA) : TI := fun σ H R => ta σ H fun vs H1 => ∃ a, vs = [.ref a] ∧ (∃ xs, SqL K H1 a xs) ∧ R (Ite K a) H1
end
end L2

set_option Elab.async false
set_option linter.all false
set_option maxRecDepth 100000
set_option maxHeartbeats 4000000
namespace L2
open PySem PySem.Spec PyProof.Rows
open PySem.Builtin.Int (intBits)
section
variable {X : Cx}
/-! ### the least, the greatest of a list of ints -/
theorem call_minL (hc : X.calm = true) : CallR X (.builtin "min") (fun xs H Q => ∃ (p : Addr) (ns : List Int), xs = [.ref p] ∧ SqL X.K H p (ns.map V.int) ∧ 0 < ns.length ∧ ∀ m : Int, m ∈ ns → (∀ a ∈ ns, m ≤ a) → Q (.int m) H) := by
  intro pins s σ H vs us Q I r q
  obtain ⟨p, ns, rfl, hq, hne, q⟩ := q
  obtain ⟨u, rfl, rx⟩ := vals1 r
  cases rx
  obtain ⟨its, rv, pl, hz⟩ := I.list hq
  have hi := intsAre_of rv
  obtain ⟨ys, ey⟩ := hi.allInts.items
  have hns : ns = ys.toList.map (·.1) := by
    have e1 := hi.numsOf
    have e2 := nums_intItems ys
    rw [← ey] at e2
    exact e1.symm.trans e2
  have hsz : 0 < ys.size := by
    rw [hns, List.length_map, Array.length_toList] at hne
    exact hne
  have hl := pl.isList
  rw [ey] at hl
  refine min_intList (I.ok.hd hc) hl hsz fun v g' tk hv hk => ?_
  obtain ⟨t, rfl⟩ := intItems_at hv
  obtain ⟨b1, b2⟩ := argBest_lt (numAt ys) (ys.size - 1)
  refine ⟨.int _, H, I.kept hk, ⟨t, rfl⟩, q _ ?_ fun a ha => ?_⟩
  · rw [hns, numAt_eq]
    exact getD_mem (by rw [List.length_map, Array.length_toList]; omega)
  · rw [hns] at ha
    obtain ⟨j, hj, rfl⟩ := mem_getD ha
    rw [List.length_map, Array.length_toList] at hj
    rw [← numAt_eq]
    exact b2 j (by omega)
end
/-! ### the place of an int in a list of ints -/
section
variable {X : Cx}
def rIndex (K : PySem.W.Frag) : V → List V → Hp → VK → Prop := fun x vs H Q => ∃ (l : Addr) (ns : List Int) (y : Int) (j : Nat), x = .ref l ∧ vs = [.int y] ∧ SqL K H l (ns.map V.int) ∧ ns[j]? = some y ∧ (∀ m, m < j → ns[m]? ≠ some y) ∧ Q (.int (j : Nat)) H
theorem all_flat_ints : ∀ ns : List Int, (ns.map V.int).all flatV = true
  | [] => rfl
  | n :: ns => by
    show (flatV (V.int n) && (ns.map V.int).all flatV) = true
    rw [all_flat_ints ns]
    rfl
end
/-! ### a def with defaults -/
structure FunD (K : PySem.W.Frag) (x qual : Str) (st : Stmt) (f : Addr) (fd : FuncData) : Prop where
  ex : ∃ (oc : Value) (od : Option Addr) (dV kV doc pm : Value) (an : Option Addr) (cdv ct : Value) (osl : Array (Option Value)),
    fd = PySem.W.fnOf x qual (defArgs st) (defBody st) (defScope st) dV kV doc pm an cdv ct ∧ K.lookup f = some ⟨oc, od, .func fd, osl⟩ ∧ PySem.W.codeIn K cdv qual = true
section
variable {P : Program} {w : World} {K : PySem.W.Frag} {mg : Str → Option Value} {base : Heap}
theorem FunD.ok {x qual : Str} {st : Stmt} {f : Addr} {fd : FuncData} {N ps : List Str} {k : Nat} {sp : Sp} (F : FunD K x qual st f fd) (S : FnScope N ps (defScope st)) (len : ∀ vs H Q E, sp vs H Q E → vs.length = ps.length)
    (hbody : ∀ (cdv : Value) (A : Around) (outer : List Env) (s : Shared) (H : Hp) (vs : List V) (Q : VK) (E : XK), Room k (A.deeper (envOfC qual (defScope st) s.heap.objs.size f cdv)) → sp vs H Q E →
      ∃ t, PSs (cxOf CX0 P w K mg base N qual (defScope st) f cdv A outer s H E).nox (defBody st) t ∧ t { nx := fun _ H' => Q .non H', rt := Q } (start N vs) H) : FnOk P w K mg base CX0 (k + 1) f fd ps sp := by
  obtain ⟨oc, od, dV, kV, doc, pm, an, cdv, ct, osl, rfl, lk, hcd⟩ := F.ex
  refine fn_of lk hcd S len fun A outer s H vs Q E hr hsp => ?_
  obtain ⟨t, h, q⟩ := hbody cdv A outer s H vs Q E hr hsp
  exact ⟨t, h.nox, q⟩
end
end L2

set_option Elab.async false
set_option linter.all false
set_option maxRecDepth 100000
set_option maxHeartbeats 4000000
namespace L2
open PySem PySem.Spec PyProof.Rows
open PySem.Builtin.Int (intBits)
/-! ### for over a zip, by what holds between two turns -/
end L2

set_option Elab.async false
set_option linter.all false
set_option maxRecDepth 100000
set_option maxHeartbeats 4000000
namespace L2
open PySem PySem.Spec PyProof.Rows
open PySem.Builtin.Int (intBits)
/-! ### and, or, if whose ways meet: the second part is told by its value; an if by what holds behind it -/
section
variable {X : Cx} {a b c : Expr} {rest : List Expr} {ta tb : TE} {tA tB' : TT} {t u : TS} {pos : Pos}
def tAndX (ta tb : TE) : TE := fun σ H Q => ta σ H fun x H1 => ∃ c d : Bool, x = .bl c ∧ (c = true → ∀ Q' : VK, Q' (.bl d) H1 → tb σ H1 Q') ∧ Q (.bl (c && d)) H1
def tOrX (ta tb : TE) : TE := fun σ H Q => ta σ H fun x H1 => ∃ c d : Bool, x = .bl c ∧ (c = false → ∀ Q' : VK, Q' (.bl d) H1 → tb σ H1 Q') ∧ Q (.bl (c || d)) H1
theorem pe_andX (ha : PE X a ta) (hb : PE X (.BoolOp .And (b :: rest) pos) tb) : PE X (.BoolOp .And (a :: b :: rest) pos) (tAndX ta tb) := by
  intro pins s σ H Q I h
  refine BoolOp_and (thn (ha pins s σ H _ I h) fun v s1 ⟨x, H1, I1, r1, q1⟩ => ?_)
  obtain ⟨c, d, rfl, q0, q1⟩ := q1
  cases r1
  refine wpAny_truthy_bool ?_
  cases c with
  | true => exact hb pins s1 σ H1 Q I1 (q0 rfl Q q1)
  | false => exact ⟨.bl false, H1, I1, rfl, q1⟩
def tAndT (t u : TT) : TT := fun σ H Q => t σ H fun c H1 => ∃ d : Bool, (c = true → ∀ Q' : Bool → Hp → Prop, Q' d H1 → u σ H1 Q') ∧ Q (c && d) H1
def tOrT (t u : TT) : TT := fun σ H Q => t σ H fun c H1 => ∃ d : Bool, (c = false → ∀ Q' : Bool → Hp → Prop, Q' d H1 → u σ H1 Q') ∧ Q (c || d) H1
theorem pw_orX (ha : PT X a tA) (hb : PW X (.BoolOp .Or (b :: rest) pos) tB') : PW X (.BoolOp .Or (a :: b :: rest) pos) (tOrT tA tB') := by
  intro wh pins s σ H Q I h
  refine isTrue_or (thn (ha pins s σ H _ I h) fun c s1 ⟨H1, I1, d, q0, q1⟩ => ?_)
  cases c with
  | true => exact ⟨H1, I1, q1⟩
  | false => exact hb wh pins s1 σ H1 Q I1 (q0 rfl Q q1)
theorem SP.mono {pins : List (Addr × Obj)} {D D' : Ends} {f : Flow} {s' : Shared} (h : SP X pins D f s') (hn : ∀ σ H, D.nx σ H → D'.nx σ H) (hr : ∀ v H, D.rt v H → D'.rt v H) (hb : ∀ σ H, D.bk σ H → D'.bk σ H) (hc : ∀ σ H, D.ct σ H → D'.ct σ H) : SP X pins D' f s' := by
  cases f with
  | next => obtain ⟨σ', H', I, q⟩ := h; exact ⟨σ', H', I, hn _ _ q⟩
  | brk => obtain ⟨σ', H', I, q⟩ := h; exact ⟨σ', H', I, hb _ _ q⟩
  | cont => obtain ⟨σ', H', I, q⟩ := h; exact ⟨σ', H', I, hc _ _ q⟩
  | ret v => obtain ⟨x, σ', H', I, r, q⟩ := h; exact ⟨x, σ', H', I, r, hr _ _ q⟩
def tIfJ (c : TT) (t u : TS) : TS := fun D σ H => c σ H fun b H1 => ∃ N : St → Hp → Prop, (b = true → t { D with nx := N } σ H1) ∧ (b = false → u { D with nx := N } σ H1) ∧ ∀ σ' H', N σ' H' → D.nx σ' H'
theorem ps_ifJ {c : Expr} {a b : List Stmt} {tc : TT} (hc : PT X c tc) (ha : PSs X a t) (hb : PSs X b u) : PS X (.If c a b pos) (tIfJ tc t u) := by
  intro pins s σ H D I h
  refine wpAny_If (thn (hc pins s σ H _ I h) fun d s1 ⟨H1, I1, N, q1, q2, q3⟩ => ?_)
  cases d with
  | true => exact thn (ha pins s1 σ H1 _ I1 (q1 rfl)) fun f s2 q => q.mono q3 (fun _ _ z => z) (fun _ _ z => z) fun _ _ z => z
  | false => exact thn (hb pins s1 σ H1 _ I1 (q2 rfl)) fun f s2 q => q.mono q3 (fun _ _ z => z) (fun _ _ z => z) fun _ _ z => z
end
end L2

set_option Elab.async false
set_option linter.all false
set_option maxRecDepth 100000
set_option maxHeartbeats 4000000
namespace L2
open PySem PySem.Spec PyProof.Rows
open PySem.Builtin.Int (intBits)
/-! ### iterators over a list (false) or a tuple (true) -/
section
variable {P : Program} {w : World} {A : Around} {E : Value → Shared → Prop} {s : Shared}
end
def IsIt : Bool → Heap → Addr → Addr → Nat → Prop
  | true, h, I, T, i => h.IsTupleIter I T i
  | false, h, I, T, i => h.IsListIter I T i
def IsSq : Bool → Heap → Addr → Array Value → Prop
  | true, h, T, vs => h.IsTuple T vs
  | false, h, T, vs => h.IsList T vs
def itNm : Bool → String
  | true => "tuple_iterator"
  | false => "list_iterator"
def Sq : Bool → PySem.W.Frag → Hp → Addr → List V → Prop
  | true, K, H, a, xs => SqT K H a xs
  | false, K, H, a, xs => SqL K H a xs
theorem IsIt.data {b : Bool} {h : Heap} {I T : Addr} {i : Nat} (x : IsIt b h I T i) : ∃ o, h.get? I = some o ∧ o.cls = .type (itNm b) ∧ o.data = .fields #[.ref T, .int i 0] := by cases b <;> exact x
theorem IsIt.of {b : Bool} {h : Heap} {I T : Addr} {i : Nat} (x : ∃ o, h.get? I = some o ∧ o.cls = .type (itNm b) ∧ o.data = .fields #[.ref T, .int i 0]) : IsIt b h I T i := by cases b <;> exact x
theorem IsSq.lt {b : Bool} {h : Heap} {T : Addr} {vs : Array Value} (x : IsSq b h T vs) : T < h.objs.size := by
  cases b <;> exact let ⟨_, e, _⟩ := x; Heap.lt_size e
theorem IsIt.lt {b : Bool} {h : Heap} {I T : Addr} {i : Nat} (x : IsIt b h I T i) : I < h.objs.size := by
  obtain ⟨_, e, _⟩ := x.data
  exact Heap.lt_size e
theorem IsIt.ne {b c : Bool} {h : Heap} {I T : Addr} {i : Nat} {vs : Array Value} (x : IsIt b h I T i) (y : IsSq c h T vs) : T ≠ I := by
  rintro rfl
  obtain ⟨o, e, k, _⟩ := x.data
  cases c <;> (obtain ⟨o', e', k', _⟩ := y; rw [e] at e'; cases e'; rw [k] at k'; cases b <;> simp [itNm] at k')
section
variable {X : Cx} {pins : List (Addr × Obj)} {σ : St} {H : Hp} {s : Shared}
end
end L2

set_option Elab.async false
set_option linter.all false
set_option maxRecDepth 100000
set_option maxHeartbeats 4000000
namespace L2
open PySem PySem.Spec PyProof.Rows
open PySem.Builtin.Int (intBits)
open AutoSeq1 (wpAny_loadPart')
/-! ### zip and enumerate of lists and tuples, each by two draws -/
structure Far (z TI TO i1 i2 l1 l2 : Nat) : Prop where
  a : TI ≠ z
  b : TO ≠ z
  c : i1 ≠ z
  d : i2 ≠ z
  e : TI ≠ TO
  f : TI ≠ i1
  g : TI ≠ i2
  h : TO ≠ i1
  i : TO ≠ i2
  j : i1 ≠ i2
  k1 : l1 ≠ z ∧ l1 ≠ TO ∧ l1 ≠ i1 ∧ l1 ≠ i2
  k2 : l2 ≠ z ∧ l2 ≠ TO ∧ l2 ≠ i1 ∧ l2 ≠ i2
section
variable {P : Program} {w : World} {A : Around} {E : Value → Shared → Prop} {s : Shared}
abbrev zh1 (b1 : Bool) (h : Heap) (l1 : Addr) : Heap := h.push { cls := .type (itNm b1), data := .fields #[.ref l1, .int 0 0] }
abbrev zh2 (b1 b2 : Bool) (h : Heap) (l1 l2 : Addr) : Heap := (zh1 b1 h l1).push { cls := .type (itNm b2), data := .fields #[.ref l2, .int 0 0] }
abbrev zh3 (b1 b2 : Bool) (h : Heap) (l1 l2 : Addr) : Heap := (zh2 b1 b2 h l1 l2).push { cls := .type "tuple", data := .seq #[.ref h.objs.size, .ref (zh1 b1 h l1).objs.size] }
abbrev zh4 (b1 b2 : Bool) (h : Heap) (l1 l2 : Addr) : Heap := (zh3 b1 b2 h l1 l2).push { cls := .type "tuple", data := .seq #[.none, .none] }
abbrev zh5 (b1 b2 : Bool) (h : Heap) (l1 l2 : Addr) : Heap := (zh4 b1 b2 h l1 l2).push { cls := .type "zip", data := .fields #[.none, .bool false, .bool false, .ref (zh2 b1 b2 h l1 l2).objs.size, .ref (zh3 b1 b2 h l1 l2).objs.size] }
end
end L2

set_option Elab.async false
set_option linter.all false
set_option maxRecDepth 100000
set_option maxHeartbeats 4000000
namespace L2
open PySem PySem.Spec PyProof.Rows
open PySem.Builtin.Int (intBits)
open AutoSeq1 (wpAny_loadPart')
section
variable {P : Program} {w : World} {A : Around} {E : Value → Shared → Prop} {s : Shared}
end
/-! ### zip, unpacked -/
def Itzx (K : PySem.W.Frag) (b1 b2 : Bool) (l1 l2 : Addr) : It :=
  ⟨fun i H => ∃ xs ys x y, Sq b1 K H l1 xs ∧ Sq b2 K H l2 ys ∧ xs[i]? = some x ∧ ys[i]? = some y,
   fun i H v H' => ∃ T x y, v = .ref T ∧ H T = none ∧ H' = upd H T (.tup [x, y]) ∧ (∀ xs, Sq b1 K H l1 xs → xs[i]? = some x) ∧ ∀ ys, Sq b2 K H l2 ys → ys[i]? = some y,
   fun i H => ∃ xs ys, Sq b1 K H l1 xs ∧ Sq b2 K H l2 ys ∧ (xs.length = i ∨ (i < xs.length ∧ ys.length = i))⟩
section
variable {X : Cx}
def iZipx (K : PySem.W.Frag) (ta : TA) : TI := fun σ H R => ta σ H fun vs H1 => ∃ (b1 b2 : Bool) (a b : Addr), vs = [.ref a, .ref b] ∧ (∃ xs, Sq b1 K H1 a xs) ∧ (∃ ys, Sq b2 K H1 b ys) ∧ R (Itzx K b1 b2 a b) H1
end
/-! ### enumerate, unpacked -/
def Itex (K : PySem.W.Frag) (b : Bool) (l : Addr) : It :=
  ⟨fun i H => ∃ xs x, Sq b K H l xs ∧ xs[i]? = some x,
   fun i H v H' => ∃ T x, v = .ref T ∧ H T = none ∧ H' = upd H T (.tup [.int i, x]) ∧ ∀ xs, Sq b K H l xs → xs[i]? = some x,
   fun i H => ∃ xs, Sq b K H l xs ∧ xs.length = i⟩
section
variable {X : Cx}
def iEnumx (K : PySem.W.Frag) (ta : TA) : TI := fun σ H R => ta σ H fun vs H1 => ∃ (b : Bool) (a : Addr), vs = [.ref a] ∧ (∃ xs, Sq b K H1 a xs) ∧ R (Itex K b a) H1
end
end L2

set_option Elab.async false
set_option linter.all false
set_option maxRecDepth 100000
set_option maxHeartbeats 4000000
namespace L2
open PySem PySem.Spec PyProof.Rows
open PySem.Builtin.Int (intBits)
/-! ### loops and comprehensions over zip and enumerate, by what holds between two turns -/
/-- two names, each stored -/
abbrev gTwo (K : PySem.W.Frag) : TG := gTup K 2 (gCons (gName 0) (gCons (gName 1) gNil))
end L2

set_option Elab.async false
set_option linter.all false
set_option maxRecDepth 100000
set_option maxHeartbeats 4000000
namespace L2
open PySem PySem.Spec PyProof.Rows
open PySem.Builtin.Int (intBits)
/-! ### and, or whose ways meet in a predicate N: the second part may lay objects -/
section
variable {X : Cx} {a b : Expr} {rest : List Expr} {ta tb : TE} {tA tB' : TT} {pos : Pos}
def tAndY (ta tb : TE) : TE := fun σ H Q => ta σ H fun x H1 => ∃ (c : Bool) (N : Bool → Hp → Prop), x = .bl c ∧ (c = false → N false H1) ∧ (c = true → tb σ H1 fun y H2 => ∃ d : Bool, y = .bl d ∧ N d H2) ∧ ∀ d H2, N d H2 → Q (.bl d) H2
def tOrY (ta tb : TE) : TE := fun σ H Q => ta σ H fun x H1 => ∃ (c : Bool) (N : Bool → Hp → Prop), x = .bl c ∧ (c = true → N true H1) ∧ (c = false → tb σ H1 fun y H2 => ∃ d : Bool, y = .bl d ∧ N d H2) ∧ ∀ d H2, N d H2 → Q (.bl d) H2
def tAndU (t u : TT) : TT := fun σ H Q => t σ H fun c H1 => ∃ N : Bool → Hp → Prop, (c = false → N false H1) ∧ (c = true → u σ H1 N) ∧ ∀ d H2, N d H2 → Q d H2
def tOrU (t u : TT) : TT := fun σ H Q => t σ H fun c H1 => ∃ N : Bool → Hp → Prop, (c = true → N true H1) ∧ (c = false → u σ H1 N) ∧ ∀ d H2, N d H2 → Q d H2
end
end L2

set_option Elab.async false
set_option linter.all false
set_option maxRecDepth 100000
set_option maxHeartbeats 4000000
namespace L2
open PySem PySem.Spec PyProof.Rows
open PySem.Builtin.Int (intBits)
/-! ### list(reversed(xs)) -/
section
variable {P : Program} {w : World} {A : Around} {E : Value → Shared → Prop} {s : Shared}
end
section
variable {X : Cx}
def tListRev (K : PySem.W.Frag) (ta : TA) : TE := fun σ H Q => ta σ H fun vs H1 => ∃ l xs, vs = [.ref l] ∧ SqL K H1 l xs ∧ ∀ d, H1 d = none → Q (.ref d) (upd H1 d (.lst xs.reverse))
end
end L2

set_option Elab.async false
set_option linter.all false
set_option maxRecDepth 100000
set_option maxHeartbeats 4000000
namespace L2
open PySem PySem.Spec PyProof.Rows
open PySem.Builtin.Int (intBits)
/-! ### a // b, b of at most nine thousand bits -/
section
variable {X : Cx}
def CDivB (i j : Int) : Prop := 0 < j ∧ intBits j ≤ 8999
/-! ### the sum of a list of ints -/
end
/-! ### for over range(a, b, c), c from 1 on -/
section
variable {X : Cx} {tg : Expr}
def ItS (lo c : Int) (n : Nat) : It := ⟨fun i _ => i < n, fun i H x H' => H' = H ∧ x = .int (lo + i * c), fun i _ => n ≤ i⟩
/-- how many -/
def stepN (a b c : Int) : Nat := if a < b then ((b - a - 1) / c + 1).toNat else 0
def iRng3 (ta : TA) : TI := fun σ H R => ta σ H fun vs H1 => ∃ i j c : Int, vs = [.int i, .int j, .int c] ∧ (-(2 ^ 60) ≤ i ∧ i < 2 ^ 60 ∧ -(2 ^ 60) ≤ j ∧ j < 2 ^ 60) ∧ (0 < c ∧ c < 2 ^ 30) ∧ R (ItS i c (stepN i j c)) H1
end
end L2

set_option Elab.async false
set_option linter.all false
set_option maxRecDepth 100000
set_option maxHeartbeats 4000000
namespace L2
open PySem PySem.Spec PyProof.Rows
/-! ### exceptions: how they lie, how they pass a def, how they are raised -/
theorem ObjOk.here {P : Program} {w : World} {H : Hp} {h : Heap} {a : Addr} {o : HO} (x : ObjOk P w H h a o) : ∃ ob, h.get? a = some ob := by
  cases o with
  | lst xs => obtain ⟨_, _, _, _, e⟩ := x; exact ⟨_, e⟩
  | tup xs => obtain ⟨_, _, _, o, e, _⟩ := x; exact ⟨_, e⟩
  | dK kvs => obtain ⟨_, _, _, _, o, _, _, e, _⟩ := x; exact ⟨_, e⟩
  | dT kvs => obtain ⟨_, _, _, _, o, _, _, e, _⟩ := x; exact ⟨_, e⟩
  | set S n => obtain ⟨o, _, _, _, e, _⟩ := x; exact ⟨_, e⟩
  | ins C dx fs => obtain ⟨_, _, _, e, _⟩ := x; exact ⟨_, e⟩
  | own y => exact x
  | xd fs => obtain ⟨mA, ⟨od, es, ep, e, c⟩, r⟩ := x; exact ⟨_, e⟩
  | rng lo hi => obtain ⟨t, u, v, e⟩ := x; exact ⟨_, e⟩
  | frz ob u => exact ⟨_, x.1⟩
  | tbl ps => exact ⟨_, (show h.get? a = some _ from x)⟩
  | met f y => exact ⟨_, (show h.get? a = some _ from x)⟩
  | ext φ => exact x.2.1
theorem HOk.off {P : Program} {w : World} {H : Hp} {h : Heap} {a : Addr} (ok : HOk P w H h) (e : h.get? a = none) : H a = none := by
  cases q : H a with
  | none => rfl
  | some u =>
    obtain ⟨ob, z⟩ := (ok a u q).here
    rw [e] at z
    cases z

/-- the exception at a, of the class cls -/
def isExc (a : Addr) (cls : Value) (h : Heap) : Prop := ∃ o vs, h.get? a = some o ∧ o.cls = cls ∧ o.data = .fields vs
def isRec (a : Addr) (h : Heap) : Prop := ∃ o vs, h.get? a = some o ∧ o.data = .fields vs
theorem ext_exc {P : Program} {w : World} {H : Hp} {h : Heap} {a : Addr} {cls : Value} (x : isExc a cls h) : ObjOk P w H h a (.ext (isExc a cls)) := by
  refine ⟨x, ?_, ?_⟩
  · obtain ⟨o, _, e, _⟩ := x
    exact ⟨o, e⟩
  · rintro h1 h2 ⟨o, vs, e, c⟩ k
    exact ⟨o, vs, k o e, c⟩
/-- its traceback's first entry stands at T, no frame holds it -/
def TrAt (h : Heap) (a T : Addr) : Prop := ∃ oe vs oT ts a0, h.get? a = some oe ∧ oe.data = .fields vs ∧ vs[0]? = some a0 ∧ vs[1]? = some (.ref T) ∧ T ≠ a ∧ h.get? T = some oT ∧ oT.data = .fields ts ∧ ts[3]? = some .none
/-- an exception flies: fr the frames, H and h as they were ahead of it, H' and h' now -/
structure Fly (P : Program) (w : World) (fr : List Addr) (H : Hp) (h : Heap) (H' : Hp) (h' : Heap) (a T : Addr) (cls : Value) : Prop where
  un : Un fr [] H H' h h'
  ok : HOk P w H' h'
  exc : H' a = some (.ext (isExc a cls))
  off : H' T = none
  new : h.get? T = none
  tr : TrAt h' a T
/-- how an exception lies behind a call -/
def CX1 (P : Program) (w : World) : CXT := fun outer H s E e s' => ∃ (a T : Addr) (cls : Value) (H' : Hp), e = .ref a ∧ s'.os = s.os ∧ AllBare s'.gens ∧ Fly P w (frs outer) H s.heap H' s'.heap a T cls ∧ E cls none H'

/-- what a step of the traceback leaves: all is kept but the frames' slots, the exception, the entries of its traceback -/
theorem noted {P : Program} {w : World} {fr old : List Addr} {H H' : Hp} {h h' h2 : Heap} {a T : Addr} {cls : Value} (u : Un fr [] H H' h h') (ok : HOk P w H' h') (hfr : ∀ b ∈ fr, H' b = none)
    (frd : ∀ b ∈ fr, ∃ o, h'.get? b = some o ∧ ∀ vs, o.data ≠ .fields vs) (ha : H' a = some (.ext (isExc a cls))) (hold : ∀ b ∈ old, H' b = none ∧ h.get? b = none)
    (st : (PySem.W.hideAll h' (fr ++ a :: old)).StaysIn h2) (sl : h'.UpToSlots h2) (xa : isExc a cls h2) (xT : isRec T h2) (nT : (PySem.W.hideAll h' (fr ++ a :: old)).get? T = none) (na : T ≠ a) :
    Un fr [] H H' h h2 ∧ HOk P w H' h2 ∧ H' T = none ∧ h.get? T = none := by
  have hT : H' T = none ∧ h.get? T = none := by
    cases q : h'.get? T with
    | none =>
      refine ⟨ok.off q, ?_⟩
      cases z : h.get? T with
      | none => rfl
      | some o =>
        obtain ⟨o', e⟩ := u.there T o z (by simp)
        rw [q] at e
        cases e
    | some o =>
      by_cases hm : T ∈ fr ++ a :: old
      · rcases List.mem_append.mp hm with z | z
        · obtain ⟨o1, e1, d1⟩ := frd T z
          obtain ⟨sl', e2⟩ := sl T o1 e1 d1
          obtain ⟨o3, vs, e3, d3⟩ := xT
          rw [e2] at e3
          cases e3
          exact absurd d3 (d1 vs)
        · rcases List.mem_cons.mp z with z | z
          · exact absurd z na
          · exact hold T z
      · have := PySem.W.hideAll_get _ q hm
        rw [nT] at this
        cases this
  have keepT : ∀ b o u', h'.get? b = some o → H' b = some u' → b ≠ a → h2.get? b = some o := fun b o u' e q n1 => by
    refine st b o (PySem.W.hideAll_get _ e fun hm => ?_)
    rcases List.mem_append.mp hm with z | z
    · rw [hfr b z] at q
      cases q
    · rcases List.mem_cons.mp z with z | z
      · exact n1 z
      · rw [(hold b z).1] at q
        cases q
  have keepN : ∀ b o o', h.get? b = some o → h'.get? b = some o' → H' b = none → b ∉ fr → h2.get? b = some o' := fun b o o' e e' q n => by
    refine st b o' (PySem.W.hideAll_get _ e' fun hm => ?_)
    rcases List.mem_append.mp hm with z | z
    · exact n z
    · rcases List.mem_cons.mp z with z | z
      · rw [z, ha] at q
        cases q
      · rw [(hold b z).2] at e
        cases e
  refine ⟨⟨fun b o e q n _ => keepN b o o e (u.keep b o e q n (by simp)) (u.free b o e q (by simp)) n, fun b o e q n _ => ?_, fun b o e q _ => u.free b o e q (by simp), fun b o e _ => ?_, u.tups, u.frzs, u.tbls⟩, fun b v q => ?_, hT⟩
  · obtain ⟨sl1, e1⟩ := u.slot b o e q n (by simp)
    obtain ⟨o2, e2, d2⟩ := frd b n
    rw [e1] at e2
    cases e2
    obtain ⟨sl3, e3⟩ := sl b _ e1 d2
    exact ⟨sl3, e3⟩
  · obtain ⟨o', e'⟩ := u.there b o e (by simp)
    cases q : H' b with
    | none =>
      by_cases n : b ∈ fr
      · obtain ⟨o1, e1, d1⟩ := frd b n
        obtain ⟨sl', e2⟩ := sl b o1 e1 d1
        exact ⟨_, e2⟩
      · exact ⟨_, keepN b o o' e e' q n⟩
    | some v =>
      by_cases n1 : b = a
      · obtain ⟨o2, _, e2, _⟩ := xa
        rw [n1]
        exact ⟨_, e2⟩
      · exact ⟨_, keepT b o' v e' q n1⟩
  · by_cases n1 : b = a
    · subst n1
      rw [ha] at q
      cases q
      exact ext_exc xa
    · refine (ok b v q).stay (fun c x hc e => ?_) (fun c e => e) fun c xs e => e
      rcases hc with z | z
      · subst z
        exact keepT c x v e q n1
      · refine keepT c x _ e z fun e2 => ?_
        rw [e2, ha] at z
        cases z
section
variable {X : Cx} {pins : List (Addr × Obj)} {σ : St} {H : Hp} {s : Shared}
theorem Inv.frd (I : Inv X pins σ H s) : ∀ b ∈ frs X.stack, ∃ o, s.heap.get? b = some o ∧ ∀ vs, o.data ≠ .fields vs := fun b hb => (I.stack.mem hb).2
theorem Fly.cls {P : Program} {w : World} {fr : List Addr} {H H' : Hp} {h h' : Heap} {a T : Addr} {cls : Value} (F : Fly P w fr H h H' h' a T cls) : isExc a cls h' := (F.ok a _ F.exc).1
/-- behind a step of the traceback -/
theorem Fly.on {P : Program} {w : World} {fr old : List Addr} {H H' : Hp} {h h' h2 : Heap} {a : Addr} {cls a0 : Value} (un : Un fr [] H H' h h') (ok : HOk P w H' h') (exc : H' a = some (.ext (isExc a cls))) (hfr : ∀ b ∈ fr, H' b = none)
    (frd : ∀ b ∈ fr, ∃ o, h'.get? b = some o ∧ ∀ vs, o.data ≠ .fields vs) (hold : ∀ b ∈ old, H' b = none ∧ h.get? b = none)
    (st : (PySem.W.hideAll h' (fr ++ a :: old)).StaysIn h2) (sl : h'.UpToSlots h2) (tr : h2.TracedW (PySem.W.hideAll h' (fr ++ a :: old)) a cls a0) : ∃ T, Fly P w fr H h H' h2 a T cls := by
  obtain ⟨oe, vs, T, oT, ts, q1, ⟨q2, q3⟩, q4, q5, q6, q7, q8, q9, q10⟩ := tr
  obtain ⟨u, k, n1, n2⟩ := noted (T := T) un ok hfr frd exc hold st sl ⟨oe, vs, q1, q2, q4⟩ ⟨oT, ts, q8, q9⟩ q6 q7
  exact ⟨T, u, k, exc, n1, n2, oe, vs, oT, ts, a0, q1, q4, q3, q5, q7, q8, q9, q10⟩
end
section
variable {P : Program} {w : World} {K : PySem.W.Frag} {mg : Str → Option Value} {base : Heap} {N : List Str} {qual : Str} {scope : Scope} {f : Addr} {cd : Value} {A : Around} {outer : List Env} {s₀ : Shared} {H₀ : Hp} {E : XK}
/-- which wishes about exceptions a context takes -/
def PassR (X : Cx) (R : St → XK → Prop) : Prop := ∀ (pins : List (Addr × Obj)) (σ : St) (H : Hp) (s : Shared) (e : Value) (s' : Shared) (E : XK), R σ E → Inv X pins σ H s → CX1 X.prog X.w X.stack H s E e s' → X.xe e s'
/-- a def's body lets pass what its own wish takes -/
def RD (E : XK) : St → XK → Prop := fun _ E1 => ∀ c d H, E1 c d H → E c d H
/-- a new exception, made in a context, reaches its wish -/
def RaiseR (X : Cx) (E : XK) : Prop := ∀ (pins : List (Addr × Obj)) (σ : St) (H : Hp) (s : Shared) (h' : Heap) (e : Addr) (cls : Value) (vs : List Value), Inv X pins σ H s → Heap.MadeExcOf s.heap h' e cls vs →
  (∀ H2, Same H H2 → E cls none H2) → X.xe (.ref e) { s with heap := h' }
end
end L2

set_option Elab.async false
set_option linter.all false
set_option maxRecDepth 100000
set_option maxHeartbeats 4000000
namespace L2
open PySem PySem.Spec PyProof.Rows
/-- an own class right or farther under ValueError, made as that one is -/
def ExcC (K : PySem.W.Frag) (C : Addr) : Prop := PySem.W.excIn K C [.type "ValueError", .type "Exception", .type "BaseException", .type "object"] "ValueError.__new__" = true
section
variable {X : Cx} {x : Str} {C : Addr} {p np cpos pos : Pos} {e : Expr} {es : List Expr} {t : TA} {E : XK}
/-- raise C(..) -/
def tRaise (C : Addr) (t : TA) (E : XK) : TS := fun _ σ H => t σ H fun vs H1 => vs.length ≤ sizeLine ∧ ∀ H2, Same H1 H2 → E (.ref C) none H2
/-! ### a call that may raise -/
variable {k : Nat} {f : Addr} {fd : FuncData} {ps : List Str} {sp : Sp} {dvs : List V} {ds : List Value} {R : St → XK → Prop}
def tCallE (sp : Sp) (dvs : List V) (R : St → XK → Prop) (t : TA) : TE := fun σ H Q => t σ H fun vs H1 => ∃ E, R σ E ∧ sp (vs ++ dvs) H1 Q E
end
section
variable {P : Program} {w : World} {K : PySem.W.Frag} {mg : Str → Option Value} {base : Heap} {x qual : Str} {st : Stmt} {f : Addr} {fd : FuncData} {N ps : List Str} {k : Nat} {sp : Sp}
end
end L2

set_option Elab.async false
set_option linter.all false
set_option maxRecDepth 100000
set_option maxHeartbeats 4000000
namespace L2
open PySem PySem.Spec PyProof.Rows
open PySem.W (Looks)
/-! ### try .. except (classes that are not it): ..  except C as n: .. -/
/-- a tuple of names of own classes, none of them a class of what is of the class C -/
inductive NotIts (X : Cx) (C : Addr) : List Expr → List Addr → Prop
  | nil : NotIts X C [] []
  | cons {x : Str} {p : Pos} {c : Addr} {es : List Expr} {cs : List Addr} (hg : Gl X x) (hm : X.mg x = some (.ref c)) (hd : (x == ("__debug__" : Str)) = false)
      (hb : PySem.W.subIn X.K (.ref c) (.type "BaseException") = some true) (hn : PySem.W.subIn X.K (.ref C) (.ref c) = some false) (he : ∀ env : Env, starEach (.Name x p :: es) env = (false, eval (.Name x p) env) :: starEach es env) (r : NotIts X C es cs) : NotIts X C (.Name x p :: es) (c :: cs)
section
variable {X : Cx} {pins : List (Addr × Obj)} {σ : St} {H : Hp} {s : Shared} {C : Addr}
theorem NotIts.len {es : List Expr} {cs : List Addr} (r : NotIts X C es cs) : cs.length = es.length := by
  induction r with
  | nil => rfl
  | cons _ _ _ _ _ _ _ ih => simp [ih]
/-- isinstance(e, c), e an exception that is one -/
theorem isi_yes {prog : Program} {w : World} {A : Around} {E : Value → Shared → Prop} {K : PySem.W.Frag} {v t c : Value} {Q : Value → Shared → Prop} (kin : K.In s.heap) (ht : ∀ M, Looks M s.heap (typeOf v) t) (e : PySem.W.kitOne K t c = some true)
    (hx : v ≠ .builtin "__main__.__loader__#opaque") (h : Q (.bool true) s) : wpAny (model prog w) A (call (.builtin "isinstance") [v, c]) Q E s := by
  refine call_isinstance (S := fun _ R s => (K.In s.heap ∧ ∀ M, Looks M s.heap (typeOf v) t) ∧ R (.ok (.ret (.bool true))) s) (fun prog w A R s hs => isinstance_outer ?_ hx) ⟨⟨kin, ht⟩, h⟩
  obtain ⟨⟨kin, ht⟩, hq⟩ := hs
  obtain ⟨h0, g, d, tt, os⟩ := s
  unfold Builtin.«isinstance.nested»
  refine wpAny_bind ((ht _).at ?_)
  unfold PySem.W.kitOne at e
  by_cases q : (t == c) = true
  · rw [if_pos q]
    first
      | exact wpAny_bind (wpAny_rule hq)
      | exact wpAny_bind (wpAny_rule (wpAny_pure hq))
  · rw [if_neg q] at e ⊢
    obtain ⟨k1, k2, k3⟩ := PySem.W.kit_cls (M := model prog w) kin e
    have k4 : Looks (model prog w) h0 (isInstance v c) true := (ht _).andThen k3
    refine wpAny_bind (k1.at ?_)
    rw [if_pos (by decide)]
    k_delta "plainIsInstance"
    refine wpAny_bind (wpAny_bind (k2.at ?_))
    simp only [Bool.not_true, if_false, Bool.false_eq_true]
    refine wpAny_bind (k4.at ?_)
    first
      | exact wpAny_pure (wpAny_pure hq)
      | (simp only [if_true]; exact wpAny_pure (wpAny_pure hq))
      | (simp only [if_true]; exact wpAny_pure hq)
      | trace_state
def rIsiX (K : PySem.W.Frag) : List V → Hp → VK → Prop := fun xs H Q => ∃ (a : Addr) (t c : Value) (v : V), xs = [.ref a, v] ∧ H a = some (.ext (isExc a t)) ∧ (∀ u, RelV v u → u = c) ∧ PySem.W.kitOne K t c = some true ∧ Q (.bl true) H
end
/-! ### the rule -/
abbrev Cx.at (X : Cx) (A : Around) : Cx := { X with A := A, calm := false, xe := fun _ _ => False }
abbrev Cx.in_ (X : Cx) (pn : List (Addr × Obj)) (W : Value → Shared → Prop) : Cx := { X with pn := pn, xe := W }
section
variable {X : Cx} {pins : List (Addr × Obj)} {σ : St} {H : Hp} {s : Shared}
theorem Inv.at (I : Inv X pins σ H s) {A : Around} (hA : A.frames = X.A.frames) : Inv (X.at A) pins σ H s :=
  ⟨⟨I.ok.mod, I.ok.kind, I.ok.glob, I.ok.blt, I.ok.above, I.ok.inj, I.ok.has, I.ok.cab, fun z => (nomatch z), hA.trans I.ok.frames, I.ok.stk, I.ok.exf, I.ok.bs, I.ok.bsz, I.ok.noex, I.ok.exfs, I.ok.funs, I.ok.frf⟩, I.os, I.bare, I.base, I.loc, I.cell, I.free, I.freeC, I.pin, I.hok, I.len⟩
theorem Inv.in_ {W : Value → Shared → Prop} (I : Inv X pins σ H s) : Inv (X.in_ (X.pn ++ pins) W) [] σ H s :=
  ⟨⟨I.ok.mod, I.ok.kind, I.ok.glob, I.ok.blt, I.ok.above, I.ok.inj, I.ok.has, I.ok.cab, I.ok.hd, I.ok.frames, I.ok.stk, I.ok.exf, I.ok.bs, I.ok.bsz, I.ok.noex, I.ok.exfs, I.ok.funs, I.ok.frf⟩, I.os, I.bare, I.base, I.loc, I.cell, I.free, I.freeC,
    fun p hp => I.pin p (by rwa [List.append_nil] at hp), I.hok, I.len⟩
theorem Inv.out {W : Value → Shared → Prop} {pins' : List (Addr × Obj)} (ok : X.Ok) (I : Inv (X.in_ (X.pn ++ pins) W) pins' σ H s) : Inv X pins σ H s :=
  ⟨ok, I.os, I.bare, I.base, I.loc, I.cell, I.free, I.freeC, fun p hp => I.pin p (List.mem_append_left _ hp), I.hok, I.len⟩
theorem SP.out {W : Value → Shared → Prop} {D : Ends} {f : Flow} {s' : Shared} (ok : X.Ok) (h : SP (X.in_ (X.pn ++ pins) W) [] D f s') : SP X pins D f s' := by
  cases f with
  | next => obtain ⟨σ', H', I, q⟩ := h; exact ⟨σ', H', I.out ok, q⟩
  | brk => obtain ⟨σ', H', I, q⟩ := h; exact ⟨σ', H', I.out ok, q⟩
  | cont => obtain ⟨σ', H', I, q⟩ := h; exact ⟨σ', H', I.out ok, q⟩
  | ret u => obtain ⟨v, σ', H', I, r, q⟩ := h; exact ⟨v, σ', H', I.out ok, r, q⟩
theorem Fly.kept {P : Program} {w : World} {fr : List Addr} {H H' : Hp} {h h' h2 : Heap} {a T : Addr} {cls : Value} (F : Fly P w fr H h H' h' a T cls) (k : ∀ b o, h'.get? b = some o → h2.get? b = some o) : Fly P w fr H h H' h2 a T cls := by
  obtain ⟨oe, vs, oT, ts, a0, e1, d1, h0, h1, nT, e2, d2, h3⟩ := F.tr
  exact ⟨F.un.trans (Un.kept k), F.ok.kept k, F.exc, F.off, F.new, oe, vs, oT, ts, a0, k _ _ e1, d1, h0, h1, nT, k _ _ e2, d2, h3⟩
/-- what the handlers take: the class C -/
def RT (tu : TS) (C : Addr) (i : Nat) (D : Ends) : St → XK → Prop := fun σ1 E => ∀ cls H', E cls none H' → cls = .ref C ∧ ∀ a, H' a = some (.ext (isExc a (.ref C))) →
  tu { nx := fun σ' H4 => D.nx (σ'.set i none) H4, rt := fun _ _ => False } (σ1.set i (some (.ref a))) H'
def tTry (tb : (St → XK → Prop) → TS) (tu : TS) (C : Addr) (i : Nat) : TS := fun D σ H => tb (RT tu C i D) D σ H
theorem NotIts.all {C : Addr} {es : List Expr} {cs : List Addr} (r : NotIts X C es cs) : ∀ c ∈ cs, PySem.W.subIn X.K (.ref c) (.type "BaseException") = some true ∧ PySem.W.subIn X.K (.ref C) (.ref c) = some false := by
  induction r with
  | nil => exact fun _ z => nomatch z
  | cons _ _ _ hb hn _ _ ih =>
    intro c hc
    rcases List.mem_cons.mp hc with e | hc
    · rw [e]
      exact ⟨hb, hn⟩
    · exact ih c hc
end
end L2

set_option Elab.async false
set_option linter.all false
set_option maxRecDepth 100000
set_option maxHeartbeats 4000000
namespace L2
open PySem PySem.Spec PyProof.Rows
section
variable {X : Cx}
/-! ### b is True, b is False -/
end
end L2

set_option Elab.async false
set_option linter.all false
set_option maxRecDepth 100000
set_option maxHeartbeats 400000
namespace L2
open PySem PySem.Spec PyProof.Rows
/-! ### max(xs, default=d) -/
/-- m is the greatest of the first j + 1 numbers -/
def TopTo (val : Nat → Int) (j : Nat) (m : Int) : Prop := (∃ i, i ≤ j ∧ m = val i) ∧ ∀ i, i ≤ j → val i ≤ m
theorem TopTo.up {val : Nat → Int} {j : Nat} {m : Int} (h : TopTo val j m) (b : m < val (j + 1)) : TopTo val (j + 1) (val (j + 1)) := by
  refine ⟨⟨j + 1, Nat.le_refl _, rfl⟩, fun i hi => ?_⟩
  rcases Nat.lt_or_ge j i with z | z
  · have e : i = j + 1 := by omega
    rw [e]
    omega
  · have := h.2 i z
    omega
theorem TopTo.same {val : Nat → Int} {j : Nat} {m : Int} (h : TopTo val j m) (b : ¬ m < val (j + 1)) : TopTo val (j + 1) m := by
  obtain ⟨⟨i0, z0, e0⟩, h2⟩ := h
  refine ⟨⟨i0, by omega, e0⟩, fun i hi => ?_⟩
  rcases Nat.lt_or_ge j i with z | z
  · have e : i = j + 1 := by omega
    rw [e]
    omega
  · exact h2 i z
section
variable {prog : Program} {w : World} {A : Around} {R : Result → Shared → Prop} {I S : Addr} {fp wr : List Addr} {n : Nat} {P : Nat → Value → Prop} {St : Nat → Heap → Prop} {val : Nat → Int}
end
end L2

set_option Elab.async false
set_option linter.all false
set_option maxRecDepth 100000
set_option maxHeartbeats 400000
namespace L2
open PySem PySem.Spec PyProof.Rows
section
variable {prog : Program} {w : World} {A : Around} {E : Value → Shared → Prop} {s : Shared} {l : Addr}
end
section
variable {X : Cx} {p pos kpos : Pos} {e d : Expr} {t : TA} {td : TE} {x : Str}
/-- what max(xs, default=d) tells -/
def tMaxD (K : PySem.W.Frag) (t : TA) (td : TE) : TE := fun σ H Q => t σ H fun vs H1 => tCons td tNil σ H1 fun ys H2 => ∃ (a : Addr) (ns : List Int) (dv : Int), vs = [.ref a] ∧ ys = [.int dv] ∧ SqL K H2 a (ns.map V.int) ∧
  ∀ m : Int, (ns = [] → m = dv) → (ns ≠ [] → m ∈ ns ∧ ∀ b ∈ ns, b ≤ m) → Q (.int m) H2
end
end L2

set_option Elab.async false
set_option linter.all false
set_option maxRecDepth 100000
set_option maxHeartbeats 400000
namespace L2
open PySem PySem.Spec PyProof.Rows PySem.SeqAt
/-- x < y tells b, and nothing changes -/
def LtAt (A : Around) (s : Shared) (x y : Value) (b : Bool) : Prop := ∀ (prog : Program) (w : World) (E : Value → Shared → Prop) (Q : Value → Shared → Prop), Q (.bool b) s → wpAny (model prog w) A (richCompare .Lt x y) Q E s
theorem tup_lt (l b : Addr) (xs ys : Array Value) (n n2 : Nat) (dd dd2 : Option Addr) (sl sl2 : Array (Option Value)) (e : Nat → Bool) (r : Bool) :
    Meets (Builtin.«tuple.__lt__» ⟨[.ref l, .ref b], []⟩)
      (fun A R s => s.heap.get? l = some { cls := .type "tuple", dict := dd, data := .seq xs n, slots := sl } ∧ s.heap.get? b = some { cls := .type "tuple", dict := dd2, data := .seq ys n2, slots := sl2 } ∧
        (∀ j (h1 : j < xs.size) (h2 : j < ys.size), EqAt A.in1 s xs[j] ys[j] (e j)) ∧ (∀ j (h1 : j < xs.size) (h2 : j < ys.size), (∀ i, i < j → e i = true) → e j = false → LtAt A.in1 s xs[j] ys[j] r) ∧
        ((∀ j, j < min xs.size ys.size → e j = true) → r = decide (xs.size < ys.size)) ∧ R (.ok (.ret (.bool r))) s) :=
  .of_wp fun prog w A R s h => by
    obtain ⟨hp, g, d, tk, os⟩ := s
    obtain ⟨hl, hb, he, hf, hz, h⟩ := h
    have f2 := AutoSeq1.sub_tuple_tuple
    have hZ : (xs.toList.zip ys.toList).length = min xs.size ys.size := by simp
    wp_walk using wpAny_loadPart' hl, wpAny_loadPart' hb, wpAny_forIn_list _ (fun rest b s' => b.1 = none ∧ s' = ⟨hp, g, d, tk, os⟩ ∧ ∃ i, rest = (xs.toList.zip ys.toList).drop i ∧ ∀ k, k < i → k < min xs.size ys.size → e k = true) _
    case turn =>
      rintro ⟨y, x⟩ rest b s' ⟨hb', rfl, i, hq, hR⟩
      have hlt : i < (xs.toList.zip ys.toList).length := by
        apply Classical.byContradiction
        intro z
        rw [List.drop_of_length_le (by omega)] at hq
        cases hq
      have h1 : i < xs.size := by omega
      have h2 : i < ys.size := by omega
      rw [List.drop_eq_getElem_cons hlt] at hq
      injection hq with hyx hrest
      have hy : y = xs[i] := by simpa using congrArg Prod.fst hyx
      have hx : x = ys[i] := by simpa using congrArg Prod.snd hyx
      subst hy hx
      refine wpAny_bind (he i h1 h2 prog w _ _ ?_)
      cases hy : e i with
      | true =>
        wp_walk
        refine ⟨rfl, rfl, i + 1, hrest, fun k hk hk2 => ?_⟩
        by_cases z : k = i
        · rw [z]
          exact hy
        · exact hR k (by omega) hk2
      | false =>
        have hl2 := hf i h1 h2 (fun k hk => hR k hk (by omega)) hy prog w
        wp_walk using hl2 _ _
        exact ⟨_, rfl, h⟩
    case fin =>
      rintro ⟨b1, b2⟩ s' ⟨hb', rfl, i, hq, hR⟩
      simp only at hb'
      subst hb'
      have hge : min xs.size ys.size ≤ i := by
        apply Classical.byContradiction
        intro z
        rw [List.drop_eq_getElem_cons (by omega)] at hq
        cases hq
      have hr := hz fun j hj => hR j (by omega) hj
      wp_walk
      refine ⟨_, rfl, ?_⟩
      rw [hr] at h
      simpa [Builtin.Tuple.tupleCompareSizes] using h
    case h =>
      exact ⟨rfl, rfl, 0, rfl, fun k hk => absurd hk (Nat.not_lt_zero k)⟩
/-! ### the order of nested tuples of ints -/
mutual
def ltv : PyData → PyData → Bool
  | .int a, .int b => decide (a < b)
  | .tuple xs, .tuple ys => ltvAll xs ys
  | _, _ => false
def ltvAll : List PyData → List PyData → Bool
  | [], [] => false
  | [], _ :: _ => true
  | _ :: _, [] => false
  | x :: xs, y :: ys => if PyData.eqv x y then ltvAll xs ys else ltv x y
end
mutual
def Cmpb : PyData → PyData → Prop
  | .int _, .int _ => True
  | .tuple xs, .tuple ys => CmpbAll xs ys
  | _, _ => False
def CmpbAll : List PyData → List PyData → Prop
  | x :: xs, y :: ys => Cmpb x y ∧ CmpbAll xs ys
  | _, _ => True
end
theorem ltv_sizes : ∀ (xs ys : List PyData), (∀ j, j < min xs.length ys.length → pairEq xs ys j = true) → ltvAll xs ys = decide (xs.length < ys.length)
  | [], [], _ => rfl
  | [], y :: ys, _ => by simp [ltvAll]
  | x :: xs, [], _ => by simp [ltvAll]
  | x :: xs, y :: ys, h => by
    have h0 : PyData.eqv x y = true := h 0 (by simp only [List.length_cons]; omega)
    have ih := ltv_sizes xs ys fun j hj => h (j + 1) (by simp only [List.length_cons]; omega)
    rw [ltvAll, if_pos h0, ih]
    simp
mutual
theorem lt_reads : ∀ (da db : PyData) (A : Around) (s : Shared) (a b : Value) (as bs : List Addr), Reads s.heap a da as → Reads s.heap b db bs → da.canLay0 = true → db.canLay0 = true → Cmpb da db →
    A.units + min da.depth db.depth < cLine → LtAt A s a b (ltv da db)
  | .int x, db, A, s, _, _, _, _, ra, rb, _, _, hc, hu => by
    cases db with
    | int y =>
      cases ra with
      | int _ t =>
        cases rb with
        | int _ u =>
          intro prog w E Q h
          exact richCompare_gives (op := .Lt) (typeIs_int s _ t) (typeIs_int s _ u) F.slot_int_lt F.entry_int_lt (F.args_int_lt_2 _ _) (gives_int_lt _ _ t u) (fun z => nomatch z) h
    | none => exact hc.elim
    | bool _ => exact hc.elim
    | str _ => exact hc.elim
    | list _ => exact hc.elim
    | tuple _ => exact hc.elim
    | dict _ => exact hc.elim
  | .tuple xs, db, A, s, _, _, _, _, ra, rb, ha, hb, hc, hu => by
    cases db with
    | tuple ys =>
      cases ra with
      | @tuple l o vs n _ as₁ h1 h2 h3 h4 =>
        cases rb with
        | @tuple l' o' vs' n' _ bs₁ k1 k2 k3 k4 =>
          obtain ⟨oc, od, odt, osl⟩ := o
          obtain ⟨oc', od', odt', osl'⟩ := o'
          simp only at h2 h3 k2 k3
          subst h2 h3 k2 k3
          have n1 : vs.size = xs.length := by simpa using ReadsAll.length _ _ _ h4
          have n2 : vs'.size = ys.length := by simpa using ReadsAll.length _ _ _ k4
          intro prog w E Q h
          refine richCompare_meets_room (op := .Lt) ⟨_, h1, rfl⟩ ⟨_, k1, rfl⟩ F.slot_tuple_lt F.entry_tuple_lt (F.args_tuple_lt_2 _ _) (tup_lt l l' vs vs' n n' od od' osl osl' (pairEq xs ys) (ltvAll xs ys)) ⟨h1, k1, fun j j1 j2 => ?_, fun j j1 j2 f1 f2 => ?_, fun f => ?_, (fun z => nomatch z), h⟩ (room_here hu)
          · have := eqAt_readsAll xs ys A.in1 s vs.toList vs'.toList _ _ h4 k4 ha hb (room_in hu) j (by simpa using j1) (by simpa using j2)
            simpa using this
          · have := lt_readsAll xs ys A.in1 s vs.toList vs'.toList _ _ h4 k4 ha hb hc (room_in hu) j (by simpa using j1) (by simpa using j2) f1 f2
            simpa using this
          · rw [n1, n2] at f ⊢
            exact ltv_sizes xs ys f
    | none => exact hc.elim
    | bool _ => exact hc.elim
    | str _ => exact hc.elim
    | list _ => exact hc.elim
    | int _ => exact hc.elim
    | dict _ => exact hc.elim
  | .none, _, _, _, _, _, _, _, _, _, _, _, hc, _ => hc.elim
  | .bool _, _, _, _, _, _, _, _, _, _, _, _, hc, _ => hc.elim
  | .str _, _, _, _, _, _, _, _, _, _, _, _, hc, _ => hc.elim
  | .list _, _, _, _, _, _, _, _, _, _, _, _, hc, _ => hc.elim
  | .dict _, _, _, _, _, _, _, _, _, _, _, _, hc, _ => hc.elim
theorem lt_readsAll : ∀ (xs ys : List PyData) (A : Around) (s : Shared) (vs ws : List Value) (as bs : List Addr), ReadsAll s.heap vs xs as → ReadsAll s.heap ws ys bs → PyData.canLayAll0 xs = true → PyData.canLayAll0 ys = true → CmpbAll xs ys →
    A.units + min (PyData.depthAll xs) (PyData.depthAll ys) < cLine → ∀ j (h1 : j < vs.length) (h2 : j < ws.length), (∀ i, i < j → pairEq xs ys i = true) → pairEq xs ys j = false → LtAt A s vs[j] ws[j] (ltvAll xs ys)
  | [], _, _, _, _, _, _, _, ra, _, _, _, _, _, j, h1, _, _, _ => by cases ra; exact absurd h1 (Nat.not_lt_zero _)
  | _ :: _, [], _, _, _, _, _, _, _, rb, _, _, _, _, j, _, h2, _, _ => by cases rb; exact absurd h2 (Nat.not_lt_zero _)
  | x :: xs, y :: ys, A, s, _, _, _, _, ra, rb, ca, cb, hc, hu, j, h1, h2, f1, f2 => by
    cases ra with
    | cons r1 r2 =>
      cases rb with
      | cons q1 q2 =>
        have ca1 : x.canLay0 = true ∧ PyData.canLayAll0 xs = true := by simpa [PyData.canLayAll0] using ca
        have cb1 : y.canLay0 = true ∧ PyData.canLayAll0 ys = true := by simpa [PyData.canLayAll0] using cb
        have hd : A.units + min x.depth y.depth < cLine ∧ A.units + min (PyData.depthAll xs) (PyData.depthAll ys) < cLine := by
          simp only [PyData.depthAll] at hu
          omega
        cases j with
        | zero =>
          have e : ltvAll (x :: xs) (y :: ys) = ltv x y := by
            have f3 : PyData.eqv x y = false := f2
            rw [ltvAll, f3]
            rfl
          rw [e]
          exact lt_reads x y A s _ _ _ _ r1 q1 ca1.1 cb1.1 hc.1 hd.1
        | succ j =>
          have e : ltvAll (x :: xs) (y :: ys) = ltvAll xs ys := by
            have f3 : PyData.eqv x y = true := f1 0 (Nat.succ_pos _)
            rw [ltvAll, f3]
            rfl
          rw [e]
          exact lt_readsAll xs ys A s _ _ _ _ r2 q2 ca1.2 cb1.2 hc.2 hd.2 j (Nat.lt_of_succ_lt_succ h1) (Nat.lt_of_succ_lt_succ h2) (fun i hi => f1 (i + 1) (Nat.succ_lt_succ hi)) f2
end
section
variable {X : Cx} {k : Nat}
def rLtD : R2 := fun x y H Q => ∃ d e : PyData, Rp H d x ∧ Rp H e y ∧ Cmpb d e ∧ d.depth ≤ 60 ∧ Q (.bl (ltv d e)) H
end
end L2

set_option Elab.async false
set_option linter.all false
set_option maxRecDepth 100000
set_option maxHeartbeats 400000
namespace L2
open PySem PySem.Spec PyProof.Rows
section
variable {X : Cx}
/-- t + u of two tuples, also of an empty t; u is a tracked one and not empty -/
def rCatE (K : PySem.W.Frag) : R2 := fun x y H Q => ∃ a b xs ys, x = .ref a ∧ y = .ref b ∧ SqT K H a xs ∧ H b = some (.tup ys) ∧ ys ≠ [] ∧ xs.length + ys.length ≤ sizeLine ∧
  ∀ p H', Same H H' → H' p = some (.tup (xs ++ ys)) → Q (.ref p) H'
end
end L2

set_option Elab.async false
set_option linter.all false
set_option maxRecDepth 100000
set_option maxHeartbeats 400000
namespace L2
open PySem PySem.Spec PyProof.Rows
/-! ### reversed(t) of a tuple -/
def RvIt (h : Heap) (a t : Addr) (i : Int) : Prop := ∃ o, h.get? a = some o ∧ o.cls = .type "reversed" ∧ o.data = .fields #[.ref t, rawInt i]
section
variable {prog : Program} {w : World} {A : Around} {E : Value → Shared → Prop} {s : Shared}
theorem RvIt.ty {a t : Addr} {i : Int} (x : RvIt s.heap a t i) : s.TypeIs (.ref a) "reversed" := let ⟨o, ho, hc, _⟩ := x; ⟨o, ho, hc⟩
theorem RvIt.at {h h' : Heap} {a t : Addr} {i : Int} (x : RvIt h a t i) (e : ∀ o, h.get? a = some o → h'.get? a = some o) : RvIt h' a t i := let ⟨o, ho, r⟩ := x; ⟨o, e _ ho, r⟩
end
end L2

set_option Elab.async false
set_option linter.all false
set_option maxRecDepth 100000
set_option maxHeartbeats 400000
namespace L2
open PySem PySem.Spec PyProof.Rows
def rvdObj (t : Addr) (i : Int) : Obj := { cls := .type "reversed", data := .fields #[.ref t, rawInt i] }
section
variable {prog : Program} {w : World} {A : Around} {E : Value → Shared → Prop} {s : Shared}
end
/-- the items of a tuple, from the last to the first -/
def Itv (K : PySem.W.Frag) (a : Addr) (xs : List V) : It :=
  ⟨fun i H => SqT K H a xs ∧ i < xs.length, fun i H x H' => H' = H ∧ xs.reverse[i]? = some x, fun i H => SqT K H a xs ∧ xs.length ≤ i⟩
def iRev (K : PySem.W.Frag) (ta : TA) : TI := fun σ H R => ta σ H fun vs H1 => ∃ t xs, vs = [.ref t] ∧ SqT K H1 t xs ∧ R (Itv K t xs) H1
section
variable {X : Cx} {tg : Expr}
end
end L2

set_option Elab.async false
set_option linter.all false
set_option maxRecDepth 100000
set_option maxHeartbeats 400000
namespace L2
open PySem PySem.Spec PyProof.Rows
section
variable {P : Program} {w : World} {A : Around} {E : Value → Shared → Prop} {s : Shared}
end
section
variable {X : Cx}
def tTupRev (K : PySem.W.Frag) (ta : TA) : TE := fun σ H Q => ta σ H fun vs H1 => ∃ l xs, vs = [.ref l] ∧ SqL K H1 l xs ∧ ∀ d, H1 d = none → Q (.ref d) (upd H1 d (.tup xs.reverse))
end
end L2

set_option Elab.async false
set_option linter.all false
set_option maxRecDepth 100000
set_option maxHeartbeats 4000000
namespace L2
open PySem PySem.Spec PyProof.Rows
/-! ### any(xs), all(xs) of a list of truths -/
section
variable {X : Cx}
end
end L2

set_option Elab.async false
set_option linter.all false
set_option maxRecDepth 100000
set_option maxHeartbeats 4000000
namespace L2
open PySem PySem.Spec PyProof.Rows
/-! ### a, b = a list of that length -/
section
variable {prog : Program} {w : World} {A : Around} {E : Value → Shared → Prop} {I : Addr} {fp wr : List Addr} {St : Nat → Heap → Prop} {items : Array Value}
end
section
variable {X : Cx} {pos : Pos}
def gLst (K : PySem.W.Frag) (n : Nat) (t : TGs) : TG := fun v σ H Q => ∃ a xs, v = .ref a ∧ SqL K H a xs ∧ xs.length = n ∧ t xs σ H Q
end
end L2

set_option Elab.async false
set_option linter.all false
set_option maxRecDepth 100000
set_option maxHeartbeats 4000000
namespace L2
open PySem PySem.Spec PyProof.Rows
open PySem.W (Looks)
/-! ### try, and one handler for a class above the raised ones -/
section
variable {prog : Program} {w : World} {A : Around} {E : Value → Shared → Prop} {K : PySem.W.Frag} {x C : Addr} {h : Heap} {g : Array GenState} {d : Drawn} {t : Nat} {os : OsState}
/-- what the kept part says of an own exception class -/
structure ExcK (K : PySem.W.Frag) (C : Addr) : Prop where
  ga : PySem.W.findIn K (.ref C) "__getattribute__" = some (some (.builtin "BaseException.__getattribute__"))
  gt : PySem.W.findIn K (.ref C) "__getattr__" = some none
  cl : PySem.W.findIn K (.ref C) "__class__" = some (some (.builtin "object.__class__"))
  gs : PySem.W.specialIn K (.builtin "object.__class__") "__get__" = some (some (.builtin "getset_descriptor.__get__"))
  tk : PySem.W.takesIn K (.builtin "object.__class__") = some true
  ob : PySem.W.mroIn K C (.type "object") = some true
  be : PySem.W.subIn K (.ref C) (.type "BaseException") = some true
end
section
variable {X : Cx}
def rIsiE (K : PySem.W.Frag) : List V → Hp → VK → Prop := fun xs H Q => ∃ (a C : Addr) (c : Value) (v : V) (b : Bool), xs = [.ref a, v] ∧ H a = some (.ext (isExc a (.ref C))) ∧ (∀ u, RelV v u → u = c) ∧ ExcK K C ∧ PySem.W.kitOne K (.ref C) c = some b ∧ Q (.bl b) H
end
end L2

set_option Elab.async false
set_option linter.all false
set_option maxRecDepth 100000
set_option maxHeartbeats 4000000
namespace L2
open PySem PySem.Spec PyProof.Rows
open PySem.W (Looks)
section
variable {X : Cx}
/-- what the one handler takes: classes under Y -/
def RT1 (K : PySem.W.Frag) (tu : TS) (Y : Addr) (i : Nat) (D : Ends) : St → XK → Prop := fun σ1 E => ∀ cls H', E cls none H' → ∃ C, cls = .ref C ∧ PySem.W.subIn K (.ref C) (.ref Y) = some true ∧ ∀ a, H' a = some (.ext (isExc a (.ref C))) →
  tu { nx := fun σ' H4 => D.nx (σ'.set i none) H4, rt := fun _ _ => False } (σ1.set i (some (.ref a))) H'
def tTry1 (K : PySem.W.Frag) (tb : (St → XK → Prop) → TS) (tu : TS) (Y : Addr) (i : Nat) : TS := fun D σ H => tb (RT1 K tu Y i D) D σ H
end
end L2

set_option Elab.async false
set_option linter.all false
set_option maxRecDepth 100000
set_option maxHeartbeats 4000000
namespace L2
open PySem PySem.Spec PyProof.Rows
open PySem.Builtin.Int (intBits)
section
variable {X : Cx}
/-! ### n.bit_length(), a << n -/
def CShl (i j : Int) : Prop := 0 ≤ j ∧ ((intBits i : Nat) : Int) + j ≤ 2 ^ 27
end
end L2

set_option Elab.async false
set_option linter.all false
set_option maxRecDepth 100000
set_option maxHeartbeats 4000000
namespace L2
open PySem PySem.Spec PyProof.Rows
open PySem.Builtin.Int (intBits)
/-! ### the least, the greatest of a tuple of ints -/
section
variable {prog : Program} {w : World} {A : Around} {E : Value → Shared → Prop} {s : Shared} {l : Addr} {xs : Array (Int × Tok)}
theorem iter_intTup {Q : Value → Shared → Prop} (hl : s.heap.IsTuple l (intItems xs))
    (h : ∀ s₂ : Shared, s₂ = { s with heap := s.heap.push { cls := .type "tuple_iterator", data := .fields #[.ref l, .int 0 0] } } →
      (s₂.heap.IsTupleIter s.heap.objs.size l 0 ∧ s₂.heap.IsTuple l (intItems xs)) → (∀ b ∈ [s.heap.objs.size, l], b < s₂.heap.objs.size) → l ≠ s.heap.objs.size → Q (.ref s.heap.objs.size) s₂) :
    wpAny (model prog w) A (pyIter (.ref l)) Q E s := by
  have hlt : l < s.heap.objs.size := by obtain ⟨_, e, _⟩ := hl; exact Heap.lt_size e
  refine wpAny_pyIter_tuple hl (h _ rfl ⟨⟨_, Heap.get?_push_size _ rfl, rfl, rfl⟩, ?_⟩ (fun b hb => ?_) (Nat.ne_of_lt hlt))
  · exact hl.at fun o e => Heap.get?_push_of_some _ e
  show b < (s.heap.push _).objs.size
  rw [Heap.size_push]
  rcases List.mem_cons.mp hb with rfl | hb
  · exact Nat.lt_succ_self _
  · rcases List.mem_cons.mp hb with rfl | hb
    · exact Nat.lt_succ_of_lt hlt
    · cases hb
theorem old_keptT {h' : Heap} (hk : ∀ b o, b ∉ [s.heap.objs.size] → (s.heap.push { cls := .type "tuple_iterator", data := .fields #[.ref l, .int 0 0] }).get? b = some o → h'.get? b = some o) :
    ∀ b o, s.heap.get? b = some o → h'.get? b = some o := fun b o e => by
  refine hk b o (fun hm => ?_) (Heap.get?_push_of_some _ e)
  rcases List.mem_cons.mp hm with e1 | hm
  · exact absurd (e1 ▸ Heap.lt_size e) (Nat.lt_irrefl _)
  · cases hm
theorem min_intTup {Q : Value → Shared → Prop} (hh : A.handled = none) (hl : s.heap.IsTuple l (intItems xs)) (hne : 0 < xs.size)
    (h : ∀ v h' tk, (intItems xs)[argBest (fun i j => decide (numAt xs i < numAt xs j)) (xs.size - 1)]? = some v → (∀ b o, s.heap.get? b = some o → h'.get? b = some o) → Q v { s with heap := h', toks := tk }) :
    wpAny (model prog w) A (call (.builtin "min") [.ref l]) Q E s := by
  refine call_min_walk (iter_intTup hl fun s₂ e st hfp hlI => ?_)
  subst e
  refine ⟨_, _, _, _, _, _, _, rfl, Walks.tuple (A := A.in1) hh _ l hlI (intItems xs), st, hfp, by simpa [intItems] using hne, CmpOf.ints_lt (numAt xs) (fun _ _ => intItems_at), fun v h' tk hP hk => ?_⟩
  exact h v h' tk (by simpa [intItems] using hP) (old_keptT hk)
end
section
variable {X : Cx}
theorem call_minT (hc : X.calm = true) : CallR X (.builtin "min") (fun xs H Q => ∃ (p : Addr) (ns : List Int), xs = [.ref p] ∧ SqT X.K H p (ns.map V.int) ∧ 0 < ns.length ∧ ∀ m : Int, m ∈ ns → (∀ a ∈ ns, m ≤ a) → Q (.int m) H) := by
  intro pins s σ H vs us Q I r q
  obtain ⟨p, ns, rfl, hq, hne, q⟩ := q
  obtain ⟨u, rfl, rx⟩ := vals1 r
  cases rx
  obtain ⟨its, rv, pl, hz⟩ := I.tuple hq
  have hi := intsAre_of rv
  obtain ⟨ys, ey⟩ := hi.allInts.items
  have hns : ns = ys.toList.map (·.1) := by
    have e1 := hi.numsOf
    have e2 := nums_intItems ys
    rw [← ey] at e2
    exact e1.symm.trans e2
  have hsz : 0 < ys.size := by
    rw [hns, List.length_map, Array.length_toList] at hne
    exact hne
  have hl : s.heap.IsTuple p its.toArray := pl
  rw [ey] at hl
  refine min_intTup (I.ok.hd hc) hl hsz fun v g' tk hv hk => ?_
  obtain ⟨t, rfl⟩ := intItems_at hv
  obtain ⟨b1, b2⟩ := argBest_lt (numAt ys) (ys.size - 1)
  refine ⟨.int _, H, I.kept hk, ⟨t, rfl⟩, q _ ?_ fun a ha => ?_⟩
  · rw [hns, numAt_eq]
    exact getD_mem (by rw [List.length_map, Array.length_toList]; omega)
  · rw [hns] at ha
    obtain ⟨j, hj, rfl⟩ := mem_getD ha
    rw [List.length_map, Array.length_toList] at hj
    rw [← numAt_eq]
    exact b2 j (by omega)
/-- of a list or of a tuple -/
theorem call_minS (K : PySem.W.Frag) (hc : X.calm = true) (hK : X.K = K := by rfl) : CallR X (.builtin "min") (fun xs H Q => ∃ (p : Addr) (ns : List Int), xs = [.ref p] ∧ (SqL K H p (ns.map V.int) ∨ SqT K H p (ns.map V.int)) ∧ 0 < ns.length ∧ ∀ m : Int, m ∈ ns → (∀ a ∈ ns, m ≤ a) → Q (.int m) H) := by
  subst hK
  intro pins s σ H vs us Q I r q
  obtain ⟨p, ns, rfl, hq | hq, hne, q⟩ := q
  · exact call_minL hc pins s σ H _ us Q I r ⟨p, ns, rfl, hq, hne, q⟩
  · exact call_minT hc pins s σ H _ us Q I r ⟨p, ns, rfl, hq, hne, q⟩
end
/-! ### slices and sums of tuples -/
section
variable {X : Cx}
/-- t + u of two tuples, either may be empty -/
def rCatA (K : PySem.W.Frag) : R2 := fun x y H Q => ∃ a b xs ys, x = .ref a ∧ y = .ref b ∧ H a = some (.tup xs) ∧ H b = some (.tup ys) ∧ xs.length + ys.length ≤ sizeLine ∧
  ∀ p H', Same H H' → H' p = some (.tup (xs ++ ys)) → Q (.ref p) H'
end
/-! ### the object of a class that has no __init__ of its own -/
structure MkN (K : PySem.W.Frag) (C : Addr) : Prop where
  makes : PySem.W.makesIn K C = true
  init : PySem.W.findIn K (.ref C) "__init__" = some (some (.builtin "object.__init__"))
  kp : PySem.W.keepIn K (.ref C) = true
def tMakeN (C : Addr) : TE := fun σ H Q => ∀ x dx, H x = none → H dx = none → dx ≠ x → Q (.ref x) (upd (upd H dx (.own x)) x (.ins C dx []))
section
variable {X : Cx} {C : Addr} {x : Str} {p pos : Pos}
end
end L2

set_option Elab.async false
set_option linter.all false
set_option maxRecDepth 100000
set_option maxHeartbeats 4000000
namespace L2
open PySem PySem.Spec PyProof.Rows
open PySem.Builtin.Int (intBits)
/-! ### isinstance of a caught one, several classes at once -/
section
variable {K : PySem.W.Frag} {x C : Addr}
end
section
variable {X : Cx}
def rIsiT (K : PySem.W.Frag) : List V → Hp → VK → Prop := fun xs H Q => ∃ (a C tp : Addr) (as : List Addr) (b : Bool), xs = [.ref a, .ref tp] ∧ H a = some (.ext (isExc a (.ref C))) ∧ H tp = some (.tup (as.map V.ref)) ∧ ExcK K C ∧ ExcC K C ∧
  PySem.W.kitAny K (.ref C) (as.map Value.ref) = some b ∧ Q (.bl b) H
end
/-! ### the place of an int in a tuple of ints -/
theorem tuple_indexAt (l : Addr) (items : Array Value) (n : Nat) (dd : Option Addr) (sl : Array (Option Value)) (x : Value) (e : Value → Bool) (j : Nat) (hj : j < items.size)
    (hit : e items[j] = true) (hno : ∀ m (hm : m < items.size), m < j → e items[m] = false) :
    Meets (Builtin.«tuple.index» ⟨[.ref l, x], []⟩)
      (fun A R s => s.heap.get? l = some { cls := .type "tuple", dict := dd, data := .seq items n, slots := sl } ∧ (∀ y, y ∈ items → PySem.SeqAt.EqAt A.in1 s y x (e y)) ∧ R (.ok (.ret (.int j s.toks))) { s with toks := s.toks + 1 }) := by
  intro prog w A R s h
  obtain ⟨hl, he, h⟩ := h
  unfold Builtin.«tuple.index»
  refine wpAny_bind (wpAny_of_eq (show selfAndSome "tuple.index" "index" 1 3 { pos := [Value.ref l, x] } = pure (Value.ref l, [x]) from rfl) ?_)
  refine wpAny_bind (wpAny_tupleItemsOf hl rfl ?_)
  refine wpAny_bind (wpAny_pure (wpAny_bind (wpAny_pure (wpAny_bind ?_))))
  rw [Nat.min_self, Std.Legacy.Range.forIn_eq_forIn_range']
  refine wpAny_forIn_list _ (fun rest b s' => b = (none, ()) ∧ s' = s ∧ ∃ i, rest = List.range' i (items.size - i) ∧ i ≤ j) _ ?_ ?_ _ _ ⟨rfl, rfl, 0, by simp [Std.Legacy.Range.size], Nat.zero_le _⟩
  · rintro k rest b s' ⟨rfl, rfl, i, hr, hij⟩
    have hi : i < items.size := by omega
    rw [show items.size - i = (items.size - i - 1) + 1 by omega, List.range'_succ] at hr
    obtain ⟨rfl, rfl⟩ := List.cons.inj hr
    rw [Array.getElem?_eq_getElem hi]
    refine wpAny_bind (he _ (Array.getElem_mem hi) prog w _ _ ?_)
    by_cases e1 : k = j
    · subst e1
      rw [hit]
      refine wpAny_bind (wpAny_bind (wpAny_mkInt ?_))
      exact wpAny_pure (wpAny_pure (wpAny_pure h))
    · rw [hno k hi (by omega)]
      refine wpAny_pure ⟨rfl, rfl, k + 1, ?_, by omega⟩
      rw [show items.size - (k + 1) = items.size - k - 1 by omega]
  · rintro b s' ⟨rfl, rfl, i, hr, hij⟩
    have : items.size - i = 0 := by
      have := congrArg List.length hr
      simpa using this.symm
    omega

section
variable {X : Cx}
def rIndexT (K : PySem.W.Frag) : V → List V → Hp → VK → Prop := fun x vs H Q => ∃ (l : Addr) (ns : List Int) (y : Int) (j : Nat), x = .ref l ∧ vs = [.int y] ∧ SqT K H l (ns.map V.int) ∧ ns[j]? = some y ∧ (∀ m, m < j → ns[m]? ≠ some y) ∧ Q (.int (j : Nat)) H
theorem mt_indexT : MtM X "tuple.index" (rIndexT X.K) := by
  intro pins s σ H x vs v us Q I rx rv h
  obtain ⟨l, ns, y, j, rfl, rfl, hq, hj, hno, q⟩ := h
  cases rx
  obtain ⟨u, rfl, ru⟩ := rv.one
  obtain ⟨its, r, ⟨⟨oc, od, odt, osl⟩, e, hc, n, hd⟩, hz⟩ := I.tuple hq
  simp only at hc hd
  subst hc hd
  have hlen := r.length
  rw [List.length_map] at hlen
  have hjn : j < ns.length := (List.getElem?_eq_some_iff.mp hj).1
  have hat : ∀ m (hm : m < its.toArray.size), eqU (.int y) its.toArray[m] = decide (ns[m]? = some y) := by
    intro m hm
    have hm' : m < ns.length := by
      rw [List.size_toArray] at hm
      omega
    have e1 : (ns.map V.int)[m]? = some (V.int ns[m]) := by rw [List.getElem?_map, List.getElem?_eq_getElem hm']; rfl
    obtain ⟨w, ew, rw'⟩ := r.get e1
    have e2 : its.toArray[m] = w := by
      have := (List.getElem?_eq_some_iff.mp ew).2
      simpa using this
    rw [e2, eqU_of rw' rfl, List.getElem?_eq_getElem hm']
    show (ns[m] == y) = _
    by_cases z : ns[m] = y <;> simp [z]
  refine call_meets F.slot_tuple_index ⟨_, e, rfl⟩ F.entry_tuple_index (F.args_tuple_index_2 _ _) (tuple_indexAt l its.toArray n od osl u (eqU (.int y)) j (by rw [List.size_toArray]; omega) ?_ ?_) ⟨e, fun z hz' => ?_, ?_⟩
  · rw [hat j (by rw [List.size_toArray]; omega), hj]
    simp
  · intro m hm hmj
    rw [hat m hm]
    exact decide_eq_false (hno m hmj)
  · exact mem_eqAt ru rfl r (all_flat_ints ns) z (by simpa using hz')
  · exact ⟨.int (j : Nat), H, I.tok _, ⟨_, rfl⟩, q⟩
end
section
variable {X : Cx}
end
end L2

set_option Elab.async false
set_option linter.all false
set_option maxRecDepth 100000
set_option maxHeartbeats 4000000
namespace L2
open PySem PySem.Spec PyProof.Rows
open PySem.Builtin.Int (intBits)
/-! ### range(a, b, -1) -/
section
variable {X : Cx} {tg : Expr}
def iRngD (ta : TA) : TI := fun σ H R => ta σ H fun vs H1 => ∃ i j : Int, vs = [.int i, .int j, .int (-1)] ∧ (-(2 ^ 60) ≤ i ∧ i < 2 ^ 60 ∧ -(2 ^ 60) ≤ j ∧ j < 2 ^ 60) ∧ R (ItS i (-1) (i - j).toNat) H1
end
end L2

set_option Elab.async false
set_option linter.all false
set_option maxRecDepth 100000
namespace L2
open PySem PySem.Spec PyProof.Rows
/-! ### lists of pairs as tables -/
section
variable {κ : Type} [DecidableEq κ]
def valV (kvs : List (κ × V)) (k : κ) : Option V := (kvs.find? fun kv => decide (kv.1 = k)).map (·.2)
/-- in its place, or at the end -/
def putK (kvs : List (κ × V)) (k : κ) (v : V) : List (κ × V) :=
  if (kvs.any fun kv => decide (kv.1 = k)) = true then kvs.map (fun kv => if kv.1 = k then (kv.1, v) else kv) else kvs ++ [(k, v)]
def dropK (kvs : List (κ × V)) (k : κ) : List (κ × V) := kvs.filter fun kv => decide (kv.1 ≠ k)

theorem valV_nil {k : κ} : valV ([] : List (κ × V)) k = none := rfl
theorem valV_pos {p : κ × V} {r : List (κ × V)} {k : κ} (e : p.1 = k) : valV (p :: r) k = some p.2 := by simp [valV, List.find?_cons, e]
theorem valV_neg {p : κ × V} {r : List (κ × V)} {k : κ} (e : ¬ p.1 = k) : valV (p :: r) k = valV r k := by simp [valV, List.find?_cons, e]
theorem valV_any (k : κ) : ∀ kvs : List (κ × V), (kvs.any fun kv => decide (kv.1 = k)) = (valV kvs k).isSome
  | [] => rfl
  | p :: r => by
    rw [List.any_cons]
    by_cases e : p.1 = k
    · simp only [valV_pos e, decide_eq_true e, Bool.true_or, Option.isSome_some]
    · rw [valV_neg e, decide_eq_false e, Bool.false_or]; exact valV_any k r
theorem valV_map (k j : κ) (y : V) : ∀ kvs : List (κ × V), valV (kvs.map fun kv => if kv.1 = k then (kv.1, y) else kv) j = (valV kvs j).map fun x => if j = k then y else x
  | [] => rfl
  | p :: r => by
    have ih := valV_map k j y r
    rw [List.map_cons]
    by_cases h : p.1 = k
    · rw [if_pos h]
      by_cases e : p.1 = j
      · rw [valV_pos (p := (p.1, y)) e, valV_pos e, Option.map_some, if_pos (e.symm.trans h)]
      · rw [valV_neg (p := (p.1, y)) e, valV_neg e, ih]
    · rw [if_neg h]
      by_cases e : p.1 = j
      · rw [valV_pos (p := p) e, valV_pos e, Option.map_some, if_neg (fun z => h (e.trans z))]
      · rw [valV_neg (p := p) e, valV_neg e, ih]
theorem valV_snoc (k j : κ) (y : V) : ∀ kvs : List (κ × V), valV kvs k = none → valV (kvs ++ [(k, y)]) j = if j = k then some y else valV kvs j
  | [], _ => by
    by_cases e : k = j
    · rw [if_pos e.symm]; exact valV_pos (p := (k, y)) e
    · rw [if_neg (fun z => e z.symm)]; exact valV_neg (p := (k, y)) e
  | p :: r, hn => by
    rw [List.cons_append]
    have hk : ¬ p.1 = k := fun z => by rw [valV_pos z] at hn; cases hn
    rw [valV_neg hk] at hn
    have ih := valV_snoc k j y r hn
    by_cases e : p.1 = j
    · rw [valV_pos e, valV_pos e, if_neg (fun z => hk (e.trans z))]
    · rw [valV_neg e, valV_neg e, ih]
theorem valV_put (kvs : List (κ × V)) (k j : κ) (y : V) : valV (putK kvs k y) j = if j = k then some y else valV kvs j := by
  unfold putK
  by_cases a : (kvs.any fun kv => decide (kv.1 = k)) = true
  · rw [if_pos a, valV_map]
    rw [valV_any] at a
    by_cases e : j = k
    · obtain ⟨x, hx⟩ := Option.isSome_iff_exists.mp a
      rw [if_pos e, e, hx, Option.map_some, if_pos rfl]
    · rw [if_neg e]
      cases valV kvs j with
      | none => rfl
      | some x => rw [Option.map_some, if_neg e]
  · rw [if_neg a]
    refine valV_snoc k j y kvs ?_
    rw [valV_any] at a
    cases q : valV kvs k with
    | none => rfl
    | some x => rw [q] at a; exact (a rfl).elim
theorem length_putK (kvs : List (κ × V)) (k : κ) (v : V) : (putK kvs k v).length ≤ kvs.length + 1 := by
  unfold putK
  split
  · rw [List.length_map]; omega
  · rw [List.length_append, List.length_cons, List.length_nil]; omega
theorem RelO.isSome_eq {o : Option V} {u : Option Value} (r : RelO o u) : o.isSome = u.isSome := by
  cases o with
  | none => cases u with
    | none => rfl
    | some _ => exact (show False from r).elim
  | some _ => cases u with
    | none => exact (show False from r).elim
    | some _ => rfl
theorem RelO.getD {o : Option V} {u : Option Value} {d : V} {d' : Value} (r : RelO o u) (rd : RelV d d') : RelV (o.getD d) (u.getD d') := by
  cases o with
  | none => cases u with
    | none => exact rd
    | some _ => exact (show False from r).elim
  | some _ => cases u with
    | none => exact (show False from r).elim
    | some _ => exact r

/-- raw tables of the same keys -/
theorem KV.val {kvs : List (κ × V)} {vs : List (κ × Value)} (r : KV kvs vs) (k : κ) : RelO (valV kvs k) (valueAt vs k) := by
  unfold KV at r
  induction r with
  | nil => exact True.intro
  | @cons p q ps qs h t ih =>
    obtain ⟨h1, h2⟩ := h
    by_cases e : p.1 = k
    · have e' : q.1 = k := h1.symm.trans e
      have b : valueAt (q :: qs) k = some q.2 := by simp [valueAt, List.find?_cons, e']
      rw [valV_pos e, b]; exact h2
    · have e' : ¬ q.1 = k := fun z => e (h1.trans z)
      have b : valueAt (q :: qs) k = valueAt qs k := by simp [valueAt, List.find?_cons, e']
      rw [valV_neg e, b]; exact ih
theorem KV.any {kvs : List (κ × V)} {vs : List (κ × Value)} (r : KV kvs vs) (k : κ) : (kvs.any fun kv => decide (kv.1 = k)) = vs.any fun kv => decide (kv.1 = k) := by
  unfold KV at r
  induction r with
  | nil => rfl
  | cons h t ih => rw [List.any_cons, List.any_cons, ih, h.1]
theorem KV.repl {kvs : List (κ × V)} {vs : List (κ × Value)} (r : KV kvs vs) (k : κ) {y : V} {u : Value} (ry : RelV y u) :
    KV (kvs.map fun kv => if kv.1 = k then (kv.1, y) else kv) (vs.map fun kv => if kv.1 = k then (kv.1, u) else kv) := by
  unfold KV at r ⊢
  induction r with
  | nil => exact .nil
  | @cons p q ps qs h t ih =>
    rw [List.map_cons, List.map_cons]
    refine .cons ?_ ih
    obtain ⟨h1, h2⟩ := h
    by_cases e : p.1 = k
    · rw [if_pos e, if_pos (h1.symm.trans e)]; exact ⟨h1, ry⟩
    · rw [if_neg e, if_neg (fun z => e (h1.trans z))]; exact ⟨h1, h2⟩
theorem KV.put {kvs : List (κ × V)} {vs : List (κ × Value)} (r : KV kvs vs) (k : κ) {y : V} {u : Value} (ry : RelV y u) : KV (putK kvs k y) (stored vs k u) := by
  unfold putK stored
  rw [r.any k]
  by_cases e : (vs.any fun kv => decide (kv.1 = k)) = true
  · rw [if_pos e, if_pos e]; exact r.repl k ry
  · rw [if_neg e, if_neg e]; exact Paired.snoc r ⟨rfl, ry⟩
theorem KV.drop {kvs : List (κ × V)} {vs : List (κ × Value)} (r : KV kvs vs) (k : κ) : KV (dropK kvs k) (without vs k) := by
  unfold KV at r ⊢
  unfold dropK without
  induction r with
  | nil => exact .nil
  | @cons p q ps qs h t ih =>
    obtain ⟨h1, h2⟩ := h
    rw [List.filter_cons, List.filter_cons]
    by_cases e : p.1 = k
    · have a : ¬ decide (p.1 ≠ k) = true := by simp [e]
      have b : ¬ decide (q.1 ≠ k) = true := by simp [h1.symm.trans e]
      rw [if_neg a, if_neg b]; exact ih
    · have e' : ¬ q.1 = k := fun z => e (h1.trans z)
      have a : decide (p.1 ≠ k) = true := by simp [e]
      have b : decide (q.1 ≠ k) = true := by simp [e']
      rw [if_pos a, if_pos b]; exact .cons ⟨h1, h2⟩ ih
theorem KV.keys {kvs : List (κ × V)} {vs : List (κ × Value)} (r : KV kvs vs) : kvs.map (·.1) = vs.map (·.1) := by
  unfold KV at r
  induction r with
  | nil => rfl
  | cons h t ih => rw [List.map_cons, List.map_cons, ih, h.1]
theorem KV.length {kvs : List (κ × V)} {vs : List (κ × Value)} (r : KV kvs vs) : kvs.length = vs.length := Paired.length r
end


/-! ### a tracked dict, its keys ints and texts or tuples of these -/
theorem kV_is {P : Program} {w : World} {k : Key} {u : Value} (r : RelV (kV k) u) : (mixKind P w).is k u = true := by
  cases k with
  | inl i => obtain ⟨t, e⟩ := (show ∃ t, u = Value.int i t from r); subst e; exact mixKind_int P w i t
  | inr x => obtain ⟨t, e⟩ := (show ∃ t, u = Value.str x t from r); subst e; exact mixKind_str P w x t
/-- raw entries of a dict with tuple keys -/
abbrev KT (H : Hp) : List ((List Int × Int) × V) → List ((List Int × Int) × Addr × Value) → Prop := Paired fun p q => p.1 = q.1 ∧ StH H q.2.1 p.1 ∧ RelV p.2 q.2.2
theorem KT.val {H : Hp} {kvs : List ((List Int × Int) × V)} {xs : List ((List Int × Int) × Addr × Value)} (r : KT H kvs xs) (k : (List Int × Int)) : RelO (valV kvs k) ((atKey xs k).map (·.2)) := by
  induction r with
  | nil => exact True.intro
  | @cons p q ps qs h t ih =>
    obtain ⟨h1, _, h2⟩ := h
    by_cases e : p.1 = k
    · have e' : q.1 = k := h1.symm.trans e
      have b : atKey (q :: qs) k = some q.2 := by simp [atKey, List.find?_cons, e']
      rw [valV_pos e, b]; exact h2
    · have e' : ¬ q.1 = k := fun z => e (h1.trans z)
      have b : atKey (q :: qs) k = atKey qs k := by simp [atKey, List.find?_cons, e']
      rw [valV_neg e, b]; exact ih
theorem KT.repl {H : Hp} {kvs : List ((List Int × Int) × V)} {xs : List ((List Int × Int) × Addr × Value)} (r : KT H kvs xs) (k : (List Int × Int)) {y : V} {u : Value} (ry : RelV y u) :
    KT H (kvs.map fun kv => if kv.1 = k then (kv.1, y) else kv) (xs.map (putAt k u)) := by
  induction r with
  | nil => exact .nil
  | @cons p q ps qs h t ih =>
    rw [List.map_cons, List.map_cons]
    refine .cons ?_ ih
    obtain ⟨h1, h2, h3⟩ := h
    unfold putAt
    by_cases e : p.1 = k
    · rw [if_pos e, if_pos (h1.symm.trans e)]; exact ⟨h1, h2, ry⟩
    · rw [if_neg e, if_neg (fun z => e (h1.trans z))]; exact ⟨h1, h2, h3⟩
theorem KT.put {H : Hp} {kvs : List ((List Int × Int) × V)} {xs : List ((List Int × Int) × Addr × Value)} (r : KT H kvs xs) (k : (List Int × Int)) {b : Addr} {y : V} {u : Value} (hb : StH H b k) (ry : RelV y u) :
    KT H (putK kvs k y) (storedH xs k b u) := by
  have e : (kvs.any fun kv => decide (kv.1 = k)) = (atKey xs k).isSome := by
    rw [valV_any, (r.val k).isSome_eq, Option.isSome_map]
  unfold putK storedH
  rw [e]
  by_cases q : (atKey xs k).isSome = true
  · rw [if_pos q, if_pos q]; exact r.repl k ry
  · rw [if_neg q, if_neg q]; exact Paired.snoc r ⟨rfl, hb, ry⟩
theorem KT.keeps {H H' : Hp} {kvs : List ((List Int × Int) × V)} {xs : List ((List Int × Int) × Addr × Value)} (r : KT H kvs xs) (ht : ∀ b ys, H b = some (.tup ys) → H' b = some (.tup ys)) : KT H' kvs xs :=
  Paired.mapP r fun _ _ z => ⟨z.1, z.2.1.up ht, z.2.2⟩

section
variable {P : Program} {w : World} {H : Hp} {h : Heap} {a : Addr}
theorem rd_of {u : HO} (ok : HOk P w H h) (e : Rd H a u) : ObjOk P w H h a u := e.ok ok
theorem dk_rd {kvs : List (Key × V)} (ok : HOk P w H h) (e : Rd H a (.dK kvs)) : kvs.length ≤ sizeLine ∧ (a == sysModules) = false ∧ ∃ vs, KV kvs vs ∧ h.DictOf (mixKind P w) a vs :=
  show ObjOk P w H h a (.dK kvs) from rd_of ok e
/-- a tracked tuple of ints and texts is a key -/
theorem ints_are {P : Program} {w : World} : ∀ {ks : List Int} {us : List Value}, Vals (ks.map V.int) us → ItemsAre (intKind P w) ks us
  | [], us, r => by
    cases r
    exact .nil
  | k :: ks, us, r => by
    cases r with
    | cons h t =>
      obtain ⟨tk, rfl⟩ := h
      exact .cons (by simp [intKind, Value.isInt]) (ints_are t)
theorem stand_room {P : Program} {w : World} {A : Around} (hu : A.units + 20 < cLine) : (standKind P w).room A.in1 := by
  first | (show A.units + 1 + 8 < cLine; omega) | (show A.units + 8 < cLine; omega)
theorem key_of {ks : List Int × Int} (ok : HOk P w H h) (e : StH H a ks) : (standKind P w).is h ks a := by
  obtain ⟨u, e1, e2⟩ := e
  obtain ⟨_, its, r, o, h1, h2, n, h3⟩ := (show ObjOk P w H h a (.tup [.ref u, .int ks.2]) from ok a _ e1)
  obtain ⟨_, its2, r2, o2, g1, g2, m, g3⟩ := (show ObjOk P w H h u (.tup (ks.1.map V.int)) from ok u _ e2)
  cases r with
  | cons r1 rr =>
    cases rr with
    | cons r3 rr =>
      cases rr
      cases (show _ = Value.ref u from r1)
      obtain ⟨t, rfl⟩ := r3
      exact ⟨o, n, u, t, h1, h2, h3, o2, its2.toArray, m, g1, g2, g3, by simpa using ints_are r2⟩
theorem dt_rd {kvs : List ((List Int × Int) × V)} (ok : HOk P w H h) (e : Rd H a (.dT kvs)) : kvs.length ≤ sizeLine ∧ (a == sysModules) = false ∧
    ∃ xs, KT H kvs xs ∧ h.DictOfH (standKind P w) a xs := by
  obtain ⟨z, y, xs, r, o, es, ep, h1, h2, h3, h4, h5⟩ := (show ObjOk P w H h a (.dT kvs) from rd_of ok e)
  refine ⟨z, y, xs, r, o, es, ep, h1, h2, h3, h4, fun x hx => ?_, h5⟩
  have all : ∀ {l : List ((List Int × Int) × V)} {m : List ((List Int × Int) × Addr × Value)}, KT H l m → ∀ x ∈ m, (standKind P w).is h x.1 x.2.1 := by
    intro l m q
    induction q with
    | nil => intro x hx; exact nomatch hx
    | @cons p q ps qs hq t ih =>
      intro x hx
      rcases List.mem_cons.mp hx with e | hx
      · subst e
        exact key_of ok (by rw [← hq.1]; exact hq.2.1)
      · exact ih x hx
  exact all r x hx
end

/-- what the dict at a holds at the key y -/
def DGet (H : Hp) (a : Addr) (y : V) (r : Option V) : Prop :=
  (∃ kvs k, Rd H a (.dK kvs) ∧ y = kV k ∧ r = valV kvs k) ∨ ∃ kvs k b, Rd H a (.dT kvs) ∧ y = .ref b ∧ StH H b k ∧ r = valV kvs k
/-- the heap behind a[y] = v -/
def DPut (H : Hp) (a : Addr) (y v : V) (H' : Hp) : Prop :=
  (∃ kvs k, H a = some (.dK kvs) ∧ y = kV k ∧ kvs.length < sizeLine ∧ H' = upd H a (.dK (putK kvs k v))) ∨
  ∃ kvs k b, H a = some (.dT kvs) ∧ y = .ref b ∧ StH H b k ∧ kvs.length < sizeLine ∧ H' = upd H a (.dT (putK kvs k v))
theorem DGet.k {H : Hp} {a : Addr} {kvs : List (Key × V)} {k : Key} (e : H a = some (.dK kvs)) : DGet H a (kV k) (valV kvs k) := .inl ⟨kvs, k, .inl e, rfl, rfl⟩
theorem DGet.t {H : Hp} {a b : Addr} {kvs : List ((List Int × Int) × V)} {k : (List Int × Int)} (e : H a = some (.dT kvs)) (eb : StH H b k) : DGet H a (.ref b) (valV kvs k) := .inr ⟨kvs, k, b, .inl e, rfl, eb, rfl⟩
theorem DPut.k {H : Hp} {a : Addr} {kvs : List (Key × V)} {k : Key} {v : V} (e : H a = some (.dK kvs)) (hl : kvs.length < sizeLine) : DPut H a (kV k) v (upd H a (.dK (putK kvs k v))) := .inl ⟨kvs, k, e, rfl, hl, rfl⟩
theorem DPut.t {H : Hp} {a b : Addr} {kvs : List ((List Int × Int) × V)} {k : (List Int × Int)} {v : V} (e : H a = some (.dT kvs)) (eb : StH H b k) (hl : kvs.length < sizeLine) :
    DPut H a (.ref b) v (upd H a (.dT (putK kvs k v))) := .inr ⟨kvs, k, b, e, rfl, eb, hl, rfl⟩


section
variable {X : Cx} {pins : List (Addr × Obj)} {σ : St} {H : Hp} {s : Shared} {a : Addr} {y v : V} {u r : Value} {o : Option V} {A : Around} {E : Value → Shared → Prop}

theorem Inv.big (I : Inv X pins σ H s) : sysModules < s.heap.objs.size := by
  have h : mainGlobals < s.heap.objs.size := (I.mod.glob.keeps I.bk).lt
  exact Nat.lt_trans (by decide) h

/-- d[y], there -/
theorem d_getItem {Q : Value → Shared → Prop} (hu : A.units + 20 < cLine) (I : Inv X pins σ H s) (g : DGet H a y (some v)) (ry : RelV y u) (h : ∀ w' s', Inv X pins σ H s' → RelV v w' → Q w' s') :
    wpAny (model X.prog X.w) A (getItem (.ref a) u) Q E s := by
  rcases g with ⟨kvs, k, e, ey, l⟩ | ⟨kvs, k, b, e, ey, eb, l⟩
  · subst ey
    obtain ⟨z, hd, vs, rel, dd⟩ := dk_rd I.hok e
    obtain ⟨w', hw, rw'⟩ := RelO.some_of (v := v) (o := valueAt vs k) (by rw [l]; exact rel.val k)
    exact wpAny_getItem_of (kV_is ry) dd.mapOf hw (h w' _ (I.tok _) rw')
  · subst ey
    cases (show u = Value.ref b from ry)
    obtain ⟨z, hd, xs, rel, dd⟩ := dt_rd I.hok e
    obtain ⟨w', hw, rw'⟩ := RelO.some_of (v := v) (o := (atKey xs k).map (·.2)) (by rw [l]; exact rel.val k)
    obtain ⟨p, hp, hp2⟩ := Option.map_eq_some_iff.mp hw
    refine wpAny_getItem_heap (stand_room hu) (key_of I.hok eb) dd hp ?_
    rw [hp2]
    exact h w' _ (I.tok _) rw'
/-- y in d -/
theorem d_in {Q : Value → Shared → Prop} (hu : A.units + 20 < cLine) (I : Inv X pins σ H s) (g : DGet H a y o) (ry : RelV y u) (h : ∀ s', Inv X pins σ H s' → Q (.bool o.isSome) s') :
    wpAny (model X.prog X.w) A (compareOp .In u (.ref a)) Q E s := by
  rcases g with ⟨kvs, k, e, ey, l⟩ | ⟨kvs, k, b, e, ey, eb, l⟩
  · subst ey
    obtain ⟨z, hd, vs, rel, dd⟩ := dk_rd I.hok e
    refine wpAny_in_of (kV_is ry) hd dd.mapOf ?_
    rw [← (rel.val k).isSome_eq, ← l]
    exact h _ (I.tok _)
  · subst ey
    cases (show u = Value.ref b from ry)
    obtain ⟨z, hd, xs, rel, dd⟩ := dt_rd I.hok e
    refine wpAny_in_heap (stand_room hu) (key_of I.hok eb) hd dd ?_
    have q := (rel.val k).isSome_eq
    rw [Option.isSome_map] at q
    rw [← q, ← l]
    exact h _ (I.tok _)
end

section
variable {X : Cx} {pins : List (Addr × Obj)} {σ : St} {H : Hp} {s : Shared} {a : Addr} {kvs : List (Key × V)} {k : Key} {u : Value} {A : Around} {E : Value → Shared → Prop}
end


/-! ### readings and rules -/
/-- the element of a subscription, not a slice -/
def NoSl (i : Expr) : Prop := ∀ ov iv, subscripted i false ov iv = operate [ov, iv] (getItem ov iv)
theorem subD_of {prog : Program} {w : World} {A : Around} {E : Value → Shared → Prop} {s : Shared} {env : Env} {value slice : Expr} {pos : Pos} {T id : String} {Q : Value → Shared → Prop}
    (hl : typeLookup (.type T) "__getitem__" = pure (some (.builtin id))) (hs : NoSl slice)
    (h : wpAny (model prog w) A (eval value env) (fun o s₁ => wpAny (model prog w) A (eval slice env) (fun i s₂ => s₂.TypeIs o T ∧ wpAny (model prog w) A (getItem o i) Q E s₂) E s₁) E s) :
    wpAny (model prog w) A (eval (.Subscript value slice pos) env) Q E s := by
  refine Subscript_ (wpAny_mono h (fun o s₁ h₁ => wpAny_mono h₁ (fun i s₂ h₂ => ?_) fun _ _ x => x) fun _ _ x => x)
  obtain ⟨hT, h₂⟩ := h₂
  unfold subscriptTail
  refine wpAny_bind ?_
  rw [getitemInPython_of_ne hT.not_modules]
  refine wpAny_bind (wpAny_specialOf hT hl ?_)
  have fin : wpAny (model prog w) A (subscripted slice false o i) (fun r s₃ => wpAny (model prog w) A (letTemporaryGo value o r >>= fun _ => pure r) Q E s₃) E s₂ := by
    rw [hs o i]
    exact wpAny_operating (wpAny_mono h₂ (fun r s₃ h₃ => wpAny_bind (wpAny_letTemporaryGo (wpAny_pure h₃))) fun _ _ x => x)
  first
    | exact wpAny_pure (wpAny_bind fin)
    | exact wpAny_bind (wpAny_pure (wpAny_bind fin))
    | exact wpAny_bind fin

theorem dict_typeIs {X : Cx} {pins : List (Addr × Obj)} {σ : St} {H : Hp} {s : Shared} {a : Addr} {y : V} {o : Option V} (I : Inv X pins σ H s) (g : DGet H a y o) : s.TypeIs (.ref a) "dict" := by
  rcases g with ⟨kvs, k, e, _, _⟩ | ⟨kvs, k, b, e, _, _, _⟩
  · obtain ⟨_, _, vs, _, dd⟩ := dk_rd I.hok e
    exact dd.typeIs
  · obtain ⟨_, _, xs, _, dd⟩ := dt_rd I.hok e
    exact dd.typeIs
/-- d[y] -/
def tDGet (td ty : TE) : TE := fun σ H Q => td σ H fun x H1 => ty σ H1 fun y H2 => ∃ a v, x = .ref a ∧ DGet H2 a y (some v) ∧ Q v H2
/-- y in d, y not in d -/
def tDIn (ty td : TE) : TE := fun σ H Q => ty σ H fun y H1 => td σ H1 fun x H2 => ∃ a o, x = .ref a ∧ DGet H2 a y o ∧ Q (.bl o.isSome) H2
def tDNotIn (ty td : TE) : TE := fun σ H Q => ty σ H fun y H1 => td σ H1 fun x H2 => ∃ a o, x = .ref a ∧ DGet H2 a y o ∧ Q (.bl (!o.isSome)) H2
/-- d[y] = v -/
def sDPut (td ty tv : TE) : TS := fun D σ H => tv σ H fun v H1 => td σ H1 fun x H2 => ty σ H2 fun y H3 => ∃ a H4, x = .ref a ∧ DPut H3 a y v H4 ∧ D.nx σ H4
/-- d[y] op= v -/
def sDAug (td ty tv : TE) (rd : V → V → Hp → VK → Prop) : TS := fun D σ H => td σ H fun x H1 => ty σ H1 fun y H2 => ∃ a v, x = .ref a ∧ DGet H2 a y (some v) ∧
  tv σ H2 fun y2 H3 => rd v y2 H3 fun z H4 => ∃ H5, DPut H4 a y z H5 ∧ D.nx σ H5
/-- del d[y] -/
def sDDel (td ty : TE) : TS := fun D σ H => td σ H fun x H1 => ty σ H1 fun y H2 => ∃ a kvs k, x = .ref a ∧ H2 a = some (.dK kvs) ∧ y = kV k ∧ (valV kvs k).isSome = true ∧ D.nx σ (upd H2 a (.dK (dropK kvs k)))

section
variable {X : Cx} {o i e value : Expr} {pos pos' tpos : Pos} {td ty tv : TE}
theorem pe_dget (hu : X.A.units + 20 < cLine) (ho : PE X o td) (hi : PE X i ty) (hs : NoSl i) : PE X (.Subscript o i pos) (tDGet td ty) := by
  intro pins s σ H Q I h
  refine subD_of PySem.F.slot_dict_getitem.lookup hs (thn (ho pins s σ H _ I h) fun u s1 ⟨x, H1, I1, rx, q1⟩ => thn (hi pins s1 σ H1 _ I1 q1) fun iv s2 ⟨y, H2, I2, ry, a, v, ex, g, q2⟩ => ?_)
  subst ex
  obtain rfl : u = Value.ref a := rx
  exact ⟨dict_typeIs I2 g, d_getItem hu I2 g ry fun w' s3 I3 rw' => ⟨v, H2, I3, rw', q2⟩⟩
theorem pc_din (hu : X.A.units + 20 < cLine) (hi : PE X i ty) (ho : PE X o td) : PC X .In i o (tDIn ty td) := by
  intro pins s σ H Q I h
  refine thn (hi pins s σ H _ I h) fun iv s1 ⟨y, H1, I1, ry, q1⟩ => thn (ho pins s1 σ H1 _ I1 q1) fun u s2 ⟨x, H2, I2, rx, a, ov, ex, g, q2⟩ => ?_
  subst ex
  obtain rfl : u = Value.ref a := rx
  exact d_in hu I2 g ry fun s3 I3 => ⟨.bl ov.isSome, H2, I3, rfl, q2⟩
end


/-! ### displays -/
/-- {}, to be a dict of the kind that is wanted -/
def tDNewK : TE := fun _ H Q => ∀ p, H p = none → Q (.ref p) (upd H p (.dK []))
def tDNewT : TE := fun _ H Q => ∀ p, H p = none → Q (.ref p) (upd H p (.dT []))
section
variable {X : Cx} {pos : Pos}
end

/-- the pairs of a display, from the left -/
def tPairs : List (TE × TE) → St → Hp → (List (V × V) → Hp → Prop) → Prop
  | [], _, H, Q => Q [] H
  | (tk, tv) :: r, σ, H, Q => tk σ H fun x H1 => tv σ H1 fun y H2 => tPairs r σ H2 fun ps H3 => Q ((x, y) :: ps) H3
abbrev VV : List (V × V) → List (Value × Value) → Prop := Paired fun p q => RelV p.1 q.1 ∧ RelV p.2 q.2
def PPs (X : Cx) (pos : Pos) (keys : List (Option Expr)) (values : List Expr) (trs : List (TE × TE)) : Prop :=
  ∀ (pins : List (Addr × Obj)) (s : Shared) (σ : St) (H : Hp) (Q : List (V × V) → Hp → Prop), Inv X pins σ H s → tPairs trs σ H Q →
    wpAny (model X.prog X.w) X.A (evalPairs (pairTrees keys values X.env pos)) (fun vs s' => ∃ ps H', Inv X pins σ H' s' ∧ VV ps vs ∧ Q ps H') X.xe s
def mergeK (kvs more : List (Key × V)) : List (Key × V) := more.foldl (fun acc kv => putK acc kv.1 kv.2) kvs
/-- {k: v, ..} with keys ints and texts; the new dict stands empty while the pairs are made -/
def tDisp (trs : List (TE × TE)) : TE := fun σ H Q => ∀ p, H p = none → tPairs trs σ (upd H p (.dK [])) fun ps H2 => H2 p = some (.dK []) ∧ ∃ kvs : List (Key × V), ps = kvs.map (fun kv => (kV kv.1, kv.2)) ∧ kvs.length ≤ 15 ∧ Q (.ref p) (upd H2 p (.dK (mergeK [] kvs)))
/-! ### methods -/
/-- a method call o.m(e) of a built-in, with one argument: what must be seen of the text -/
structure M1 (X : Cx) (o : Expr) (m : Str) (apos : Pos) (e : Expr) (cpos : Pos) : Prop where
  base : attributeBase o m X.env (eval o X.env) = eval o X.env
  few : ((backTo cpos (starEach [e] X.env)).all (fun x => !x.1) && (backToKw cpos (keywordEach [] X.env)).all (fun x => x.1.isSome)
    && decide (([e] : List Expr).length + ([] : List Keyword).length + (if ([] : List Keyword).isEmpty then 0 else 1) < 30)) = true
  line : (apos.endLine == cpos.line) = true
  trees : backTo cpos (starEach [e] X.env) = [(false, eval e X.env)]
structure M2 (X : Cx) (o : Expr) (m : Str) (apos : Pos) (e f : Expr) (cpos : Pos) : Prop where
  base : attributeBase o m X.env (eval o X.env) = eval o X.env
  few : ((backTo cpos (starEach [e, f] X.env)).all (fun x => !x.1) && (backToKw cpos (keywordEach [] X.env)).all (fun x => x.1.isSome)
    && decide (([e, f] : List Expr).length + ([] : List Keyword).length + (if ([] : List Keyword).isEmpty then 0 else 1) < 30)) = true
  line : (apos.endLine == cpos.line) = true
  trees : backTo cpos (starEach [e, f] X.env) = [(false, eval e X.env), (false, eval f X.env)]

/-- a is a dict, whatever its keys -/
def IsD (H : Hp) (a : Addr) : Prop := (∃ kvs, Rd H a (.dK kvs)) ∨ ∃ kvs, Rd H a (.dT kvs)
section
variable {X : Cx} {pins : List (Addr × Obj)} {σ : St} {H : Hp} {s : Shared} {a : Addr} {y d : V} {u r : Value} {o : Option V} {A : Around} {E : Value → Shared → Prop}
end

def tDGet1 (td ty : TE) : TE := fun σ H Q => td σ H fun x H1 => ∃ a, x = .ref a ∧ IsD H1 a ∧ ty σ H1 fun y H2 => ∃ o, DGet H2 a y o ∧ Q (o.getD .non) H2
def tDGet2 (td ty tx : TE) : TE := fun σ H Q => td σ H fun x H1 => ∃ a, x = .ref a ∧ IsD H1 a ∧ ty σ H1 fun y H2 => tx σ H2 fun z H3 => ∃ o, DGet H3 a y o ∧ Q (o.getD z) H3
/-- d.pop(k): there; d.pop(k, x): there or not -/
def tDPop1 (td ty : TE) : TE := fun σ H Q => td σ H fun x H1 => ∃ a, x = .ref a ∧ IsD H1 a ∧ ty σ H1 fun y H2 => ∃ kvs k v, H2 a = some (.dK kvs) ∧ y = kV k ∧ valV kvs k = some v ∧ Q v (upd H2 a (.dK (dropK kvs k)))
def tDPop2 (td ty tx : TE) : TE := fun σ H Q => td σ H fun x H1 => ∃ a, x = .ref a ∧ IsD H1 a ∧ ty σ H1 fun y H2 => tx σ H2 fun z H3 => ∃ kvs k, H3 a = some (.dK kvs) ∧ y = kV k ∧
  (∀ v, valV kvs k = some v → Q v (upd H3 a (.dK (dropK kvs k)))) ∧ (valV kvs k = none → Q z H3)
section
variable {X : Cx} {o e f : Expr} {apos cpos : Pos} {td ty tx : TE}
end

/-! ### dict(d): a copy -/
section
variable {X : Cx} {pins : List (Addr × Obj)} {σ : St} {H : Hp} {s : Shared} {a : Addr} {kvs : List (Key × V)} {A : Around} {E : Value → Shared → Prop}
end


section
variable {X : Cx} {pins : List (Addr × Obj)} {σ : St} {H : Hp} {s : Shared} {a : Addr} {y : V} {u : Value} {A : Around} {E : Value → Shared → Prop}
end
end L2

namespace L2
open PySem PySem.Spec PyProof.Rows
/-! ### a dict's pairs: keys that differ -/
section
variable {κ : Type} [DecidableEq κ]
theorem valV_in {kvs : List (κ × V)} {k : κ} {v : V} (h : valV kvs k = some v) : k ∈ kvs.map (·.1) := by
  have q : (kvs.any fun kv => decide (kv.1 = k)) = true := by
    rw [valV_any, h]
    all_goals rfl
  obtain ⟨p, hp, e⟩ := List.any_eq_true.mp q
  exact List.mem_map.mpr ⟨p, hp, of_decide_eq_true e⟩
end
end L2

set_option Elab.async false
set_option linter.all false
set_option maxRecDepth 100000
set_option maxHeartbeats 4000000
namespace L2
open PySem PySem.Spec PyProof.Rows
open PySem.Builtin.Int (intBits)
/-! ### d.items(), by the entries themselves (whatever the keys are) -/
section
variable {P : Program} {w : World} {A : Around} {E : Value → Shared → Prop} {s : Shared}
end
end L2

set_option Elab.async false
set_option linter.all false
set_option maxRecDepth 100000
set_option maxHeartbeats 4000000
namespace L2
open PySem PySem.Spec PyProof.Rows
open PySem.Builtin.Int (intBits)
/-! ### texts: sep.join(xs), which type a text has -/
section
variable {X : Cx}
/-- sep.join(xs), xs a list of texts -/
def rJoin (K : PySem.W.Frag) : V → List V → Hp → VK → Prop := fun x xs H Q => ∃ (sep : Str) (a : Addr) (zs : List Str), x = .str sep ∧ xs = [.ref a] ∧ SqL K H a (zs.map V.str) ∧ zs.length ≤ 500 ∧ (∀ z ∈ zs, z.length ≤ 30000) ∧ sep.length ≤ 500 ∧ Q (.str (Txt.join sep zs)) H
/-- isinstance(x, c), x an own instance that is one -/
def rIsiO (K : PySem.W.Frag) : List V → Hp → VK → Prop := fun xs H Q => ∃ (a C dx : Addr) (fs : List (Str × V)) (c : Value) (v : V), xs = [.ref a, v] ∧ H a = some (.ins C dx fs) ∧ (∀ u, RelV v u → u = c) ∧ PySem.W.kitOne K (.ref C) c = some true ∧ Q (.bl true) H
theorem call_isiO (K : PySem.W.Frag) (hK : X.K = K := by rfl) : CallR X (.builtin "isinstance") (rIsiO K) := by
  subst hK
  intro pins s σ H xs us Q I r h
  obtain ⟨a, C, dx, fs, c, v, rfl, ha, hv, e, q⟩ := h
  obtain ⟨u0, u1, rfl, r0, r1⟩ := Vals.two r
  cases r0
  rw [hv u1 r1]
  obtain ⟨mA, O, _⟩ := ins_get I.hok ha
  refine isi_yes I.kIn (fun M => ?_) e (fun z => nomatch z) ⟨.bl true, H, I, rfl, q⟩
  exact (PySem.W.Looks.ld O.obj).andThen .now
/-- a + b of lists, also of ones that are only read -/
def rCatS (K : PySem.W.Frag) : R2 := fun x y H Q => ∃ a b xs ys, x = .ref a ∧ y = .ref b ∧ SqL K H a xs ∧ SqL K H b ys ∧ xs.length + ys.length ≤ sizeLine ∧ ∀ p, H p = none → Q (.ref p) (upd H p (.lst (xs ++ ys)))
end
end L2

set_option Elab.async false
set_option linter.all false
set_option maxRecDepth 100000
set_option maxHeartbeats 4000000
namespace L2
open PySem PySem.Spec PyProof.Rows
theorem ent_upd : entryFor table "dict.update.loop" = some Builtin.«dict.update.loop» := entryFor_of_tree (by kernel_rfl)
theorem pl_upd : plainId "dict.update.loop" = true := by decide +kernel
section
variable {P : Program} {w : World} {A : Around} {R : Result → Shared → Prop} {K : Type} [DecidableEq K] {knd : HeapKind P w K}
def storeAll (ps : Nat → K × Addr × Value) (xs : List (K × Addr × Value)) (i k : Nat) : List (K × Addr × Value) := (List.range' i k).foldl (fun xs j => storedH xs (ps j).1 (ps j).2.1 (ps j).2.2) xs
theorem storedH_len {xs : List (K × Addr × Value)} {k : K} {a : Addr} {v : Value} : (storedH xs k a v).length ≤ xs.length + 1 := by
  cases h : atKey xs k with
  | none =>
    rw [storedH_new h, List.length_append]
    exact Nat.le_refl _
  | some p =>
    unfold storedH
    simp [h]
/-- dict(xs) of a list of pairs, from the i-th on -/
theorem upd_go {l I d : Addr} {items : Array Value} {ps : Nat → K × Addr × Value} {h0 : Heap} (no : A.in1.handled = none) (hu : knd.room A.in1) (hlI : l ≠ I) (hdI : d ≠ I) (hdl : d ≠ l)
    (hit : ∀ j v, items[j]? = some v → ∃ t o n, v = .ref t ∧ t ≠ I ∧ t ≠ d ∧ h0.get? t = some o ∧ o.cls = .type "tuple" ∧ o.data = .seq #[.ref (ps j).2.1, (ps j).2.2] n)
    (hks : ∀ j, j < items.size → ∀ h : Heap, (∀ b o, b ≠ I → b ≠ d → h0.get? b = some o → h.get? b = some o) → knd.is h (ps j).1 (ps j).2.1) (hxs : ∀ (h h' : Heap) (j : Nat) xs, h.IsListIter I l j → h.DictOfH knd d xs → (∀ b o, b ≠ I → h.get? b = some o → h'.get? b = some o) → h'.DictOfH knd d xs) :
    ∀ (k i : Nat) (s : Shared) (xs : List (K × Addr × Value)) (tk : Tok), items.size = i + k → (s.heap.IsListIter I l i ∧ s.heap.IsList l items) → s.heap.DictOfH knd d xs → (∀ b o, b ≠ I → b ≠ d → h0.get? b = some o → s.heap.get? b = some o) → xs.length + k ≤ sizeLine →
      (∀ h' tk', h'.DictOfH knd d (storeAll ps xs i k) → (∀ b o, b ≠ I → b ≠ d → s.heap.get? b = some o → h'.get? b = some o) → R (.ok (.ret .none)) { s with heap := h', toks := tk' }) →
      codeAny (model P w) A (.builtin "dict.update.loop" ⟨[.ref d, .ref I, .int i tk, .none], []⟩) R s := by
  have W := Walks.list (prog := P) (w := w) (A := A.in1) no I l hlI items
  intro k
  induction k with
  | zero =>
    intro i s xs tk hk hst hm hf hz hR
    refine codeAny_builtin ent_upd ?_
    rw [Around.under_plainId pl_upd _]
    show wpAny (model P w) A.in1 (pyNext (.ref I) >>= _) _ _ s
    have ei : i = items.size := by omega
    refine wpAny_bind (W.done s _ _ (ei ▸ hst) fun h1 tk1 k1 => ?_)
    show wpAny (model P w) A.in1 (Builtin.Dict.addKeywords d [] >>= _) _ _ _
    refine wpAny_bind ?_
    unfold Builtin.Dict.addKeywords
    refine wpAny_pure (wpAny_pure ?_)
    have k1' : ∀ b o, b ≠ I → s.heap.get? b = some o → h1.get? b = some o := fun b o hb e => k1 b o (by simpa using hb) e
    exact hR h1 tk1 (hxs _ _ _ _ hst.1 hm k1') fun b o hb _ e => k1' b o hb e
  | succ k ih =>
    intro i s xs tk hk hst hm hf hz hR
    refine codeAny_builtin ent_upd ?_
    rw [Around.under_plainId pl_upd _]
    show wpAny (model P w) A.in1 (pyNext (.ref I) >>= _) _ _ s
    refine wpAny_bind (W.item i s _ _ (by omega) hst fun v h1 tk1 hP st1 k1 => ?_)
    have k1' : ∀ b o, b ≠ I → s.heap.get? b = some o → h1.get? b = some o := fun b o hb e => k1 b o (by simpa using hb) e
    obtain ⟨t, o, n, rfl, htI, htd, ht, hc, hd⟩ := hit i _ hP
    have ht1 := k1' _ _ htI (hf _ _ htI htd ht)
    have hm1 := hxs _ _ _ _ hst.1 hm k1'
    have hf1 : ∀ b o, b ≠ I → b ≠ d → h0.get? b = some o → h1.get? b = some o := fun b o hb hb' e => k1' b o hb (hf b o hb hb' e)
    refine wpAny_bind ?_
    refine wpAny_holding ?_
    refine wpAny_bind (wpAny_tryCatch ?_)
    unfold Builtin.Dict.pairItems
    refine wpAny_bind (wpAny_typeOf (T := "tuple") (s := { s with heap := h1, toks := tk1 }) ⟨o, ht1, hc⟩ ?_)
    rw [if_pos (by decide)]
    refine wpAny_bind (wpAny_seqItems (s := { s with heap := h1, toks := tk1 }) ht1 hd ?_)
    refine wpAny_pure ?_
    show wpAny (model P w) A.in1 (holding [.ref (ps i).2.1, (ps i).2.2] (dictSet d (.ref (ps i).2.1) (ps i).2.2)) _ _ _
    refine wpAny_holding ?_
    refine wpAny_dictSet_heap (s := { s with heap := h1, toks := tk1 }) hu (hks i (by omega) h1 hf1) hm1 (fun h2 hm2 hs2 => ?_) (by omega)
    have k2 : ∀ b o, b ≠ d → h1.get? b = some o → h2.get? b = some o := fun b o hb e => (hs2.2 b hb).trans e
    refine wpAny_pure ⟨plainId_quiet pl_upd _, ?_⟩
    have hl2 : (storedH xs (ps i).1 (ps i).2.1 (ps i).2.2).length ≤ xs.length + 1 := storedH_len
    refine ih (i + 1) _ (storedH xs (ps i).1 (ps i).2.1 (ps i).2.2) _ (by omega) ⟨?_, ?_⟩ hm2 (fun b o hb hb' e => k2 b o hb' (hf1 b o hb hb' e)) (by omega) fun h' tk' hm' hk' => ?_
    · exact st1.1.at fun o e => k2 _ _ hdI.symm e
    · exact st1.2.at fun o e => k2 _ _ hdl.symm e
    · exact hR h' tk' hm' fun b o hb hb' e => hk' b o hb hb' (k2 b o hb' (k1' b o hb e))
end
end L2

set_option Elab.async false
set_option linter.all false
set_option maxRecDepth 100000
set_option maxHeartbeats 4000000
namespace L2
open PySem PySem.Spec PyProof.Rows
theorem dmro : mroOf (.type "dict") = pure [.type "dict", .type "object"] := by rw [mroOf_type]; kernel_rfl
theorem dlook_new : typeLookup (.type "dict") "__new__" = pure (some (.builtin "dict.__new__")) := by rw [typeLookup_type, builtinLookup_eq_fast]; kernel_rfl
theorem called_dictT : TypeCalled "dict" "dict.__new__" "dict.__init__" :=
  ⟨by decide +kernel, by decide +kernel, ⟨_, _, dmro⟩, madeBy_type dmro dlook_new (by decide +kernel), by decide +kernel, by rw [isSubtype_type]; kernel_rfl, PySem.F.slot_dict_init⟩
theorem typeCall_dict1 (a : Value) : checkTypeCall "dict" ⟨[a], []⟩ = pure () := by kernel_rfl
theorem newCall_dict1 (a : Value) : checkBuiltinCall "dict.__new__" ⟨[.type "dict", a], []⟩ = pure () := by kernel_rfl
theorem entry_dict_new1 : entryFor table "dict.__new__" = some Builtin.«dict.__new__» := entryFor_of_tree (by kernel_rfl)
theorem plain_dict_new1 : plainId "dict.__new__" = true := by decide +kernel
theorem sub_dict_self1 : isSubtype (.type "dict") (.type "dict") = pure true := by rw [isSubtype_type]; kernel_rfl
theorem args_dict_init2 (a b : Value) : argsOk "dict.__init__" ⟨[a, b], []⟩ := by
  unfold argsOk
  kernel_rfl
theorem list_no_keys : typeLookup (.type "list") (Str.ofString "keys") = pure none := by rw [typeLookup_type, builtinLookup_eq_fast]; kernel_rfl
section
variable {prog : Program} {w : World} {A : Around} {E : Value → Shared → Prop} {s : Shared}
theorem code_dict_new1 (a : Value) {Q₁ : Value → Shared → Prop}
    (h : Q₁ (.ref s.heap.objs.size) { s with heap := s.heap.push { cls := .type "dict", data := .dict #[] } }) :
    codeAny (model prog w) A (.call (.builtin "dict.__new__") ⟨[.type "dict", a], []⟩) (wants Q₁ E) s := by
  refine codeAny_of_tree ?_
  show wpAny _ A.in1 (do checkBuiltinCall "dict.__new__" ⟨[.type "dict", a], []⟩; again (.builtin "dict.__new__" ⟨[.type "dict", a], []⟩)) _ _ s
  refine wpAny_bind (wpAny_of_eq (newCall_dict1 a) (wpAny_pure ⟨plainId_quiet plain_dict_new1 _, codeAny_builtin entry_dict_new1 ?_⟩))
  rw [Around.under_plainId plain_dict_new1 _]
  have hsub := sub_dict_self1
  have hm := dmro
  obtain ⟨hp, g, d, tk, os⟩ := s
  unfold Builtin.«dict.__new__»
  dsimp only
  wp_walk
  exact h
theorem no_keys {l : Addr} {xs : Array Value} {k : Nat} {sl : Array (Option Value)} {Q : Option Value → Shared → Prop} (hx : s.heap.get? l = some { cls := .type "list", dict := none, data := .seq xs k, slots := sl })
    (hA : A.handled = none) (h : ∀ h' tk, (∀ b o, s.heap.get? b = some o → h'.get? b = some o) → Q none { s with heap := h', toks := tk }) : wpAny (model prog w) A (getAttr? (.ref l) (Str.ofString "keys")) Q E s := by
  obtain ⟨hp, g, d, tk, os⟩ := s
  have hT : ∀ tk', (⟨hp, g, d, tk', os⟩ : Shared).TypeIs (.ref l) "list" := fun _ => ⟨_, hx, rfl⟩
  have f3 := PySem.F.slot_list_getattribute.lookup
  have f4 := PySem.F.slot_list_getattribute.bind (.ref l)
  have f5 := am_list_getattr_none
  have f6 := list_no_keys
  have f1 := sub_AttributeError
  unfold getAttr? getAttrBy?
  repeat (any_goals (first | assumption | exact hT _ | ((with_reducible show wpAny _ _ (call (Value.builtin "list.__getattribute__") _ _) _ _ _); refine call_meets PySem.F.slot_list_getattribute (hT _) am_entry_list_getattribute (PySem.F.args_list_getattribute_2 _ _) (meets_getattribute_miss_list _ _ _ _ _ _ f6 (by decide)) ⟨hx, hA, fun h' tk' e hx' => ?_⟩) | wp_step))
  obtain ⟨t', u', he⟩ := hx'.there
  show wpAny _ _ (getattributeRaised _ _ _ _ _ _ _) _ _ _
  unfold getattributeRaised
  repeat (any_goals (first | assumption | wp_step))
  exact h h' tk' hx'.keeps
end
end L2

set_option Elab.async false
set_option linter.all false
set_option maxRecDepth 100000
set_option maxHeartbeats 4000000
namespace L2
open PySem PySem.Spec PyProof.Rows
section
variable {P : Program} {w : World} {A : Around} {E : Value → Shared → Prop} {s : Shared} {R : Result → Shared → Prop}
/-- dict.__init__(d, xs), xs a list: what is done first -/
theorem dinit_pairs {d l : Addr} {xs : Array Value} {k : Nat} {sl : Array (Option Value)} {Q : PySem.Fin → Shared → Prop} (hA : A.handled = none) (hd : s.TypeIs (.ref d) "dict") (hl : s.heap.get? l = some { cls := .type "list", dict := none, data := .seq xs k, slots := sl })
    (h : ∀ (h' : Heap) (tk : Nat), (∀ b o, s.heap.get? b = some o → h'.get? b = some o) → Q (.again (.builtin "dict.update.loop" ⟨[.ref d, .ref h'.objs.size, .int 0 0, .none], []⟩)) { s with heap := h'.push { cls := .type "list_iterator", data := .fields #[.ref l, .int 0 0] }, toks := tk }) :
    wpAny (model P w) A (Builtin.«dict.__init__» ⟨[.ref d, .ref l], []⟩) Q E s := by
  unfold Builtin.«dict.__init__» Builtin.Dict.selfAndRest
  refine wpAny_bind (wpAny_bind (wpAny_notOrdered_dict hd ?_))
  refine wpAny_bind ?_
  show wpAny _ _ (pure d) _ _ _
  refine wpAny_pure (wpAny_pure ?_)
  show wpAny _ _ (Builtin.Dict.updateFrom "dict.__init__" d (.ref l) [] .none) _ _ _
  unfold Builtin.Dict.updateFrom
  refine wpAny_bind (wpAny_typeOf (T := "list") ⟨_, hl, rfl⟩ ?_)
  rw [if_pos (by decide)]
  refine wpAny_bind (no_keys hl hA fun h1 tk1 k1 => ?_)
  rw [if_pos (show (none : Option Value).isNone = true from rfl)]
  refine wpAny_bind (wpAny_rule ?_)
  refine wpAny_bind (wpAny_pyIter_list (s := { s with heap := h1, toks := tk1 }) (items := xs) ⟨_, k1 _ _ hl, rfl, k, rfl⟩ ?_)
  exact wpAny_pure (h h1 tk1 k1)
/-- dict(xs), xs a list of pairs whose keys lie in the heap -/
theorem call_dictP {K : Type} [DecidableEq K] {knd : HeapKind P w K} {l : Addr} {xs : Array Value} {k : Nat} {sl : Array (Option Value)} {ps : Nat → K × Addr × Value} {Q : Value → Shared → Prop} (hA : A.handled = none) (hu : knd.room A.in1.in1) (hz : xs.size ≤ sizeLine)
    (hl : s.heap.get? l = some { cls := .type "list", dict := none, data := .seq xs k, slots := sl })
    (hit : ∀ j v, xs[j]? = some v → ∃ t o n, v = .ref t ∧ s.heap.get? t = some o ∧ o.cls = .type "tuple" ∧ o.data = .seq #[.ref (ps j).2.1, (ps j).2.2] n)
    (hks : ∀ j, j < xs.size → ∀ h : Heap, (∀ b o, s.heap.get? b = some o → h.get? b = some o) → knd.is h (ps j).1 (ps j).2.1)
    (hxs : ∀ d I (h h' : Heap) (j : Nat) xs, h.IsListIter I l j → h.DictOfH knd d xs → (∀ b o, b ≠ I → h.get? b = some o → h'.get? b = some o) → h'.DictOfH knd d xs)
    (hem : ∀ (h : Heap) d, h.get? d = some { cls := .type "dict", data := .dict #[] } → h.DictOfH knd d [])
    (q : ∀ h' tk, h'.DictOfH knd s.heap.objs.size (storeAll ps [] 0 xs.size) → (∀ b o, s.heap.get? b = some o → h'.get? b = some o) → Q (.ref s.heap.objs.size) { s with heap := h', toks := tk }) :
    wpAny (model P w) A (call (.type "dict") [.ref l]) Q E s := by
  refine callType_codes (Q₁ := fun obj s₁ => obj = .ref s.heap.objs.size ∧ s₁ = { s with heap := s.heap.push { cls := .type "dict", data := .dict #[] } }) called_dictT (typeCall_dict1 _) PySem.F.entry_dict_init (code_dict_new1 _ ⟨rfl, rfl⟩) fun obj s1 k1 => ?_
  obtain ⟨rfl, rfl⟩ := k1
  have hD : (s.heap.push { cls := .type "dict", data := .dict #[] }).get? s.heap.objs.size = some { cls := .type "dict", data := .dict #[] } := Heap.get?_push_size _ rfl
  refine ⟨⟨_, hD, rfl⟩, args_dict_init2 _ _, ?_⟩
  refine dinit_pairs (s := { s with heap := s.heap.push { cls := .type "dict", data := .dict #[] } }) hA ⟨_, hD, rfl⟩ (Heap.get?_push_of_some _ hl) fun h1 tk1 k1 => ?_
  refine ⟨plainId_quiet pl_upd _, ?_⟩
  have ks : ∀ b o, s.heap.get? b = some o → h1.get? b = some o := fun b o e => k1 b o (Heap.get?_push_of_some _ e)
  have hDl : s.heap.objs.size < h1.objs.size := Heap.lt_size (k1 _ _ hD)
  have hnew : ∀ b o, s.heap.get? b = some o → b ≠ s.heap.objs.size ∧ b ≠ h1.objs.size := fun b o e => ⟨Nat.ne_of_lt (Heap.lt_size e), Nat.ne_of_lt (Heap.lt_size (ks b o e))⟩
  have kp : ∀ b o, h1.get? b = some o → (h1.push { cls := .type "list_iterator", data := .fields #[.ref l, .int 0 0] }).get? b = some o := fun b o e => Heap.get?_push_of_some _ e
  have hI : (h1.push { cls := .type "list_iterator", data := .fields #[.ref l, .int 0 0] }).get? h1.objs.size = some { cls := .type "list_iterator", data := .fields #[.ref l, .int 0 0] } := Heap.get?_push_size _ rfl
  obtain ⟨nl1, nl2⟩ := hnew _ _ hl
  refine upd_go (knd := knd) (A := A.in1) (l := l) (I := h1.objs.size) (d := s.heap.objs.size) (items := xs) (ps := ps) (h0 := s.heap) hA hu nl2 (Nat.ne_of_lt hDl) nl1.symm ?_ ?_ (hxs _ _) xs.size 0 _ [] 0 (by omega) ⟨⟨_, hI, rfl, rfl⟩, ⟨_, kp _ _ (ks _ _ hl), rfl, k, rfl⟩⟩ (hem _ _ (kp _ _ (k1 _ _ hD))) (fun b o _ _ e => kp _ _ (ks b o e)) (by simpa using hz) fun h' tk' hm' hk' => ?_
  · intro j v hv
    obtain ⟨t, o, n, rfl, ht, hc, hd⟩ := hit j v hv
    exact ⟨t, o, n, rfl, (hnew _ _ ht).2, (hnew _ _ ht).1, ht, hc, hd⟩
  · intro j hj h2 hf
    exact hks j hj h2 fun b o e => hf b o (hnew _ _ e).2 (hnew _ _ e).1 e
  · exact ⟨rfl, q h' tk' hm' fun b o e => hk' b o (hnew _ _ e).2 (hnew _ _ e).1 (kp _ _ (ks b o e))⟩
end
end L2

set_option Elab.async false
set_option linter.all false
set_option maxRecDepth 100000
set_option maxHeartbeats 4000000
namespace L2
open PySem PySem.Spec PyProof.Rows
theorem IsStand.frame {prog : Program} {w : World} {h h' : Heap} {k : List Int × Int} {a I l : Addr} {j : Nat} (x : IsStand prog w h k a) (hI : h.IsListIter I l j) (hk : ∀ b o, b ≠ I → h.get? b = some o → h'.get? b = some o) : IsStand prog w h' k a := by
  obtain ⟨o, n, u, t, ho, hc, hd, o2, its, n2, ho2, hc2, hd2, hi⟩ := x
  obtain ⟨oi, hoi, hci, _⟩ := hI
  have n1 : a ≠ I := by
    rintro rfl
    rw [hoi] at ho
    cases ho
    rw [hci] at hc
    exact absurd hc (by decide)
  have n2' : u ≠ I := by
    rintro rfl
    rw [hoi] at ho2
    cases ho2
    rw [hci] at hc2
    exact absurd hc2 (by decide)
  exact ⟨o, n, u, t, hk _ _ n1 ho, hc, hd, o2, its, n2, hk _ _ n2' ho2, hc2, hd2, hi⟩
theorem IsStand.ext {prog : Program} {w : World} {h h' : Heap} {k : List Int × Int} {a : Addr} (x : IsStand prog w h k a) (hk : ∀ b o, h.get? b = some o → h'.get? b = some o) : IsStand prog w h' k a := by
  obtain ⟨o, n, u, t, ho, hc, hd, o2, its, n2, ho2, hc2, hd2, hi⟩ := x
  exact ⟨o, n, u, t, hk _ _ ho, hc, hd, o2, its, n2, hk _ _ ho2, hc2, hd2, hi⟩
theorem dict_frame {prog : Program} {w : World} {d I l : Addr} {h h' : Heap} {j : Nat} {xs : List ((List Int × Int) × Addr × Value)} (hI : h.IsListIter I l j) (hm : h.DictOfH (standKind prog w) d xs) (hk : ∀ b o, b ≠ I → h.get? b = some o → h'.get? b = some o) : h'.DictOfH (standKind prog w) d xs := by
  obtain ⟨o, es, ep, ho, hc, hd, he, his, hn⟩ := hm
  have n1 : d ≠ I := by
    rintro rfl
    obtain ⟨oi, hoi, hci, hdi⟩ := hI
    rw [hoi] at ho
    cases ho
    rw [hdi] at hd
    exact nomatch hd
  exact ⟨o, es, ep, hk _ _ n1 ho, hc, hd, he, fun x hx => IsStand.frame (his x hx) hI hk, hn⟩
/-- the dict of pairs, from the left -/
def putAll (kvs : List ((List Int × Int) × V)) (ps : List ((List Int × Int) × V)) : List ((List Int × Int) × V) := ps.foldl (fun acc p => putK acc p.1 p.2) kvs
theorem putAll_len : ∀ (ps kvs : List ((List Int × Int) × V)), (putAll kvs ps).length ≤ kvs.length + ps.length
  | [], kvs => Nat.le_refl _
  | p :: ps, kvs => by
    have h1 := putAll_len ps (putK kvs p.1 p.2)
    have h2 := length_putK kvs p.1 p.2
    show (putAll (putK kvs p.1 p.2) ps).length ≤ _
    rw [List.length_cons]
    omega
theorem kt_all {H : Hp} {ps : List ((List Int × Int) × V)} {f : Nat → (List Int × Int) × Addr × Value} (hf : ∀ (j : Nat) q, ps[j]? = some q → (f j).1 = q.1 ∧ StH H (f j).2.1 q.1 ∧ RelV q.2 (f j).2.2) :
    ∀ (k i : Nat) (kvs : List ((List Int × Int) × V)) (xs : List ((List Int × Int) × Addr × Value)), i + k = ps.length → KT H kvs xs → KT H (putAll kvs (ps.drop i)) (storeAll f xs i k)
  | 0, i, kvs, xs, e, r => by
    rw [List.drop_of_length_le (by omega)]
    exact r
  | k + 1, i, kvs, xs, e, r => by
    have hi : i < ps.length := by omega
    obtain ⟨e1, e2, e3⟩ := hf i ps[i] (List.getElem?_eq_getElem hi)
    rw [List.drop_eq_getElem_cons hi]
    show KT H (putAll (putK kvs ps[i].1 ps[i].2) (ps.drop (i + 1))) (storeAll f (storedH xs (f i).1 (f i).2.1 (f i).2.2) (i + 1) k)
    rw [e1]
    exact kt_all hf k (i + 1) _ _ (by omega) (r.put _ e2 e3)
section
variable {X : Cx}
/-- dict(xs), xs a list of pairs of a standing and a value -/
def rDictP (K : PySem.W.Frag) : List V → Hp → VK → Prop := fun xs H Q => ∃ (p : Addr) (us : List V) (ps : List ((List Int × Int) × V)), xs = [.ref p] ∧ SqL K H p us ∧ us.length = ps.length ∧
  (∀ (j : Nat) u q, us[j]? = some u → ps[j]? = some q → ∃ t b, u = .ref t ∧ H t = some (.tup [.ref b, q.2]) ∧ StH H b q.1) ∧ ∀ d, H d = none → Q (.ref d) (upd H d (.dT (putAll [] ps)))
theorem call_dictT (K : PySem.W.Frag) (hu : X.A.units + 24 < cLine) (hc : X.calm = true) (hK : X.K = K := by rfl) : CallR X (.type "dict") (rDictP K) := by
  subst hK
  intro pins s σ H xs us0 Q I r h
  obtain ⟨p, us, ps, rfl, hq, hlen, hps, q⟩ := h
  obtain ⟨u0, rfl, ru⟩ := Vals.one r
  cases ru
  obtain ⟨its, rv, pl, hz⟩ := I.list hq
  obtain ⟨⟨ocls, od, odata, osl⟩, n, e, hcl, hdict, hdata⟩ := pl
  simp only at hcl hdict hdata
  subst hcl hdict hdata
  have hl2 := Vals.length rv
  have ex : ∀ j : Nat, ∃ x : (List Int × Int) × Addr × Value, ∀ q, ps[j]? = some q → (x.1 = q.1 ∧ StH H x.2.1 q.1 ∧ RelV q.2 x.2.2) ∧ ∀ v, its[j]? = some v → ∃ t o n, v = .ref t ∧ s.heap.get? t = some o ∧ o.cls = .type "tuple" ∧ o.data = .seq #[.ref x.2.1, x.2.2] n := by
    intro j
    cases hj : ps[j]? with
    | none => exact ⟨(([], 0), 0, .none), fun q z => nomatch z⟩
    | some q =>
      have hjl := (List.getElem?_eq_some_iff.mp hj).1
      have hju : us[j]? = some us[j] := List.getElem?_eq_getElem (by omega)
      obtain ⟨t, b, eu, ht, hb⟩ := hps j _ q hju hj
      obtain ⟨_, its2, r2, o, h1, h2, m, h3⟩ := I.hok t _ ht
      obtain ⟨v1, v2, rfl, rv1, rv2⟩ := Vals.two r2
      cases rv1
      refine ⟨(q.1, b, v2), fun q' z => ?_⟩
      cases z
      refine ⟨⟨rfl, hb, rv2⟩, fun v hv => ?_⟩
      obtain ⟨w', ew, rw'⟩ := rv.get hju
      rw [ew] at hv
      cases hv
      rw [eu] at rw'
      cases rw'
      exact ⟨t, o, m, rfl, h1, h2, h3⟩
  obtain ⟨f, hf⟩ := Classical.axiomOfChoice ex
  have hA := I.ok.hd hc
  refine call_dictP (knd := standKind X.prog X.w) (ps := f) hA (stand_room (A := X.A.in1) (by show X.A.units + 1 + 20 < cLine; omega)) (by rw [List.size_toArray]; omega) e ?_ ?_ (fun d I' h h' j xs hI hm hk => dict_frame hI hm hk) ?_ fun h' tk hm hk => ?_
  · intro j v hv
    rw [List.getElem?_toArray] at hv
    have hjl := (List.getElem?_eq_some_iff.mp hv).1
    exact (hf j _ (List.getElem?_eq_getElem (show j < ps.length by omega))).2 v hv
  · intro j hj h2 hk2
    rw [List.size_toArray] at hj
    obtain ⟨⟨e1, e2, _⟩, _⟩ := hf j _ (List.getElem?_eq_getElem (show j < ps.length by omega))
    rw [e1]
    exact IsStand.ext (key_of I.hok e2) hk2
  · intro h2 d hd
    exact ⟨_, #[], 0, hd, ⟨rfl, rfl, rfl⟩, rfl, rfl, (fun x hx => nomatch hx), List.nodup_nil⟩
  · have hfr : H s.heap.objs.size = none := I.hok.fresh (Nat.le_refl _)
    rw [List.size_toArray] at hm
    have kt : KT H (putAll [] (ps.drop 0)) (storeAll f [] 0 its.length) := kt_all (fun j q z => (hf j q z).1) its.length 0 [] [] (by omega) .nil
    rw [List.drop_zero] at kt
    obtain ⟨o, es, ep, ho, hex, hd, he, _, hn⟩ := hm
    have hlp : (putAll [] ps).length ≤ sizeLine := by
      have z1 := putAll_len ps []
      rw [List.length_nil] at z1
      omega
    have objok : ObjOk X.prog X.w (upd H s.heap.objs.size (.dT (putAll [] ps))) h' s.heap.objs.size (.dT (putAll [] ps)) :=
      ⟨hlp, beq_eq_false_iff_ne.mpr (Ne.symm (Nat.ne_of_lt I.big)), _, kt.keeps (fun b ys eb => by rw [upd_ne (ne_of_none eb hfr)]; exact eb), o, es, ep, ho, hex, hd, he, hn⟩
    exact ⟨.ref s.heap.objs.size, _, I.laid (t' := tk) hk (Nat.le_refl _) objok, rfl, q _ hfr⟩
end
end L2

set_option Elab.async false
set_option linter.all false
set_option maxRecDepth 100000
set_option maxHeartbeats 4000000
namespace L2
open PySem PySem.Spec PyProof.Rows
/-! ### x in xs by what they are through the heap -/
section
variable {X : Cx} {pins : List (Addr × Obj)} {σ : St} {H : Hp} {s : Shared} {k : Nat}
theorem rp_readsP (I : Inv X pins σ H s) {d : PyData} {v : V} {u : Value} (h : Rp H d v) (r : RelV v u) : ∃ as, Reads s.heap u d as := rp_reads I d v u h r
/-- whether a value reads as something that is like d -/
noncomputable def likeD (h : Heap) (d : PyData) (w : Value) : Bool := open Classical in if z : ∃ e as, Reads h w e as ∧ e.canLay0 = true then PyData.eqv z.choose d else false
theorem likeD_at {h : Heap} {d e : PyData} {w : Value} {as : List Addr} (r : Reads h w e as) (hc : e.canLay0 = true) : likeD h d w = PyData.eqv e d := by
  have z : ∃ e as, Reads h w e as ∧ e.canLay0 = true := ⟨e, as, r, hc⟩
  unfold likeD
  rw [dif_pos z]
  obtain ⟨bs, r', hc'⟩ := z.choose_spec
  rw [(PySem.SeqAt.Reads.unique e _ w as bs hc r r')]
theorem any_like (I : Inv X pins σ H s) {d : PyData} : ∀ {ds : List PyData} {vs : List V} {us : List Value}, RpAll H ds vs → Vals vs us → us.any (likeD s.heap d) = ds.any fun e => PyData.eqv e d
  | [], vs, us, h, r => by
    unfold RpAll at h
    subst h
    cases r
    rfl
  | e :: ds, vs, us, h, r => by
    unfold RpAll at h
    obtain ⟨x, xs, rfl, h1, h2⟩ := h
    cases r with
    | cons r1 r2 =>
      obtain ⟨as, q⟩ := rp_readsP I h1 r1
      rw [List.any_cons, List.any_cons, likeD_at q (rp_can e x h1), any_like I h2 r2]
theorem mem_like (I : Inv X pins σ H s) {A : Around} {d : PyData} {x : V} {v : Value} (hx : Rp H d x) (rx : RelV x v) (hu : A.units + d.depth < cLine) : ∀ {ds : List PyData} {vs : List V} {us : List Value}, RpAll H ds vs → Vals vs us → ∀ w ∈ us, SeqAt.EqAt A s w v (likeD s.heap d w)
  | [], vs, us, h, r, w, hw => by
    unfold RpAll at h
    subst h
    cases r
    cases hw
  | e :: ds, vs, us, h, r, w, hw => by
    unfold RpAll at h
    obtain ⟨y, ys, rfl, h1, h2⟩ := h
    cases r with
    | cons r1 r2 =>
      rcases List.mem_cons.mp hw with z | z
      · subst z
        obtain ⟨as, q⟩ := rp_readsP I h1 r1
        obtain ⟨bs, q2⟩ := rp_readsP I hx rx
        rw [likeD_at q (rp_can e y h1)]
        exact PySem.SeqAt.eqAt_reads e d A s _ _ _ _ q q2 (rp_can e y h1) (rp_can d x hx) (by omega)
      · exact mem_like I hx rx hu h2 r2 w z
end
section
variable {X : Cx} {k : Nat}
def rInD (K : PySem.W.Frag) (neg : Bool) : R2 := fun x y H Q => ∃ (p : Addr) (us : List V) (d : PyData) (ds : List PyData), y = .ref p ∧ SqL K H p us ∧ Rp H d x ∧ RpAll H ds us ∧ d.depth ≤ 50 ∧ Q (.bl (if neg then !(ds.any fun e => PyData.eqv e d) else ds.any fun e => PyData.eqv e d)) H
theorem op_notInD (K : PySem.W.Frag) (hr : Room k X.A) (hK : X.K = K := by rfl) : OpR X (compareOp .NotIn) (rInD K true) := by
  subst hK
  intro pins s σ H x y v u Q I rx ry h
  obtain ⟨p, us, d, ds, rfl, hq, hx, hall, hd, q⟩ := h
  cases ry
  obtain ⟨its, r, pl, hz⟩ := I.list hq
  have hu := hr.units
  refine SeqAt.notIn_listAt (likeD s.heap d) pl.isList (fun w hw => mem_like I hx rx (by show X.A.units + 1 + d.depth < cLine; omega) hall r w (by simpa using hw)) ⟨.bl _, H, I, rfl, ?_⟩
  rw [show its.toArray.any (likeD s.heap d) = its.any (likeD s.heap d) by simp, any_like I hall r]
  exact q
end
end L2

set_option Elab.async false
set_option linter.all false
set_option maxRecDepth 100000
set_option maxHeartbeats 4000000
namespace L2
open PySem PySem.Spec PyProof.Rows
/-- three names out of a tuple -/
abbrev gThree (K : PySem.W.Frag) : TG := gTup K 3 (gCons (gName 0) (gCons (gName 1) (gCons (gName 2) gNil)))
theorem comp_list3 {K : PySem.W.Frag} {a : Addr} {xs : List V} {fr : List Nat} {tt : TT} {te : TE} {σ : St} {D : Addr} {H1 : Hp} {Q : Hp → Prop} (Pv : Nat → List V → Hp → Prop) (h0 : Pv 0 [] (upd H1 D (.lst [])))
    (hl : ∀ i zs H, i ≤ xs.length → Pv i zs H → SqL K H a xs)
    (hs : ∀ i x zs H, xs[i]? = some x → Pv i zs H → ∃ T y z z2, x = .ref T ∧ SqT K H T [y, z, z2] ∧ tt (some y :: some z :: some z2 :: compFr fr σ) H fun b H4 =>
      if b = true then te (some y :: some z :: some z2 :: compFr fr σ) H4 fun v H5 => H5 D = some (.lst zs) ∧ zs.length < sizeLine ∧ Pv (i + 1) (zs ++ [v]) (upd H5 D (.lst (zs ++ [v]))) else Pv (i + 1) zs H4)
    (mt : ∀ σ H Q Q', (∀ b H', Q b H' → Q' b H') → tt σ H Q → tt σ H Q') (me : ∀ σ H Q Q', (∀ v H', Q v H' → Q' v H') → te σ H Q → te σ H Q')
    (hd : ∀ zs H, Pv xs.length zs H → Q H) : CompRun 3 fr (Itl K a) (gThree K) tt te σ D H1 Q := by
  refine ⟨fun i m zs H => m = xs.length - i ∧ i ≤ xs.length ∧ Pv i zs H, ⟨xs.length, by simp, Nat.zero_le _, h0⟩, ?_⟩
  rintro i m zs H' ⟨rfl, hi, p⟩
  have q1 := hl i zs H' hi p
  by_cases hlt : i < xs.length
  · refine .inr ⟨⟨xs, xs[i], q1, by simp [hlt]⟩, fun v H2 y => ?_⟩
    obtain ⟨e, y⟩ := y
    subst e
    obtain ⟨T, y1, z1, w1, rfl, hT, ht⟩ := hs i v zs _ (y xs q1) p
    refine ⟨T, _, rfl, hT, rfl, _, _, rfl, z1, _, rfl, w1, _, rfl, rfl, ⟨[some y1, some z1, some w1], rfl, rfl⟩, ?_⟩
    refine mt _ _ _ _ ?_ ht
    intro b H4 q
    cases b with
    | false => exact ⟨xs.length - (i + 1), by omega, rfl, hlt, q⟩
    | true => exact me _ _ _ _ (fun v H5 ⟨r1, r2, r3⟩ => ⟨r1, r2, xs.length - (i + 1), by omega, rfl, hlt, r3⟩) q
  · have e : i = xs.length := by omega
    subst e
    exact .inl ⟨⟨xs, q1, Nat.le_refl _⟩, hd zs H' p⟩
theorem hu20 {k : Nat} {A : Around} (hr : Room k A) : A.units + 20 < cLine := by have := hr.units; omega
theorem hu24 {k : Nat} {A : Around} (hr : Room k A) : A.units + 24 < cLine := by have := hr.units; omega
end L2

set_option Elab.async false
set_option linter.all false
set_option maxRecDepth 100000
set_option maxHeartbeats 4000000
namespace Law
open PySem L2 PyProof.Rows
open PySem.Builtin.Int (intBits)
def top (i : Nat) : Stmt := PySem.Challenge.pw_roundcall_k73_players_by_papers.main.body.getD i (.Pass ⟨0, 0, 0, 0⟩)
abbrev s_may_lose : Stmt := top 1
abbrev s_least_left : Stmt := top 3
abbrev s_PaperCaller___init__ : Stmt := inClass (top 5) 0
abbrev s_PaperCaller_call : Stmt := inClass (top 5) 1
abbrev s_PaperRoad___init__ : Stmt := inClass (top 7) 0
abbrev s_PaperRoad_loses : Stmt := inClass (top 7) 1
abbrev s_law_cell_at : Stmt := top 9
abbrev s_law_standing : Stmt := top 10
abbrev s_law_papers : Stmt := top 11
abbrev s_law_due_call : Stmt := top 12
abbrev s_law_due_loss : Stmt := top 13
abbrev s_law_asked : Stmt := top 14
abbrev s_law : Stmt := top 15
theorem sc_may_lose : FnScope (["hall", "standing"] : List Str) ["hall", "standing"] (defScope s_may_lose) := ⟨rfl, rfl, rfl, by decide +kernel, rfl, by decide +kernel, by decide +kernel⟩
theorem sc_least_left : FnScope (["standing"] : List Str) ["standing"] (defScope s_least_left) := ⟨rfl, rfl, rfl, by decide +kernel, rfl, by decide +kernel, by decide +kernel⟩
theorem sc_PaperCaller___init__ : FnScope (["self", "paper"] : List Str) ["self", "paper"] (defScope s_PaperCaller___init__) := ⟨rfl, rfl, rfl, by decide +kernel, rfl, by decide +kernel, by decide +kernel⟩
theorem sc_PaperCaller_call : FnScope (["self", "hall", "standing"] : List Str) ["self", "hall", "standing"] (defScope s_PaperCaller_call) := ⟨rfl, rfl, rfl, by decide +kernel, rfl, by decide +kernel, by decide +kernel⟩
theorem sc_PaperRoad___init__ : FnScope (["self", "paper"] : List Str) ["self", "paper"] (defScope s_PaperRoad___init__) := ⟨rfl, rfl, rfl, by decide +kernel, rfl, by decide +kernel, by decide +kernel⟩
def cx_PaperRoad___init___0 : Scope := { kind := .function, names := [(PySem.Str.ofString ".0", NameKind.local), (PySem.Str.ofString "standing", NameKind.local), (PySem.Str.ofString "rank", NameKind.local), (PySem.Str.ofString "answers", NameKind.local)], isGenerator := false, isCoroutine := false, more := [] }
theorem cs_PaperRoad___init___0 : CompSc (defScope s_PaperRoad___init__) cx_PaperRoad___init___0 (["self", "paper"] : List Str) (["standing", "rank", "answers"] : List Str) [] := ⟨rfl, by decide +kernel, by decide +kernel, by decide +kernel, by decide +kernel⟩
theorem nd_PaperRoad___init___0 : (compN (["self", "paper"] : List Str) (["standing", "rank", "answers"] : List Str) []).Nodup := by decide +kernel
theorem sc_PaperRoad_loses : FnScope (["self", "hall", "standing", "who"] : List Str) ["self", "hall", "standing", "who"] (defScope s_PaperRoad_loses) := ⟨rfl, rfl, rfl, by decide +kernel, rfl, by decide +kernel, by decide +kernel⟩
theorem sc_law_cell_at : FnScope (["script", "k"] : List Str) ["script", "k"] (defScope s_law_cell_at) := ⟨rfl, rfl, rfl, by decide +kernel, rfl, by decide +kernel, by decide +kernel⟩
theorem sc_law_standing : FnScope (["hall", "cell", "number", "lefts", "wait"] : List Str) ["hall", "cell"] (defScope s_law_standing) := ⟨rfl, rfl, rfl, by decide +kernel, rfl, by decide +kernel, by decide +kernel⟩
theorem sc_law_papers : FnScope (["hall", "cells", "kept", "broken", "known", "cell", "standing", "number", "answers"] : List Str) ["hall", "cells"] (defScope s_law_papers) := ⟨rfl, rfl, rfl, by decide +kernel, rfl, by decide +kernel, by decide +kernel⟩
def cx_law_papers_0 : Scope := { kind := .function, names := [(PySem.Str.ofString ".0", NameKind.local), (PySem.Str.ofString "k", NameKind.local), (PySem.Str.ofString "number", NameKind.free)], isGenerator := false, isCoroutine := false, more := [] }
theorem cs_law_papers_0 : CompSc (defScope s_law_papers) cx_law_papers_0 (["hall", "cells", "kept", "broken", "known", "cell", "standing", "number", "answers"] : List Str) (["k"] : List Str) [7] := ⟨rfl, by decide +kernel, by decide +kernel, by decide +kernel, by decide +kernel⟩
theorem nd_law_papers_0 : (compN (["hall", "cells", "kept", "broken", "known", "cell", "standing", "number", "answers"] : List Str) (["k"] : List Str) [7]).Nodup := by decide +kernel
theorem sc_law_due_call : FnScope (["kept", "standing", "one", "who"] : List Str) ["kept", "standing"] (defScope s_law_due_call) := ⟨rfl, rfl, rfl, by decide +kernel, rfl, by decide +kernel, by decide +kernel⟩
theorem sc_law_due_loss : FnScope (["broken", "hall", "standing", "who", "one", "rank", "answers"] : List Str) ["broken", "hall", "standing", "who"] (defScope s_law_due_loss) := ⟨rfl, rfl, rfl, by decide +kernel, rfl, by decide +kernel, by decide +kernel⟩
theorem sc_law_asked : FnScope (["caller", "road", "hall", "standing", "who", "papers", "found", "lost"] : List Str) ["caller", "road", "hall", "standing", "who", "papers"] (defScope s_law_asked) := ⟨rfl, rfl, rfl, by decide +kernel, rfl, by decide +kernel, by decide +kernel⟩
theorem sc_law : FnScope (["script", "many", "most", "waits", "calm", "hall", "kept", "broken", "handed", "given", "callers", "roads", "papers", "stands", "k", "who", "one"] : List Str) ["script"] (defScope s_law) := ⟨rfl, rfl, rfl, by decide +kernel, rfl, by decide +kernel, by decide +kernel⟩
def cx_law_0 : Scope := { kind := .function, names := [(PySem.Str.ofString ".0", NameKind.local), (PySem.Str.ofString "k", NameKind.local), (PySem.Str.ofString "_law_cell_at", NameKind.globalImplicit), (PySem.Str.ofString "most", NameKind.free), (PySem.Str.ofString "script", NameKind.free)], isGenerator := false, isCoroutine := false, more := [] }
theorem cs_law_0 : CompSc (defScope s_law) cx_law_0 (["script", "many", "most", "waits", "calm", "hall", "kept", "broken", "handed", "given", "callers", "roads", "papers", "stands", "k", "who", "one"] : List Str) (["k"] : List Str) [2, 0] := ⟨rfl, by decide +kernel, by decide +kernel, by decide +kernel, by decide +kernel⟩
theorem nd_law_0 : (compN (["script", "many", "most", "waits", "calm", "hall", "kept", "broken", "handed", "given", "callers", "roads", "papers", "stands", "k", "who", "one"] : List Str) (["k"] : List Str) [2, 0]).Nodup := by decide +kernel
def cx_law_1 : Scope := { kind := .function, names := [(PySem.Str.ofString ".0", NameKind.local), (PySem.Str.ofString "cell", NameKind.local), (PySem.Str.ofString "_law_standing", NameKind.globalImplicit), (PySem.Str.ofString "hall", NameKind.free)], isGenerator := false, isCoroutine := false, more := [] }
theorem cs_law_1 : CompSc (defScope s_law) cx_law_1 (["script", "many", "most", "waits", "calm", "hall", "kept", "broken", "handed", "given", "callers", "roads", "papers", "stands", "k", "who", "one"] : List Str) (["cell"] : List Str) [5] := ⟨rfl, by decide +kernel, by decide +kernel, by decide +kernel, by decide +kernel⟩
theorem nd_law_1 : (compN (["script", "many", "most", "waits", "calm", "hall", "kept", "broken", "handed", "given", "callers", "roads", "papers", "stands", "k", "who", "one"] : List Str) (["cell"] : List Str) [5]).Nodup := by decide +kernel
structure Txt (K : PySem.W.Frag) (mg : Str → Option Value) (f_may_lose f_least_left f_PaperCaller___init__ f_PaperCaller_call f_PaperRoad___init__ f_PaperRoad_loses f_law_cell_at f_law_standing f_law_papers f_law_due_call f_law_due_loss f_law_asked f_law C_PaperCaller C_PaperRoad C_Caller C_Road : Addr) : Prop where
  m_may_lose : mg "may_lose" = some (.ref f_may_lose)
  k_may_lose : PySem.W.keepIn K (.ref f_may_lose) = true
  m_least_left : mg "least_left" = some (.ref f_least_left)
  k_least_left : PySem.W.keepIn K (.ref f_least_left) = true
  m_law_cell_at : mg "_law_cell_at" = some (.ref f_law_cell_at)
  k_law_cell_at : PySem.W.keepIn K (.ref f_law_cell_at) = true
  m_law_standing : mg "_law_standing" = some (.ref f_law_standing)
  k_law_standing : PySem.W.keepIn K (.ref f_law_standing) = true
  m_law_papers : mg "_law_papers" = some (.ref f_law_papers)
  k_law_papers : PySem.W.keepIn K (.ref f_law_papers) = true
  m_law_due_call : mg "_law_due_call" = some (.ref f_law_due_call)
  k_law_due_call : PySem.W.keepIn K (.ref f_law_due_call) = true
  m_law_due_loss : mg "_law_due_loss" = some (.ref f_law_due_loss)
  k_law_due_loss : PySem.W.keepIn K (.ref f_law_due_loss) = true
  m_law_asked : mg "_law_asked" = some (.ref f_law_asked)
  k_law_asked : PySem.W.keepIn K (.ref f_law_asked) = true
  m_law : mg "law" = some (.ref f_law)
  k_law : PySem.W.keepIn K (.ref f_law) = true
  n_min : mg "min" = none
  n_dict : mg "dict" = none
  n_len : mg "len" = none
  n_tuple : mg "tuple" = none
  n_range : mg "range" = none
  n_isinstance : mg "isinstance" = none
  n_bool : mg "bool" = none
  n_int : mg "int" = none
  n_list : mg "list" = none
  c_PaperCaller : mg "PaperCaller" = some (.ref C_PaperCaller)
  c_PaperRoad : mg "PaperRoad" = some (.ref C_PaperRoad)
  c_Caller : mg "Caller" = some (.ref C_Caller)
  c_Road : mg "Road" = some (.ref C_Road)
  cl_PaperCaller : Cls K C_PaperCaller
  mk_PaperCaller : Mk K C_PaperCaller f_PaperCaller___init__
  M_PaperCaller_call : Meth K C_PaperCaller "call" f_PaperCaller_call
  na_PaperCaller_paper : NoAttr K C_PaperCaller "paper"
  cl_PaperRoad : Cls K C_PaperRoad
  mk_PaperRoad : Mk K C_PaperRoad f_PaperRoad___init__
  M_PaperRoad_loses : Meth K C_PaperRoad "loses" f_PaperRoad_loses
  na_PaperRoad_paper : NoAttr K C_PaperRoad "paper"
  o_PaperCaller_Caller : PySem.W.kitOne K (.ref C_PaperCaller) (.ref C_Caller) = some true
  o_PaperRoad_Road : PySem.W.kitOne K (.ref C_PaperRoad) (.ref C_Road) = some true

/-! ### halls and standings in the heap -/
def HallAt (H : Hp) (a : Addr) (ws : List Int) (calm : Option Int) : Prop := ∃ t, H a = some (.tup [.ref t, vO calm]) ∧ H t = some (.tup (ws.map V.int))
def StAt (H : Hp) (b : Addr) (ls : List Int) (q : Int) : Prop := ∃ u, H b = some (.tup [.ref u, .int q]) ∧ H u = some (.tup (ls.map V.int))
theorem HallAt.same {H H' : Hp} {a : Addr} {ws : List Int} {calm : Option Int} (s : Same H H') (h : HallAt H a ws calm) : HallAt H' a ws calm := by
  obtain ⟨t, h1, h2⟩ := h
  exact ⟨t, s _ _ h1, s _ _ h2⟩
theorem StAt.same {H H' : Hp} {a : Addr} {ls : List Int} {q : Int} (s : Same H H') (h : StAt H a ls q) : StAt H' a ls q := by
  obtain ⟨t, h1, h2⟩ := h
  exact ⟨t, s _ _ h1, s _ _ h2⟩
theorem vO_non (c : Option Int) : decide (vO c = V.non) = decide (c = none) := by cases c <;> simp [vO]
def leftB (ws ls : List Int) (who : Nat) (lost : Bool) : List Int := if lost = true then ls.map (fun x => x - 1) else (ls.map (fun x => x - 1)).set who (ws.getD who 0)
def quietB (calm : Option Int) (q : Int) (lost : Bool) : Int := if lost = true then calm.getD 0 else max (q - 1) 0
/-- the road may do so -/
def MayB (calm : Option Int) (q : Int) (lost : Bool) : Prop := lost = true → calm ≠ none ∧ q = 0
theorem leftB_length (ws ls : List Int) (who : Nat) (lost : Bool) : (leftB ws ls who lost).length = ls.length := by
  unfold leftB
  split <;> simp
theorem inV_ints (x : Int) : ∀ ns : List Int, inV (.int x) (ns.map V.int) = decide (x ∈ ns)
  | [] => rfl
  | n :: ns => by
    show (eqV (V.int n) (V.int x) || inV (.int x) (ns.map V.int)) = _
    rw [inV_ints x ns]
    show ((n == x) || decide (x ∈ ns)) = _
    by_cases h : n = x
    · simp [h]
    · have h' : ¬ x = n := fun e => h e.symm
      simp [h, h']
theorem flat_ints : ∀ ns : List Int, (ns.map V.int).all flatV = true
  | [] => rfl
  | n :: ns => by
    show (flatV (V.int n) && (ns.map V.int).all flatV) = true
    rw [flat_ints ns]
    rfl
theorem getD_at {ws : List Int} {k : Nat} (h : k < ws.length) : atI (ws.map V.int) (k : Int) = some (.int (ws.getD k 0)) := by
  refine atI_nat ?_
  rw [List.getElem?_map, List.getElem?_eq_getElem h, List.getD_eq_getElem?_getD, List.getElem?_eq_getElem h]
  rfl
theorem ixN_nat {n k : Nat} (h : k < n) : ixN n (k : Int) = some k := by
  unfold ixN
  rw [if_pos (by omega), if_pos (by omega)]
  simp

theorem oneLine : 1 ≤ sizeLine := by decide
/-- what is no hall -/
def BadH (ws : List Int) (cm : Option Int) : Prop := ws.length < 1 ∨ 8 < ws.length ∨ (∃ x ∈ ws, x < 1) ∨ ∃ c, cm = some c ∧ c < 1
theorem eqI (a b : Int) : decide (V.int a = V.int b) = decide (a = b) := by simp
theorem vO_is (o : Option Int) : decide (vO o = V.non) = decide (o = none) := by cases o <;> simp [vO]
/-- a hall and a standing as a tuple -/
def JoinAt (H : Hp) (p : Addr) (ws : List Int) (calm : Option Int) (ls : List Int) (q : Int) : Prop := ∃ a b, H p = some (.tup [.ref a, .ref b]) ∧ HallAt H a ws calm ∧ StAt H b ls q
theorem JoinAt.same {H H' : Hp} {p : Addr} {ws : List Int} {calm : Option Int} {ls : List Int} {q : Int} (s : Same H H') (h : JoinAt H p ws calm ls q) : JoinAt H' p ws calm ls q := by
  obtain ⟨a, b, h1, h2, h3⟩ := h
  exact ⟨a, b, s _ _ h1, h2.same s, h3.same s⟩
/-- what was laid last -/
theorem new_at {H : Hp} {p : Addr} {o : HO} (hp : H p = none) : Same H (upd H p o) ∧ (upd H p o) p = some o := ⟨Same.upd hp, upd_same⟩
theorem map_snoc (ws : List Int) (w : Int) : ws.map V.int ++ [V.int w] = (ws ++ [w]).map V.int := by rw [List.map_append]; rfl

/-- the first of the least ones -/
def IsLeast (ls : List Int) (j : Nat) : Prop := j < ls.length ∧ (∀ k, k < ls.length → ls.getD j 0 ≤ ls.getD k 0) ∧ ∀ k, k < j → ls.getD j 0 < ls.getD k 0
theorem IsLeast.one {ls : List Int} {i j : Nat} (h : IsLeast ls i) (g : IsLeast ls j) : i = j := by
  rcases Nat.lt_trichotomy i j with z | z | z
  · have h1 := g.2.2 i z
    have h2 := h.2.1 j g.1
    omega
  · exact z
  · have h1 := h.2.2 j z
    have h2 := g.2.1 i h.1
    omega
theorem mem_getDL {ls : List Int} {y : Int} (h : y ∈ ls) : ∃ j, j < ls.length ∧ ls.getD j 0 = y := by
  obtain ⟨j, hj, e⟩ := List.getElem_of_mem h
  exact ⟨j, hj, by rw [List.getD_eq_getElem?_getD, List.getElem?_eq_getElem hj, ← e]; rfl⟩
theorem getD_get {ls : List Int} {j : Nat} (h : j < ls.length) : ls[j]? = some (ls.getD j 0) := by
  rw [List.getD_eq_getElem?_getD, List.getElem?_eq_getElem h]
  rfl
theorem getD_memL {ls : List Int} {j : Nat} (h : j < ls.length) : ls.getD j 0 ∈ ls := List.mem_of_getElem? (getD_get h)
theorem first_at {ls : List Int} {m : Int} (h : m ∈ ls) : ∃ j : Nat, ls[j]? = some m ∧ ∀ k : Nat, k < j → ls[k]? ≠ some m := by
  induction ls with
  | nil => cases h
  | cons x xs ih =>
    by_cases e : x = m
    · exact ⟨0, by rw [e]; rfl, fun k z => by omega⟩
    · rcases List.mem_cons.mp h with z | z
      · exact absurd z.symm e
      · obtain ⟨j, h1, h2⟩ := ih z
        refine ⟨j + 1, h1, fun k hk => ?_⟩
        cases k with
        | zero => exact fun w => e (Option.some.inj w)
        | succ k => exact h2 k (by omega)
theorem least_of {ls : List Int} {m : Int} {j : Nat} (hm : ∀ a ∈ ls, m ≤ a) (h1 : ls[j]? = some m) (h2 : ∀ k : Nat, k < j → ls[k]? ≠ some m) : IsLeast ls j := by
  have hj := (List.getElem?_eq_some_iff.mp h1).1
  have e : ls.getD j 0 = m := by rw [List.getD_eq_getElem?_getD, h1]; rfl
  refine ⟨hj, fun k hk => ?_, fun k hk => ?_⟩
  · rw [e]
    exact hm _ (getD_memL hk)
  · rw [e]
    have a1 := hm _ (getD_memL (show k < ls.length by omega))
    have a2 : ls.getD k 0 ≠ m := fun z => h2 k hk (by rw [getD_get (by omega), z])
    omega

/-- what is no instance stays -/
def Still (H H' : Hp) : Prop := ∀ b o, H b = some o → (∀ C dx fs, o ≠ HO.ins C dx fs) → H' b = some o
theorem Same.still {H H' : Hp} (s : Same H H') : Still H H' := fun b o e _ => s b o e
theorem Still.refl (H : Hp) : Still H H := fun _ _ e _ => e
theorem Still.trans {H H1 H2 : Hp} (a : Still H H1) (b : Still H1 H2) : Still H H2 := fun c o e n => b c o (a c o e n) n
theorem Still.ins {H : Hp} {x C dx : Addr} {fs gs : List (Str × V)} (h : H x = some (.ins C dx fs)) : Still H (upd H x (.ins C dx gs)) := fun b o e n => by
  rw [upd_ne (fun z => n C dx fs (by rw [z, h] at e; exact (Option.some.inj e).symm))]
  exact e
theorem Still.new {H H' : Hp} {p : Addr} {o : HO} (e : Still H H') (h : H p = none) : Still H (upd H' p o) := fun b u q n => by
  rw [upd_ne (ne_of_none q h)]
  exact e b u q n
theorem Still.lst {H H' : Hp} {a : Addr} {xs : List V} (s : Still H H') (h : H a = some (.lst xs)) : H' a = some (.lst xs) := s _ _ h fun _ _ _ => HO.noConfusion
theorem Still.tup {H H' : Hp} {a : Addr} {xs : List V} (s : Still H H') (h : H a = some (.tup xs)) : H' a = some (.tup xs) := s _ _ h fun _ _ _ => HO.noConfusion
theorem Still.seq {K : PySem.W.Frag} {H H' : Hp} {a : Addr} {xs : List V} (e : Still H H') (h : SqL K H a xs) : SqL K H' a xs := by
  rcases h with (h | ⟨o, h⟩) | h
  · exact .inl (.inl (e.lst h))
  · exact .inl (.inr ⟨o, e _ _ h fun _ _ _ => HO.noConfusion⟩)
  · exact .inr h
theorem HallAt.still {H H' : Hp} {a : Addr} {ws : List Int} {calm : Option Int} (s : Still H H') (h : HallAt H a ws calm) : HallAt H' a ws calm := by
  obtain ⟨t, h1, h2⟩ := h
  exact ⟨t, s.tup h1, s.tup h2⟩
theorem StAt.still {H H' : Hp} {a : Addr} {ls : List Int} {q : Int} (s : Still H H') (h : StAt H a ls q) : StAt H' a ls q := by
  obtain ⟨t, h1, h2⟩ := h
  exact ⟨t, s.tup h1, s.tup h2⟩
theorem JoinAt.still {H H' : Hp} {p : Addr} {ws : List Int} {calm : Option Int} {ls : List Int} {q : Int} (s : Still H H') (h : JoinAt H p ws calm ls q) : JoinAt H' p ws calm ls q := by
  obtain ⟨a, b, h1, h2, h3⟩ := h
  exact ⟨a, b, s.tup h1, h2.still s, h3.still s⟩
/-- a player by a row: its row, how often it was asked -/
def RowF (r : Addr) (k : Nat) : List (Str × V) := [("row", .ref r), ("asked", .int k)]
theorem putF_ask (r : Addr) (v : V) : putF "asked" v [("row", .ref r)] = ([("row", .ref r), ("asked", v)] : List (Str × V)) := by
  unfold putF
  rw [if_neg (by decide)]
  rfl
theorem putF_more (r : Addr) (k : Nat) (m : Int) (h : m = ((k + 1 : Nat) : Int)) : putF "asked" (.int m) (RowF r k) = RowF r (k + 1) := by
  subst h
  unfold RowF putF
  rw [if_neg (by decide)]
  unfold putF
  rw [if_pos rfl]
/-- whom a caller by a row calls when it is asked for the k-th time -/
def CallIs (us : List Int) (k : Nat) (ls : List Int) (v : Int) : Prop := (k < us.length → v = us.getD k 0) ∧ (us.length ≤ k → ∃ j : Nat, v = j ∧ IsLeast ls j)
theorem CallIs.at {us ls : List Int} {k : Nat} (h : k < us.length) : CallIs us k ls (us.getD k 0) := ⟨fun _ => rfl, fun z => absurd h (by omega)⟩
theorem CallIs.least {us ls : List Int} {k j : Nat} (h : us.length ≤ k) (hj : IsLeast ls j) : CallIs us k ls j := ⟨fun z => absurd z (by omega), fun _ => ⟨j, rfl, hj⟩⟩
theorem CallIs.one {us ls : List Int} {k : Nat} {v w : Int} (h : CallIs us k ls v) (g : CallIs us k ls w) : v = w := by
  rcases Nat.lt_or_ge k us.length with z | z
  · rw [h.1 z, g.1 z]
  · obtain ⟨i, rfl, hi⟩ := h.2 z
    obtain ⟨j, rfl, hj⟩ := g.2 z
    rw [hi.one hj]
theorem bl_at {bs : List Bool} {k : Nat} (h : k < bs.length) : atI (bs.map V.bl) (k : Int) = some (.bl (bs.getD k false)) := by
  refine atI_nat ?_
  rw [List.getElem?_map, List.getElem?_eq_getElem h, List.getD_eq_getElem?_getD, List.getElem?_eq_getElem h]
  rfl
theorem tk_snoc {α : Type} {xs : List α} {i : Nat} {x : α} (h : xs[i]? = some x) : xs.take (i + 1) = xs.take i ++ [x] := by
  rw [List.take_add_one, h]
  rfl
def AllAt {α : Type} (P : α → V → Prop) (rs : List α) (vs : List V) : Prop := vs.length = rs.length ∧ ∀ (i : Nat) (r : α) (v : V), rs[i]? = some r → vs[i]? = some v → P r v
theorem AllAt.nil {α : Type} {P : α → V → Prop} : AllAt P [] [] := ⟨rfl, fun i r v e => by cases e⟩
theorem AllAt.imp {α : Type} {P P' : α → V → Prop} {rs : List α} {vs : List V} (f : ∀ r v, P r v → P' r v) (h : AllAt P rs vs) : AllAt P' rs vs := ⟨h.1, fun i r v e1 e2 => f _ _ (h.2 i r v e1 e2)⟩
theorem AllAt.append {α : Type} {P : α → V → Prop} {rs ss : List α} {vs us : List V} (h : AllAt P rs vs) (g : AllAt P ss us) : AllAt P (rs ++ ss) (vs ++ us) := by
  refine ⟨by rw [List.length_append, List.length_append, h.1, g.1], fun i r v e1 e2 => ?_⟩
  rcases Nat.lt_or_ge i rs.length with z | z
  · rw [List.getElem?_append_left z] at e1
    rw [List.getElem?_append_left (by rw [h.1]; exact z)] at e2
    exact h.2 i r v e1 e2
  · rw [List.getElem?_append_right z] at e1
    rw [List.getElem?_append_right (by rw [h.1]; exact z), h.1] at e2
    exact g.2 _ r v e1 e2
theorem AllAt.one {α : Type} {P : α → V → Prop} {r : α} {v : V} (h : P r v) : AllAt P [r] [v] := by
  refine ⟨rfl, fun i r' v' e1 e2 => ?_⟩
  cases i with
  | zero => cases e1; cases e2; exact h
  | succ i => cases e1
theorem AllAt.get {α : Type} {P : α → V → Prop} {rs : List α} {vs : List V} (h : AllAt P rs vs) {i : Nat} {v : V} (e : vs[i]? = some v) : ∃ r, rs[i]? = some r ∧ P r v := by
  have hi := (List.getElem?_eq_some_iff.mp e).1
  have hi2 : i < rs.length := by
    rw [← h.1]
    exact hi
  have h2 : rs[i]? = some rs[i] := List.getElem?_eq_getElem hi2
  exact ⟨_, h2, h.2 i _ v h2 e⟩

noncomputable def leastIx (ls : List Int) : Nat := open Classical in if h : ∃ j, IsLeast ls j then h.choose else 0
def TupS (H H' : Hp) : Prop := ∀ b xs, H b = some (.tup xs) → H' b = some (.tup xs)
theorem Same.tups {H H' : Hp} (s : Same H H') : TupS H H' := fun b xs e => s b _ e
theorem Still.tups {H H' : Hp} (s : Still H H') : TupS H H' := fun b xs e => s.tup e
theorem TupS.trans {H H1 H2 : Hp} (a : TupS H H1) (b : TupS H1 H2) : TupS H H2 := fun c xs e => b c xs (a c xs e)
theorem TupS.lst {H : Hp} {D : Addr} {zs : List V} {o : HO} (h : H D = some (.lst zs)) : TupS H (upd H D o) := fun b xs e => by
  rw [upd_ne (fun z => by rw [z, h] at e; cases e)]
  exact e
theorem StAt.tups {H H' : Hp} {a : Addr} {ls : List Int} {q : Int} (s : TupS H H') (h : StAt H a ls q) : StAt H' a ls q := by
  obtain ⟨t, h1, h2⟩ := h
  exact ⟨t, s _ _ h1, s _ _ h2⟩
theorem HallAt.tups {H H' : Hp} {a : Addr} {ws : List Int} {calm : Option Int} (s : TupS H H') (h : HallAt H a ws calm) : HallAt H' a ws calm := by
  obtain ⟨t, h1, h2⟩ := h
  exact ⟨t, s _ _ h1, s _ _ h2⟩

/-- a pair of a standing and a value -/
def PairV (H : Hp) (q : (List Int × Int) × V) (u : V) : Prop := ∃ t b, u = .ref t ∧ H t = some (.tup [.ref b, q.2]) ∧ StH H b q.1
/-- a standing, a rank, a value -/
def TripV (H : Hp) (q : (List Int × Int) × V) (u : V) : Prop := ∃ t b w, u = .ref t ∧ H t = some (.tup [.ref b, w, q.2]) ∧ StH H b q.1
theorem sth_same {H H' : Hp} {b : Addr} {k : List Int × Int} (s : Same H H') (h : StH H b k) : StH H' b k := h.up fun c xs e => s c _ e
theorem StH.of {H : Hp} {b : Addr} {ls : List Int} {q : Int} (h : StAt H b ls q) : StH H b (ls, q) := h
theorem PairV.same {H H' : Hp} {q : (List Int × Int) × V} {u : V} (s : Same H H') (h : PairV H q u) : PairV H' q u := by
  obtain ⟨t, b, e, h1, h2⟩ := h
  exact ⟨t, b, e, s _ _ h1, sth_same s h2⟩
theorem TripV.same {H H' : Hp} {q : (List Int × Int) × V} {u : V} (s : Same H H') (h : TripV H q u) : TripV H' q u := by
  obtain ⟨t, b, w, e, h1, h2⟩ := h
  exact ⟨t, b, w, e, s _ _ h1, sth_same s h2⟩
/-- whom a caller by a paper calls -/
def CallV (kvs : List ((List Int × Int) × V)) (k : List Int × Int) (v : V) : Prop := valV kvs k = some v ∨ (valV kvs k = none ∧ ∃ j : Nat, v = .int j ∧ IsLeast k.1 j)
theorem CallV.one {kvs : List ((List Int × Int) × V)} {k : List Int × Int} {v w : V} (h : CallV kvs k v) (g : CallV kvs k w) : v = w := by
  rcases h with h | ⟨h, i, rfl, hi⟩ <;> rcases g with g | ⟨g, j, rfl, hj⟩
  · rw [h] at g
    exact Option.some.inj g
  · rw [h] at g
    cases g
  · rw [h] at g
    cases g
  · rw [hi.one hj]
theorem emod_range (x : Int) {m : Int} (h : 0 < m) : 0 ≤ x % m ∧ x % m < m := ⟨Int.emod_nonneg x (by omega), Int.emod_lt_of_pos x h⟩
theorem bits_lt {a : Int} {n : Nat} (h : a.natAbs < 2 ^ n) : intBits a ≤ n := intBits_le h
def cutI (xs : List Int) (lo hi : Option Int) : List Int := (xs.drop (HT.sIx xs.length 0 lo)).take (HT.sIx xs.length xs.length hi - HT.sIx xs.length 0 lo)
theorem cutV_ints (xs : List Int) (lo hi : Option Int) : cutV (xs.map V.int) lo hi = (cutI xs lo hi).map V.int := by
  unfold cutV cutI
  rw [List.length_map, List.map_take, List.map_drop]
theorem cutI_length (xs : List Int) (lo hi : Option Int) : (cutI xs lo hi).length ≤ xs.length := by
  unfold cutI
  rw [List.length_take, List.length_drop]
  omega

theorem PairV.tups {H H' : Hp} {q : (List Int × Int) × V} {u : V} (s : TupS H H') (h : PairV H q u) : PairV H' q u := by
  obtain ⟨t, b, e, h1, h2⟩ := h
  exact ⟨t, b, e, s _ _ h1, h2.up s⟩
theorem lst_snoc {H : Hp} {L : Addr} {ls : List Int} {x : Int} : (upd H L (.lst (ls.map V.int ++ [V.int x]))) L = some (.lst ((ls ++ [x]).map V.int)) := by
  rw [map_snoc]
  exact upd_same
theorem len_snoc {α : Type} {ls : List α} {x : α} {i : Nat} (h : ls.length = i) : (ls ++ [x]).length = i + 1 := by
  rw [List.length_append, h]
  rfl
theorem one_more {x m : Int} (h : 0 < m) : 1 ≤ 1 + x % m := by
  have := Int.emod_nonneg x (show m ≠ 0 by omega)
  omega

theorem bl_snoc (bs : List Bool) (b : Bool) : bs.map V.bl ++ [V.bl b] = (bs ++ [b]).map V.bl := by rw [List.map_append]; rfl
theorem mk_same {H : Hp} {x dx C : Addr} (hx : H x = none) (hdx : H dx = none) : Same H (upd (upd H dx (.own x)) x (.ins C dx [])) := fun b o e => by
  rw [upd_ne (ne_of_none e hx), upd_ne (ne_of_none e hdx)]
  exact e
theorem mk_then {H H' : Hp} {x dx C : Addr} (hx : H x = none) (hdx : H dx = none) (h : ∀ b o, b ≠ x → (upd (upd H dx (.own x)) x (.ins C dx [])) b = some o → H' b = some o) : Same H H' := fun b o e => h b o (ne_of_none e hx) (mk_same hx hdx b o e)
theorem mk_free {H : Hp} {x dx C r : Addr} (hx : H x = none) (hdx : H dx = none) (h : (upd (upd H dx (.own x)) x (.ins C dx [])) r = none) : H r = none := (mk_same hx hdx).free h
theorem atI2 {x y i : Int} (h0 : 0 ≤ i) (h2 : i < 2) : ∃ v, atI [V.int x, V.int y] i = some (V.int v) ∧ (v = x ∨ v = y) := by
  have h : i = 0 ∨ i = 1 := by omega
  rcases h with rfl | rfl
  · exact ⟨x, rfl, .inl rfl⟩
  · exact ⟨y, rfl, .inr rfl⟩

theorem pos40 : (0 : Int) < 10 ^ (40 : Int).toNat := by decide
theorem bits40 {c : Int} : intBits (c % 10 ^ (40 : Int).toNat) ≤ 140 := by
  have h := emod_range c pos40
  have h2 : (10 : Int) ^ (40 : Int).toNat < 2 ^ 140 := by decide
  exact bits_lt (by omega)

def dS (z : List Int × Int) : PyData := dP (dT z.1) (.int z.2)
theorem rp_dS {H : Hp} {b : Addr} {k : List Int × Int} (h : StH H b k) : Rp H (dS k) (.ref b) := by
  obtain ⟨u, h1, h2⟩ := h
  exact rp_dP h1 (rp_dT h2) (by unfold Rp; rfl)
theorem depth_dS (k : List Int × Int) : (dS k).depth = 2 := by
  show (dP (dT k.1) (.int k.2)).depth = 2
  rw [depth_dP, depth_dT]
  rfl
theorem eqv_dS (a b : List Int × Int) : PyData.eqv (dS a) (dS b) = decide (a = b) := by
  show (PyData.eqvAll (a.1.map PyData.int) (b.1.map PyData.int) && (PyData.eqv (.int a.2) (.int b.2) && true)) = _
  rw [eqvAll_ints]
  have e : PyData.eqv (.int a.2) (.int b.2) = decide (a.2 = b.2) := by
    show (a.2 == b.2) = _
    rw [Bool.eq_iff_iff]
    simp
  rw [e, Bool.and_true, Bool.eq_iff_iff]
  simp [Prod.ext_iff]
theorem valV_snoc {ps : List ((List Int × Int) × V)} {p : (List Int × Int) × V} {k : List Int × Int} (h : valV ps k = none) : valV (ps ++ [p]) k = if p.1 = k then some p.2 else none := by
  have h' : ps.find? (fun kv => decide (kv.1 = k)) = none := by
    unfold valV at h
    simpa using h
  unfold valV
  rw [List.find?_append, h']
  by_cases e : p.1 = k
  · rw [if_pos e]
    simp [List.find?_cons, e]
  · rw [if_neg e]
    simp [List.find?_cons, e]
theorem valV_more {ps qs : List ((List Int × Int) × V)} {k : List Int × Int} {v : V} (h : valV ps k = some v) : valV (ps ++ qs) k = some v := by
  unfold valV at h ⊢
  rw [List.find?_append]
  cases hf : ps.find? (fun kv => decide (kv.1 = k)) with
  | none =>
    rw [hf] at h
    cases h
  | some x =>
    rw [hf] at h
    exact h

/-- an entry: a standing, a call, answers -/
abbrev Ent := (List Int × Int) × Int × List Bool
def KeptV (H : Hp) (e : Ent) (u : V) : Prop := PairV H (e.1, .int e.2.1) u
def BrokV (H : Hp) (e : Ent) (u : V) : Prop := ∃ t b m rk, u = .ref t ∧ H t = some (.tup [.ref b, .int rk, .ref m]) ∧ StH H b e.1 ∧ H m = some (.tup (e.2.2.map V.bl))
theorem rp_bools {H : Hp} : ∀ bs : List Bool, RpAll H (bs.map PyData.bool) (bs.map V.bl)
  | [] => by unfold RpAll; rfl
  | n :: ns => by
    show RpAll H (PyData.bool n :: ns.map PyData.bool) (V.bl n :: ns.map V.bl)
    unfold RpAll
    exact ⟨_, _, rfl, by unfold Rp; rfl, rp_bools ns⟩
theorem depthAll_bools : ∀ bs : List Bool, PyData.depthAll (bs.map PyData.bool) = 0
  | [] => rfl
  | w :: ws => by
    show max (PyData.depth (.bool w)) (PyData.depthAll (ws.map PyData.bool)) = 0
    rw [depthAll_bools ws]
    rfl
theorem cutV_from {xs : List V} {c : Int} (h0 : 0 ≤ c) (h : c ≤ xs.length) : cutV xs (some c) none = xs.drop c.toNat := by
  obtain ⟨n, rfl⟩ : ∃ n : Nat, c = n := ⟨c.toNat, by omega⟩
  unfold cutV
  rw [HT.sIx_none, HT.sIx_nat]
  have e : min n xs.length = n := by omega
  rw [e, Int.toNat_natCast, List.take_of_length_le]
  rw [List.length_drop]
  omega
theorem AllAt.drop {α : Type} {P : α → V → Prop} {rs : List α} {vs : List V} (h : AllAt P rs vs) (n : Nat) : AllAt P (rs.drop n) (vs.drop n) := by
  refine ⟨by rw [List.length_drop, List.length_drop, h.1], fun i r v e1 e2 => ?_⟩
  rw [List.getElem?_drop] at e1 e2
  exact h.2 _ r v e1 e2

def KeyV (H : Hp) (e : Ent) (u : V) : Prop := ∃ b, u = .ref b ∧ StH H b e.1
theorem KeptV.tups {H H' : Hp} {e : Ent} {u : V} (s : TupS H H') (h : KeptV H e u) : KeptV H' e u := PairV.tups s h
theorem BrokV.tups {H H' : Hp} {e : Ent} {u : V} (s : TupS H H') (h : BrokV H e u) : BrokV H' e u := by
  obtain ⟨t, b, m, rk, e1, h1, h2, h3⟩ := h
  exact ⟨t, b, m, rk, e1, s _ _ h1, h2.up s, s _ _ h3⟩
theorem KeyV.tups {H H' : Hp} {e : Ent} {u : V} (s : TupS H H') (h : KeyV H e u) : KeyV H' e u := by
  obtain ⟨b, e1, h2⟩ := h
  exact ⟨b, e1, h2.up s⟩
theorem AllAt.tail {α : Type} {P : α → V → Prop} {r : α} {v : V} {rs : List α} {vs : List V} (h : AllAt P (r :: rs) (v :: vs)) : P r v ∧ AllAt P rs vs := ⟨h.2 0 r v rfl rfl, by have := h.1; simpa using this, fun i a b e1 e2 => h.2 (i + 1) a b e1 e2⟩
theorem rpAll_keys {H : Hp} : ∀ {es : List Ent} {gs : List V}, AllAt (KeyV H) es gs → RpAll H (es.map fun e => dS e.1) gs
  | [], [], _ => by unfold RpAll; rfl
  | [], _ :: _, h => by have := h.1; simp at this
  | _ :: _, [], h => by have := h.1; simp at this
  | e :: es, g :: gs, h => by
    obtain ⟨⟨b, rfl, hb⟩, h2⟩ := h.tail
    show RpAll H (dS e.1 :: es.map fun e => dS e.1) (.ref b :: gs)
    unfold RpAll
    exact ⟨_, _, rfl, rp_dS hb, rpAll_keys h2⟩
theorem any_keys {es : List Ent} {k : List Int × Int} : (es.map fun e => dS e.1).any (fun e => PyData.eqv e (dS k)) = decide (k ∈ es.map (·.1)) := by
  induction es with
  | nil => rfl
  | cons e es ih =>
    rw [List.map_cons, List.any_cons, ih, eqv_dS, List.map_cons, Bool.eq_iff_iff]
    simp only [Bool.or_eq_true, decide_eq_true_eq, List.mem_cons]
    exact ⟨fun h => h.imp Eq.symm id, fun h => h.imp Eq.symm id⟩
theorem nodup_snoc {α : Type} {xs : List α} {x : α} (h : xs.Nodup) (hx : x ∉ xs) : (xs ++ [x]).Nodup := by
  rw [List.nodup_append]
  refine ⟨h, by simp, fun a ha b hb e => ?_⟩
  rw [List.mem_singleton.mp hb] at e
  exact hx (e ▸ ha)
theorem bits740 : intBits (7 ^ (40 : Int).toNat) ≤ 120 := by decide
theorem rp_ans {H : Hp} {t : Addr} {bs : List Bool} (h : H t = some (.tup (bs.map V.bl))) : Rp H (.tuple (bs.map PyData.bool)) (.ref t) := by
  unfold Rp
  exact ⟨t, _, rfl, h, rp_bools bs⟩

def kd (es : List Ent) : List ((List Int × Int) × V) := es.map fun e => (e.1, V.int e.2.1)
def findE (es : List Ent) (k : List Int × Int) : Option Ent := es.find? fun e => decide (e.1 = k)
theorem kd_at {H : Hp} {es : List Ent} {us : List V} (h : AllAt (KeptV H) es us) : AllAt (PairV H) (kd es) us := by
  refine ⟨by unfold kd; rw [List.length_map]; exact h.1, fun i r v e1 e2 => ?_⟩
  unfold kd at e1
  rw [List.getElem?_map] at e1
  obtain ⟨e, he, rfl⟩ := Option.map_eq_some_iff.mp e1
  exact h.2 i e v he e2
theorem kd_int {es : List Ent} {k : List Int × Int} {v : V} (h : CallV (kd es) k v) : ∃ f : Int, v = .int f := by
  rcases h with h | ⟨_, j, rfl, _⟩
  · have hm : (k, v) ∈ kd es := by
      unfold valV at h
      obtain ⟨p, hp, rfl⟩ := Option.map_eq_some_iff.mp h
      have h1 := List.find?_some hp
      have h2 := List.mem_of_find?_eq_some hp
      have h3 : p.1 = k := by simpa using h1
      rw [← h3]
      exact h2
    unfold kd at hm
    obtain ⟨e, _, he⟩ := List.mem_map.mp hm
    exact ⟨e.2.1, (congrArg Prod.snd he).symm⟩
  · exact ⟨j, rfl⟩
/-- what a road by a paper loses -/
def lossE (es : List Ent) (k : List Int × Int) (cm : Option Int) (who : Nat) : Bool := match findE es k with
  | none => false
  | some e => e.2.2.getD who false && (!decide (cm = none) && decide (k.2 = 0))
theorem findE_snoc {es : List Ent} {e : Ent} {k : List Int × Int} (h : findE es k = none) : findE (es ++ [e]) k = if e.1 = k then some e else none := by
  unfold findE at h ⊢
  rw [List.find?_append, h]
  by_cases z : e.1 = k <;> simp [List.find?_cons, z]
theorem findE_more {es fs : List Ent} {k : List Int × Int} {e : Ent} (h : findE es k = some e) : findE (es ++ fs) k = some e := by
  unfold findE at h ⊢
  rw [List.find?_append, h]
  rfl

def AnsK (H : Hp) (es : List Ent) (js : List ((List Int × Int) × V)) (k : List Int × Int) : Prop := (findE es k = none ∧ valV js k = none) ∨ ∃ (e : Ent) (m : Addr), e ∈ es ∧ findE es k = some e ∧ valV js k = some (.ref m) ∧ H m = some (.tup (e.2.2.map V.bl))
/-- a caller and a road by papers, and the papers -/
def PapAt (CC CR : Addr) (H : Hp) (c r p : Addr) (es : List Ent) : Prop := ∃ (dc d dr d2 l m : Addr) (us zs : List V) (ks js : List ((List Int × Int) × V)), H c = some (.ins CC dc [("paper", .ref d)]) ∧ H d = some (.dT ks) ∧ H r = some (.ins CR dr [("paper", .ref d2)]) ∧ H d2 = some (.dT js) ∧
  H p = some (.tup [.ref l, .ref m]) ∧ H l = some (.lst us) ∧ H m = some (.lst zs) ∧ AllAt (KeptV H) es us ∧ AllAt (BrokV H) es zs ∧ (∀ k, valV ks k = valV (kd es) k) ∧ ∀ k, AnsK H es js k
theorem CallV.eq {ks js : List ((List Int × Int) × V)} {k : List Int × Int} {v : V} (e : valV ks k = valV js k) (h : CallV ks k v) : CallV js k v := by
  unfold CallV at h ⊢
  rw [← e]
  exact h
theorem all_snoc {P : Int → Prop} {ls : List Int} {x : Int} (h : ∀ y ∈ ls, P y) (hx : P x) : ∀ y ∈ ls ++ [x], P y := fun y hy => by
  rcases List.mem_append.mp hy with z | z
  · exact h y z
  · cases List.mem_singleton.mp z
    exact hx

theorem cut1 : ∀ us : List V, cutV us (some 1) none = us.drop 1
  | [] => rfl
  | u :: us => cutV_from (by decide) (by simp; omega)
theorem valV_miss {ps : List ((List Int × Int) × V)} {k : List Int × Int} (h : k ∉ ps.map (·.1)) : valV ps k = none := by
  cases e : valV ps k with
  | none => rfl
  | some v => exact absurd (valV_in e) h
theorem valV_all {k : List Int × Int} : ∀ (ps kvs : List ((List Int × Int) × V)), (ps.map (·.1)).Nodup → valV (putAll kvs ps) k = (valV ps k).or (valV kvs k)
  | [], kvs, _ => rfl
  | p :: ps, kvs, h => by
    rw [List.map_cons, List.nodup_cons] at h
    show valV (putAll (putK kvs p.1 p.2) ps) k = _
    rw [valV_all ps _ h.2, valV_put]
    by_cases e : p.1 = k
    · subst e
      rw [valV_miss h.1, valV_pos rfl, if_pos rfl]
      rfl
    · rw [valV_neg e, if_neg (fun z => e z.symm)]
theorem valV_one {k : List Int × Int} {ps : List ((List Int × Int) × V)} (h : (ps.map (·.1)).Nodup) : valV (putAll [] ps) k = valV ps k := by
  rw [valV_all ps [] h, valV_nil]
  cases valV ps k <;> rfl
theorem kd_keys (es : List Ent) : (kd es).map (·.1) = es.map (·.1) := by
  unfold kd
  rw [List.map_map]
  rfl
/-- the entries of a paper and what a road keeps of them -/
def AnsC (H : Hp) : List Ent → List ((List Int × Int) × V) → Prop
  | [], js => js = []
  | e :: es, js => ∃ (m : Addr) (rest : List ((List Int × Int) × V)), js = (e.1, .ref m) :: rest ∧ H m = some (.tup (e.2.2.map V.bl)) ∧ AnsC H es rest
theorem AllAt.cons {α : Type} {P : α → V → Prop} {r : α} {v : V} {rs : List α} {vs : List V} (h : P r v) (g : AllAt P rs vs) : AllAt P (r :: rs) (v :: vs) := (AllAt.one h).append g
theorem trips {H : Hp} : ∀ {es : List Ent} {zs : List V}, AllAt (BrokV H) es zs → ∃ js, AllAt (TripV H) js zs ∧ AnsC H es js
  | [], [], _ => ⟨[], AllAt.nil, rfl⟩
  | [], _ :: _, h => by have := h.1; simp at this
  | _ :: _, [], h => by have := h.1; simp at this
  | e :: es, z :: zs, h => by
    obtain ⟨⟨t, b, m, rk, rfl, h1, h2, h3⟩, h4⟩ := h.tail
    obtain ⟨js, a1, a2⟩ := trips h4
    exact ⟨(e.1, .ref m) :: js, AllAt.cons ⟨t, b, .int rk, rfl, h1, h2⟩ a1, m, js, rfl, h3, a2⟩
theorem AnsC.keys {H : Hp} : ∀ {es : List Ent} {js : List ((List Int × Int) × V)}, AnsC H es js → js.map (·.1) = es.map (·.1)
  | [], js, h => by
    cases (show js = [] from h)
    rfl
  | e :: es, js, h => by
    obtain ⟨m, rest, rfl, h1, h2⟩ := h
    rw [List.map_cons, List.map_cons, h2.keys]
theorem AnsC.same {H H' : Hp} (s : Same H H') : ∀ {es : List Ent} {js : List ((List Int × Int) × V)}, AnsC H es js → AnsC H' es js
  | [], js, h => h
  | e :: es, js, h => by
    obtain ⟨m, rest, rfl, h1, h2⟩ := h
    exact ⟨m, rest, rfl, s _ _ h1, h2.same s⟩
theorem AnsC.up {H H' : Hp} (s : TupS H H') : ∀ {es : List Ent} {js : List ((List Int × Int) × V)}, AnsC H es js → AnsC H' es js
  | [], js, h => h
  | e :: es, js, h => by
    obtain ⟨m, rest, rfl, h1, h2⟩ := h
    exact ⟨m, rest, rfl, s _ _ h1, h2.up s⟩
theorem AnsC.drop1 {H : Hp} : ∀ {es : List Ent} {js : List ((List Int × Int) × V)}, AnsC H es js → AnsC H (es.drop 1) (js.drop 1)
  | [], js, h => by
    cases (show js = [] from h)
    rfl
  | e :: es, js, h => by
    obtain ⟨m, rest, rfl, h1, h2⟩ := h
    exact h2
theorem AnsC.ans {H : Hp} {k : List Int × Int} : ∀ {es : List Ent} {js : List ((List Int × Int) × V)}, AnsC H es js → AnsK H es js k
  | [], js, h => by
    cases (show js = [] from h)
    exact .inl ⟨rfl, rfl⟩
  | e :: es, js, h => by
    obtain ⟨m, rest, rfl, h1, h2⟩ := h
    by_cases z : e.1 = k
    · exact .inr ⟨e, m, by simp, by simp [findE, List.find?_cons, z], valV_pos z, h1⟩
    · have e1 : findE (e :: es) k = findE es k := by simp [findE, List.find?_cons, z]
      have e2 : valV ((e.1, V.ref m) :: rest) k = valV rest k := valV_neg z
      rcases h2.ans (k := k) with ⟨a, b⟩ | ⟨f, n, hm, a, b, c⟩
      · exact .inl ⟨e1.trans a, e2.trans b⟩
      · exact .inr ⟨f, n, List.mem_cons_of_mem _ hm, e1.trans a, e2.trans b, c⟩
theorem rpEx {H : Hp} : ∀ {us : List V}, (∀ u ∈ us, ∃ d, Rp H d u ∧ d.depth ≤ 3) → ∃ ds, RpAll H ds us ∧ PyData.depthAll ds ≤ 3
  | [], _ => ⟨[], by unfold RpAll; rfl, by decide⟩
  | u :: us, h => by
    obtain ⟨d, h1, h2⟩ := h u (by simp)
    obtain ⟨ds, h3, h4⟩ := rpEx (us := us) fun x hx => h x (List.mem_cons_of_mem _ hx)
    refine ⟨d :: ds, by unfold RpAll; exact ⟨u, us, rfl, h1, h3⟩, ?_⟩
    show max d.depth (PyData.depthAll ds) ≤ 3
    omega
theorem rp_kept {H : Hp} {e : Ent} {u : V} (h : KeptV H e u) : ∃ d, Rp H d u ∧ d.depth ≤ 3 := by
  obtain ⟨t, b, rfl, h1, h2⟩ := h
  refine ⟨dP (dS e.1) (.int e.2.1), rp_dP h1 (rp_dS h2) (rp_int _), ?_⟩
  rw [depth_dP, depth_dS]
  exact Nat.le_refl 3
theorem rp_brok {H : Hp} {e : Ent} {u : V} (h : BrokV H e u) : ∃ d, Rp H d u ∧ d.depth ≤ 3 := by
  obtain ⟨t, b, m, rk, rfl, h1, h2, h3⟩ := h
  refine ⟨.tuple [dS e.1, .int rk, .tuple (e.2.2.map PyData.bool)], ?_, ?_⟩
  · unfold Rp
    refine ⟨t, _, rfl, h1, ?_⟩
    unfold RpAll
    refine ⟨_, _, rfl, rp_dS h2, ?_⟩
    unfold RpAll
    refine ⟨_, _, rfl, rp_int _, ?_⟩
    unfold RpAll
    refine ⟨_, _, rfl, rp_ans h3, ?_⟩
    unfold RpAll
    rfl
  · show max (dS e.1).depth (max 0 (max (PyData.depthAll (e.2.2.map PyData.bool) + 1) 0)) + 1 ≤ 3
    rw [depth_dS, depthAll_bools]
    decide
theorem AllAt.all {α : Type} {P : α → V → Prop} {Q : V → Prop} {rs : List α} {vs : List V} (h : AllAt P rs vs) (f : ∀ r v, P r v → Q v) : ∀ u ∈ vs, Q u := fun u hu => by
  obtain ⟨i, hi⟩ := List.mem_iff_getElem?.mp hu
  obtain ⟨r, _, hr⟩ := h.get hi
  exact f r u hr
theorem rp_lst {H : Hp} {a : Addr} {us : List V} {ds : List PyData} (h : H a = some (.lst us)) (g : RpAll H ds us) : Rp H (.list ds) (.ref a) := by
  unfold Rp
  exact ⟨a, us, rfl, h, g⟩
theorem nd_drop {α : Type} {xs : List α} (h : xs.Nodup) : (xs.drop 1).Nodup := h.sublist (List.drop_sublist 1 xs)
def SomeSt (m : Nat) (H : Hp) (y : V) : Prop := ∃ (st : Addr) (ls : List Int) (n : Int), y = .ref st ∧ StAt H st ls n ∧ ls.length = m
theorem SomeSt.same {m : Nat} {H H' : Hp} {y : V} (s : Same H H') (h : SomeSt m H y) : SomeSt m H' y := by
  obtain ⟨st, ls, n, e, h1, h2⟩ := h
  exact ⟨st, ls, n, e, h1.same s, h2⟩
theorem SomeSt.tups {m : Nat} {H H' : Hp} {y : V} (s : TupS H H') (h : SomeSt m H y) : SomeSt m H' y := by
  obtain ⟨st, ls, n, e, h1, h2⟩ := h
  exact ⟨st, ls, n, e, h1.tups s, h2⟩

section
variable {P : Program} {w : World} {K : PySem.W.Frag} {mg : Str → Option Value} {base : Heap} {f_may_lose f_least_left f_PaperCaller___init__ f_PaperCaller_call f_PaperRoad___init__ f_PaperRoad_loses f_law_cell_at f_law_standing f_law_papers f_law_due_call f_law_due_loss f_law_asked f_law C_PaperCaller C_PaperRoad C_Caller C_Road : Addr}
/-! ### may_lose -/
def sp_may_lose (K : PySem.W.Frag) : Sp := fun vs H Q _ => ∃ (a b : Addr) (ws ls : List Int) (calm : Option Int) (q : Int), vs = [.ref a, .ref b] ∧ HallAt H a ws calm ∧ StAt H b ls q ∧ Q (.bl (!decide (calm = none) && decide (q = 0))) H
theorem ok_may_lose {fd  : FuncData} (T : Txt K mg f_may_lose f_least_left f_PaperCaller___init__ f_PaperCaller_call f_PaperRoad___init__ f_PaperRoad_loses f_law_cell_at f_law_standing f_law_papers f_law_due_call f_law_due_loss f_law_asked f_law C_PaperCaller C_PaperRoad C_Caller C_Road) (F : Fun K "may_lose" "may_lose" s_may_lose f_may_lose fd) : FnOk P w K mg base CX0 1 f_may_lose fd ["hall", "standing"] (sp_may_lose K) := by
  refine F.ok sc_may_lose (fun vs H Q E h => ?_) (fun cdv A outer s H vs Q E hr h => ?_)
  · rcases h with ⟨a, b, ws, ls, calm, n, rfl, ⟨t, ha, _⟩, ⟨u, hb, _⟩, q⟩ <;> rfl
  · obtain ⟨a, b, ws, ls, calm, n, rfl, ⟨t, ha, _⟩, ⟨u, hb, _⟩, q⟩ := h
    refine ⟨_, (pss_one (ps_ret (pe_andX (pe_cmpR op_notN (pe_ix (ix_sq K) (pv 0) pe_int (fun _ _ => rfl)) pe_non (nomark _)) (pe_one (pe_cmpR op_eq (pe_ix (ix_sq K) (pv 1) pe_int (fun _ _ => rfl)) pe_int (nomark _)))))), ?_⟩
    refine ⟨_, rfl, a, _, _, _, rfl, rfl, .inr (SqT.of ha), rfl, rfl, _, decide (V.int n = V.int 0), rfl, fun _ Q' z => ⟨_, rfl, b, _, _, _, rfl, rfl, .inr (SqT.of hb), rfl, rfl, z⟩, ?_⟩
    have e2 : decide (V.int n = V.int 0) = decide (n = 0) := by simp
    rw [vO_non, e2]
    exact q
/-! ### least_left -/
def sp_least_left (K : PySem.W.Frag) : Sp := fun vs H Q _ => ∃ (b : Addr) (ls : List Int) (q : Int), vs = [.ref b] ∧ StAt H b ls q ∧ 0 < ls.length ∧ ∀ j : Nat, IsLeast ls j → Q (.int j) H
theorem ok_least_left {fd  : FuncData} (T : Txt K mg f_may_lose f_least_left f_PaperCaller___init__ f_PaperCaller_call f_PaperRoad___init__ f_PaperRoad_loses f_law_cell_at f_law_standing f_law_papers f_law_due_call f_law_due_loss f_law_asked f_law C_PaperCaller C_PaperRoad C_Caller C_Road) (F : Fun K "least_left" "least_left" s_least_left f_least_left fd) : FnOk P w K mg base CX0 1 f_least_left fd ["standing"] (sp_least_left K) := by
  refine F.ok sc_least_left (fun vs H Q E h => ?_) (fun cdv A outer s H vs Q E hr h => ?_)
  · rcases h with ⟨b, ls, n, rfl, ⟨u, hb, hu⟩, hl0, q⟩ <;> rfl
  · obtain ⟨b, ls, n, rfl, ⟨u, hb, hu⟩, hl0, q⟩ := h
    refine ⟨_, (pss_one (ps_ret (pe_bm PySem.F.plainAttrs_tuple PySem.F.slot_tuple_index PySem.F.type_tuple_index mt_indexT (pe_ix (ix_sq K) (pv 0) pe_int (fun _ _ => rfl)) (pa_cons (pe_callB (call_minS K rfl) (by rfl) T.n_min boot_min (pa_cons (pe_ix (ix_sq K) (pv 0) pe_int (fun _ _ => rfl)) pa_nil)) pa_nil)))), ?_⟩
    refine ⟨_, rfl, b, _, _, _, rfl, rfl, .inr (SqT.of hb), rfl, .inr (.inl ⟨rfl, .inr ⟨_, hu⟩⟩), _, rfl, b, _, _, _, rfl, rfl, .inr (SqT.of hb), rfl, u, ls, rfl, .inr (SqT.of hu), hl0, fun m hm hmin => ?_⟩
    obtain ⟨j, h1, h2⟩ := first_at hm
    exact ⟨u, ls, m, j, rfl, rfl, SqT.of hu, h1, h2, q j (least_of hmin h1 h2)⟩
/-! ### PaperCaller.__init -/
def sp_PaperCaller___init__ (K : PySem.W.Frag) (C_PaperCaller C_PaperRoad : Addr) : Sp := fun vs H Q _ => ∃ (x dx l : Addr) (us : List V) (ps : List ((List Int × Int) × V)), vs = [.ref x, .ref l] ∧ H x = some (.ins C_PaperCaller dx []) ∧ H l = some (.lst us) ∧ AllAt (PairV H) ps us ∧ ∀ (d : Addr) (H' : Hp), H d = none → H' x = some (.ins C_PaperCaller dx [("paper", .ref d)]) → H' d = some (.dT (putAll [] ps)) → (∀ b o, b ≠ x → H b = some o → H' b = some o) → Q .non H'
theorem ok_PaperCaller___init__ {fd  : FuncData} (T : Txt K mg f_may_lose f_least_left f_PaperCaller___init__ f_PaperCaller_call f_PaperRoad___init__ f_PaperRoad_loses f_law_cell_at f_law_standing f_law_papers f_law_due_call f_law_due_loss f_law_asked f_law C_PaperCaller C_PaperRoad C_Caller C_Road) (F : Fun K "__init__" "PaperCaller.__init__" s_PaperCaller___init__ f_PaperCaller___init__ fd) : FnOk P w K mg base CX0 1 f_PaperCaller___init__ fd ["self", "paper"] (sp_PaperCaller___init__ K C_PaperCaller C_PaperRoad) := by
  refine F.ok sc_PaperCaller___init__ (fun vs H Q E h => ?_) (fun cdv A outer s H vs Q E hr h => ?_)
  · rcases h with ⟨x, dx, l, us, ps, rfl, hx, hl, hps, q⟩ <;> rfl
  · obtain ⟨x, dx, l, us, ps, rfl, hx, hl, hps, q⟩ := h
    refine ⟨_, (pss_one (ps_fld (pv 0) (pe_callTy (call_dictT K (hu24 hr) rfl) (by rfl) T.n_dict boot_dict (pa_cons (pv 1) pa_nil)) rfl)), ?_⟩
    refine ⟨_, rfl, l, us, ps, rfl, SqL.of hl, hps.1, (fun j u p e1 e2 => hps.2 j p u e2 e1), fun d hd => ?_⟩
    have hxd : x ≠ d := ne_of_none hx hd
    have e1 : (upd H d (.dT (putAll [] ps))) x = some (.ins C_PaperCaller dx []) := (upd_ne hxd).trans hx
    refine ⟨_, rfl, x, _, dx, _, rfl, e1, T.cl_PaperCaller, T.na_PaperCaller_paper, (by show 0 < 1000; decide), ?_⟩
    refine q d _ hd upd_same ((upd_ne hxd.symm).trans upd_same) fun b o hb e => ?_
    rw [upd_ne hb, upd_ne (ne_of_none e hd)]
    exact e
/-! ### PaperCaller.call -/
def sp_PaperCaller_call (K : PySem.W.Frag) (C_PaperCaller C_PaperRoad : Addr) : Sp := fun vs H Q _ => ∃ (x dx d b : Addr) (hv : V) (kvs : List ((List Int × Int) × V)) (ls : List Int) (q : Int), vs = [.ref x, hv, .ref b] ∧ H x = some (.ins C_PaperCaller dx [("paper", .ref d)]) ∧ H d = some (.dT kvs) ∧ StAt H b ls q ∧ 0 < ls.length ∧ ∀ v, CallV kvs (ls, q) v → Q v H
theorem ok_PaperCaller_call {fd fd_least_left : FuncData} (T : Txt K mg f_may_lose f_least_left f_PaperCaller___init__ f_PaperCaller_call f_PaperRoad___init__ f_PaperRoad_loses f_law_cell_at f_law_standing f_law_papers f_law_due_call f_law_due_loss f_law_asked f_law C_PaperCaller C_PaperRoad C_Caller C_Road) (F : Fun K "call" "PaperCaller.call" s_PaperCaller_call f_PaperCaller_call fd) (G_least_left : FnOk P w K mg base CX0 1 f_least_left fd_least_left ["standing"] (sp_least_left K)) (B_least_left : Binds K fd_least_left ["standing"] []) : FnOk P w K mg base CX0 2 f_PaperCaller_call fd ["self", "hall", "standing"] (sp_PaperCaller_call K C_PaperCaller C_PaperRoad) := by
  refine F.ok sc_PaperCaller_call (fun vs H Q E h => ?_) (fun cdv A outer s H vs Q E hr h => ?_)
  · rcases h with ⟨x, dx, d, b, hv, kvs, ls, n, rfl, hx, hd, hb, hl0, q⟩ <;> rfl
  · obtain ⟨x, dx, d, b, hv, kvs, ls, n, rfl, hx, hd, hb, hl0, q⟩ := h
    refine ⟨_, (pss_cons (ps_if (pt_cmp (pc_din (hu20 hr) (pv 2) (pe_fld (pv 0) rfl)) rfl) (pss_one (ps_ret (pe_dget (hu20 hr) (pe_fld (pv 0) rfl) (pv 2) (fun _ _ => rfl)))) pss_nil) (pss_one (ps_ret (pe_call G_least_left (hr.mono (by decide)) rfl T.m_least_left T.k_least_left B_least_left .nil pass0 (pa_cons (pv 2) pa_nil))))), ?_⟩
    refine ⟨_, rfl, _, rfl, x, _, dx, _, .ref d, rfl, hx, T.cl_PaperCaller, T.na_PaperCaller_paper, rfl, d, _, rfl, DGet.t hd (StH.of hb), _, rfl, ?_⟩
    cases hv0 : valV kvs (ls, n) with
    | none =>
      refine ite_f rfl ?_
      exact ⟨_, rfl, b, ls, n, rfl, hb, hl0, fun j hj => q _ (.inr ⟨hv0, j, rfl, hj⟩)⟩
    | some v =>
      refine ite_t rfl ?_
      refine ⟨_, rfl, x, _, dx, _, .ref d, rfl, hx, T.cl_PaperCaller, T.na_PaperCaller_paper, rfl, _, rfl, d, v, rfl, ?_, q v (.inl hv0)⟩
      rw [← hv0]
      exact DGet.t hd (StH.of hb)
/-! ### PaperRoad.__init -/
def sp_PaperRoad___init__ (K : PySem.W.Frag) (C_PaperCaller C_PaperRoad : Addr) : Sp := fun vs H Q _ => ∃ (x dx l : Addr) (us : List V) (ps : List ((List Int × Int) × V)), vs = [.ref x, .ref l] ∧ H x = some (.ins C_PaperRoad dx []) ∧ H l = some (.lst us) ∧ us.length ≤ 100 ∧ AllAt (TripV H) ps us ∧ ∀ (d : Addr) (H' : Hp), H d = none → H' x = some (.ins C_PaperRoad dx [("paper", .ref d)]) → H' d = some (.dT (putAll [] ps)) → (∀ b o, b ≠ x → H b = some o → H' b = some o) → Q .non H'
theorem ok_PaperRoad___init__ {fd  : FuncData} (T : Txt K mg f_may_lose f_least_left f_PaperCaller___init__ f_PaperCaller_call f_PaperRoad___init__ f_PaperRoad_loses f_law_cell_at f_law_standing f_law_papers f_law_due_call f_law_due_loss f_law_asked f_law C_PaperCaller C_PaperRoad C_Caller C_Road) (F : Fun K "__init__" "PaperRoad.__init__" s_PaperRoad___init__ f_PaperRoad___init__ fd) : FnOk P w K mg base CX0 1 f_PaperRoad___init__ fd ["self", "paper"] (sp_PaperRoad___init__ K C_PaperCaller C_PaperRoad) := by
  refine F.ok sc_PaperRoad___init__ (fun vs H Q E h => ?_) (fun cdv A outer s H vs Q E hr h => ?_)
  · rcases h with ⟨x, dx, l, us, ps, rfl, hx, hl, hul, hps, q⟩ <;> rfl
  · obtain ⟨x, dx, l, us, ps, rfl, hx, hl, hul, hps, q⟩ := h
    refine ⟨_, (pss_one (ps_fld (pv 0) (pe_callTy (call_dictT K (hu24 hr) rfl) (by rfl) T.n_dict boot_dict (pa_cons (pe_comp (pi_sq (pv 1)) _ rfl cs_PaperRoad___init___0 rfl rfl (fun _ _ _ _ => (pg_tupK K (n := 3) rfl (pgs_cons (pg_name (i := 0) nd_PaperRoad___init___0 rfl (Or.inl rfl)) (pgs_cons (pg_name (i := 1) nd_PaperRoad___init___0 rfl (Or.inl rfl)) (pgs_cons (pg_name (i := 2) nd_PaperRoad___init___0 rfl (Or.inl rfl)) pgs_nil))))) (fun _ _ _ _ => pts_nil) (fun _ _ _ _ => (pe_tup (pa_cons (pv 0) (pa_cons (pv 2) pa_nil))))) pa_nil)) rfl)), ?_⟩
    refine ⟨_, rfl, l, rfl, .inl ⟨⟨_, SqL.of hl⟩, fun D hD => ?_⟩⟩
    refine comp_list3 (K := K) (a := l) (xs := us) (fun i zs H' => H' D = some (.lst zs) ∧ Same H H' ∧ AllAt (PairV H') (ps.take i) zs) ⟨upd_same, Same.upd hD, AllAt.nil⟩ (fun i zs H' _ ⟨_, s, _⟩ => SqL.of (s _ _ hl)) ?_ ?_ ?_ ?_
    · rintro i u zs H' hu ⟨hD', s', hzs⟩
      obtain ⟨p, hp, t, b, w, rfl, ht, hb⟩ := hps.get hu
      have hi := (List.getElem?_eq_some_iff.mp hu).1
      have hzl := hzs.1
      rw [List.length_take] at hzl
      refine ⟨t, .ref b, w, p.2, rfl, SqT.of (s' _ _ ht), ?_⟩
      simp only [tYes, ↓reduceIte]
      refine ⟨_, rfl, _, rfl, lenOk, fun T0 hT0 => ?_⟩
      have s2 : Same H' (upd H' T0 (.tup [.ref b, p.2])) := Same.upd hT0
      have e2 : (upd H' T0 (.tup [.ref b, p.2])) T0 = some (.tup [.ref b, p.2]) := upd_same
      generalize upd H' T0 (.tup [.ref b, p.2]) = H2 at s2 e2 ⊢

      have hD2 := s2 _ _ hD'
      have t3 : TupS H2 (upd H2 D (.lst (zs ++ [.ref T0]))) := TupS.lst hD2
      refine ⟨hD2, small1000 (by omega), upd_same, (s'.trans s2).new hD, ?_⟩
      rw [tk_snoc hp]
      exact (hzs.imp fun _ _ z => (z.same s2).tups t3).append (AllAt.one ⟨T0, b, rfl, t3 _ _ e2, (sth_same (s'.trans s2) hb).up t3⟩)
    · intro σ H1 Q1 Q2 hQ z
      exact hQ _ _ z
    · rintro σ H1 Q1 Q2 hQ ⟨v, e1, v2, e2, z1, z2⟩
      exact ⟨v, e1, v2, e2, z1, fun p hp => hQ _ _ (z2 p hp)⟩
    rintro zs H1 ⟨hD1, s1, hzs⟩
    rw [hps.1, List.take_length] at hzs
    refine ⟨D, zs, ps, rfl, SqL.of hD1, hzs.1, (fun j u p e1 e2 => hzs.2 j p u e2 e1), fun d hd => ?_⟩
    have hx1 := s1 _ _ hx
    have hxd : x ≠ d := ne_of_none hx1 hd
    have e1 : (upd H1 d (.dT (putAll [] ps))) x = some (.ins C_PaperRoad dx []) := (upd_ne hxd).trans hx1
    refine ⟨_, rfl, x, _, dx, _, rfl, e1, T.cl_PaperRoad, T.na_PaperRoad_paper, (by show 0 < 1000; decide), ?_⟩
    refine q d _ (s1.free hd) upd_same ((upd_ne hxd.symm).trans upd_same) fun b o hb e => ?_
    rw [upd_ne hb, upd_ne (ne_of_none (s1 _ _ e) hd)]
    exact s1 _ _ e
/-! ### PaperRoad.loses -/
def sp_PaperRoad_loses (K : PySem.W.Frag) (C_PaperCaller C_PaperRoad : Addr) : Sp := fun vs H Q _ => ∃ (x dx d a b : Addr) (kvs : List ((List Int × Int) × V)) (ws ls : List Int) (calm : Option Int) (q : Int) (who : Nat), vs = [.ref x, .ref a, .ref b, .int who] ∧ H x = some (.ins C_PaperRoad dx [("paper", .ref d)]) ∧ H d = some (.dT kvs) ∧ HallAt H a ws calm ∧ StAt H b ls q ∧
  (valV kvs (ls, q) = none → Q (.bl false) H) ∧ (∀ v, valV kvs (ls, q) = some v → ∃ (t : Addr) (bs : List Bool), v = .ref t ∧ H t = some (.tup (bs.map V.bl)) ∧ who < bs.length ∧ Q (.bl ((!decide (calm = none) && decide (q = 0)) && bs.getD who false)) H)
theorem ok_PaperRoad_loses {fd fd_may_lose : FuncData} (T : Txt K mg f_may_lose f_least_left f_PaperCaller___init__ f_PaperCaller_call f_PaperRoad___init__ f_PaperRoad_loses f_law_cell_at f_law_standing f_law_papers f_law_due_call f_law_due_loss f_law_asked f_law C_PaperCaller C_PaperRoad C_Caller C_Road) (F : Fun K "loses" "PaperRoad.loses" s_PaperRoad_loses f_PaperRoad_loses fd) (G_may_lose : FnOk P w K mg base CX0 1 f_may_lose fd_may_lose ["hall", "standing"] (sp_may_lose K)) (B_may_lose : Binds K fd_may_lose ["hall", "standing"] []) : FnOk P w K mg base CX0 2 f_PaperRoad_loses fd ["self", "hall", "standing", "who"] (sp_PaperRoad_loses K C_PaperCaller C_PaperRoad) := by
  refine F.ok sc_PaperRoad_loses (fun vs H Q E h => ?_) (fun cdv A outer s H vs Q E hr h => ?_)
  · rcases h with ⟨x, dx, d, a, b, kvs, ws, ls, calm, n, who, rfl, hx, hd, ha, hb, q1, q2⟩ <;> rfl
  · obtain ⟨x, dx, d, a, b, kvs, ws, ls, calm, n, who, rfl, hx, hd, ha, hb, q1, q2⟩ := h
    refine ⟨_, (pss_one (ps_ret (pe_andX (pe_call G_may_lose (hr.mono (by decide)) rfl T.m_may_lose T.k_may_lose B_may_lose .nil pass0 (pa_cons (pv 1) (pa_cons (pv 2) pa_nil))) (pe_andX (pe_cmp (pc_din (hu20 hr) (pv 2) (pe_fld (pv 0) rfl)) rfl) (pe_one (pe_ix (ix_sq K) (pe_dget (hu20 hr) (pe_fld (pv 0) rfl) (pv 2) (fun _ _ => rfl)) (pv 3) (fun _ _ => rfl))))))), ?_⟩
    refine ⟨_, rfl, _, rfl, a, b, ws, ls, calm, n, rfl, ha, hb, ?_⟩
    cases hv0 : valV kvs (ls, n) with
    | none =>
      refine ⟨_, false, rfl, fun _ Q' z => ⟨_, rfl, _, rfl, x, _, dx, _, .ref d, rfl, hx, T.cl_PaperRoad, T.na_PaperRoad_paper, rfl, d, _, rfl, DGet.t hd (StH.of hb), _, false, rfl, ?_, ?_⟩, ?_⟩
      · intro h
        rw [hv0] at h
        exact absurd h (by decide)
      · rw [hv0]
        exact z
      · rw [Bool.and_false]
        exact q1 hv0
    | some v =>
      obtain ⟨t, bs, rfl, ht, hw, q3⟩ := q2 v hv0
      refine ⟨_, bs.getD who false, rfl, fun _ Q' z => ⟨_, rfl, _, rfl, x, _, dx, _, .ref d, rfl, hx, T.cl_PaperRoad, T.na_PaperRoad_paper, rfl, d, _, rfl, DGet.t hd (StH.of hb), _, bs.getD who false, rfl, fun _ Q2 z2 => ⟨_, rfl, x, _, dx, _, .ref d, rfl, hx, T.cl_PaperRoad, T.na_PaperRoad_paper, rfl, _, rfl, d, .ref t, rfl, ?_, _, rfl, t, _, _, _, rfl, rfl, .inr (SqT.of ht), bl_at hw, z2⟩, ?_⟩, q3⟩
      · rw [← hv0]
        exact DGet.t hd (StH.of hb)
      · rw [hv0]
        exact z
/-! ### law_cell_at -/
def sp_law_cell_at (K : PySem.W.Frag) : Sp := fun vs H Q _ => ∃ (a : Addr) (ns : List Int) (k : Int), vs = [.ref a, .int k] ∧ SqL K H a (ns.map V.int) ∧ 0 ≤ k ∧ Q (.int (cellI ns k)) H
theorem ok_law_cell_at {fd  : FuncData} (T : Txt K mg f_may_lose f_least_left f_PaperCaller___init__ f_PaperCaller_call f_PaperRoad___init__ f_PaperRoad_loses f_law_cell_at f_law_standing f_law_papers f_law_due_call f_law_due_loss f_law_asked f_law C_PaperCaller C_PaperRoad C_Caller C_Road) (F : Fun K "_law_cell_at" "_law_cell_at" s_law_cell_at f_law_cell_at fd) : FnOk P w K mg base CX0 1 f_law_cell_at fd ["script", "k"] (sp_law_cell_at K) := by
  refine F.ok sc_law_cell_at (fun vs H Q E h => ?_) (fun cdv A outer s H vs Q E hr h => ?_)
  · rcases h with ⟨a, ns, k, rfl, hS, hk, q⟩ <;> rfl
  · obtain ⟨a, ns, k, rfl, hS, hk, q⟩ := h
    refine ⟨_, (pss_cons (ps_if (pt_cmpR op_lt (pv 1) (pe_callB (call_lenK K) (by rfl) T.n_len PySem.boot_len (pa_cons (pv 0) pa_nil)) (nomark _)) (pss_one (ps_ret (pe_ix (ix_sq K) (pv 0) (pv 1) (fun _ _ => rfl)))) pss_nil) (pss_one (ps_ret pe_int))), ?_⟩
    refine ⟨_, rfl, _, rfl, a, _, rfl, .inl hS, _, _, rfl, rfl, _, rfl, ?_⟩
    refine ite2 (fun hlt => ?_) (fun hlt => ?_)
    · have hlt' : k < ns.length := by simpa using hlt
      exact ⟨_, rfl, _, rfl, a, _, _, _, rfl, rfl, .inl hS, atI_int hk hlt', q⟩
    · have hlt' : ¬ k < ns.length := by simpa using hlt
      rw [cellI_out hk hlt'] at q
      exact q
/-! ### law_standing -/
def sp_law_standing (K : PySem.W.Frag) : Sp := fun vs H Q _ => ∃ (a : Addr) (ws : List Int) (cm : Option Int) (c : Int), vs = [.ref a, .int c] ∧ HallAt H a ws cm ∧ ws.length ≤ 8 ∧ (∀ x ∈ ws, 1 ≤ x) ∧ (∀ d, cm = some d → 1 ≤ d) ∧ ∀ (p : Addr) (ls : List Int) (q : Int) (H' : Hp), Same H H' → StAt H' p ls q → ls.length = ws.length → Q (.ref p) H'
theorem ok_law_standing {fd  : FuncData} (T : Txt K mg f_may_lose f_least_left f_PaperCaller___init__ f_PaperCaller_call f_PaperRoad___init__ f_PaperRoad_loses f_law_cell_at f_law_standing f_law_papers f_law_due_call f_law_due_loss f_law_asked f_law C_PaperCaller C_PaperRoad C_Caller C_Road) (F : Fun K "_law_standing" "_law_standing" s_law_standing f_law_standing fd) : FnOk P w K mg base CX0 1 f_law_standing fd ["hall", "cell"] (sp_law_standing K) := by
  refine F.ok sc_law_standing (fun vs H Q E h => ?_) (fun cdv A outer s H vs Q E hr h => ?_)
  · rcases h with ⟨a, ws, cm, c, rfl, ⟨wt, ha1, ha2⟩, hw8, hw1, hcm, q⟩ <;> rfl
  · obtain ⟨a, ws, cm, c, rfl, ⟨wt, ha1, ha2⟩, hw8, hw1, hcm, q⟩ := h
    refine ⟨_, (pss_cons (ps_set (i := 2) sc_law_standing.nd rfl (Or.inl rfl) (pe_op op_mod (pe_op op_mulO (pe_op op_mod (pv 1) (pe_op op_pow pe_int pe_int)) pe_int) pe_int)) (pss_cons (ps_set (i := 3) sc_law_standing.nd rfl (Or.inl rfl) (pe_lst pa_nil)) (pss_cons (ps_for PassesOwn.never rfl (pi_sq (pe_ix (ix_sq K) (pv 0) pe_int (fun _ _ => rfl))) (pg_name (i := 4) sc_law_standing.nd rfl (Or.inl rfl)) (pss_cons (ps_expr (pe_bm PySem.F.plainAttrs_list PySem.F.slot_list_append PySem.F.type_list_append mt_append (pv 3) (pa_cons (pe_op op_add pe_int (pe_op op_mod (pv 2) (pv 4))) pa_nil))) (pss_one (ps_set (i := 2) sc_law_standing.nd rfl (Or.inl rfl) (pe_op op_add (pe_op op_fdiv (pv 2) pe_int) (pe_op op_mulO pe_int (pe_op op_mod (pv 2) pe_int))))))) (pss_cons (ps_if (pt_cmpR op_isN (pe_ix (ix_sq K) (pv 0) pe_int (fun _ _ => rfl)) pe_non (nomark _)) (pss_one (ps_ret (pe_tup (pa_cons (pe_callTy call_tuple_of (by rfl) T.n_tuple boot_tuple (pa_cons (pv 3) pa_nil)) (pa_cons pe_int pa_nil))))) pss_nil) (pss_one (ps_ret (pe_tup (pa_cons (pe_callTy call_tuple_of (by rfl) T.n_tuple boot_tuple (pa_cons (pv 3) pa_nil)) (pa_cons (pe_ix (ix_sq K) (pe_lst (pa_cons pe_int (pa_cons (pe_op op_mod (pe_op op_fdiv (pv 1) pe_int) (pe_op op_add (pe_ix (ix_sq K) (pv 0) pe_int (fun _ _ => rfl)) pe_int)) pa_nil))) (pe_op op_mod (pv 1) pe_int) (fun _ _ => rfl)) pa_nil))))))))), ?_⟩
    have hm0 := emod_range (c % 10 ^ (40 : Int).toNat * 48271) (show (0 : Int) < 2147483647 by decide)
    refine ⟨_, rfl, _, _, rfl, rfl, ⟨by decide, by decide, by decide⟩, _, _, rfl, rfl, pos40, _, _, rfl, rfl, mulOk_r (by decide) (by decide), _, _, rfl, rfl, by simp, ?_⟩
    refine ⟨lenOk, fun L hL => ?_⟩
    have s1 : Same H (upd H L (.lst [])) := Same.upd hL
    have e1 : (upd H L (.lst [])) L = some (.lst []) := upd_same
    generalize upd H L (.lst []) = H1 at s1 e1 ⊢

    have g1 := s1 _ _ ha1
    have g2 := s1 _ _ ha2
    refine ⟨_, rfl, a, _, _, _, rfl, rfl, .inr (SqT.of g1), rfl, wt, rfl, .inr ⟨⟨_, SqT.of g2⟩, ?_⟩⟩
    refine for_tup (K := K) (a := wt) (xs := ws.map V.int) (fun i σ H' => ∃ (ls : List Int) (num : Int) (v4 : Option V), σ = [some (.ref a), some (.int c), some (.int num), some (.ref L), v4] ∧ ls.length = i ∧ 0 ≤ num ∧ num < 2 ^ 40 ∧ H' L = some (.lst (ls.map V.int)) ∧ Same H H') ⟨[], _, none, rfl, rfl, hm0.1, by omega, e1, s1⟩ (fun i σ H' _ ⟨_, _, _, _, _, _, _, _, s⟩ => SqT.of (s _ _ ha2)) ?_ ?_
    · rintro i y σ H' hy ⟨ls, num, v4, rfl, hll, hn0, hn1, hL', s'⟩
      have hi := (List.getElem?_eq_some_iff.mp hy).1
      rw [List.length_map] at hi
      rw [List.getElem?_map] at hy
      obtain ⟨x, hx, rfl⟩ := Option.map_eq_some_iff.mp hy
      have hx1 := hw1 x (List.mem_of_getElem? hx)
      have hm4 := emod_range num (show (0 : Int) < 4 by decide)
      refine ⟨_, rfl, .inl ⟨rfl, _, SqL.of hL'⟩, _, rfl, _, rfl, _, _, rfl, rfl, (by show 0 < x; omega), _, _, rfl, rfl, L, _, _, rfl, rfl, hL', small1000 (by rw [List.length_map]; omega), ?_⟩
      refine ⟨_, rfl, _, _, rfl, rfl, ⟨by decide, by decide⟩, _, rfl, _, _, rfl, rfl, by simp, _, _, rfl, rfl, mulOk_l (by decide) (by decide), _, _, rfl, rfl, ?_⟩
      exact ⟨ls ++ [_], num / 4 + 40503 * (num % 4), _, rfl, len_snoc hll, by omega, by omega, lst_snoc, s'.new hL⟩
    rintro σ H2 ⟨ls, num, v4, rfl, hll, hn0, hn1, hL2, s2⟩
    rw [List.length_map] at hll
    have k1 := s2 _ _ ha1
    refine ⟨_, rfl, a, _, _, _, rfl, rfl, .inr (SqT.of k1), rfl, rfl, _, rfl, ?_⟩
    refine ite2 (fun h0 => ?_) (fun h0 => ?_)
    · refine ⟨_, rfl, L, _, rfl, .inl ⟨SqL.of hL2, fun t ht => ?_⟩⟩
      have s3 : Same H2 (upd H2 t (.tup (ls.map V.int))) := Same.upd ht
      have e3 : (upd H2 t (.tup (ls.map V.int))) t = some (.tup (ls.map V.int)) := upd_same
      generalize upd H2 t (.tup (ls.map V.int)) = H3 at s3 e3 ⊢

      refine ⟨lenOk, fun p hp => ?_⟩
      exact q p ls 0 _ ((s2.trans s3).trans (Same.upd hp)) ⟨t, upd_same, (Same.upd hp) _ _ e3⟩ hll
    cases cm with
    | none => exact absurd rfl h0
    | some d =>
      have hd1 := hcm d rfl
      refine ⟨_, rfl, L, _, rfl, .inl ⟨SqL.of hL2, fun t ht => ?_⟩⟩
      have s3 : Same H2 (upd H2 t (.tup (ls.map V.int))) := Same.upd ht
      have e3 : (upd H2 t (.tup (ls.map V.int))) t = some (.tup (ls.map V.int)) := upd_same
      generalize upd H2 t (.tup (ls.map V.int)) = H3 at s3 e3 ⊢

      refine ⟨_, rfl, _, _, rfl, rfl, ⟨by decide, by decide⟩, _, rfl, a, _, _, _, rfl, rfl, .inr (SqT.of (s3 _ _ k1)), rfl, _, _, rfl, rfl, _, _, rfl, rfl, (by show 0 < d + 1; omega), lenOk, fun F hF => ?_⟩
      have s4 : Same H3 (upd H3 F (.lst [.int 0, .int (c / 3 % (d + 1))])) := Same.upd hF
      have e4 : (upd H3 F (.lst [.int 0, .int (c / 3 % (d + 1))])) F = some (.lst [.int 0, .int (c / 3 % (d + 1))]) := upd_same
      generalize upd H3 F (.lst [.int 0, .int (c / 3 % (d + 1))]) = H4 at s4 e4 ⊢

      have h2 := emod_range c (show (0 : Int) < 2 by decide)
      obtain ⟨qv, ev, _⟩ := atI2 (x := 0) (y := c / 3 % (d + 1)) h2.1 h2.2
      refine ⟨_, rfl, _, _, rfl, rfl, by simp, F, _, _, _, rfl, rfl, .inl (SqL.of e4), ev, lenOk, fun p hp => ?_⟩
      exact q p ls qv _ (((s2.trans s3).trans s4).trans (Same.upd hp)) ⟨t, upd_same, (Same.upd hp) _ _ (s4 _ _ e3)⟩ hll
/-! ### law_papers -/
def sp_law_papers (K : PySem.W.Frag) : Sp := fun vs H Q _ => ∃ (a c : Addr) (ws cs : List Int) (cm : Option Int), vs = [.ref a, .ref c] ∧ HallAt H a ws cm ∧ H c = some (.lst (cs.map V.int)) ∧ cs.length ≤ 63 ∧ 0 < ws.length ∧ ws.length ≤ 8 ∧ (∀ x ∈ ws, 1 ≤ x) ∧ (∀ d, cm = some d → 1 ≤ d) ∧
  ∀ (p l m : Addr) (us zs : List V) (es : List Ent) (H' : Hp), Same H H' → H' p = some (.tup [.ref l, .ref m]) → H' l = some (.lst us) → H' m = some (.lst zs) → l ≠ m → AllAt (KeptV H') es us → AllAt (BrokV H') es zs → (es.map (·.1)).Nodup → (∀ e ∈ es, e.2.2.length = ws.length) → es.length ≤ 63 → Q (.ref p) H'
theorem ok_law_papers {fd fd_law_standing : FuncData} (T : Txt K mg f_may_lose f_least_left f_PaperCaller___init__ f_PaperCaller_call f_PaperRoad___init__ f_PaperRoad_loses f_law_cell_at f_law_standing f_law_papers f_law_due_call f_law_due_loss f_law_asked f_law C_PaperCaller C_PaperRoad C_Caller C_Road) (F : Fun K "_law_papers" "_law_papers" s_law_papers f_law_papers fd) (G_law_standing : FnOk P w K mg base CX0 1 f_law_standing fd_law_standing ["hall", "cell"] (sp_law_standing K)) (B_law_standing : Binds K fd_law_standing ["hall", "cell"] []) : FnOk P w K mg base CX0 2 f_law_papers fd ["hall", "cells"] (sp_law_papers K) := by
  refine F.ok sc_law_papers (fun vs H Q E h => ?_) (fun cdv A outer s H vs Q E hr h => ?_)
  · rcases h with ⟨a, c, ws, cs, cm, rfl, hh, hc, hcl, hw0, hw8, hw1, hcm, q⟩ <;> rfl
  · obtain ⟨a, c, ws, cs, cm, rfl, hh, hc, hcl, hw0, hw8, hw1, hcm, q⟩ := h
    refine ⟨_, (pss_cons (ps_set (i := 2) sc_law_papers.nd rfl (Or.inl rfl) (pe_lst pa_nil)) (pss_cons (ps_set (i := 3) sc_law_papers.nd rfl (Or.inl rfl) (pe_lst pa_nil)) (pss_cons (ps_set (i := 4) sc_law_papers.nd rfl (Or.inl rfl) (pe_lst pa_nil)) (pss_cons (ps_for PassesOwn.never rfl (pi_sq (pv 1)) (pg_name (i := 5) sc_law_papers.nd rfl (Or.inl rfl)) (pss_cons (ps_set (i := 6) sc_law_papers.nd rfl (Or.inl rfl) (pe_call G_law_standing (hr.mono (by decide)) rfl T.m_law_standing T.k_law_standing B_law_standing .nil pass0 (pa_cons (pv 0) (pa_cons (pv 5) pa_nil)))) (pss_one (ps_ifJ (pt_cmpR (op_notInD K hr) (pv 6) (pv 4) rfl) (pss_cons (ps_expr (pe_bm PySem.F.plainAttrs_list PySem.F.slot_list_append PySem.F.type_list_append mt_append (pv 4) (pa_cons (pv 6) pa_nil))) (pss_cons (ps_set (i := 7) sc_law_papers.nd rfl (Or.inr rfl) (pe_op op_mod (pe_op op_mulO (pe_op op_mod (pv 5) (pe_op op_pow pe_int pe_int)) pe_int) pe_int)) (pss_cons (ps_expr (pe_bm PySem.F.plainAttrs_list PySem.F.slot_list_append PySem.F.type_list_append mt_append (pv 2) (pa_cons (pe_tup (pa_cons (pv 6) (pa_cons (pe_op op_mod (pv 7) (pe_callB (call_lenK K) (by rfl) T.n_len PySem.boot_len (pa_cons (pe_ix (ix_sq K) (pv 0) pe_int (fun _ _ => rfl)) pa_nil))) pa_nil))) pa_nil))) (pss_cons (ps_set (i := 8) sc_law_papers.nd rfl (Or.inl rfl) (pe_callTy call_tuple_of (by rfl) T.n_tuple boot_tuple (pa_cons (pe_comp (pi_range1 (by rfl) T.n_range (pa_cons (pe_callB (call_lenK K) (by rfl) T.n_len PySem.boot_len (pa_cons (pe_ix (ix_sq K) (pv 0) pe_int (fun _ _ => rfl)) pa_nil)) pa_nil)) _ rfl cs_law_papers_0 rfl rfl (fun _ _ _ _ => (pg_name (i := 0) nd_law_papers_0 rfl (Or.inl rfl))) (fun _ _ _ _ => pts_nil) (fun _ _ _ _ => (pe_cmpR op_gt (pe_op op_mod (pe_op op_add (pe_op op_fdiv (pv 1) (pe_op op_add (pv 0) pe_int)) (pv 0)) pe_int) pe_int (nomark _)))) pa_nil))) (pss_one (ps_expr (pe_bm PySem.F.plainAttrs_list PySem.F.slot_list_append PySem.F.type_list_append mt_append (pv 3) (pa_cons (pe_tup (pa_cons (pv 6) (pa_cons (pe_op op_add pe_int (pe_op op_mod (pe_op op_mulO (pv 7) (pe_op op_pow pe_int pe_int)) (pe_ix (ix_sq K) (pe_lst (pa_cons pe_int (pa_cons (pe_op op_pow pe_int pe_int) pa_nil))) (pe_op op_mod (pv 7) pe_int) (fun _ _ => rfl)))) (pa_cons (pv 8) pa_nil)))) pa_nil)))))))) pss_nil)))) (pss_one (ps_ret (pe_tup (pa_cons (pv 2) (pa_cons (pv 3) pa_nil))))))))), ?_⟩
    refine ⟨lenOk, fun K0 hK0 => ?_⟩
    have s1 : Same H (upd H K0 (.lst [])) := Same.upd hK0
    have e1 : (upd H K0 (.lst [])) K0 = some (.lst []) := upd_same
    generalize upd H K0 (.lst []) = H1 at s1 e1 ⊢

    refine ⟨lenOk, fun B0 hB0 => ?_⟩
    have s2 : Same H1 (upd H1 B0 (.lst [])) := Same.upd hB0
    have e2 : (upd H1 B0 (.lst [])) B0 = some (.lst []) := upd_same
    generalize upd H1 B0 (.lst []) = H2 at s2 e2 ⊢

    refine ⟨lenOk, fun G0 hG0 => ?_⟩
    have s3 : Same H2 (upd H2 G0 (.lst [])) := Same.upd hG0
    have e3 : (upd H2 G0 (.lst [])) G0 = some (.lst []) := upd_same
    generalize upd H2 G0 (.lst []) = H3 at s3 e3 ⊢

    have hKB : K0 ≠ B0 := ne_of_none e1 hB0
    have hKG : K0 ≠ G0 := ne_of_none (s2 _ _ e1) hG0
    have hBG : B0 ≠ G0 := ne_of_none e2 hG0
    have s13 := (s1.trans s2).trans s3
    have nB : H B0 = none := s1.free hB0
    have nG : H G0 = none := (s1.trans s2).free hG0
    refine ⟨_, rfl, c, rfl, .inl ⟨⟨_, SqL.of (s13 _ _ hc)⟩, ?_⟩⟩
    refine for_list (K := K) (a := c) (xs := cs.map V.int) (fun i σ H' => ∃ (es : List Ent) (us zs gs : List V) (v5 v6 v7 v8 : Option V), σ = [some (.ref a), some (.ref c), some (.ref K0), some (.ref B0), some (.ref G0), v5, v6, v7, v8] ∧ Same H H' ∧ H' K0 = some (.lst us) ∧ H' B0 = some (.lst zs) ∧ H' G0 = some (.lst gs) ∧ AllAt (KeptV H') es us ∧ AllAt (BrokV H') es zs ∧ AllAt (KeyV H') es gs ∧ (es.map (·.1)).Nodup ∧ (∀ e ∈ es, e.2.2.length = ws.length) ∧ es.length ≤ i)
      ⟨[], [], [], [], _, _, _, _, rfl, s13, s3 _ _ (s2 _ _ e1), s3 _ _ e2, e3, AllAt.nil, AllAt.nil, AllAt.nil, List.Pairwise.nil, (fun e he => by cases he), Nat.le_refl _⟩ (fun i σ H' _ ⟨_, _, _, _, _, _, _, _, _, s, _⟩ => SqL.of (s _ _ hc)) ?_ ?_
    · rintro i y σ H4 hy ⟨es, us, zs, gs, v5, v6, v7, v8, rfl, s4, hK4, hB4, hG4, ak, ab, ag, nd, hal, hle⟩
      have hi := (List.getElem?_eq_some_iff.mp hy).1
      rw [List.length_map] at hi
      rw [List.getElem?_map] at hy
      obtain ⟨x, hx, rfl⟩ := Option.map_eq_some_iff.mp hy
      clear hy hx
      have ul := ak.1
      have zl := ab.1
      have gl := ag.1
      refine ⟨_, rfl, _, rfl, a, ws, cm, x, rfl, hh.same s4, hw8, hw1, hcm, fun st ls n H5 s5 hst hll => ?_⟩
      have hG5 := s5 _ _ hG4
      have ag5 := ag.imp fun _ _ z => KeyV.tups (Same.tups s5) z
      refine ⟨_, rfl, _, rfl, G0, gs, dS (ls, n), es.map (fun e => dS e.1), rfl, SqL.of hG5, rp_dS (StH.of hst), rpAll_keys ag5, by rw [depth_dS]; decide, _, rfl, _, fun hb => ?_, fun hb => ?_, fun _ _ z => z⟩
      · rw [if_pos rfl, any_keys] at hb
        have hnew : (ls, n) ∉ es.map (·.1) := by simpa using hb
        clear hb
        refine ⟨_, rfl, .inl ⟨rfl, _, SqL.of hG5⟩, _, rfl, G0, _, _, rfl, rfl, hG5, small1000 (by omega), ?_⟩
        have s6 : Same H (upd H5 G0 (.lst (gs ++ [.ref st]))) := (s4.trans s5).new nG
        have t6 : TupS H5 (upd H5 G0 (.lst (gs ++ [.ref st]))) := TupS.lst hG5
        have hG6 : (upd H5 G0 (.lst (gs ++ [.ref st]))) G0 = some (.lst (gs ++ [.ref st])) := upd_same
        have hK6 : (upd H5 G0 (.lst (gs ++ [.ref st]))) K0 = _ := (upd_ne hKG).trans (s5 _ _ hK4)
        have hB6 : (upd H5 G0 (.lst (gs ++ [.ref st]))) B0 = _ := (upd_ne hBG).trans (s5 _ _ hB4)
        generalize upd H5 G0 (.lst (gs ++ [.ref st])) = H6 at s6 t6 hG6 hK6 hB6 ⊢
        have hst6 := hst.tups t6
        have t46 : TupS H4 H6 := (Same.tups s5).trans t6
        obtain ⟨wt, ha1, ha2⟩ := hh
        have g1 := s6 _ _ ha1
        have g2 := s6 _ _ ha2
        have hm0 := emod_range (x % 10 ^ (40 : Int).toNat * 69621) (show (0 : Int) < 2147483629 by decide)
        refine ⟨_, rfl, _, _, rfl, rfl, ⟨by decide, by decide, by decide⟩, _, _, rfl, rfl, pos40, _, _, rfl, rfl, mulOk_r (by decide) (by decide), _, _, rfl, rfl, by simp, ?_⟩
        refine ⟨_, rfl, .inl ⟨rfl, _, SqL.of hK6⟩, _, rfl, _, rfl, _, rfl, a, _, _, _, rfl, rfl, .inr (SqT.of g1), rfl, wt, _, rfl, .inr (SqT.of g2), _, _, rfl, rfl, (by show 0 < ((ws.map V.int).length : Int); rw [List.length_map]; omega), lenOk, fun T1 hT1 => ?_⟩
        have s7 : Same H6 (upd H6 T1 (.tup [.ref st, .int ((x % 10 ^ (40 : Int).toNat * 69621 % 2147483629) % ((ws.map V.int).length : Int))])) := Same.upd hT1
        have e7 : (upd H6 T1 (.tup [.ref st, .int ((x % 10 ^ (40 : Int).toNat * 69621 % 2147483629) % ((ws.map V.int).length : Int))])) T1 = some (.tup [.ref st, .int ((x % 10 ^ (40 : Int).toNat * 69621 % 2147483629) % ((ws.map V.int).length : Int))]) := upd_same
        generalize upd H6 T1 (.tup [.ref st, .int ((x % 10 ^ (40 : Int).toNat * 69621 % 2147483629) % ((ws.map V.int).length : Int))]) = H7 at s7 e7 ⊢

        have hK7 := s7 _ _ hK6
        refine ⟨K0, _, _, rfl, rfl, hK7, small1000 (by omega), ?_⟩
        have s8 : Same H (upd H7 K0 (.lst (us ++ [.ref T1]))) := (s6.trans s7).new hK0
        have t8 : TupS H7 (upd H7 K0 (.lst (us ++ [.ref T1]))) := TupS.lst hK7
        have hK8 : (upd H7 K0 (.lst (us ++ [.ref T1]))) K0 = some (.lst (us ++ [.ref T1])) := upd_same
        have hG8 : (upd H7 K0 (.lst (us ++ [.ref T1]))) G0 = _ := (upd_ne hKG.symm).trans (s7 _ _ hG6)
        have hB8 : (upd H7 K0 (.lst (us ++ [.ref T1]))) B0 = _ := (upd_ne hKB.symm).trans (s7 _ _ hB6)
        generalize upd H7 K0 (.lst (us ++ [.ref T1])) = H8 at s8 t8 hG8 hK8 hB8 ⊢
        have t68 : TupS H6 H8 := (Same.tups s7).trans t8
        have eT1 := t8 _ _ e7
        have hst8 := hst6.tups t68
        have k1 := s8 _ _ ha1
        have k2 := s8 _ _ ha2
        refine ⟨_, rfl, a, _, _, _, rfl, rfl, .inr (SqT.of k1), rfl, wt, _, rfl, .inr (SqT.of k2), ((ws.map V.int).length : Int), rfl, by omega, by rw [List.length_map]; omega, fun D hD => ?_⟩
        refine comp_range (fun i ys H' => ∃ bs : List Bool, ys = bs.map V.bl ∧ bs.length = i ∧ H' D = some (.lst ys) ∧ Same H8 H') ⟨[], rfl, rfl, upd_same, Same.upd hD⟩ ?_ ?_
        · rintro i ys H' hi' ⟨bs, rfl, hbl, hD', s'⟩ Qe hQ
          rw [List.length_map] at hi'
          refine ⟨_, rfl, _, rfl, _, _, rfl, rfl, _, _, rfl, rfl, ⟨by omega, by omega⟩, _, rfl, _, _, rfl, rfl, _, _, rfl, rfl, by simp, _, _, rfl, rfl, ?_⟩
          exact hQ _ _ hD' (small1000 (by rw [List.length_map]; omega)) ⟨bs ++ [_], bl_snoc _ _, len_snoc hbl, upd_same, s'.new hD⟩
        rintro ys H9 ⟨bs, rfl, hbl, hD9, s9⟩
        rw [List.length_map] at hbl
        refine ⟨D, _, rfl, .inl ⟨SqL.of hD9, fun M hM => ?_⟩⟩
        have s10 : Same H9 (upd H9 M (.tup (bs.map V.bl))) := Same.upd hM
        have e10 : (upd H9 M (.tup (bs.map V.bl))) M = some (.tup (bs.map V.bl)) := upd_same
        generalize upd H9 M (.tup (bs.map V.bl)) = H10 at s10 e10 ⊢

        have s810 := s9.trans s10
        have hB10 := s810 _ _ hB8
        have hnb : intBits (x % 10 ^ (40 : Int).toNat * 69621 % 2147483629) ≤ 31 := bits_lt (by omega)
        have h2 := emod_range (x % 10 ^ (40 : Int).toNat * 69621 % 2147483629) (show (0 : Int) < 2 by decide)
        obtain ⟨few, ef, hf⟩ := atI2 (x := 7) (y := 10 ^ (30 : Int).toNat) h2.1 h2.2
        have p30 : (0 : Int) < 10 ^ (30 : Int).toNat := by decide
        have hfew : 0 < few := by omega
        refine ⟨_, rfl, .inl ⟨rfl, _, SqL.of hB10⟩, _, rfl, _, rfl, _, _, rfl, rfl, ⟨by decide, by decide, by decide⟩, _, _, rfl, rfl, mulOk hnb bits740 (by decide), _, _, rfl, rfl, ⟨by decide, by decide, by decide⟩, lenOk, fun F hF => ?_⟩
        have s11 : Same H10 (upd H10 F (.lst [.int 7, .int (10 ^ (30 : Int).toNat)])) := Same.upd hF
        have e11 : (upd H10 F (.lst [.int 7, .int (10 ^ (30 : Int).toNat)])) F = some (.lst [.int 7, .int (10 ^ (30 : Int).toNat)]) := upd_same
        generalize upd H10 F (.lst [.int 7, .int (10 ^ (30 : Int).toNat)]) = H11 at s11 e11 ⊢

        refine ⟨_, rfl, _, _, rfl, rfl, by simp, F, _, _, _, rfl, rfl, .inl (SqL.of e11), ef, _, _, rfl, rfl, hfew, _, _, rfl, rfl, _, rfl, lenOk, fun T2 hT2 => ?_⟩
        have s12 : Same H11 (upd H11 T2 (.tup [.ref st, .int (1 + (x % 10 ^ (40 : Int).toNat * 69621 % 2147483629) * 7 ^ (40 : Int).toNat % few), .ref M])) := Same.upd hT2
        have e12 : (upd H11 T2 (.tup [.ref st, .int (1 + (x % 10 ^ (40 : Int).toNat * 69621 % 2147483629) * 7 ^ (40 : Int).toNat % few), .ref M])) T2 = some (.tup [.ref st, .int (1 + (x % 10 ^ (40 : Int).toNat * 69621 % 2147483629) * 7 ^ (40 : Int).toNat % few), .ref M]) := upd_same
        generalize upd H11 T2 (.tup [.ref st, .int (1 + (x % 10 ^ (40 : Int).toNat * 69621 % 2147483629) * 7 ^ (40 : Int).toNat % few), .ref M]) = H12 at s12 e12 ⊢

        have s1112 := s11.trans s12
        have hB12 := s1112 _ _ hB10
        refine ⟨B0, _, _, rfl, rfl, hB12, small1000 (by omega), ?_⟩
        have s812 := s810.trans s1112
        have t13 : TupS H12 (upd H12 B0 (.lst (zs ++ [.ref T2]))) := TupS.lst hB12
        have t813 : TupS H8 (upd H12 B0 (.lst (zs ++ [.ref T2]))) := (Same.tups s812).trans t13
        have t413 := (t46.trans t68).trans t813
        have hst13 := hst8.tups t813
        refine ⟨es ++ [((ls, n), (x % 10 ^ (40 : Int).toNat * 69621 % 2147483629) % ((ws.map V.int).length : Int), bs)], us ++ [.ref T1], zs ++ [.ref T2], gs ++ [.ref st], _, _, _, _, rfl, (s8.trans s812).new nB, (upd_ne hKB).trans (s812 _ _ hK8), upd_same, (upd_ne hBG.symm).trans (s812 _ _ hG8), ?_, ?_, ?_, ?_, ?_, ?_⟩
        · exact (ak.imp fun _ _ z => KeptV.tups t413 z).append (AllAt.one ⟨T1, st, rfl, t813 _ _ eT1, hst13⟩)
        · exact (ab.imp fun _ _ z => BrokV.tups t413 z).append (AllAt.one ⟨T2, st, M, _, rfl, t13 _ _ e12, hst13, t13 _ _ (s1112 _ _ e10)⟩)
        · exact (ag5.imp fun _ _ z => KeyV.tups ((t6.trans t68).trans t813) z).append (AllAt.one ⟨st, rfl, hst13⟩)
        · rw [List.map_append]
          exact nodup_snoc nd hnew
        · intro e he
          rcases List.mem_append.mp he with z | z
          · exact hal e z
          · cases List.mem_singleton.mp z
            exact hbl
        · rw [List.length_append, List.length_singleton]
          omega
      · exact ⟨es, us, zs, gs, _, _, _, _, rfl, s4.trans s5, s5 _ _ hK4, s5 _ _ hB4, hG5, (ak.imp fun _ _ z => KeptV.tups (Same.tups s5) z), (ab.imp fun _ _ z => BrokV.tups (Same.tups s5) z), ag5, nd, hal, by omega⟩
    rintro σ H4 ⟨es, us, zs, gs, v5, v6, v7, v8, rfl, s4, hK4, hB4, hG4, ak, ab, ag, nd, hal, hle⟩
    rw [List.length_map] at hle
    refine ⟨_, rfl, _, rfl, lenOk, fun p hp => ?_⟩
    have s5 : Same H4 (upd H4 p (.tup [.ref K0, .ref B0])) := Same.upd hp
    exact q p K0 B0 us zs es _ (s4.trans s5) upd_same (s5 _ _ hK4) (s5 _ _ hB4) hKB (ak.imp fun _ _ z => KeptV.tups (Same.tups s5) z) (ab.imp fun _ _ z => BrokV.tups (Same.tups s5) z) nd hal (by omega)
/-! ### law_due_call -/
def sp_law_due_call (K : PySem.W.Frag) : Sp := fun vs H Q _ => ∃ (l b : Addr) (us : List V) (ps : List ((List Int × Int) × V)) (ls : List Int) (q : Int), vs = [.ref l, .ref b] ∧ H l = some (.lst us) ∧ AllAt (PairV H) ps us ∧ StAt H b ls q ∧ 0 < ls.length ∧ ∀ v, CallV ps (ls, q) v → Q v H
theorem ok_law_due_call {fd  : FuncData} (T : Txt K mg f_may_lose f_least_left f_PaperCaller___init__ f_PaperCaller_call f_PaperRoad___init__ f_PaperRoad_loses f_law_cell_at f_law_standing f_law_papers f_law_due_call f_law_due_loss f_law_asked f_law C_PaperCaller C_PaperRoad C_Caller C_Road) (F : Fun K "_law_due_call" "_law_due_call" s_law_due_call f_law_due_call fd) : FnOk P w K mg base CX0 1 f_law_due_call fd ["kept", "standing"] (sp_law_due_call K) := by
  refine F.ok sc_law_due_call (fun vs H Q E h => ?_) (fun cdv A outer s H vs Q E hr h => ?_)
  · rcases h with ⟨l, b, us, ps, ls, n, rfl, hl, hps, hb, hl0, q⟩ <;> rfl
  · obtain ⟨l, b, us, ps, ls, n, rfl, hl, hps, hb, hl0, q⟩ := h
    refine ⟨_, (pss_cons (ps_for PassesOwn.never rfl (pi_sq (pv 0)) (pg_tupK K (n := 2) rfl (pgs_cons (pg_name (i := 2) sc_law_due_call.nd rfl (Or.inl rfl)) (pgs_cons (pg_name (i := 3) sc_law_due_call.nd rfl (Or.inl rfl)) pgs_nil))) (pss_one (ps_if (pt_cmpR (op_eqD hr) (pv 2) (pv 1) (nomark _)) (pss_one (ps_ret (pv 3))) pss_nil))) (pss_one (ps_ret (pe_bm PySem.F.plainAttrs_tuple PySem.F.slot_tuple_index PySem.F.type_tuple_index mt_indexT (pe_ix (ix_sq K) (pv 1) pe_int (fun _ _ => rfl)) (pa_cons (pe_callB (call_minS K rfl) (by rfl) T.n_min boot_min (pa_cons (pe_ix (ix_sq K) (pv 1) pe_int (fun _ _ => rfl)) pa_nil)) pa_nil))))), ?_⟩
    refine ⟨_, rfl, l, rfl, .inl ⟨⟨_, SqL.of hl⟩, ?_⟩⟩
    refine for_list (K := K) (a := l) (xs := us) (fun i σ H' => ∃ v2 v3 : Option V, σ = [some (.ref l), some (.ref b), v2, v3] ∧ valV (ps.take i) (ls, n) = none ∧ H' = H) ⟨_, _, rfl, rfl, rfl⟩ (fun i σ H' _ ⟨_, _, _, _, e⟩ => by rw [e]; exact SqL.of hl) ?_ ?_
    · rintro i u σ H' hu ⟨v2, v3, rfl, hv, rfl⟩
      obtain ⟨p, hp, t, c, rfl, ht, hc⟩ := hps.get hu
      refine ⟨t, _, rfl, SqT.of ht, rfl, _, _, rfl, _, _, rfl, rfl, ?_⟩
      refine ⟨_, rfl, _, rfl, _, _, rp_dS hc, rp_dS (StH.of hb), by rw [depth_dS]; decide, _, rfl, ?_⟩
      rw [if_neg Bool.false_ne_true, eqv_dS]
      have hs := valV_snoc (p := p) hv
      rw [← tk_snoc hp] at hs
      refine ite2 (fun h0 => ?_) (fun h0 => ?_)
      · have e : p.1 = (ls, n) := by simpa using h0
        rw [if_pos e] at hs
        refine ⟨_, rfl, q _ (.inl ?_)⟩
        have := valV_more (qs := ps.drop (i + 1)) hs
        rw [List.take_append_drop] at this
        exact this
      · have e : ¬ p.1 = (ls, n) := by simpa using h0
        rw [if_neg e] at hs
        exact ⟨_, _, rfl, hs, rfl⟩
    rintro σ H' ⟨v2, v3, rfl, hv, rfl⟩
    rw [hps.1, List.take_length] at hv
    obtain ⟨u, hb1, hb2⟩ := hb
    refine ⟨_, rfl, b, _, _, _, rfl, rfl, .inr (SqT.of hb1), rfl, .inr (.inl ⟨rfl, .inr ⟨_, hb2⟩⟩), _, rfl, b, _, _, _, rfl, rfl, .inr (SqT.of hb1), rfl, u, ls, rfl, .inr (SqT.of hb2), hl0, fun m hm hmin => ?_⟩
    obtain ⟨j, h1, h2⟩ := first_at hm
    exact ⟨u, ls, m, j, rfl, rfl, SqT.of hb2, h1, h2, q _ (.inr ⟨hv, j, rfl, least_of hmin h1 h2⟩)⟩
/-! ### law_due_loss -/
def sp_law_due_loss (K : PySem.W.Frag) : Sp := fun vs H Q _ => ∃ (m a b : Addr) (zs : List V) (es : List Ent) (ws ls : List Int) (cm : Option Int) (q : Int) (who : Nat), vs = [.ref m, .ref a, .ref b, .int who] ∧ H m = some (.lst zs) ∧ AllAt (BrokV H) es zs ∧ (∀ e ∈ es, who < e.2.2.length) ∧ HallAt H a ws cm ∧ StAt H b ls q ∧ Q (.bl (lossE es (ls, q) cm who)) H
theorem ok_law_due_loss {fd  : FuncData} (T : Txt K mg f_may_lose f_least_left f_PaperCaller___init__ f_PaperCaller_call f_PaperRoad___init__ f_PaperRoad_loses f_law_cell_at f_law_standing f_law_papers f_law_due_call f_law_due_loss f_law_asked f_law C_PaperCaller C_PaperRoad C_Caller C_Road) (F : Fun K "_law_due_loss" "_law_due_loss" s_law_due_loss f_law_due_loss fd) : FnOk P w K mg base CX0 1 f_law_due_loss fd ["broken", "hall", "standing", "who"] (sp_law_due_loss K) := by
  refine F.ok sc_law_due_loss (fun vs H Q E h => ?_) (fun cdv A outer s H vs Q E hr h => ?_)
  · rcases h with ⟨m, a, b, zs, es, ws, ls, cm, n, who, rfl, hm, hes, hwho, ⟨wt, ha, ha2⟩, hb, q⟩ <;> rfl
  · obtain ⟨m, a, b, zs, es, ws, ls, cm, n, who, rfl, hm, hes, hwho, ⟨wt, ha, ha2⟩, hb, q⟩ := h
    refine ⟨_, (pss_cons (ps_for PassesOwn.never rfl (pi_sq (pv 0)) (pg_tupK K (n := 3) rfl (pgs_cons (pg_name (i := 4) sc_law_due_loss.nd rfl (Or.inl rfl)) (pgs_cons (pg_name (i := 5) sc_law_due_loss.nd rfl (Or.inl rfl)) (pgs_cons (pg_name (i := 6) sc_law_due_loss.nd rfl (Or.inl rfl)) pgs_nil)))) (pss_one (ps_if (pt_cmpR (op_eqD hr) (pv 4) (pv 2) (nomark _)) (pss_one (ps_ret (pe_andX (pe_ix (ix_sq K) (pv 6) (pv 3) (fun _ _ => rfl)) (pe_andX (pe_cmpR op_notN (pe_ix (ix_sq K) (pv 1) pe_int (fun _ _ => rfl)) pe_non (nomark _)) (pe_one (pe_cmpR op_eq (pe_ix (ix_sq K) (pv 2) pe_int (fun _ _ => rfl)) pe_int (nomark _))))))) pss_nil))) (pss_one (ps_ret pe_bl))), ?_⟩
    refine ⟨_, rfl, m, rfl, .inl ⟨⟨_, SqL.of hm⟩, ?_⟩⟩
    refine for_list (K := K) (a := m) (xs := zs) (fun i σ H' => ∃ v4 v5 v6 : Option V, σ = [some (.ref m), some (.ref a), some (.ref b), some (.int who), v4, v5, v6] ∧ findE (es.take i) (ls, n) = none ∧ H' = H) ⟨_, _, _, rfl, rfl, rfl⟩ (fun i σ H' _ ⟨_, _, _, _, _, e⟩ => by rw [e]; exact SqL.of hm) ?_ ?_
    · rintro i u σ H' hu ⟨v4, v5, v6, rfl, hv, rfl⟩
      obtain ⟨e, he, t, c, mm, rk, rfl, ht, hc, hmm⟩ := hes.get hu
      refine ⟨t, _, rfl, SqT.of ht, rfl, _, _, rfl, _, _, rfl, _, _, rfl, rfl, ?_⟩
      refine ⟨_, rfl, _, rfl, _, _, rp_dS hc, rp_dS (StH.of hb), by rw [depth_dS]; decide, _, rfl, ?_⟩
      rw [if_neg Bool.false_ne_true, eqv_dS]
      have hs := findE_snoc (e := e) hv
      rw [← tk_snoc he] at hs
      refine ite2 (fun h0 => ?_) (fun h0 => ?_)
      · have z : e.1 = (ls, n) := by simpa using h0
        rw [if_pos z] at hs
        have hf := findE_more (fs := es.drop (i + 1)) hs
        rw [List.take_append_drop] at hf
        obtain ⟨ut, hb1, hb2⟩ := hb
        refine ⟨_, rfl, _, rfl, mm, _, _, _, rfl, rfl, .inr (SqT.of hmm), bl_at (hwho e (List.mem_of_getElem? he)), _, (!decide (cm = none) && decide (n = 0)), rfl, fun _ Q2 z2 => ⟨_, rfl, a, _, _, _, rfl, rfl, .inr (SqT.of ha), rfl, rfl, _, decide (n = 0), rfl, fun _ Q3 z3 => ⟨_, rfl, b, _, _, _, rfl, rfl, .inr (SqT.of hb1), rfl, rfl, ?_⟩, ?_⟩, ?_⟩
        · rw [eqI]
          exact z3
        · rw [vO_non]
          exact z2
        · unfold lossE at q
          rw [hf] at q
          exact q
      · have z : ¬ e.1 = (ls, n) := by simpa using h0
        rw [if_neg z] at hs
        exact ⟨_, _, _, rfl, hs, rfl⟩
    rintro σ H' ⟨v4, v5, v6, rfl, hv, rfl⟩
    rw [hes.1, List.take_length] at hv
    unfold lossE at q
    rw [hv] at q
    exact q
/-! ### law_asked -/
def sp_law_asked (K : PySem.W.Frag) (C_PaperCaller C_PaperRoad : Addr) : Sp := fun vs H Q _ => ∃ (c r a b p : Addr) (es : List Ent) (ws ls : List Int) (cm : Option Int) (q : Int) (who : Int), vs = [.ref c, .ref r, .ref a, .ref b, .int who, .ref p] ∧ PapAt C_PaperCaller C_PaperRoad H c r p es ∧ 0 ≤ who ∧ (∀ e ∈ es, who < e.2.2.length) ∧ HallAt H a ws cm ∧ StAt H b ls q ∧ 0 < ls.length ∧ Q (.bl true) H
theorem ok_law_asked {fd fd_PaperCaller_call fd_PaperRoad_loses fd_law_due_call fd_law_due_loss : FuncData} (T : Txt K mg f_may_lose f_least_left f_PaperCaller___init__ f_PaperCaller_call f_PaperRoad___init__ f_PaperRoad_loses f_law_cell_at f_law_standing f_law_papers f_law_due_call f_law_due_loss f_law_asked f_law C_PaperCaller C_PaperRoad C_Caller C_Road) (F : Fun K "_law_asked" "_law_asked" s_law_asked f_law_asked fd) (G_PaperCaller_call : FnOk P w K mg base CX0 2 f_PaperCaller_call fd_PaperCaller_call ["self", "hall", "standing"] (sp_PaperCaller_call K C_PaperCaller C_PaperRoad)) (B_PaperCaller_call : Binds K fd_PaperCaller_call ["self", "hall", "standing"] []) (G_PaperRoad_loses : FnOk P w K mg base CX0 2 f_PaperRoad_loses fd_PaperRoad_loses ["self", "hall", "standing", "who"] (sp_PaperRoad_loses K C_PaperCaller C_PaperRoad)) (B_PaperRoad_loses : Binds K fd_PaperRoad_loses ["self", "hall", "standing", "who"] []) (G_law_due_call : FnOk P w K mg base CX0 1 f_law_due_call fd_law_due_call ["kept", "standing"] (sp_law_due_call K)) (B_law_due_call : Binds K fd_law_due_call ["kept", "standing"] []) (G_law_due_loss : FnOk P w K mg base CX0 1 f_law_due_loss fd_law_due_loss ["broken", "hall", "standing", "who"] (sp_law_due_loss K)) (B_law_due_loss : Binds K fd_law_due_loss ["broken", "hall", "standing", "who"] []) : FnOk P w K mg base CX0 3 f_law_asked fd ["caller", "road", "hall", "standing", "who", "papers"] (sp_law_asked K C_PaperCaller C_PaperRoad) := by
  refine F.ok sc_law_asked (fun vs H Q E h => ?_) (fun cdv A outer s H vs Q E hr h => ?_)
  · rcases h with ⟨c, r, a, b, p, es, ws, ls, cm, n, who, rfl, ⟨dc, d, dr, d2, l, m, us, zs, ks, js, hc, hd, hr0, hd2, hp, hl, hm, ak, ab, hks, hjs⟩, hw0, hwho, ha, hb, hl0, q⟩ <;> rfl
  · obtain ⟨c, r, a, b, p, es, ws, ls, cm, n, who, rfl, ⟨dc, d, dr, d2, l, m, us, zs, ks, js, hc, hd, hr0, hd2, hp, hl, hm, ak, ab, hks, hjs⟩, hw0, hwho, ha, hb, hl0, q⟩ := h
    refine ⟨_, (pss_cons (ps_set (i := 6) sc_law_asked.nd rfl (Or.inl rfl) (pe_meth (pv 0) T.cl_PaperCaller T.M_PaperCaller_call G_PaperCaller_call (hr.mono (by decide)) B_PaperCaller_call .nil pass0 (pa_cons (pv 2) (pa_cons (pv 3) pa_nil)))) (pss_cons (ps_if (PW.pt (pw_orX (pt_not (pt_val (pe_callB (call_isiK K) (by rfl) T.n_isinstance boot_isinstance (pa_cons (pv 6) (pa_cons (pe_ty (by rfl) T.n_int boot_int) pa_nil))))) (pw_orX (pt_val (pe_callB (call_isiK K) (by rfl) T.n_isinstance boot_isinstance (pa_cons (pv 6) (pa_cons (pe_ty (by rfl) T.n_bool boot_bool) pa_nil)))) (pw_or1 (pt_cmpR op_ne (pv 6) (pe_call G_law_due_call (hr.mono (by decide)) rfl T.m_law_due_call T.k_law_due_call B_law_due_call .nil pass0 (pa_cons (pe_ix (ix_sq K) (pv 5) pe_int (fun _ _ => rfl)) (pa_cons (pv 3) pa_nil))) (nomark _)))))) (pss_one (ps_ret pe_bl)) pss_nil) (pss_cons (ps_set (i := 7) sc_law_asked.nd rfl (Or.inl rfl) (pe_meth (pv 1) T.cl_PaperRoad T.M_PaperRoad_loses G_PaperRoad_loses (hr.mono (by decide)) B_PaperRoad_loses .nil pass0 (pa_cons (pv 2) (pa_cons (pv 3) (pa_cons (pv 4) pa_nil))))) (pss_one (ps_ret (pe_andX (pe_callB (call_isiK K) (by rfl) T.n_isinstance boot_isinstance (pa_cons (pv 7) (pa_cons (pe_ty (by rfl) T.n_bool boot_bool) pa_nil))) (pe_one (pe_cmpR op_eq (pv 7) (pe_call G_law_due_loss (hr.mono (by decide)) rfl T.m_law_due_loss T.k_law_due_loss B_law_due_loss .nil pass0 (pa_cons (pe_ix (ix_sq K) (pv 5) pe_int (fun _ _ => rfl)) (pa_cons (pv 2) (pa_cons (pv 3) (pa_cons (pv 4) pa_nil))))) (nomark _))))))))), ?_⟩
    obtain ⟨w, rfl⟩ : ∃ w : Nat, who = w := ⟨who.toNat, by omega⟩
    have hwn : ∀ e ∈ es, w < e.2.2.length := fun e he => by have := hwho e he; omega
    refine ⟨_, rfl, c, dc, _, rfl, hc, rfl, _, rfl, _, rfl, c, dc, d, b, _, ks, ls, n, rfl, hc, hd, hb, hl0, fun v hv => ?_⟩
    have hv1 := hv.eq (hks _)
    obtain ⟨f, rfl⟩ := kd_int hv1
    refine ⟨_, rfl, _, "int", "int", true, rfl, .int _, kb_int_int, _, rfl, false, fun _ Q1 z1 => ⟨_, rfl, _, "int", "bool", false, rfl, .int _, kb_int_bool, _, rfl, false, fun _ Q2 z2 => ⟨_, rfl, _, rfl, p, _, _, _, rfl, rfl, .inr (SqT.of hp), rfl, _, rfl, l, b, us, kd es, ls, n, rfl, hl, kd_at ak, hb, hl0, fun v' hv' => ?_⟩, z1⟩, ite_f rfl ?_⟩
    · cases hv1.one hv'
      refine ⟨rfl, _, rfl, ?_⟩
      simpa using z2
    rcases hjs (ls, n) with ⟨hf, hv0⟩ | ⟨e, mm, hem, hf, hv0, hmm⟩
    · have el : lossE es (ls, n) cm w = false := by unfold lossE; rw [hf]
      refine ⟨_, rfl, r, dr, _, rfl, hr0, rfl, _, rfl, _, rfl, _, rfl, r, dr, d2, a, b, js, ws, ls, cm, n, w, rfl, hr0, hd2, ha, hb, (fun _ => ?_), (fun v2 h2 => by rw [hv0] at h2; cases h2)⟩
      refine ⟨_, rfl, _, "bool", "bool", true, rfl, .bl _, kb_bool_bool, _, true, rfl, fun _ Q1 z1 => ⟨_, rfl, _, rfl, p, _, _, _, rfl, rfl, .inr (SqT.of hp), rfl, _, rfl, _, rfl, _, rfl, m, a, b, zs, es, ws, ls, cm, n, w, rfl, hm, ab, hwn, ha, hb, rfl, ?_⟩, q⟩
      rw [el]
      exact z1
    · have el : lossE es (ls, n) cm w = (!decide (cm = none) && decide (n = 0) && e.2.2.getD w false) := by
        unfold lossE
        rw [hf]
        exact Bool.and_comm _ _
      refine ⟨_, rfl, r, dr, _, rfl, hr0, rfl, _, rfl, _, rfl, _, rfl, r, dr, d2, a, b, js, ws, ls, cm, n, w, rfl, hr0, hd2, ha, hb, (fun h2 => by rw [hv0] at h2; cases h2), (fun v2 h2 => ?_)⟩
      rw [hv0] at h2
      cases h2
      refine ⟨mm, e.2.2, rfl, hmm, hwn e hem, ?_⟩
      rw [← el]
      refine ⟨_, rfl, _, "bool", "bool", true, rfl, .bl _, kb_bool_bool, _, true, rfl, fun _ Q1 z1 => ⟨_, rfl, _, rfl, p, _, _, _, rfl, rfl, .inr (SqT.of hp), rfl, _, rfl, _, rfl, _, rfl, m, a, b, zs, es, ws, ls, cm, n, w, rfl, hm, ab, hwn, ha, hb, rfl, ?_⟩, q⟩
      simpa using z1
/-! ### law -/
def sp_law (K : PySem.W.Frag) : Sp := fun vs H Q _ => ∃ (a : Addr) (ns : List Int), vs = [.ref a] ∧ SqL K H a (ns.map V.int) ∧ ns.length ≤ 63 ∧ (∀ z ∈ ns, intBits z ≤ 2 ^ 20) ∧ ∀ H', Q (.bl true) H'
theorem ok_law {fd fd_law_papers fd_PaperCaller___init__ fd_PaperRoad___init__ fd_law_cell_at fd_law_standing fd_law_asked : FuncData} (T : Txt K mg f_may_lose f_least_left f_PaperCaller___init__ f_PaperCaller_call f_PaperRoad___init__ f_PaperRoad_loses f_law_cell_at f_law_standing f_law_papers f_law_due_call f_law_due_loss f_law_asked f_law C_PaperCaller C_PaperRoad C_Caller C_Road) (F : Fun K "law" "law" s_law f_law fd) (G_law_papers : FnOk P w K mg base CX0 2 f_law_papers fd_law_papers ["hall", "cells"] (sp_law_papers K)) (B_law_papers : Binds K fd_law_papers ["hall", "cells"] []) (G_PaperCaller___init__ : FnOk P w K mg base CX0 1 f_PaperCaller___init__ fd_PaperCaller___init__ ["self", "paper"] (sp_PaperCaller___init__ K C_PaperCaller C_PaperRoad)) (B_PaperCaller___init__ : Binds K fd_PaperCaller___init__ ["self", "paper"] []) (G_PaperRoad___init__ : FnOk P w K mg base CX0 1 f_PaperRoad___init__ fd_PaperRoad___init__ ["self", "paper"] (sp_PaperRoad___init__ K C_PaperCaller C_PaperRoad)) (B_PaperRoad___init__ : Binds K fd_PaperRoad___init__ ["self", "paper"] []) (G_law_cell_at : FnOk P w K mg base CX0 1 f_law_cell_at fd_law_cell_at ["script", "k"] (sp_law_cell_at K)) (B_law_cell_at : Binds K fd_law_cell_at ["script", "k"] []) (G_law_standing : FnOk P w K mg base CX0 1 f_law_standing fd_law_standing ["hall", "cell"] (sp_law_standing K)) (B_law_standing : Binds K fd_law_standing ["hall", "cell"] []) (G_law_asked : FnOk P w K mg base CX0 3 f_law_asked fd_law_asked ["caller", "road", "hall", "standing", "who", "papers"] (sp_law_asked K C_PaperCaller C_PaperRoad)) (B_law_asked : Binds K fd_law_asked ["caller", "road", "hall", "standing", "who", "papers"] []) : FnOk P w K mg base CX0 4 f_law fd ["script"] (sp_law K) := by
  refine F.ok sc_law (fun vs H Q E h => ?_) (fun cdv A outer s H vs Q E hr h => ?_)
  · rcases h with ⟨a, ns, rfl, hS, hlen, hbig, q⟩ <;> rfl
  · obtain ⟨a, ns, rfl, hS, hlen, hbig, q⟩ := h
    refine ⟨_, (pss_cons (ps_set (i := 1) sc_law.nd rfl (Or.inl rfl) (pe_op op_add pe_int (pe_op op_mod (pe_call G_law_cell_at (hr.mono (by decide)) rfl T.m_law_cell_at T.k_law_cell_at B_law_cell_at .nil pass0 (pa_cons (pv 0) (pa_cons pe_int pa_nil))) pe_int))) (pss_cons (ps_set (i := 2) sc_law.nd rfl (Or.inr rfl) (pe_ix (ix_sq K) (pe_lst (pa_cons pe_int (pa_cons pe_int pa_nil))) (pe_op op_mod (pe_call G_law_cell_at (hr.mono (by decide)) rfl T.m_law_cell_at T.k_law_cell_at B_law_cell_at .nil pass0 (pa_cons (pv 0) (pa_cons pe_int pa_nil))) pe_int) (fun _ _ => rfl))) (pss_cons (ps_setComp (i := 3) sc_law.nd rfl (pi_range1 (by rfl) T.n_range (pa_cons (pv 1) pa_nil)) _ rfl cs_law_0 rfl rfl (fun _ _ _ _ => (pg_name (i := 0) nd_law_0 rfl (Or.inl rfl))) (fun _ _ _ _ => pts_nil) (fun _ _ _ _ => (pe_op op_add pe_int (pe_op op_mod (pe_op op_add (pe_op op_fdiv (pe_call G_law_cell_at (hr.mono (by decide)) rfl T.m_law_cell_at T.k_law_cell_at B_law_cell_at .nil pass0 (pa_cons (pv 2) (pa_cons pe_int pa_nil))) pe_int) (pe_op op_mulO (pe_call G_law_cell_at (hr.mono (by decide)) rfl T.m_law_cell_at T.k_law_cell_at B_law_cell_at .nil pass0 (pa_cons (pv 2) (pa_cons (pe_op op_add pe_int (pv 0)) pa_nil))) (pe_op op_add (pv 0) pe_int))) (pv 1)))) rfl rfl) (pss_cons (ps_set (i := 4) sc_law.nd rfl (Or.inl rfl) pe_non) (pss_cons (ps_ifJ (pt_cmpR op_gt (pe_op op_mod (pe_call G_law_cell_at (hr.mono (by decide)) rfl T.m_law_cell_at T.k_law_cell_at B_law_cell_at .nil pass0 (pa_cons (pv 0) (pa_cons pe_int pa_nil))) pe_int) pe_int (nomark _)) (pss_one (ps_set (i := 4) sc_law.nd rfl (Or.inl rfl) (pe_op op_add pe_int (pe_op op_mod (pe_op op_fdiv (pe_call G_law_cell_at (hr.mono (by decide)) rfl T.m_law_cell_at T.k_law_cell_at B_law_cell_at .nil pass0 (pa_cons (pv 0) (pa_cons pe_int pa_nil))) pe_int) pe_int)))) pss_nil) (pss_cons (ps_set (i := 5) sc_law.nd rfl (Or.inr rfl) (pe_tup (pa_cons (pe_callTy call_tuple_of (by rfl) T.n_tuple boot_tuple (pa_cons (pv 3) pa_nil)) (pa_cons (pv 4) pa_nil)))) (pss_cons (ps_asg (pe_call G_law_papers (hr.mono (by decide)) rfl T.m_law_papers T.k_law_papers B_law_papers .nil pass0 (pa_cons (pv 5) (pa_cons (pe_slice (sl_listK K) (pv 0) (po_some pe_int) (po_some pe_int)) pa_nil))) (pg_tupK K (n := 2) rfl (pgs_cons (pg_name (i := 6) sc_law.nd rfl (Or.inl rfl)) (pgs_cons (pg_name (i := 7) sc_law.nd rfl (Or.inl rfl)) pgs_nil)))) (pss_cons (ps_set (i := 8) sc_law.nd rfl (Or.inl rfl) (pe_callTy call_list_of (by rfl) T.n_list boot_list (pa_cons (pv 6) pa_nil))) (pss_cons (ps_set (i := 9) sc_law.nd rfl (Or.inl rfl) (pe_callTy call_list_of (by rfl) T.n_list boot_list (pa_cons (pv 7) pa_nil))) (pss_cons (ps_set (i := 10) sc_law.nd rfl (Or.inl rfl) (pe_lst (pa_cons (pe_make T.mk_PaperCaller G_PaperCaller___init__ (hr.mono (by decide)) (by rfl) T.c_PaperCaller B_PaperCaller___init__ .nil pass0 (pa_cons (pv 8) pa_nil)) (pa_cons (pe_make T.mk_PaperCaller G_PaperCaller___init__ (hr.mono (by decide)) (by rfl) T.c_PaperCaller B_PaperCaller___init__ .nil pass0 (pa_cons (pe_slice (sl_listK K) (pv 8) (po_some pe_int) po_none) pa_nil)) pa_nil)))) (pss_cons (ps_set (i := 11) sc_law.nd rfl (Or.inl rfl) (pe_lst (pa_cons (pe_make T.mk_PaperRoad G_PaperRoad___init__ (hr.mono (by decide)) (by rfl) T.c_PaperRoad B_PaperRoad___init__ .nil pass0 (pa_cons (pv 9) pa_nil)) (pa_cons (pe_make T.mk_PaperRoad G_PaperRoad___init__ (hr.mono (by decide)) (by rfl) T.c_PaperRoad B_PaperRoad___init__ .nil pass0 (pa_cons (pe_slice (sl_listK K) (pv 9) (po_some pe_int) po_none) pa_nil)) pa_nil)))) (pss_cons (ps_if (PW.pt (pw_orX (pt_cmpR (op_neD hr) (pv 8) (pv 6) (nomark _)) (pw_or1 (pt_cmpR (op_neD hr) (pv 9) (pv 7) (nomark _))))) (pss_one (ps_ret pe_bl)) pss_nil) (pss_cons (ps_if (PW.pt (pw_orX (pt_not (pt_val (pe_callB (call_isiO K) (by rfl) T.n_isinstance boot_isinstance (pa_cons (pe_ix (ix_sq K) (pv 10) pe_int (fun _ _ => rfl)) (pa_cons (pe_glob (v := .ref C_Caller) (by rfl) T.c_Caller rfl) pa_nil))))) (pw_or1 (pt_not (pt_val (pe_callB (call_isiO K) (by rfl) T.n_isinstance boot_isinstance (pa_cons (pe_ix (ix_sq K) (pv 11) pe_int (fun _ _ => rfl)) (pa_cons (pe_glob (v := .ref C_Road) (by rfl) T.c_Road rfl) pa_nil)))))))) (pss_one (ps_ret pe_bl)) pss_nil) (pss_cons (ps_expr (pe_bm0 PySem.F.plainAttrs_list PySem.F.slot_list_clear PySem.F.type_list_clear mt_clear (pv 8))) (pss_cons (ps_expr (pe_bm PySem.F.plainAttrs_list PySem.F.slot_list_append PySem.F.type_list_append mt_append (pv 9) (pa_cons (pe_tup (pa_cons (pe_tup (pa_cons (pe_callTy call_tuple_of (by rfl) T.n_tuple boot_tuple (pa_cons (pv 3) pa_nil)) (pa_cons pe_int pa_nil))) (pa_cons pe_int (pa_cons (pe_callTy call_tuple_of (by rfl) T.n_tuple boot_tuple (pa_cons (pe_op op_rep (pe_lst (pa_cons pe_bl pa_nil)) (pv 1)) pa_nil)) pa_nil)))) pa_nil))) (pss_cons (ps_set (i := 12) sc_law.nd rfl (Or.inl rfl) (pe_lst (pa_cons (pe_tup (pa_cons (pv 6) (pa_cons (pv 7) pa_nil))) (pa_cons (pe_tup (pa_cons (pe_slice (sl_listK K) (pv 6) (po_some pe_int) po_none) (pa_cons (pe_slice (sl_listK K) (pv 7) (po_some pe_int) po_none) pa_nil))) pa_nil)))) (pss_cons (ps_set (i := 13) sc_law.nd rfl (Or.inl rfl) (pe_op op_cat (pe_comp (pi_sq (pe_slice (sl_listK K) (pv 0) (po_some pe_int) (po_some pe_int))) _ rfl cs_law_1 rfl rfl (fun _ _ _ _ => (pg_name (i := 0) nd_law_1 rfl (Or.inl rfl))) (fun _ _ _ _ => pts_nil) (fun _ _ _ _ => (pe_call G_law_standing (hr.mono (by decide)) rfl T.m_law_standing T.k_law_standing B_law_standing .nil pass0 (pa_cons (pv 1) (pa_cons (pv 0) pa_nil))))) (pe_lst (pa_cons (pe_tup (pa_cons (pe_callTy call_tuple_of (by rfl) T.n_tuple boot_tuple (pa_cons (pv 3) pa_nil)) (pa_cons pe_int pa_nil))) pa_nil)))) (pss_cons (ps_for PassesOwn.never rfl (pi_range1 (by rfl) T.n_range (pa_cons (pe_callB (call_lenK K) (by rfl) T.n_len PySem.boot_len (pa_cons (pv 13) pa_nil)) pa_nil)) (pg_name (i := 14) sc_law.nd rfl (Or.inl rfl)) (pss_cons (ps_set (i := 15) sc_law.nd rfl (Or.inl rfl) (pe_op op_mod (pe_op op_fdiv (pe_call G_law_cell_at (hr.mono (by decide)) rfl T.m_law_cell_at T.k_law_cell_at B_law_cell_at .nil pass0 (pa_cons (pv 0) (pa_cons (pe_op op_add (pv 14) pe_int) pa_nil))) pe_int) (pv 1))) (pss_cons (ps_set (i := 16) sc_law.nd rfl (Or.inl rfl) (pe_op op_mod (pe_op op_add (pv 14) (pe_call G_law_cell_at (hr.mono (by decide)) rfl T.m_law_cell_at T.k_law_cell_at B_law_cell_at .nil pass0 (pa_cons (pv 0) (pa_cons (pv 14) pa_nil)))) pe_int)) (pss_cons (ps_if (pt_not (pt_val (pe_call G_law_asked (hr.mono (by decide)) rfl T.m_law_asked T.k_law_asked B_law_asked .nil pass0 (pa_cons (pe_ix (ix_sq K) (pv 10) (pv 16) (fun _ _ => rfl)) (pa_cons (pe_ix (ix_sq K) (pv 11) (pv 16) (fun _ _ => rfl)) (pa_cons (pv 5) (pa_cons (pe_ix (ix_sq K) (pv 13) (pv 14) (fun _ _ => rfl)) (pa_cons (pv 15) (pa_cons (pe_ix (ix_sq K) (pv 12) (pv 16) (fun _ _ => rfl)) pa_nil))))))))) (pss_one (ps_ret pe_bl)) pss_nil) (pss_one (ps_if (pt_not (pt_val (pe_call G_law_asked (hr.mono (by decide)) rfl T.m_law_asked T.k_law_asked B_law_asked .nil pass0 (pa_cons (pe_ix (ix_sq K) (pv 10) (pe_op op_sub pe_int (pv 16)) (fun _ _ => rfl)) (pa_cons (pe_ix (ix_sq K) (pv 11) (pe_op op_sub pe_int (pv 16)) (fun _ _ => rfl)) (pa_cons (pv 5) (pa_cons (pe_ix (ix_sq K) (pv 13) (pv 14) (fun _ _ => rfl)) (pa_cons (pv 15) (pa_cons (pe_ix (ix_sq K) (pv 12) (pe_op op_sub pe_int (pv 16)) (fun _ _ => rfl)) pa_nil))))))))) (pss_one (ps_ret pe_bl)) pss_nil)))))) (pss_one (ps_ret pe_bl)))))))))))))))))))), ?_⟩
    have hmr := emod_range (cellI ns 0) (show (0 : Int) < 8 by decide)
    refine ⟨_, rfl, a, ns, 0, rfl, hS, by decide, _, _, rfl, rfl, by simp, _, _, rfl, rfl, ?_⟩
    refine ⟨lenOk, fun F hF => ?_⟩
    have s1 : Same H (upd H F (.lst [.int 4, .int 40])) := Same.upd hF
    have e1 : (upd H F (.lst [.int 4, .int 40])) F = some (.lst [.int 4, .int 40]) := upd_same
    generalize upd H F (.lst [.int 4, .int 40]) = H1 at s1 e1 ⊢

    have hS1 := s1.seq hS
    have h2 := emod_range (cellI ns 1) (show (0 : Int) < 2 by decide)
    obtain ⟨mo, em, hmo⟩ := atI2 (x := 4) (y := 40) h2.1 h2.2
    refine ⟨_, rfl, a, ns, 1, rfl, hS1, by decide, _, _, rfl, rfl, by simp, F, _, _, _, rfl, rfl, .inl (SqL.of e1), em, ?_⟩
    have hmo0 : 0 < mo := by omega
    refine ⟨_, rfl, 1 + cellI ns 0 % 8, rfl, by omega, by omega, fun W hW => ?_⟩
    refine comp_range (fun i ys H' => ∃ ws : List Int, ys = ws.map V.int ∧ ws.length = i ∧ (∀ x ∈ ws, 1 ≤ x) ∧ H' W = some (.lst ys) ∧ Same H1 H') ⟨[], rfl, rfl, (fun x hx => by cases hx), upd_same, Same.upd hW⟩ ?_ ?_
    · rintro i ys H' hi ⟨ws, rfl, hwl, hw1, hW', s'⟩ Qe hQ
      have hS' := s'.seq hS1
      refine ⟨_, rfl, a, ns, 1, rfl, hS', by decide, _, _, rfl, rfl, ⟨by decide, by decide⟩, _, rfl, _, rfl, _, _, rfl, rfl, a, ns, _, rfl, hS', (by omega), _, rfl, _, _, rfl, rfl, _, _, rfl, rfl, mulOk_r (by omega) (by omega), _, _, rfl, rfl, _, rfl, _, _, rfl, rfl, hmo0, _, _, rfl, rfl, ?_⟩
      exact hQ _ _ hW' (small1000 (by rw [List.length_map]; omega)) ⟨ws ++ [_], map_snoc _ _, len_snoc hwl, all_snoc hw1 (one_more hmo0), upd_same, s'.new hW⟩
    rintro ys H2 ⟨ws, rfl, hwl, hw1, eW, s2⟩
    have s02 := s1.trans s2
    have hS2 := s02.seq hS
    refine ⟨_, rfl, a, ns, 2, rfl, hS2, by decide, _, _, rfl, rfl, by simp, _, _, rfl, rfl, _, rfl, (fun σ' H' => ∃ cm : Option Int, σ' = [some (.ref a), some (.int (1 + cellI ns 0 % 8)), some (.int mo), some (.ref W), some (vO cm), none, none, none, none, none, none, none, none, none, none, none, none] ∧ (∀ c, cm = some c → 1 ≤ c) ∧ H' = H2), fun _ => ?_, fun _ => ⟨none, rfl, (fun c hc => by cases hc), rfl⟩, ?_⟩
    · have h9 := emod_range (cellI ns 2 / 4) (show (0 : Int) < 30 by decide)
      exact ⟨_, rfl, a, ns, 2, rfl, hS2, by decide, _, _, rfl, rfl, ⟨by decide, by decide⟩, _, _, rfl, rfl, by simp, _, _, rfl, rfl, some (1 + cellI ns 2 / 4 % 30), rfl, (fun c hc => by cases hc; omega), rfl⟩
    rintro σ H2 ⟨cm, rfl, hcm, rfl⟩
    refine ⟨_, rfl, W, _, rfl, .inl ⟨SqL.of eW, fun t ht => ?_⟩⟩
    have s3 : Same H2 (upd H2 t (.tup (ws.map V.int))) := Same.upd ht
    have e3 : (upd H2 t (.tup (ws.map V.int))) t = some (.tup (ws.map V.int)) := upd_same
    generalize upd H2 t (.tup (ws.map V.int)) = H3 at s3 e3 ⊢

    refine ⟨_, rfl, lenOk, fun hh hhh => ?_⟩
    have s4 : Same H3 (upd H3 hh (.tup [.ref t, vO cm])) := Same.upd hhh
    have e4 : (upd H3 hh (.tup [.ref t, vO cm])) hh = some (.tup [.ref t, vO cm]) := upd_same
    generalize upd H3 hh (.tup [.ref t, vO cm]) = H4 at s4 e4 ⊢

    have hall4 : HallAt H4 hh ws cm := ⟨t, e4, s4 _ _ e3⟩
    have s04 := (s02.trans s3).trans s4
    refine ⟨_, rfl, _, rfl, _, rfl, _, rfl, a, _, rfl, s04.seq hS, fun sl hsl => ?_⟩
    rw [cutV_ints]
    have hcl : (cutI ns (some 4) (some 34)).length ≤ 63 := Nat.le_trans (cutI_length _ _ _) hlen
    generalize cutI ns (some 4) (some 34) = cs at hcl ⊢
    have s5 : Same H4 (upd H4 sl (.lst (cs.map V.int))) := Same.upd hsl
    have e5 : (upd H4 sl (.lst (cs.map V.int))) sl = some (.lst (cs.map V.int)) := upd_same
    generalize upd H4 sl (.lst (cs.map V.int)) = H5 at s5 e5 ⊢

    refine ⟨hh, sl, ws, cs, cm, rfl, hall4.same s5, e5, hcl, by omega, by omega, hw1, hcm, fun P KL BL us zs es H6 s6 eP eK eB hKB ak ab nd hal hel => ?_⟩
    refine ⟨P, _, rfl, SqT.of eP, rfl, _, _, rfl, _, _, rfl, rfl, ?_⟩
    have s06 := s04.trans (s5.trans s6)
    have hall6 := hall4.same (s5.trans s6)
    have eW6 := (((s3.trans s4).trans s5).trans s6) _ _ eW
    have ul := ak.1
    have zl := ab.1
    -- handed and given
    refine ⟨_, rfl, KL, us, rfl, .inl (SqL.of eK), fun A0 hA0 => ?_⟩
    have s7 : Same H6 (upd H6 A0 (.lst us)) := Same.upd hA0
    have e7 : (upd H6 A0 (.lst us)) A0 = some (.lst us) := upd_same
    generalize upd H6 A0 (.lst us) = H7 at s7 e7 ⊢

    refine ⟨_, rfl, BL, zs, rfl, .inl (SqL.of (s7 _ _ eB)), fun G0 hG0 => ?_⟩
    have s8 : Same H7 (upd H7 G0 (.lst zs)) := Same.upd hG0
    have e8 : (upd H7 G0 (.lst zs)) G0 = some (.lst zs) := upd_same
    generalize upd H7 G0 (.lst zs) = H8 at s8 e8 ⊢

    have s68 := s7.trans s8
    have eA8 := s8 _ _ e7
    have hAG : A0 ≠ G0 := ne_of_none e7 hG0
    have kp := kd_at ak
    have kp1 := kd_at (ak.drop 1)
    obtain ⟨js, jt, jc⟩ := trips ab
    -- callers
    refine ⟨_, rfl, fun c0 g0 hc0 hg0 hn0 => ⟨c0, g0, A0, us, kd es, rfl, upd_same, mk_same hc0 hg0 _ _ eA8, kp.imp (fun _ _ z => z.same (s68.trans (mk_same hc0 hg0))), fun d0 H9 hd0 ec0 ed0 ho0 => ⟨rfl, ?_⟩⟩⟩
    have s9 := mk_then hc0 hg0 ho0
    refine ⟨_, rfl, _, rfl, A0, _, rfl, SqL.of (s9 _ _ eA8), fun A1 hA1 => ?_⟩
    rw [cut1]
    have s10 : Same H9 (upd H9 A1 (.lst (us.drop 1))) := Same.upd hA1
    have e10 : (upd H9 A1 (.lst (us.drop 1))) A1 = some (.lst (us.drop 1)) := upd_same
    generalize upd H9 A1 (.lst (us.drop 1)) = H10 at s10 e10 ⊢

    have s610 := (s68.trans s9).trans s10
    refine fun c1 g1 hc1 hg1 hn1 => ⟨c1, g1, A1, us.drop 1, kd (es.drop 1), rfl, upd_same, mk_same hc1 hg1 _ _ e10, kp1.imp (fun _ _ z => z.same (s610.trans (mk_same hc1 hg1))), fun d1 H11 hd1 ec1 ed1 ho1 => ⟨rfl, ?_⟩⟩
    have s11 := mk_then hc1 hg1 ho1
    refine ⟨lenOk, fun CA hCA => ?_⟩
    have s12 : Same H11 (upd H11 CA (.lst [.ref c0, .ref c1])) := Same.upd hCA
    have e12 : (upd H11 CA (.lst [.ref c0, .ref c1])) CA = some (.lst [.ref c0, .ref c1]) := upd_same
    generalize upd H11 CA (.lst [.ref c0, .ref c1]) = H12 at s12 e12 ⊢

    have s812 := ((s9.trans s10).trans s11).trans s12
    have s612 := s68.trans s812
    -- roads
    refine ⟨_, rfl, fun r0 k0 hr0 hk0 hm0 => ⟨r0, k0, G0, zs, js, rfl, upd_same, mk_same hr0 hk0 _ _ (s812 _ _ e8), by omega, jt.imp (fun _ _ z => z.same (s612.trans (mk_same hr0 hk0))), fun p0 H13 hp0 er0 ep0 ho2 => ⟨rfl, ?_⟩⟩⟩
    have s13 := mk_then hr0 hk0 ho2
    refine ⟨_, rfl, _, rfl, G0, _, rfl, SqL.of (s13 _ _ (s812 _ _ e8)), fun G1 hG1 => ?_⟩
    rw [cut1]
    have s14 : Same H13 (upd H13 G1 (.lst (zs.drop 1))) := Same.upd hG1
    have e14 : (upd H13 G1 (.lst (zs.drop 1))) G1 = some (.lst (zs.drop 1)) := upd_same
    generalize upd H13 G1 (.lst (zs.drop 1)) = H14 at s14 e14 ⊢

    have s614 := (s612.trans s13).trans s14
    refine fun r1 k1 hr1 hk1 hm1 => ⟨r1, k1, G1, zs.drop 1, js.drop 1, rfl, upd_same, mk_same hr1 hk1 _ _ e14, by rw [List.length_drop]; omega, (jt.drop 1).imp (fun _ _ z => z.same (s614.trans (mk_same hr1 hk1))), fun p1 H15 hp1 er1 ep1 ho3 => ⟨rfl, ?_⟩⟩
    have s15 := mk_then hr1 hk1 ho3
    refine ⟨lenOk, fun RD hRD => ?_⟩
    have s16 : Same H15 (upd H15 RD (.lst [.ref r0, .ref r1])) := Same.upd hRD
    have e16 : (upd H15 RD (.lst [.ref r0, .ref r1])) RD = some (.lst [.ref r0, .ref r1]) := upd_same
    generalize upd H15 RD (.lst [.ref r0, .ref r1]) = H16 at s16 e16 ⊢

    have s1216 := ((s13.trans s14).trans s15).trans s16
    have s816 := s812.trans s1216
    have s616 := s68.trans s816
    have fc0 := s1216 _ _ (s12 _ _ (s11 _ _ (s10 _ _ ec0)))
    have fd0 := s1216 _ _ (s12 _ _ (s11 _ _ (s10 _ _ ed0)))
    have fc1 := s1216 _ _ (s12 _ _ ec1)
    have fd1 := s1216 _ _ (s12 _ _ ed1)
    have fr0 := s16 _ _ (s15 _ _ (s14 _ _ er0))
    have fp0 := s16 _ _ (s15 _ _ (s14 _ _ ep0))
    have fr1 := s16 _ _ er1
    have fp1 := s16 _ _ ep1
    have fCA := s1216 _ _ e12
    have fA := s816 _ _ eA8
    have fG := s816 _ _ e8
    have fK := s616 _ _ eK
    have fB := s616 _ _ eB
    have ak16 := ak.imp fun _ _ z => KeptV.tups (Same.tups s616) z
    have ab16 := ab.imp fun _ _ z => BrokV.tups (Same.tups s616) z
    have jc16 := jc.same s616
    have hall16 := hall6.same s616
    have eW16 := s616 _ _ eW6
    have s016 := s06.trans s616
    obtain ⟨dk, rk1, rk2⟩ := rpEx (ak16.all fun _ _ z => rp_kept z)
    obtain ⟨db, rb1, rb2⟩ := rpEx (ab16.all fun _ _ z => rp_brok z)
    have x1 := rp_lst fA rk1
    have x2 := rp_lst fK rk1
    have x3 := rp_lst fG rb1
    have x4 := rp_lst fB rb1
    refine ⟨_, rfl, _, rfl, _, _, x1, x2, (by show PyData.depthAll dk + 1 ≤ 60; omega), _, rfl, false, fun _ Q' z => ⟨_, rfl, _, rfl, _, _, x3, x4, (by show PyData.depthAll db + 1 ≤ 60; omega), _, rfl, ?_⟩, ite_f ?_ ?_⟩
    · rw [if_pos rfl, PySem.SeqAt.eqv_refl _ (rp_can _ _ x3)]
      exact z
    · rw [if_pos rfl, PySem.SeqAt.eqv_refl _ (rp_can _ _ x1)]
      rfl
    clear x1 x2 x3 x4 rk1 rk2 rb1 rb2
    refine ⟨_, rfl, CA, _, _, _, rfl, rfl, .inl (SqL.of fCA), rfl, c0, _, _, _, .ref C_Caller, _, rfl, fc0, (fun u h => h), T.o_PaperCaller_Caller, _, rfl, false, fun _ Q2 z2 => ⟨_, rfl, RD, _, _, _, rfl, rfl, .inl (SqL.of e16), rfl, r0, _, _, _, .ref C_Road, _, rfl, fr0, (fun u h => h), T.o_PaperRoad_Road, _, rfl, z2⟩, ite_f rfl ?_⟩
    -- the lists are spoiled
    have nA : H6 A0 = none := hA0
    have nG : H6 G0 = none := s7.free hG0
    refine ⟨_, rfl, .inl ⟨rfl, _, SqL.of fA⟩, A0, _, rfl, rfl, fA, ?_⟩
    have u17 : ∀ b o, b ≠ A0 → b ≠ G0 → H16 b = some o → (upd H16 A0 (.lst [])) b = some o := fun b o n1 _ e => (upd_ne n1).trans e
    have fG17 : (upd H16 A0 (.lst [])) G0 = _ := (upd_ne hAG.symm).trans fG
    have t17 : TupS H16 (upd H16 A0 (.lst [])) := TupS.lst fA
    generalize upd H16 A0 (.lst []) = H17 at u17 fG17 t17 ⊢
    have hWA : W ≠ A0 := ne_of_none eW6 nA
    have hWG : W ≠ G0 := ne_of_none eW6 nG
    refine ⟨_, rfl, .inl ⟨rfl, _, SqL.of fG17⟩, _, rfl, W, _, rfl, .inl ⟨SqL.of (u17 _ _ hWA hWG eW16), fun x1 hx1 => ?_⟩⟩
    have s18 : Same H17 (upd H17 x1 (.tup (ws.map V.int))) := Same.upd hx1
    have e18 : (upd H17 x1 (.tup (ws.map V.int))) x1 = some (.tup (ws.map V.int)) := upd_same
    generalize upd H17 x1 (.tup (ws.map V.int)) = H18 at s18 e18 ⊢

    refine ⟨lenOk, fun x2 hx2 => ?_⟩
    have s19 : Same H18 (upd H18 x2 (.tup [.ref x1, .int 0])) := Same.upd hx2
    have e19 : (upd H18 x2 (.tup [.ref x1, .int 0])) x2 = some (.tup [.ref x1, .int 0]) := upd_same
    generalize upd H18 x2 (.tup [.ref x1, .int 0]) = H19 at s19 e19 ⊢

    refine ⟨lenOk, fun x3 hx3 => ?_⟩
    have s20 : Same H19 (upd H19 x3 (.lst [.bl true])) := Same.upd hx3
    have e20 : (upd H19 x3 (.lst [.bl true])) x3 = some (.lst [.bl true]) := upd_same
    generalize upd H19 x3 (.lst [.bl true]) = H20 at s20 e20 ⊢

    refine ⟨_, rfl, x3, _, _, rfl, rfl, e20, by omega, by omega, small63 (by simp; omega), fun x4 hx4 => ?_⟩
    have s21 : Same H20 (upd H20 x4 (.lst (List.replicate (1 + cellI ns 0 % 8).toNat [V.bl true]).flatten)) := Same.upd hx4
    have e21 : (upd H20 x4 (.lst (List.replicate (1 + cellI ns 0 % 8).toNat [V.bl true]).flatten)) x4 = some (.lst (List.replicate (1 + cellI ns 0 % 8).toNat [V.bl true]).flatten) := upd_same
    generalize upd H20 x4 (.lst (List.replicate (1 + cellI ns 0 % 8).toNat [V.bl true]).flatten) = H21 at s21 e21 ⊢

    refine ⟨x4, _, rfl, .inl ⟨SqL.of e21, fun x5 hx5 => ?_⟩⟩
    have s22 : Same H21 (upd H21 x5 (.tup ((List.replicate (1 + cellI ns 0 % 8).toNat [V.bl true]).flatten))) := Same.upd hx5
    have e22 : (upd H21 x5 (.tup ((List.replicate (1 + cellI ns 0 % 8).toNat [V.bl true]).flatten))) x5 = some (.tup ((List.replicate (1 + cellI ns 0 % 8).toNat [V.bl true]).flatten)) := upd_same
    generalize upd H21 x5 (.tup ((List.replicate (1 + cellI ns 0 % 8).toNat [V.bl true]).flatten)) = H22 at s22 e22 ⊢

    refine ⟨lenOk, fun x6 hx6 => ?_⟩
    have s23 : Same H22 (upd H22 x6 (.tup [.ref x2, .int 1, .ref x5])) := Same.upd hx6
    have e23 : (upd H22 x6 (.tup [.ref x2, .int 1, .ref x5])) x6 = some (.tup [.ref x2, .int 1, .ref x5]) := upd_same
    generalize upd H22 x6 (.tup [.ref x2, .int 1, .ref x5]) = H23 at s23 e23 ⊢

    have s1723 := ((((s18.trans s19).trans s20).trans s21).trans s22).trans s23
    have fG23 := s1723 _ _ fG17
    refine ⟨G0, _, _, rfl, rfl, fG23, small1000 (by omega), ?_⟩
    have u24 : ∀ b o, b ≠ A0 → b ≠ G0 → H16 b = some o → (upd H23 G0 (.lst (zs ++ [.ref x6]))) b = some o := fun b o n1 n2 e => (upd_ne n2).trans (s1723 _ _ (u17 b o n1 n2 e))
    have t24 : TupS H16 (upd H23 G0 (.lst (zs ++ [.ref x6]))) := (t17.trans (Same.tups s1723)).trans (TupS.lst fG23)
    generalize upd H23 G0 (.lst (zs ++ [.ref x6])) = H24 at u24 t24 ⊢
    have old : Same H6 H24 := fun b o e => u24 b o (ne_of_none e nA) (ne_of_none e nG) (s616 _ _ e)
    have new8 : ∀ {b : Addr} {o : HO}, H8 b = none → H16 b = some o → H24 b = some o := fun {b o} n e => u24 b o (ne_of_none eA8 n).symm (ne_of_none e8 n).symm e
    have jc0 := new8 hc0 fc0
    have jd0 := new8 (mk_free hc0 hg0 hd0) fd0
    have jc1 := new8 ((s9.trans s10).free hc1) fc1
    have jd1 := new8 ((s9.trans s10).free (mk_free hc1 hg1 hd1)) fd1
    have jr0 := new8 (s812.free hr0) fr0
    have jp0 := new8 (s812.free (mk_free hr0 hk0 hp0)) fp0
    have b814 := (s812.trans s13).trans s14
    have jr1 := new8 (b814.free hr1) fr1
    have jp1 := new8 (b814.free (mk_free hr1 hk1 hp1)) fp1
    have jCA := new8 (((s9.trans s10).trans s11).free hCA) fCA
    have jRD := new8 ((b814.trans s15).free hRD) e16
    have jK := old _ _ eK
    have jB := old _ _ eB
    have jW := old _ _ eW6
    have jhall := hall6.same old
    have s024 := s06.trans old
    have ak24 := ak.imp fun _ _ z => KeptV.tups (Same.tups old) z
    have ab24 := ab.imp fun _ _ z => BrokV.tups (Same.tups old) z
    have jc24 := jc.same old
    clear u24 u17 fG17 fG23 t17 t24 s1723 new8 old b814
    -- papers
    refine ⟨_, rfl, _, rfl, lenOk, fun P0 hP0 => ?_⟩
    have s25 : Same H24 (upd H24 P0 (.tup [.ref KL, .ref BL])) := Same.upd hP0
    have e25 : (upd H24 P0 (.tup [.ref KL, .ref BL])) P0 = some (.tup [.ref KL, .ref BL]) := upd_same
    generalize upd H24 P0 (.tup [.ref KL, .ref BL]) = H25 at s25 e25 ⊢

    refine ⟨_, rfl, _, rfl, KL, _, rfl, SqL.of (s25 _ _ jK), fun K1 hK1 => ?_⟩
    rw [cut1]
    have s26 : Same H25 (upd H25 K1 (.lst (us.drop 1))) := Same.upd hK1
    have e26 : (upd H25 K1 (.lst (us.drop 1))) K1 = some (.lst (us.drop 1)) := upd_same
    generalize upd H25 K1 (.lst (us.drop 1)) = H26 at s26 e26 ⊢

    refine ⟨_, rfl, _, rfl, BL, _, rfl, SqL.of (s26 _ _ (s25 _ _ jB)), fun B1 hB1 => ?_⟩
    rw [cut1]
    have s27 : Same H26 (upd H26 B1 (.lst (zs.drop 1))) := Same.upd hB1
    have e27 : (upd H26 B1 (.lst (zs.drop 1))) B1 = some (.lst (zs.drop 1)) := upd_same
    generalize upd H26 B1 (.lst (zs.drop 1)) = H27 at s27 e27 ⊢

    refine ⟨lenOk, fun P1 hP1 => ?_⟩
    have s28 : Same H27 (upd H27 P1 (.tup [.ref K1, .ref B1])) := Same.upd hP1
    have e28 : (upd H27 P1 (.tup [.ref K1, .ref B1])) P1 = some (.tup [.ref K1, .ref B1]) := upd_same
    generalize upd H27 P1 (.tup [.ref K1, .ref B1]) = H28 at s28 e28 ⊢

    refine ⟨lenOk, fun PP hPP => ?_⟩
    have s29 : Same H28 (upd H28 PP (.lst [.ref P0, .ref P1])) := Same.upd hPP
    have e29 : (upd H28 PP (.lst [.ref P0, .ref P1])) PP = some (.lst [.ref P0, .ref P1]) := upd_same
    generalize upd H28 PP (.lst [.ref P0, .ref P1]) = H29 at s29 e29 ⊢

    have s2529 := ((s26.trans s27).trans s28).trans s29
    have s2429 := s25.trans s2529
    have s029 := s024.trans s2429
    -- stands
    refine ⟨_, rfl, _, rfl, _, rfl, a, _, rfl, s029.seq hS, fun sl2 hsl2 => ?_⟩
    rw [cutV_ints]
    have hcl2 : (cutI ns (some 3) (some 63)).length ≤ 63 := Nat.le_trans (cutI_length _ _ _) hlen
    generalize cutI ns (some 3) (some 63) = cs2 at hcl2 ⊢
    have s30 : Same H29 (upd H29 sl2 (.lst (cs2.map V.int))) := Same.upd hsl2
    have e30 : (upd H29 sl2 (.lst (cs2.map V.int))) sl2 = some (.lst (cs2.map V.int)) := upd_same
    generalize upd H29 sl2 (.lst (cs2.map V.int)) = H30 at s30 e30 ⊢

    have s2430 := s2429.trans s30
    have hall30 := jhall.same s2430
    refine ⟨sl2, rfl, .inl ⟨⟨_, SqL.of e30⟩, fun D hD => ?_⟩⟩
    refine comp_list (K := K) (a := sl2) (xs := cs2.map V.int) (fun i ys H' => (∀ y ∈ ys, SomeSt ws.length H' y) ∧ ys.length = i ∧ H' D = some (.lst ys) ∧ Same H30 H') ⟨(fun y hy => by cases hy), rfl, upd_same, Same.upd hD⟩ (fun i ys H' _ ⟨_, _, _, s⟩ => SqL.of (s _ _ e30)) ?_ ?_
    · rintro i y ys H' hy ⟨hys, hyl, hD', s'⟩ Qe hQ
      have hi := (List.getElem?_eq_some_iff.mp hy).1
      rw [List.length_map] at hi
      rw [List.getElem?_map] at hy
      obtain ⟨x, hx, rfl⟩ := Option.map_eq_some_iff.mp hy
      refine ⟨_, rfl, _, rfl, hh, ws, cm, x, rfl, hall30.same s', by omega, hw1, hcm, fun st ls n H2' s2' hst hll => ?_⟩
      have hD2 := s2' _ _ hD'
      refine hQ _ _ hD2 (small1000 (by omega)) ⟨fun y hy => ?_, len_snoc hyl, upd_same, (s'.trans s2').new hD⟩
      have tt : TupS H2' (upd H2' D (.lst (ys ++ [.ref st]))) := TupS.lst hD2
      rcases List.mem_append.mp hy with z | z
      · exact ((hys y z).same s2').tups tt
      · cases List.mem_singleton.mp z
        exact ⟨st, ls, n, rfl, hst.tups tt, hll⟩
    rintro ys H31 ⟨hys, hyl, hD31, s31⟩
    rw [List.length_map] at hyl
    have s2431 := s2430.trans s31
    refine ⟨_, rfl, W, _, rfl, .inl ⟨SqL.of (s2431 _ _ jW), fun y1 hy1 => ?_⟩⟩
    have s32 : Same H31 (upd H31 y1 (.tup (ws.map V.int))) := Same.upd hy1
    have e32 : (upd H31 y1 (.tup (ws.map V.int))) y1 = some (.tup (ws.map V.int)) := upd_same
    generalize upd H31 y1 (.tup (ws.map V.int)) = H32 at s32 e32 ⊢

    refine ⟨lenOk, fun y2 hy2 => ?_⟩
    have s33 : Same H32 (upd H32 y2 (.tup [.ref y1, .int 0])) := Same.upd hy2
    have e33 : (upd H32 y2 (.tup [.ref y1, .int 0])) y2 = some (.tup [.ref y1, .int 0]) := upd_same
    generalize upd H32 y2 (.tup [.ref y1, .int 0]) = H33 at s33 e33 ⊢

    refine ⟨lenOk, fun y3 hy3 => ?_⟩
    have s34 : Same H33 (upd H33 y3 (.lst [.ref y2])) := Same.upd hy3
    have e34 : (upd H33 y3 (.lst [.ref y2])) y3 = some (.lst [.ref y2]) := upd_same
    generalize upd H33 y3 (.lst [.ref y2]) = H34 at s34 e34 ⊢

    have s3134 := (s32.trans s33).trans s34
    refine ⟨D, y3, _, _, rfl, rfl, s3134 _ _ hD31, e34, small63 (by rw [List.length_singleton]; omega), fun SS hSS => ?_⟩
    have s35 : Same H34 (upd H34 SS (.lst (ys ++ [.ref y2]))) := Same.upd hSS
    have jSS : (upd H34 SS (.lst (ys ++ [.ref y2]))) SS = some (.lst (ys ++ [.ref y2])) := upd_same
    generalize upd H34 SS (.lst (ys ++ [.ref y2])) = H35 at s35 jSS ⊢

    have s3135 := s3134.trans s35
    have s2435 := s2431.trans s3135
    have all35 : ∀ y ∈ ys ++ [V.ref y2], SomeSt ws.length H35 y := fun y hy => by
      rcases List.mem_append.mp hy with z | z
      · exact (hys y z).same s3135
      · cases List.mem_singleton.mp z
        exact ⟨y2, ws, 0, rfl, ⟨y1, s35 _ _ (s34 _ _ e33), s35 _ _ (s34 _ _ (s33 _ _ e32))⟩, rfl⟩
    have hsl : (ys ++ [V.ref y2]).length ≤ 64 := by rw [List.length_append, List.length_singleton]; omega
    generalize ys ++ [V.ref y2] = sts at jSS all35 hsl ⊢
    have s2935 := (s30.trans s31).trans s3135
    replace jhall := jhall.same s2435
    replace jCA := s2435 _ _ jCA
    replace jRD := s2435 _ _ jRD
    have jPP := s2935 _ _ e29
    have jS := (s024.trans s2435).seq hS
    have ak35 := ak24.imp fun _ _ z => KeptV.tups (Same.tups s2435) z
    have ab35 := ab24.imp fun _ _ z => BrokV.tups (Same.tups s2435) z
    have jc35 := jc24.same s2435
    have nd0 : ((kd es).map (·.1)).Nodup := by rw [kd_keys]; exact nd
    have nd1 : ((kd (es.drop 1)).map (·.1)).Nodup := by rw [kd_keys, List.map_drop]; exact nd_drop nd
    have nj0 : (js.map (·.1)).Nodup := by rw [jc.keys]; exact nd
    have nj1 : ((js.drop 1).map (·.1)).Nodup := by rw [List.map_drop]; exact nd_drop nj0
    have pa0 : PapAt C_PaperCaller C_PaperRoad H35 c0 r0 P0 es := ⟨g0, d0, k0, p0, KL, BL, us, zs, _, _, s2435 _ _ jc0, s2435 _ _ jd0, s2435 _ _ jr0, s2435 _ _ jp0, s2935 _ _ (s2529 _ _ e25), s2435 _ _ jK, s2435 _ _ jB, ak35, ab35, fun k => valV_one nd0, fun k => by
      have z := jc35.ans (k := k)
      unfold AnsK at z ⊢
      rw [valV_one nj0]
      exact z⟩
    have pa1 : PapAt C_PaperCaller C_PaperRoad H35 c1 r1 P1 (es.drop 1) := ⟨g1, d1, k1, p1, K1, B1, us.drop 1, zs.drop 1, _, _, s2435 _ _ jc1, s2435 _ _ jd1, s2435 _ _ jr1, s2435 _ _ jp1, s2935 _ _ (s29 _ _ e28), s2935 _ _ (s29 _ _ (s28 _ _ (s27 _ _ e26))), s2935 _ _ (s29 _ _ (s28 _ _ e27)), ak35.drop 1, ab35.drop 1, fun k => valV_one nd1, fun k => by
      have z := jc35.drop1.ans (k := k)
      unfold AnsK at z ⊢
      rw [valV_one nj1]
      exact z⟩
    refine ⟨_, rfl, SS, _, rfl, .inl (SqL.of jSS), _, rfl, by omega, by omega, ?_⟩
    refine for_range (n := sts.length) (fun i σ H' => ∃ v14 v15 v16 : Option V, σ = [some (.ref a), some (.int (1 + cellI ns 0 % 8)), some (.int mo), some (.ref W), some (vO cm), some (.ref hh), some (.ref KL), some (.ref BL), some (.ref A0), some (.ref G0), some (.ref CA), some (.ref RD), some (.ref PP), some (.ref SS), v14, v15, v16] ∧ H' = H35) ⟨_, _, _, rfl, rfl⟩ ?_ ?_
    · rintro i σ H' hi ⟨v14, v15, v16, rfl, rfl⟩
      have hmp : (0 : Int) < 1 + cellI ns 0 % 8 := by omega
      refine ⟨_, rfl, _, rfl, _, _, rfl, rfl, a, ns, _, rfl, jS, (by omega), _, _, rfl, rfl, ⟨by decide, by decide⟩, _, rfl, _, _, rfl, rfl, hmp, ?_⟩
      refine ⟨_, rfl, _, rfl, _, rfl, a, ns, _, rfl, jS, (by omega), _, _, rfl, rfl, _, _, rfl, rfl, by simp, ?_⟩
      have hwm := emod_range (cellI ns (0 + (i : Int) + 1) / 2) hmp
      have ha0 : ∀ e ∈ es, cellI ns (0 + (i : Int) + 1) / 2 % (1 + cellI ns 0 % 8) < (e.2.2.length : Int) := fun e he => by
        rw [hal e he]
        omega
      have ha1 : ∀ e ∈ es.drop 1, cellI ns (0 + (i : Int) + 1) / 2 % (1 + cellI ns 0 % 8) < (e.2.2.length : Int) := fun e he => ha0 e (List.mem_of_mem_drop he)
      have hm2 := emod_range (0 + (i : Int) + cellI ns (0 + (i : Int))) (show (0 : Int) < 2 by decide)
      have hm01 : (0 + (i : Int) + cellI ns (0 + (i : Int))) % 2 = 0 ∨ (0 + (i : Int) + cellI ns (0 + (i : Int))) % 2 = 1 := by omega
      obtain ⟨st, ls, n, ey, hst, hll⟩ := all35 _ (List.getElem_mem hi)
      have eat : atI sts (0 + (i : Int)) = some (.ref st) := by
        rw [Int.zero_add]
        exact atI_nat (by rw [List.getElem?_eq_getElem hi, ey])
      rcases hm01 with hm | hm
      · have at0 : ∀ x y : V, atI [x, y] ((0 + (i : Int) + cellI ns (0 + (i : Int))) % 2) = some x := fun x y => by rw [hm]; rfl
        have at1 : ∀ x y : V, atI [x, y] (1 - (0 + (i : Int) + cellI ns (0 + (i : Int))) % 2) = some y := fun x y => by rw [hm]; rfl
        refine ⟨_, rfl, _, rfl, CA, _, _, _, rfl, rfl, .inl (SqL.of jCA), at0 _ _, _, rfl, _, rfl, RD, _, _, _, rfl, rfl, .inl (SqL.of jRD), at0 _ _, _, rfl, _, rfl, _, rfl, SS, _, _, _, rfl, rfl, .inl (SqL.of jSS), eat, _, rfl, _, rfl, _, rfl, PP, _, _, _, rfl, rfl, .inl (SqL.of jPP), at0 _ _, c0, r0, hh, st, P0, es, ws, ls, cm, n, _, rfl, pa0, hwm.1, ha0, jhall, hst, by omega, _, rfl, ite_f rfl ?_⟩
        refine ⟨_, rfl, _, rfl, _, _, rfl, rfl, CA, _, _, _, rfl, rfl, .inl (SqL.of jCA), at1 _ _, _, rfl, _, rfl, _, _, rfl, rfl, RD, _, _, _, rfl, rfl, .inl (SqL.of jRD), at1 _ _, _, rfl, _, rfl, _, rfl, SS, _, _, _, rfl, rfl, .inl (SqL.of jSS), eat, _, rfl, _, rfl, _, rfl, _, _, rfl, rfl, PP, _, _, _, rfl, rfl, .inl (SqL.of jPP), at1 _ _, c1, r1, hh, st, P1, (es.drop 1), ws, ls, cm, n, _, rfl, pa1, hwm.1, ha1, jhall, hst, by omega, _, rfl, ite_f rfl ?_⟩
        exact ⟨_, _, _, rfl, rfl⟩
      · have at1 : ∀ x y : V, atI [x, y] ((0 + (i : Int) + cellI ns (0 + (i : Int))) % 2) = some y := fun x y => by rw [hm]; rfl
        have at0 : ∀ x y : V, atI [x, y] (1 - (0 + (i : Int) + cellI ns (0 + (i : Int))) % 2) = some x := fun x y => by rw [hm]; rfl
        refine ⟨_, rfl, _, rfl, CA, _, _, _, rfl, rfl, .inl (SqL.of jCA), at1 _ _, _, rfl, _, rfl, RD, _, _, _, rfl, rfl, .inl (SqL.of jRD), at1 _ _, _, rfl, _, rfl, _, rfl, SS, _, _, _, rfl, rfl, .inl (SqL.of jSS), eat, _, rfl, _, rfl, _, rfl, PP, _, _, _, rfl, rfl, .inl (SqL.of jPP), at1 _ _, c1, r1, hh, st, P1, (es.drop 1), ws, ls, cm, n, _, rfl, pa1, hwm.1, ha1, jhall, hst, by omega, _, rfl, ite_f rfl ?_⟩
        refine ⟨_, rfl, _, rfl, _, _, rfl, rfl, CA, _, _, _, rfl, rfl, .inl (SqL.of jCA), at0 _ _, _, rfl, _, rfl, _, _, rfl, rfl, RD, _, _, _, rfl, rfl, .inl (SqL.of jRD), at0 _ _, _, rfl, _, rfl, _, rfl, SS, _, _, _, rfl, rfl, .inl (SqL.of jSS), eat, _, rfl, _, rfl, _, rfl, _, _, rfl, rfl, PP, _, _, _, rfl, rfl, .inl (SqL.of jPP), at0 _ _, c0, r0, hh, st, P0, es, ws, ls, cm, n, _, rfl, pa0, hwm.1, ha0, jhall, hst, by omega, _, rfl, ite_f rfl ?_⟩
        exact ⟨_, _, _, rfl, rfl⟩
    rintro σ H' ⟨v14, v15, v16, rfl, rfl⟩
    exact q _
end
theorem all_mk {l : PySem.W.OpenLaw} {w : World} {K : PySem.W.Frag} {h : Heap} {mg : Str → Option Value} {fa : Addr} (X : K.In h) (G : h.Ns mainGlobals mg) (hfa : mg "law" = some (.ref fa)) {f_may_lose f_least_left f_PaperCaller___init__ f_PaperCaller_call f_PaperRoad___init__ f_PaperRoad_loses f_law_cell_at f_law_standing f_law_papers f_law_due_call f_law_due_loss f_law_asked f_law C_PaperCaller C_PaperRoad C_Caller C_Road : Addr} {od_may_lose an_may_lose : Option Addr} {sl_may_lose : Array (Option Value)} {oc_may_lose kV_may_lose dc_may_lose pm_may_lose cd_may_lose ct_may_lose : Value} {od_least_left an_least_left : Option Addr} {sl_least_left : Array (Option Value)} {oc_least_left kV_least_left dc_least_left pm_least_left cd_least_left ct_least_left : Value} {od_PaperCaller___init__ an_PaperCaller___init__ : Option Addr} {sl_PaperCaller___init__ : Array (Option Value)} {oc_PaperCaller___init__ kV_PaperCaller___init__ dc_PaperCaller___init__ pm_PaperCaller___init__ cd_PaperCaller___init__ ct_PaperCaller___init__ : Value} {od_PaperCaller_call an_PaperCaller_call : Option Addr} {sl_PaperCaller_call : Array (Option Value)} {oc_PaperCaller_call kV_PaperCaller_call dc_PaperCaller_call pm_PaperCaller_call cd_PaperCaller_call ct_PaperCaller_call : Value} {od_PaperRoad___init__ an_PaperRoad___init__ : Option Addr} {sl_PaperRoad___init__ : Array (Option Value)} {oc_PaperRoad___init__ kV_PaperRoad___init__ dc_PaperRoad___init__ pm_PaperRoad___init__ cd_PaperRoad___init__ ct_PaperRoad___init__ : Value} {od_PaperRoad_loses an_PaperRoad_loses : Option Addr} {sl_PaperRoad_loses : Array (Option Value)} {oc_PaperRoad_loses kV_PaperRoad_loses dc_PaperRoad_loses pm_PaperRoad_loses cd_PaperRoad_loses ct_PaperRoad_loses : Value} {od_law_cell_at an_law_cell_at : Option Addr} {sl_law_cell_at : Array (Option Value)} {oc_law_cell_at kV_law_cell_at dc_law_cell_at pm_law_cell_at cd_law_cell_at ct_law_cell_at : Value} {od_law_standing an_law_standing : Option Addr} {sl_law_standing : Array (Option Value)} {oc_law_standing kV_law_standing dc_law_standing pm_law_standing cd_law_standing ct_law_standing : Value} {od_law_papers an_law_papers : Option Addr} {sl_law_papers : Array (Option Value)} {oc_law_papers kV_law_papers dc_law_papers pm_law_papers cd_law_papers ct_law_papers : Value} {od_law_due_call an_law_due_call : Option Addr} {sl_law_due_call : Array (Option Value)} {oc_law_due_call kV_law_due_call dc_law_due_call pm_law_due_call cd_law_due_call ct_law_due_call : Value} {od_law_due_loss an_law_due_loss : Option Addr} {sl_law_due_loss : Array (Option Value)} {oc_law_due_loss kV_law_due_loss dc_law_due_loss pm_law_due_loss cd_law_due_loss ct_law_due_loss : Value} {od_law_asked an_law_asked : Option Addr} {sl_law_asked : Array (Option Value)} {oc_law_asked kV_law_asked dc_law_asked pm_law_asked cd_law_asked ct_law_asked : Value} {od_law an_law : Option Addr} {sl_law : Array (Option Value)} {oc_law kV_law dc_law pm_law cd_law ct_law : Value}
    (a_may_lose : PySem.W.nsIn K mainGlobals "may_lose" = some (some (.ref f_may_lose))) (l_may_lose : K.lookup f_may_lose = some ⟨oc_may_lose, od_may_lose, .func (PySem.W.fnOf "may_lose" "may_lose" (defArgs s_may_lose) (defBody s_may_lose) (defScope s_may_lose) .none kV_may_lose dc_may_lose pm_may_lose an_may_lose cd_may_lose ct_may_lose), sl_may_lose⟩) (c_may_lose : PySem.W.codeIn K cd_may_lose "may_lose" = true) (k_may_lose : PySem.W.keepIn K (.ref f_may_lose) = true)
    (a_least_left : PySem.W.nsIn K mainGlobals "least_left" = some (some (.ref f_least_left))) (l_least_left : K.lookup f_least_left = some ⟨oc_least_left, od_least_left, .func (PySem.W.fnOf "least_left" "least_left" (defArgs s_least_left) (defBody s_least_left) (defScope s_least_left) .none kV_least_left dc_least_left pm_least_left an_least_left cd_least_left ct_least_left), sl_least_left⟩) (c_least_left : PySem.W.codeIn K cd_least_left "least_left" = true) (k_least_left : PySem.W.keepIn K (.ref f_least_left) = true)
    (i_PaperCaller___init__ : PySem.W.isFn K (.ref f_PaperCaller___init__) = true) (l_PaperCaller___init__ : K.lookup f_PaperCaller___init__ = some ⟨oc_PaperCaller___init__, od_PaperCaller___init__, .func (PySem.W.fnOf "__init__" "PaperCaller.__init__" (defArgs s_PaperCaller___init__) (defBody s_PaperCaller___init__) (defScope s_PaperCaller___init__) .none kV_PaperCaller___init__ dc_PaperCaller___init__ pm_PaperCaller___init__ an_PaperCaller___init__ cd_PaperCaller___init__ ct_PaperCaller___init__), sl_PaperCaller___init__⟩) (c_PaperCaller___init__ : PySem.W.codeIn K cd_PaperCaller___init__ "PaperCaller.__init__" = true) (k_PaperCaller___init__ : PySem.W.keepIn K (.ref f_PaperCaller___init__) = true)
    (i_PaperCaller_call : PySem.W.isFn K (.ref f_PaperCaller_call) = true) (l_PaperCaller_call : K.lookup f_PaperCaller_call = some ⟨oc_PaperCaller_call, od_PaperCaller_call, .func (PySem.W.fnOf "call" "PaperCaller.call" (defArgs s_PaperCaller_call) (defBody s_PaperCaller_call) (defScope s_PaperCaller_call) .none kV_PaperCaller_call dc_PaperCaller_call pm_PaperCaller_call an_PaperCaller_call cd_PaperCaller_call ct_PaperCaller_call), sl_PaperCaller_call⟩) (c_PaperCaller_call : PySem.W.codeIn K cd_PaperCaller_call "PaperCaller.call" = true) (k_PaperCaller_call : PySem.W.keepIn K (.ref f_PaperCaller_call) = true)
    (i_PaperRoad___init__ : PySem.W.isFn K (.ref f_PaperRoad___init__) = true) (l_PaperRoad___init__ : K.lookup f_PaperRoad___init__ = some ⟨oc_PaperRoad___init__, od_PaperRoad___init__, .func (PySem.W.fnOf "__init__" "PaperRoad.__init__" (defArgs s_PaperRoad___init__) (defBody s_PaperRoad___init__) (defScope s_PaperRoad___init__) .none kV_PaperRoad___init__ dc_PaperRoad___init__ pm_PaperRoad___init__ an_PaperRoad___init__ cd_PaperRoad___init__ ct_PaperRoad___init__), sl_PaperRoad___init__⟩) (c_PaperRoad___init__ : PySem.W.codeIn K cd_PaperRoad___init__ "PaperRoad.__init__" = true) (k_PaperRoad___init__ : PySem.W.keepIn K (.ref f_PaperRoad___init__) = true)
    (i_PaperRoad_loses : PySem.W.isFn K (.ref f_PaperRoad_loses) = true) (l_PaperRoad_loses : K.lookup f_PaperRoad_loses = some ⟨oc_PaperRoad_loses, od_PaperRoad_loses, .func (PySem.W.fnOf "loses" "PaperRoad.loses" (defArgs s_PaperRoad_loses) (defBody s_PaperRoad_loses) (defScope s_PaperRoad_loses) .none kV_PaperRoad_loses dc_PaperRoad_loses pm_PaperRoad_loses an_PaperRoad_loses cd_PaperRoad_loses ct_PaperRoad_loses), sl_PaperRoad_loses⟩) (c_PaperRoad_loses : PySem.W.codeIn K cd_PaperRoad_loses "PaperRoad.loses" = true) (k_PaperRoad_loses : PySem.W.keepIn K (.ref f_PaperRoad_loses) = true)
    (a_law_cell_at : PySem.W.nsIn K mainGlobals "_law_cell_at" = some (some (.ref f_law_cell_at))) (l_law_cell_at : K.lookup f_law_cell_at = some ⟨oc_law_cell_at, od_law_cell_at, .func (PySem.W.fnOf "_law_cell_at" "_law_cell_at" (defArgs s_law_cell_at) (defBody s_law_cell_at) (defScope s_law_cell_at) .none kV_law_cell_at dc_law_cell_at pm_law_cell_at an_law_cell_at cd_law_cell_at ct_law_cell_at), sl_law_cell_at⟩) (c_law_cell_at : PySem.W.codeIn K cd_law_cell_at "_law_cell_at" = true) (k_law_cell_at : PySem.W.keepIn K (.ref f_law_cell_at) = true)
    (a_law_standing : PySem.W.nsIn K mainGlobals "_law_standing" = some (some (.ref f_law_standing))) (l_law_standing : K.lookup f_law_standing = some ⟨oc_law_standing, od_law_standing, .func (PySem.W.fnOf "_law_standing" "_law_standing" (defArgs s_law_standing) (defBody s_law_standing) (defScope s_law_standing) .none kV_law_standing dc_law_standing pm_law_standing an_law_standing cd_law_standing ct_law_standing), sl_law_standing⟩) (c_law_standing : PySem.W.codeIn K cd_law_standing "_law_standing" = true) (k_law_standing : PySem.W.keepIn K (.ref f_law_standing) = true)
    (a_law_papers : PySem.W.nsIn K mainGlobals "_law_papers" = some (some (.ref f_law_papers))) (l_law_papers : K.lookup f_law_papers = some ⟨oc_law_papers, od_law_papers, .func (PySem.W.fnOf "_law_papers" "_law_papers" (defArgs s_law_papers) (defBody s_law_papers) (defScope s_law_papers) .none kV_law_papers dc_law_papers pm_law_papers an_law_papers cd_law_papers ct_law_papers), sl_law_papers⟩) (c_law_papers : PySem.W.codeIn K cd_law_papers "_law_papers" = true) (k_law_papers : PySem.W.keepIn K (.ref f_law_papers) = true)
    (a_law_due_call : PySem.W.nsIn K mainGlobals "_law_due_call" = some (some (.ref f_law_due_call))) (l_law_due_call : K.lookup f_law_due_call = some ⟨oc_law_due_call, od_law_due_call, .func (PySem.W.fnOf "_law_due_call" "_law_due_call" (defArgs s_law_due_call) (defBody s_law_due_call) (defScope s_law_due_call) .none kV_law_due_call dc_law_due_call pm_law_due_call an_law_due_call cd_law_due_call ct_law_due_call), sl_law_due_call⟩) (c_law_due_call : PySem.W.codeIn K cd_law_due_call "_law_due_call" = true) (k_law_due_call : PySem.W.keepIn K (.ref f_law_due_call) = true)
    (a_law_due_loss : PySem.W.nsIn K mainGlobals "_law_due_loss" = some (some (.ref f_law_due_loss))) (l_law_due_loss : K.lookup f_law_due_loss = some ⟨oc_law_due_loss, od_law_due_loss, .func (PySem.W.fnOf "_law_due_loss" "_law_due_loss" (defArgs s_law_due_loss) (defBody s_law_due_loss) (defScope s_law_due_loss) .none kV_law_due_loss dc_law_due_loss pm_law_due_loss an_law_due_loss cd_law_due_loss ct_law_due_loss), sl_law_due_loss⟩) (c_law_due_loss : PySem.W.codeIn K cd_law_due_loss "_law_due_loss" = true) (k_law_due_loss : PySem.W.keepIn K (.ref f_law_due_loss) = true)
    (a_law_asked : PySem.W.nsIn K mainGlobals "_law_asked" = some (some (.ref f_law_asked))) (l_law_asked : K.lookup f_law_asked = some ⟨oc_law_asked, od_law_asked, .func (PySem.W.fnOf "_law_asked" "_law_asked" (defArgs s_law_asked) (defBody s_law_asked) (defScope s_law_asked) .none kV_law_asked dc_law_asked pm_law_asked an_law_asked cd_law_asked ct_law_asked), sl_law_asked⟩) (c_law_asked : PySem.W.codeIn K cd_law_asked "_law_asked" = true) (k_law_asked : PySem.W.keepIn K (.ref f_law_asked) = true)
    (a_law : PySem.W.nsIn K mainGlobals "law" = some (some (.ref f_law))) (l_law : K.lookup f_law = some ⟨oc_law, od_law, .func (PySem.W.fnOf "law" "law" (defArgs s_law) (defBody s_law) (defScope s_law) .none kV_law dc_law pm_law an_law cd_law ct_law), sl_law⟩) (c_law : PySem.W.codeIn K cd_law "law" = true) (k_law : PySem.W.keepIn K (.ref f_law) = true)
    (pg_PaperCaller : PySem.W.plainGet K C_PaperCaller Str.empty = true) (hd_PaperCaller : PySem.W.hasDictIn K C_PaperCaller = true) (po_PaperCaller : PySem.W.plainOver K C_PaperCaller = true) (sa_PaperCaller : PySem.W.findIn K (.ref C_PaperCaller) "__setattr__" = some (some (.builtin "object.__setattr__"))) (mm_PaperCaller : PySem.W.makesIn K C_PaperCaller = true) (kc_PaperCaller : PySem.W.keepIn K (.ref C_PaperCaller) = true) (fm_PaperCaller_call : PySem.W.findIn K (.ref C_PaperCaller) "call" = some (some (.ref f_PaperCaller_call))) (fm_PaperCaller___init__ : PySem.W.findIn K (.ref C_PaperCaller) "__init__" = some (some (.ref f_PaperCaller___init__))) (nf_PaperCaller_paper : PySem.W.findIn K (.ref C_PaperCaller) "paper" = some none) (pg_PaperRoad : PySem.W.plainGet K C_PaperRoad Str.empty = true) (hd_PaperRoad : PySem.W.hasDictIn K C_PaperRoad = true) (po_PaperRoad : PySem.W.plainOver K C_PaperRoad = true) (sa_PaperRoad : PySem.W.findIn K (.ref C_PaperRoad) "__setattr__" = some (some (.builtin "object.__setattr__"))) (mm_PaperRoad : PySem.W.makesIn K C_PaperRoad = true) (kc_PaperRoad : PySem.W.keepIn K (.ref C_PaperRoad) = true) (fm_PaperRoad_loses : PySem.W.findIn K (.ref C_PaperRoad) "loses" = some (some (.ref f_PaperRoad_loses))) (fm_PaperRoad___init__ : PySem.W.findIn K (.ref C_PaperRoad) "__init__" = some (some (.ref f_PaperRoad___init__))) (nf_PaperRoad_paper : PySem.W.findIn K (.ref C_PaperRoad) "paper" = some none)
     (z_min : PySem.W.nsIn K mainGlobals "min" = some none) (z_dict : PySem.W.nsIn K mainGlobals "dict" = some none) (z_len : PySem.W.nsIn K mainGlobals "len" = some none) (z_tuple : PySem.W.nsIn K mainGlobals "tuple" = some none) (z_range : PySem.W.nsIn K mainGlobals "range" = some none) (z_isinstance : PySem.W.nsIn K mainGlobals "isinstance" = some none) (z_bool : PySem.W.nsIn K mainGlobals "bool" = some none) (z_int : PySem.W.nsIn K mainGlobals "int" = some none) (z_list : PySem.W.nsIn K mainGlobals "list" = some none) (ac_PaperCaller : PySem.W.nsIn K mainGlobals "PaperCaller" = some (some (.ref C_PaperCaller))) (ac_PaperRoad : PySem.W.nsIn K mainGlobals "PaperRoad" = some (some (.ref C_PaperRoad))) (ac_Caller : PySem.W.nsIn K mainGlobals "Caller" = some (some (.ref C_Caller))) (ac_Road : PySem.W.nsIn K mainGlobals "Road" = some (some (.ref C_Road))) (o_PaperCaller_Caller : PySem.W.kitOne K (.ref C_PaperCaller) (.ref C_Caller) = some true) (o_PaperRoad_Road : PySem.W.kitOne K (.ref C_PaperRoad) (.ref C_Road) = some true) :
    ∃ fd : FuncData, (∀ (s : Shared) (v : Value), BindsTo s fd ⟨[v], []⟩ [("script", v)]) ∧ ∀ base : Heap, K.In base → base.Ns mainGlobals mg → FnOk l.prog w K mg base CX0 4 fa fd ["script"] (sp_law K) := by
  have e := hfa.symm.trans (PySem.W.mg_of X G a_law)
  cases e
  have T : Txt K mg f_may_lose f_least_left f_PaperCaller___init__ f_PaperCaller_call f_PaperRoad___init__ f_PaperRoad_loses f_law_cell_at f_law_standing f_law_papers f_law_due_call f_law_due_loss f_law_asked fa C_PaperCaller C_PaperRoad C_Caller C_Road := ⟨PySem.W.mg_of X G a_may_lose, k_may_lose, PySem.W.mg_of X G a_least_left, k_least_left, PySem.W.mg_of X G a_law_cell_at, k_law_cell_at, PySem.W.mg_of X G a_law_standing, k_law_standing, PySem.W.mg_of X G a_law_papers, k_law_papers, PySem.W.mg_of X G a_law_due_call, k_law_due_call, PySem.W.mg_of X G a_law_due_loss, k_law_due_loss, PySem.W.mg_of X G a_law_asked, k_law_asked, PySem.W.mg_of X G a_law, k_law, PySem.W.mg_none_of X G z_min, PySem.W.mg_none_of X G z_dict, PySem.W.mg_none_of X G z_len, PySem.W.mg_none_of X G z_tuple, PySem.W.mg_none_of X G z_range, PySem.W.mg_none_of X G z_isinstance, PySem.W.mg_none_of X G z_bool, PySem.W.mg_none_of X G z_int, PySem.W.mg_none_of X G z_list, PySem.W.mg_of X G ac_PaperCaller, PySem.W.mg_of X G ac_PaperRoad, PySem.W.mg_of X G ac_Caller, PySem.W.mg_of X G ac_Road, ⟨pg_PaperCaller, hd_PaperCaller, po_PaperCaller, sa_PaperCaller⟩, ⟨mm_PaperCaller, fm_PaperCaller___init__, i_PaperCaller___init__, kc_PaperCaller⟩, ⟨fm_PaperCaller_call, i_PaperCaller_call, k_PaperCaller_call⟩, nf_PaperCaller_paper, ⟨pg_PaperRoad, hd_PaperRoad, po_PaperRoad, sa_PaperRoad⟩, ⟨mm_PaperRoad, fm_PaperRoad___init__, i_PaperRoad___init__, kc_PaperRoad⟩, ⟨fm_PaperRoad_loses, i_PaperRoad_loses, k_PaperRoad_loses⟩, nf_PaperRoad_paper, o_PaperCaller_Caller, o_PaperRoad_Road⟩
  have F_may_lose := fun_mk (st := s_may_lose) l_may_lose c_may_lose k_may_lose
  have F_least_left := fun_mk (st := s_least_left) l_least_left c_least_left k_least_left
  have F_PaperCaller___init__ := fun_mk (st := s_PaperCaller___init__) l_PaperCaller___init__ c_PaperCaller___init__ k_PaperCaller___init__
  have F_PaperCaller_call := fun_mk (st := s_PaperCaller_call) l_PaperCaller_call c_PaperCaller_call k_PaperCaller_call
  have F_PaperRoad___init__ := fun_mk (st := s_PaperRoad___init__) l_PaperRoad___init__ c_PaperRoad___init__ k_PaperRoad___init__
  have F_PaperRoad_loses := fun_mk (st := s_PaperRoad_loses) l_PaperRoad_loses c_PaperRoad_loses k_PaperRoad_loses
  have F_law_cell_at := fun_mk (st := s_law_cell_at) l_law_cell_at c_law_cell_at k_law_cell_at
  have F_law_standing := fun_mk (st := s_law_standing) l_law_standing c_law_standing k_law_standing
  have F_law_papers := fun_mk (st := s_law_papers) l_law_papers c_law_papers k_law_papers
  have F_law_due_call := fun_mk (st := s_law_due_call) l_law_due_call c_law_due_call k_law_due_call
  have F_law_due_loss := fun_mk (st := s_law_due_loss) l_law_due_loss c_law_due_loss k_law_due_loss
  have F_law_asked := fun_mk (st := s_law_asked) l_law_asked c_law_asked k_law_asked
  have F_law := fun_mk (st := s_law) l_law c_law k_law
  have B_may_lose := F_may_lose.binds (ps := ["hall", "standing"]) fun _ _ _ _ _ _ us hl => match us, hl with | [_, _], _ => rfl
  have B_least_left := F_least_left.binds (ps := ["standing"]) fun _ _ _ _ _ _ us hl => match us, hl with | [_], _ => rfl
  have B_PaperCaller___init__ := F_PaperCaller___init__.binds (ps := ["self", "paper"]) fun _ _ _ _ _ _ us hl => match us, hl with | [_, _], _ => rfl
  have B_PaperCaller_call := F_PaperCaller_call.binds (ps := ["self", "hall", "standing"]) fun _ _ _ _ _ _ us hl => match us, hl with | [_, _, _], _ => rfl
  have B_PaperRoad___init__ := F_PaperRoad___init__.binds (ps := ["self", "paper"]) fun _ _ _ _ _ _ us hl => match us, hl with | [_, _], _ => rfl
  have B_PaperRoad_loses := F_PaperRoad_loses.binds (ps := ["self", "hall", "standing", "who"]) fun _ _ _ _ _ _ us hl => match us, hl with | [_, _, _, _], _ => rfl
  have B_law_cell_at := F_law_cell_at.binds (ps := ["script", "k"]) fun _ _ _ _ _ _ us hl => match us, hl with | [_, _], _ => rfl
  have B_law_standing := F_law_standing.binds (ps := ["hall", "cell"]) fun _ _ _ _ _ _ us hl => match us, hl with | [_, _], _ => rfl
  have B_law_papers := F_law_papers.binds (ps := ["hall", "cells"]) fun _ _ _ _ _ _ us hl => match us, hl with | [_, _], _ => rfl
  have B_law_due_call := F_law_due_call.binds (ps := ["kept", "standing"]) fun _ _ _ _ _ _ us hl => match us, hl with | [_, _], _ => rfl
  have B_law_due_loss := F_law_due_loss.binds (ps := ["broken", "hall", "standing", "who"]) fun _ _ _ _ _ _ us hl => match us, hl with | [_, _, _, _], _ => rfl
  have B_law_asked := F_law_asked.binds (ps := ["caller", "road", "hall", "standing", "who", "papers"]) fun _ _ _ _ _ _ us hl => match us, hl with | [_, _, _, _, _, _], _ => rfl
  refine ⟨PySem.W.fnOf "law" "law" (defArgs s_law) (defBody s_law) (defScope s_law) .none kV_law dc_law pm_law an_law cd_law ct_law, fun s v => .of_eq rfl, fun base _ _ => ?_⟩
  have G_may_lose : FnOk l.prog w K mg base CX0 1 _ _ ["hall", "standing"] (sp_may_lose K) := ok_may_lose T F_may_lose 
  have G_least_left : FnOk l.prog w K mg base CX0 1 _ _ ["standing"] (sp_least_left K) := ok_least_left T F_least_left 
  have G_PaperCaller___init__ : FnOk l.prog w K mg base CX0 1 _ _ ["self", "paper"] (sp_PaperCaller___init__ K C_PaperCaller C_PaperRoad) := ok_PaperCaller___init__ T F_PaperCaller___init__ 
  have G_PaperCaller_call : FnOk l.prog w K mg base CX0 2 _ _ ["self", "hall", "standing"] (sp_PaperCaller_call K C_PaperCaller C_PaperRoad) := ok_PaperCaller_call T F_PaperCaller_call G_least_left B_least_left
  have G_PaperRoad___init__ : FnOk l.prog w K mg base CX0 1 _ _ ["self", "paper"] (sp_PaperRoad___init__ K C_PaperCaller C_PaperRoad) := ok_PaperRoad___init__ T F_PaperRoad___init__ 
  have G_PaperRoad_loses : FnOk l.prog w K mg base CX0 2 _ _ ["self", "hall", "standing", "who"] (sp_PaperRoad_loses K C_PaperCaller C_PaperRoad) := ok_PaperRoad_loses T F_PaperRoad_loses G_may_lose B_may_lose
  have G_law_cell_at : FnOk l.prog w K mg base CX0 1 _ _ ["script", "k"] (sp_law_cell_at K) := ok_law_cell_at T F_law_cell_at 
  have G_law_standing : FnOk l.prog w K mg base CX0 1 _ _ ["hall", "cell"] (sp_law_standing K) := ok_law_standing T F_law_standing 
  have G_law_papers : FnOk l.prog w K mg base CX0 2 _ _ ["hall", "cells"] (sp_law_papers K) := ok_law_papers T F_law_papers G_law_standing B_law_standing
  have G_law_due_call : FnOk l.prog w K mg base CX0 1 _ _ ["kept", "standing"] (sp_law_due_call K) := ok_law_due_call T F_law_due_call 
  have G_law_due_loss : FnOk l.prog w K mg base CX0 1 _ _ ["broken", "hall", "standing", "who"] (sp_law_due_loss K) := ok_law_due_loss T F_law_due_loss 
  have G_law_asked : FnOk l.prog w K mg base CX0 3 _ _ ["caller", "road", "hall", "standing", "who", "papers"] (sp_law_asked K C_PaperCaller C_PaperRoad) := ok_law_asked T F_law_asked G_PaperCaller_call B_PaperCaller_call G_PaperRoad_loses B_PaperRoad_loses G_law_due_call B_law_due_call G_law_due_loss B_law_due_loss
  exact ok_law T F_law G_law_papers B_law_papers G_PaperCaller___init__ B_PaperCaller___init__ G_PaperRoad___init__ B_PaperRoad___init__ G_law_cell_at B_law_cell_at G_law_standing B_law_standing G_law_asked B_law_asked
theorem walk {l : PySem.W.OpenLaw} {q : Program} {loose : List Str} {XP : (Str → Option Value) → Heap → Prop} {YP : World → Heap → Prop} {d : DefRec} {K : Params → PySem.W.Frag} (hn : l.most = some 63) (hdf : d.params.defaults = [])
    (hY : ∀ (w : World) (h : Heap), YP w h → (K w.params).In h)
    (F : ∀ (w : World) (mg : Str → Option Value) (fa : Addr) (h : Heap), (K w.params).In h → h.Ns mainGlobals mg → mg d.name = some (.ref fa) →
      ∃ fd : FuncData, (∀ (s : Shared) (u : Value), BindsTo s fd ⟨[u], []⟩ [("script", u)]) ∧ ∀ base : Heap, (K w.params).In base → base.Ns mainGlobals mg → FnOk l.prog w (K w.params) mg base CX0 4 fa fd ["script"] (sp_law (K w.params))) :
    PySem.W.WalkO q loose XP YP l.row.toRowW d [] (fun f vs => PySem.call f vs) :=
  L2.walk_ofB (n := 63) (k := 4) (x := "script") (CX := fun _ => CX0) (sp := fun w => sp_law (K w.params)) hn (by decide) hdf ⟨rfl, by decide, by decide⟩ hY F (fun _ _ a ns hl hb _ hS => ⟨a, ns, rfl, hS, hl, hb, fun _ => rfl⟩) fun _ _ _ _ _ z => z
end Law
open PySem PySem.W PyProof.Rows
set_option maxRecDepth 100000 in
set_option maxHeartbeats 0 in
theorem PySem.Challenge.cw_roundcall_k73_players_by_papers_holds : PySem.Challenge.rw_roundcall_k73_players_by_papers.Holds := by
  w_on; o_law; k_head; (case hw => w_witness2)
  k_fill
  refine Law.walk (l := PySem.Challenge.rw_roundcall_k73_players_by_papers) rfl rfl (fun w h Y => PySem.W.kIn_of Y) ?F
  case F =>
    intro w mg fa h KX G hmg
    refine' Law.all_mk KX G hmg ?a_may_lose ?l_may_lose ?c_may_lose ?k_may_lose ?a_least_left ?l_least_left ?c_least_left ?k_least_left ?i_PaperCaller___init__ ?l_PaperCaller___init__ ?c_PaperCaller___init__ ?k_PaperCaller___init__ ?i_PaperCaller_call ?l_PaperCaller_call ?c_PaperCaller_call ?k_PaperCaller_call ?i_PaperRoad___init__ ?l_PaperRoad___init__ ?c_PaperRoad___init__ ?k_PaperRoad___init__ ?i_PaperRoad_loses ?l_PaperRoad_loses ?c_PaperRoad_loses ?k_PaperRoad_loses ?a_law_cell_at ?l_law_cell_at ?c_law_cell_at ?k_law_cell_at ?a_law_standing ?l_law_standing ?c_law_standing ?k_law_standing ?a_law_papers ?l_law_papers ?c_law_papers ?k_law_papers ?a_law_due_call ?l_law_due_call ?c_law_due_call ?k_law_due_call ?a_law_due_loss ?l_law_due_loss ?c_law_due_loss ?k_law_due_loss ?a_law_asked ?l_law_asked ?c_law_asked ?k_law_asked ?a_law ?l_law ?c_law ?k_law ?pg_PaperCaller ?hd_PaperCaller ?po_PaperCaller ?sa_PaperCaller ?mm_PaperCaller ?kc_PaperCaller ?fm_PaperCaller_call ?fm_PaperCaller___init__ ?nf_PaperCaller_paper ?pg_PaperRoad ?hd_PaperRoad ?po_PaperRoad ?sa_PaperRoad ?mm_PaperRoad ?kc_PaperRoad ?fm_PaperRoad_loses ?fm_PaperRoad___init__ ?nf_PaperRoad_paper ?z_min ?z_dict ?z_len ?z_tuple ?z_range ?z_isinstance ?z_bool ?z_int ?z_list ?ac_PaperCaller ?ac_PaperRoad ?ac_Caller ?ac_Road ?o_PaperCaller_Caller ?o_PaperRoad_Road
    (case ac_PaperCaller => k_is)
    (case ac_PaperRoad => k_is)
    (case fm_PaperCaller_call => k_is)
    (case fm_PaperCaller___init__ => k_is)
    (case fm_PaperRoad_loses => k_is)
    (case fm_PaperRoad___init__ => k_is)
    (case a_may_lose => k_is)
    (case l_may_lose => k_is)
    (case c_may_lose => k_is)
    (case k_may_lose => k_is)
    (case a_least_left => k_is)
    (case l_least_left => k_is)
    (case c_least_left => k_is)
    (case k_least_left => k_is)
    (case i_PaperCaller___init__ => k_is)
    (case l_PaperCaller___init__ => k_is)
    (case c_PaperCaller___init__ => k_is)
    (case k_PaperCaller___init__ => k_is)
    (case i_PaperCaller_call => k_is)
    (case l_PaperCaller_call => k_is)
    (case c_PaperCaller_call => k_is)
    (case k_PaperCaller_call => k_is)
    (case i_PaperRoad___init__ => k_is)
    (case l_PaperRoad___init__ => k_is)
    (case c_PaperRoad___init__ => k_is)
    (case k_PaperRoad___init__ => k_is)
    (case i_PaperRoad_loses => k_is)
    (case l_PaperRoad_loses => k_is)
    (case c_PaperRoad_loses => k_is)
    (case k_PaperRoad_loses => k_is)
    (case a_law_cell_at => k_is)
    (case l_law_cell_at => k_is)
    (case c_law_cell_at => k_is)
    (case k_law_cell_at => k_is)
    (case a_law_standing => k_is)
    (case l_law_standing => k_is)
    (case c_law_standing => k_is)
    (case k_law_standing => k_is)
    (case a_law_papers => k_is)
    (case l_law_papers => k_is)
    (case c_law_papers => k_is)
    (case k_law_papers => k_is)
    (case a_law_due_call => k_is)
    (case l_law_due_call => k_is)
    (case c_law_due_call => k_is)
    (case k_law_due_call => k_is)
    (case a_law_due_loss => k_is)
    (case l_law_due_loss => k_is)
    (case c_law_due_loss => k_is)
    (case k_law_due_loss => k_is)
    (case a_law_asked => k_is)
    (case l_law_asked => k_is)
    (case c_law_asked => k_is)
    (case k_law_asked => k_is)
    (case a_law => k_is)
    (case l_law => k_is)
    (case c_law => k_is)
    (case k_law => k_is)
    (case pg_PaperCaller => k_is)
    (case hd_PaperCaller => k_is)
    (case po_PaperCaller => k_is)
    (case sa_PaperCaller => k_is)
    (case mm_PaperCaller => k_is)
    (case kc_PaperCaller => k_is)
    (case nf_PaperCaller_paper => k_is)
    (case pg_PaperRoad => k_is)
    (case hd_PaperRoad => k_is)
    (case po_PaperRoad => k_is)
    (case sa_PaperRoad => k_is)
    (case mm_PaperRoad => k_is)
    (case kc_PaperRoad => k_is)
    (case nf_PaperRoad_paper => k_is)
    (case z_min => k_is)
    (case z_dict => k_is)
    (case z_len => k_is)
    (case z_tuple => k_is)
    (case z_range => k_is)
    (case z_isinstance => k_is)
    (case z_bool => k_is)
    (case z_int => k_is)
    (case z_list => k_is)
    (case ac_Caller => k_is)
    (case ac_Road => k_is)
    (case o_PaperCaller_Caller => kit_is)
    (case o_PaperRoad_Road => kit_is)
