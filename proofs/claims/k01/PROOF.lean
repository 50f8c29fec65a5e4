import PyProof.Rows.All
import Wide.All
import OpenK.AllK
import Wide.FinOn
import HandS.ForMost
import HandS.MapObj
import HandS.Zip
import HandS.AnyAll
import HandS.JoinGen
import HandS.IsInst
import HandS.Style
import HandS.Walk
import KE.KNest
import HandS.EndTab
import PySem.Challenge.RW_risefall_k01_whole_counts
-- part RAcc
section
set_option Elab.async false
set_option linter.all false
set_option maxRecDepth 100000
set_option maxHeartbeats 1000000
/-! itertools.accumulate over a list of whole numbers, and list(..) of it. -/
namespace RFI
open PySem PySem.Spec PyProof.Rows
open PySem.Builtin.Itertools

/-! ### drawing from a list's iterator, as itertools does it -/
section
variable {prog : Program} {w : World} {A : Around} {E : Value → Shared → Prop} {s : Shared}
theorem itnext_item {it l : Addr} {i : Nat} {items : Array Value} {x : Value} {Q : Value → Shared → Prop} (hit : s.heap.IsListIter it l i)
    (hl : s.heap.IsList l items) (hx : items[i]? = some x) (hQ : ∀ h', h'.IsListIter it l (i + 1) → Heap.SameBut it s.heap h' → Q x { s with heap := h' }) :
    wpAny (model prog w) A (itRawNext (.ref it)) Q E s := by
  obtain ⟨o, ho, hc, hd⟩ := id hit
  obtain ⟨ol, hol, _, nl, hdl⟩ := hl
  unfold itRawNext
  refine wpAny_bind (wpAny_callSpecial?_slot (name := Str.ofString "__next__") hit.typeIs slot_listiter_next (wpAny_call_entry slot_listiter_next hit.typeIs entry_listiter_next ?_ (args_listiter_next _)))
  show wpAny _ _ (field (.ref it) 0 >>= _) _ _ s
  refine wpAny_bind (wpAny_field ho hd (x := .ref l) rfl ?_)
  show wpAny _ _ (if (Value.ref l == Value.none) = true then _ else _) _ _ s
  rw [if_neg (show ¬ ((Value.ref l == Value.none) = true) from Bool.false_ne_true)]
  show wpAny _ _ (field (.ref it) 1 >>= _) _ _ s
  refine wpAny_bind (wpAny_field ho hd (x := .int i 0) rfl ?_)
  show wpAny _ _ (seqItems? (.ref l) >>= _) _ _ s
  refine wpAny_bind (wpAny_seqItems hol hdl ?_)
  simp only [Int.toNat_natCast, hx]
  refine wpAny_bind (wpAny_setField ho hd (by simp) (wpAny_pure ⟨x, rfl, wpAny_pure (hQ _ ?_ (Heap.SameBut.update ..))⟩))
  exact ⟨_, Heap.get?_update_self _ ho (Obj.isFreed_of_fields (Obj.data_mapFields hd _)), (Obj.cls_mapFields ..).trans hc, by
    rw [Obj.data_mapFields hd]; simp [rawInt]⟩
theorem itnext_end {it l : Addr} {i : Nat} {items : Array Value} {Q : Value → Shared → Prop} (hh : A.handled = none) (hit : s.heap.IsListIter it l i) (hl : s.heap.IsList l items) (hx : items[i]? = none)
    (hE : ∀ h' e, Heap.ExtBut it s.heap h' → (∃ o, h'.get? e = some o ∧ o.cls = .type "StopIteration") → E (.ref e) { s with heap := h' }) : wpAny (model prog w) A (itRawNext (.ref it)) Q E s := by
  obtain ⟨o, ho, hc, hd⟩ := id hit
  obtain ⟨ol, hol, _, nl, hdl⟩ := hl
  unfold itRawNext
  refine wpAny_bind (wpAny_callSpecial?_slot (name := Str.ofString "__next__") hit.typeIs slot_listiter_next (wpAny_call_entry slot_listiter_next hit.typeIs entry_listiter_next ?_ (args_listiter_next _)))
  show wpAny _ _ (field (.ref it) 0 >>= _) _ _ s
  refine wpAny_bind (wpAny_field ho hd (x := .ref l) rfl ?_)
  show wpAny _ _ (if (Value.ref l == Value.none) = true then _ else _) _ _ s
  rw [if_neg (show ¬ ((Value.ref l == Value.none) = true) from Bool.false_ne_true)]
  show wpAny _ _ (field (.ref it) 1 >>= _) _ _ s
  refine wpAny_bind (wpAny_field ho hd (x := .int i 0) rfl ?_)
  show wpAny _ _ (seqItems? (.ref l) >>= _) _ _ s
  refine wpAny_bind (wpAny_seqItems hol hdl ?_)
  simp only [Int.toNat_natCast, hx]
  refine wpAny_bind (wpAny_rule (wpAny_bind (wpAny_setField ho hd (by simp) ?_)))
  show wpAny _ _ (newExc (.type "StopIteration") [] >>= _) _ _ _
  refine wpAny_bind ?_
  simp only [newExc, newTuple]
  refine wpAny_bind (wpAny_newObj_type ?_ (by size_fits))
  refine wpAny_bind (m := firstArgMember _ _) (wpAny_of_eq (a := Value.none) (by first | rfl | (simp only [firstArgMember]; rfl)) ?_)
  refine wpAny_newObj_type ?_ (by size_fits)
  simp only [raiseNew]
  refine wpAny_bind (wpAny_handled ?_)
  first | rw [show A.in1.handled = none from hh] | rw [hh]
  refine wpAny_bind (wpAny_pure (wpAny_throw ?_))
  exact hE _ _ (((Heap.SameBut.update ..).extBut.push _).push _) ⟨_, Heap.get?_push_size _ rfl, rfl⟩
end

/-! ### facts of the type -/
theorem owner_acc : Manifest.owners.lookup (String.ofList ['e', 't', 'a', 'l', 'u', 'm', 'u', 'c', 'c', 'a', '.', 's', 'l', 'o', 'o', 't', 'r', 'e', 't', 'i'].reverse) = some Manifest.sig_itertools_accumulate := by kernel_rfl
theorem sub_acc : isSubtype (.type "itertools.accumulate") (.type "itertools.accumulate") = pure true := by rw [isSubtype_type]; kernel_rfl
theorem mro_acc : mroOf (.type "itertools.accumulate") = pure [.type "itertools.accumulate", .type "object"] := by rw [mroOf_type]; kernel_rfl
theorem lookup_acc_new : typeLookup (.type "itertools.accumulate") "__new__" = pure (some (.builtin "itertools.accumulate.__new__")) := by rw [typeLookup_type, builtinLookup_eq_fast]; kernel_rfl
theorem slot_acc_init : Slot "itertools.accumulate" "__init__" "object.__init__" :=
  .of (owner := "object") (n := "__init__") (by rw [typeLookup_type, builtinLookup_eq_fast]; kernel_rfl) (by decide +kernel) (by decide +kernel) (by decide +kernel)
    (by first | exact .inl (by decide +kernel) | exact .inr (by decide +kernel)) (by rw [isSubtype_type]; kernel_rfl)
theorem called_acc : TypeCalled "itertools.accumulate" "itertools.accumulate.__new__" "object.__init__" :=
  ⟨by decide +kernel, by decide +kernel, ⟨_, _, mro_acc⟩, madeBy_type mro_acc lookup_acc_new (by decide +kernel), by decide +kernel, sub_acc, slot_acc_init⟩
theorem typeCall_acc (a : Value) : checkTypeCall "itertools.accumulate" ⟨[a], []⟩ = pure () := by kernel_rfl
theorem newCall_acc (a : Value) : checkBuiltinCall "itertools.accumulate.__new__" ⟨[.type "itertools.accumulate", a], []⟩ = pure () := by kernel_rfl
theorem entry_acc_new : entryFor table "itertools.accumulate.__new__" = some Builtin.«itertools.accumulate.__new__» := entryFor_of_tree (by kernel_rfl)
theorem slot_acc_iter : Slot "itertools.accumulate" "__iter__" "itertools.accumulate.__iter__" :=
  .of (owner := "itertools.accumulate") (n := "__iter__") (by rw [typeLookup_type, builtinLookup_eq_fast]; kernel_rfl) (by decide +kernel) (by decide +kernel) (by decide +kernel)
    (by first | exact .inl (by decide +kernel) | exact .inr (by decide +kernel)) sub_acc
theorem slot_acc_next : Slot "itertools.accumulate" "__next__" "itertools.accumulate.__next__" :=
  .of (owner := "itertools.accumulate") (n := "__next__") (by rw [typeLookup_type, builtinLookup_eq_fast]; kernel_rfl) (by decide +kernel) (by decide +kernel) (by decide +kernel)
    (by first | exact .inl (by decide +kernel) | exact .inr (by decide +kernel)) sub_acc
theorem entry_acc_iter : entryFor table "itertools.accumulate.__iter__" = some Builtin.«dict_keyiterator.__iter__» :=
  entryFor_alias (id' := "dict_keyiterator.__iter__") (by kernel_rfl) (by first | rfl | decide +kernel | (unfold String.splitOn; simp +decide [String.splitOnAux])) (by decide +kernel) (by kernel_rfl)
theorem entry_acc_next : entryFor table "itertools.accumulate.__next__" = some Builtin.«itertools.accumulate.__next__» := entryFor_of_tree (by kernel_rfl)
theorem args_acc_iter (a : Value) : argsOk "itertools.accumulate.__iter__" ⟨[a], []⟩ := by
  unfold argsOk; rw [signature?_of (id := "itertools.accumulate.__iter__") (n := ['_', '_', 'r', 'e', 't', 'i', '_', '_']) (o := ['e', 't', 'a', 'l', 'u', 'm', 'u', 'c', 'c', 'a', '.', 's', 'l', 'o', 'o', 't', 'r', 'e', 't', 'i']) (by kernel_rfl) owner_acc]; kernel_rfl
theorem args_acc_next (a : Value) : argsOk "itertools.accumulate.__next__" ⟨[a], []⟩ := by
  unfold argsOk; rw [signature?_of (id := "itertools.accumulate.__next__") (n := ['_', '_', 't', 'x', 'e', 'n', '_', '_']) (o := ['e', 't', 'a', 'l', 'u', 'm', 'u', 'c', 'c', 'a', '.', 's', 'l', 'o', 'o', 't', 'r', 'e', 't', 'i']) (by kernel_rfl) owner_acc]; kernel_rfl
theorem noDict_acc : typeHasDict (.type "itertools.accumulate") = false := by decide +kernel
theorem nolen_acc : typeLookup (.type "itertools.accumulate") "__len__" = pure none := by rw [typeLookup_type, builtinLookup_eq_fast]; kernel_rfl
theorem nohint_acc : typeLookup (.type "itertools.accumulate") "__length_hint__" = pure none := by rw [typeLookup_type, builtinLookup_eq_fast]; kernel_rfl

/-- the object: what it draws from, the sum so far -/
abbrev IsAcc (h : Heap) (m it : Addr) (tot : Value) : Prop := h.get? m = some { cls := .type "itertools.accumulate", dict := none, data := .fields #[.ref it, .none, tot, .none], slots := #[] }

section
variable {prog : Program} {w : World} {A : Around} {E : Value → Shared → Prop} {s : Shared}
theorem new_acc (x : Value) : MeetsIn prog w (Builtin.«itertools.accumulate.__new__» ⟨[.type "itertools.accumulate", x], []⟩)
    (fun A R s => wpAny (model prog w) A.in1 (pyIter x) (fun itv s1 => R (.ok (.ret (.ref s1.heap.objs.size))) { s1 with heap := s1.heap.push { cls := .type "itertools.accumulate", data := .fields #[itv, .none, .int 0 0, .none] } }) (fun e s1 => R (.error e) s1) s) :=
  .of_wp fun A R s h => by
    unfold Builtin.«itertools.accumulate.__new__»
    refine wpAny_bind (wpAny_of_eq (a := (.type "itertools.accumulate", [x])) ?_ ?_)
    · unfold itClassAndRest
      rw [show ("itertools." ++ "accumulate" : String) = "itertools.accumulate" by decide +kernel]
      simp only [isType, sub_acc, pure_bind, Bool.not_true, Bool.false_eq_true, if_false]
    try dsimp only
    refine wpAny_bind (wpAny_of_eq (a := [some x, none, none]) ?_ ?_)
    · first | rfl | kernel_rfl
    try dsimp only
    refine wpAny_bind (wpAny_mono h (fun itv s1 hR => ?_) fun _ _ z => z)
    unfold itNewRecord
    rw [noDict_acc]
    simp only [Bool.not_false, if_true]
    refine wpAny_bind ?_
    refine wpAny_newObj_type ?_
    exact wpAny_pure ⟨_, rfl, hR⟩
/-- accumulate(x): two things are made, the iterator of x and the object -/
theorem call_acc {x : Value} {Q : Value → Shared → Prop}
    (hx : wpAny (model prog w) A.in1.in1 (pyIter x) (fun itv s1 => ∀ h', h'.get? s1.heap.objs.size = some { cls := .type "itertools.accumulate", dict := none, data := .fields #[itv, .none, .int 0 0, .none], slots := #[] } →
      h'.objs.size = s1.heap.objs.size + 1 → (∀ c o, s1.heap.get? c = some o → h'.get? c = some o) → Q (.ref s1.heap.objs.size) { s1 with heap := h' }) E s) :
    wpAny (model prog w) A (call (.type "itertools.accumulate") [x]) Q E s := by
  refine callType_newIn called_acc (by decide +kernel) (typeCall_acc _) (newCall_acc _) (fun obj => F.args_object_init_2 obj _) entry_acc_new (new_acc x) ?_
  show wpAny (model prog w) A.in1.in1 (pyIter x) _ _ _
  refine wpAny_mono hx (fun itv s1 h => ?_) fun _ _ z => z
  have gm : (s1.heap.push { cls := .type "itertools.accumulate", data := .fields #[itv, .none, .int 0 0, .none] }).get? s1.heap.objs.size = some { cls := .type "itertools.accumulate", dict := none, data := .fields #[itv, .none, .int 0 0, .none], slots := #[] } := Heap.get?_push_size _ rfl
  have hq := h _ gm (Heap.size_push ..) fun c o e => Heap.get?_push_of_some _ e
  show _ ∧ _
  exact ⟨⟨_, gm, rfl⟩, hq⟩

theorem acc_next_item {m it l : Addr} {i : Nat} {items : Array Value} {a x : Int} {t tx : Tok} {Q : Value → Shared → Prop} (hm : IsAcc s.heap m it (.int a t)) (hit : s.heap.IsListIter it l i)
    (hl : s.heap.IsList l items) (hx : items[i]? = some (.int x tx)) (hmi : m ≠ it) (hml : m ≠ l) (hli : l ≠ it)
    (hQ : ∀ s' t', IsAcc s'.heap m it (.int (a + x) t') → s'.heap.IsListIter it l (i + 1) → s'.heap.IsList l items → (∀ b o, b ≠ it → b ≠ m → s.heap.get? b = some o → s'.heap.get? b = some o) →
      s'.gens = s.gens → s'.drawn = s.drawn → s'.os = s.os → Q (.int (a + x) t') s') :
    wpAny (model prog w) A (Builtin.«itertools.accumulate.__next__» ⟨[.ref m], []⟩) (fun fin s' => ∃ v, fin = .done (.ret v) ∧ Q v s') E s := by
  show wpAny _ _ (field (.ref m) 3 >>= _) _ _ _
  refine wpAny_bind (wpAny_field hm rfl (x := .none) rfl ?_)
  show wpAny _ _ (if (Value.none != Value.none) = true then _ else _) _ _ s
  rw [if_neg (show ¬ ((Value.none != Value.none) = true) by decide)]
  show wpAny _ _ (field (.ref m) 0 >>= _) _ _ _
  refine wpAny_bind (wpAny_field hm rfl (x := .ref it) rfl ?_)
  refine wpAny_bind (itnext_item hit hl hx fun h1 hit1 hs1 => ?_)
  have hm1 : IsAcc h1 m it (.int a t) := hs1.extBut _ _ hmi hm
  have hl1 : h1.IsList l items := hl.extBut hs1.extBut hli
  show wpAny _ _ (field (.ref m) 2 >>= _) _ _ _
  refine wpAny_bind (wpAny_field hm1 rfl (x := .int a t) rfl ?_)
  show wpAny _ _ (if (Value.int a t == itNothing) = true then _ else _) _ _ _
  by_cases hc : (Value.int a t == itNothing) = true
  · rw [if_pos hc]
    have e0 : Value.int a t = Value.int 0 0 := beq_iff_eq.mp hc
    have ea : a = 0 := by injection e0
    subst ea
    rw [Int.zero_add] at hQ
    refine wpAny_bind (wpAny_rule ?_)
    refine wpAny_bind (wpAny_setField_rec hm1 (by simp) fun h2 hm2 hs2 => ?_)
    replace hm2 : IsAcc h2 m it (.int x tx) := hm2
    exact wpAny_pure ⟨_, rfl, hQ _ tx hm2 (hit1.at fun o e => hs2.extBut _ _ hmi.symm e) (hl1.extBut hs2.extBut (Ne.symm hml)) (fun b o b1 b2 e => hs2.extBut _ _ b2 (hs1.extBut _ _ b1 e)) rfl rfl rfl⟩
  · rw [if_neg hc]
    show wpAny _ _ (field (.ref m) 1 >>= _) _ _ _
    refine wpAny_bind (wpAny_field hm1 rfl (x := .none) rfl ?_)
    show wpAny _ _ (holding _ (if (Value.none == Value.none) = true then _ else _) >>= _) _ _ _
    rw [if_pos (show (Value.none == Value.none) = true by decide)]
    refine wpAny_bind (wpAny_holding (add_int ?_))
    refine wpAny_bind (wpAny_setField_rec hm1 (by simp) fun h2 hm2 hs2 => ?_)
    replace hm2 : IsAcc h2 m it (.int (a + x) _) := hm2
    refine wpAny_bind (wpAny_letGo ?_)
    exact wpAny_pure ⟨_, rfl, hQ _ _ hm2 (hit1.at fun o e => hs2.extBut _ _ hmi.symm e) (hl1.extBut hs2.extBut (Ne.symm hml)) (fun b o b1 b2 e => hs2.extBut _ _ b2 (hs1.extBut _ _ b1 e)) rfl rfl rfl⟩
theorem acc_next_end {m it l : Addr} {i : Nat} {items : Array Value} {a : Value} {Q : Fin → Shared → Prop} (hh : A.handled = none) (hm : IsAcc s.heap m it a) (hit : s.heap.IsListIter it l i)
    (hl : s.heap.IsList l items) (hx : items[i]? = none)
    (hE : ∀ h' e, Heap.ExtBut it s.heap h' → (∃ o, h'.get? e = some o ∧ o.cls = .type "StopIteration") → E (.ref e) { s with heap := h' }) :
    wpAny (model prog w) A (Builtin.«itertools.accumulate.__next__» ⟨[.ref m], []⟩) Q E s := by
  show wpAny _ _ (field (.ref m) 3 >>= _) _ _ _
  refine wpAny_bind (wpAny_field hm rfl (x := .none) rfl ?_)
  show wpAny _ _ (if (Value.none != Value.none) = true then _ else _) _ _ s
  rw [if_neg (show ¬ ((Value.none != Value.none) = true) by decide)]
  show wpAny _ _ (field (.ref m) 0 >>= _) _ _ _
  refine wpAny_bind (wpAny_field hm rfl (x := .ref it) rfl ?_)
  exact wpAny_bind (itnext_end hh hit hl hx hE)
theorem acc_pyIter {m it : Addr} {a : Value} {Q : Value → Shared → Prop} (hm : IsAcc s.heap m it a) (h : Q (.ref m) s) : wpAny (model prog w) A (pyIter (.ref m)) Q E s := by
  have hT : s.TypeIs (.ref m) "itertools.accumulate" := ⟨_, hm, rfl⟩
  refine wpAny_pyIter_slot hT slot_acc_iter (wpAny_call_entry slot_acc_iter hT entry_acc_iter ?_ (args_acc_iter _))
  show wpAny _ _ (ret (.ref m)) _ _ s
  exact wpAny_pure ⟨_, rfl, "itertools.accumulate", _, hT, slot_acc_next.lookup, h⟩
end

/-- the object is walked: the sums of the first ones -/
theorem walks_acc {prog : Program} {w : World} {A : Around} {m it l : Addr} {items : Array Value} (ns : List Int) (hi : ∀ (i : Nat) (v : Value), items[i]? = some v → ∃ x t, ns[i]? = some x ∧ v = .int x t) (hh : A.handled = none) (hmi : m ≠ it) (hml : m ≠ l) (hli : l ≠ it) :
    WalksS prog w A m [m, it, l] [m, it] (fun a b => b = a) items.size (fun i v => ∃ t, v = .int (ns.take (i + 1)).sum t)
      (fun i s => (∃ t, IsAcc s.heap m it (.int (ns.take i).sum t)) ∧ s.heap.IsListIter it l i ∧ s.heap.IsList l items) where
  sub := fun b hb => by
    rcases List.mem_cons.mp hb with rfl | hb
    · simp
    · rw [List.mem_singleton.mp hb]; simp
  grefl := fun _ => rfl
  gtrans := fun _ _ _ h1 h2 => h2.trans h1
  frame := fun i s h' tk st _ hk => ⟨let ⟨t, e⟩ := st.1; ⟨t, hk m (by simp) _ e⟩, st.2.1.at fun o e => hk it (by simp) o e, st.2.2.at fun o e => hk l (by simp) o e⟩
  item := fun i s Q E hlt st hQ => by
    obtain ⟨⟨t, hm⟩, hit, hl⟩ := st
    have hx0 : items[i]? = some items[i] := by simp [hlt]
    obtain ⟨x, tx, hnx, hv⟩ := hi i _ hx0
    rw [hv] at hx0
    have es : (ns.take (i + 1)).sum = (ns.take i).sum + x := by rw [List.take_add_one, hnx, List.sum_append]; simp
    have hT0 : s.TypeIs (.ref m) "itertools.accumulate" := ⟨_, hm, rfl⟩
    unfold pyNext
    refine wpAny_with_toks (Nat.le_refl s.toks) (wpAny_bind (wpAny_attempt (wpAny_callSpecial?_slot (name := Str.ofString "__next__") hT0 slot_acc_next
      (wpAny_call_entry slot_acc_next hT0 entry_acc_next (acc_next_item hm hit hl hx0 hmi hml hli fun s' t' a1 a2 a3 hk g1 g2 g3 => wpAny_pure fun htk => ?_) (args_acc_next _)))))
    rw [← es] at a1 ⊢
    exact hQ _ s' ⟨t', rfl⟩ ⟨⟨t', a1⟩, a2, a3⟩ ⟨fun b ob hb e => hk b ob (fun h => hb (by simp [h])) (fun h => hb (by simp [h])) e, g1, g2, g3, htk⟩
  done := fun s Q E st hQ => by
    obtain ⟨⟨t, hm⟩, hit, hl⟩ := st
    have hT0 : s.TypeIs (.ref m) "itertools.accumulate" := ⟨_, hm, rfl⟩
    unfold pyNext
    refine wpAny_bind (wpAny_attempt (wpAny_callSpecial?_slot (name := Str.ofString "__next__") hT0 slot_acc_next
      (wpAny_call_entry slot_acc_next hT0 entry_acc_next (acc_next_end hh hm hit hl (by simp) fun h' e hk he => ?_) (args_acc_next _))))
    obtain ⟨o, ho, hc⟩ := he
    refine wpAny_bind (wpAny_isInstance (T := "StopIteration") (b := true) ⟨o, ho, hc⟩ isSubtype_stop ?_)
    exact wpAny_pure (hQ _ ⟨fun b ob hb e => hk b ob (fun h => hb (by simp [h])) e, rfl, rfl, rfl, Nat.le_refl _⟩)
  self := fun i s Q E st hQ => let ⟨t, hm⟩ := st.1; acc_pyIter hm hQ
end RFI
end
-- part RPw
section
set_option Elab.async false
set_option linter.all false
set_option maxRecDepth 100000
set_option maxHeartbeats 1000000
/-! itertools.pairwise over a list, in a for with two names. -/
namespace RFI
open PySem PySem.Spec PyProof.Rows
open PySem.Builtin.Itertools

theorem owner_pw : Manifest.owners.lookup (String.ofList ['e', 's', 'i', 'w', 'r', 'i', 'a', 'p', '.', 's', 'l', 'o', 'o', 't', 'r', 'e', 't', 'i'].reverse) = some Manifest.sig_itertools_pairwise := by kernel_rfl
theorem sub_pw : isSubtype (.type "itertools.pairwise") (.type "itertools.pairwise") = pure true := by rw [isSubtype_type]; kernel_rfl
theorem mro_pw : mroOf (.type "itertools.pairwise") = pure [.type "itertools.pairwise", .type "object"] := by rw [mroOf_type]; kernel_rfl
theorem lookup_pw_new : typeLookup (.type "itertools.pairwise") "__new__" = pure (some (.builtin "itertools.pairwise.__new__")) := by rw [typeLookup_type, builtinLookup_eq_fast]; kernel_rfl
theorem slot_pw_init : Slot "itertools.pairwise" "__init__" "object.__init__" :=
  .of (owner := "object") (n := "__init__") (by rw [typeLookup_type, builtinLookup_eq_fast]; kernel_rfl) (by decide +kernel) (by decide +kernel) (by decide +kernel)
    (by first | exact .inl (by decide +kernel) | exact .inr (by decide +kernel)) (by rw [isSubtype_type]; kernel_rfl)
theorem called_pw : TypeCalled "itertools.pairwise" "itertools.pairwise.__new__" "object.__init__" :=
  ⟨by decide +kernel, by decide +kernel, ⟨_, _, mro_pw⟩, madeBy_type mro_pw lookup_pw_new (by decide +kernel), by decide +kernel, sub_pw, slot_pw_init⟩
theorem typeCall_pw (a : Value) : checkTypeCall "itertools.pairwise" ⟨[a], []⟩ = pure () := by kernel_rfl
theorem newCall_pw (a : Value) : checkBuiltinCall "itertools.pairwise.__new__" ⟨[.type "itertools.pairwise", a], []⟩ = pure () := by kernel_rfl
theorem entry_pw_new : entryFor table "itertools.pairwise.__new__" = some Builtin.«itertools.pairwise.__new__» := entryFor_of_tree (by kernel_rfl)
theorem slot_pw_iter : Slot "itertools.pairwise" "__iter__" "itertools.pairwise.__iter__" :=
  .of (owner := "itertools.pairwise") (n := "__iter__") (by rw [typeLookup_type, builtinLookup_eq_fast]; kernel_rfl) (by decide +kernel) (by decide +kernel) (by decide +kernel)
    (by first | exact .inl (by decide +kernel) | exact .inr (by decide +kernel)) sub_pw
theorem slot_pw_next : Slot "itertools.pairwise" "__next__" "itertools.pairwise.__next__" :=
  .of (owner := "itertools.pairwise") (n := "__next__") (by rw [typeLookup_type, builtinLookup_eq_fast]; kernel_rfl) (by decide +kernel) (by decide +kernel) (by decide +kernel)
    (by first | exact .inl (by decide +kernel) | exact .inr (by decide +kernel)) sub_pw
theorem entry_pw_iter : entryFor table "itertools.pairwise.__iter__" = some Builtin.«dict_keyiterator.__iter__» :=
  entryFor_alias (id' := "dict_keyiterator.__iter__") (by kernel_rfl) (by first | rfl | decide +kernel | (unfold String.splitOn; simp +decide [String.splitOnAux])) (by decide +kernel) (by kernel_rfl)
theorem entry_pw_next : entryFor table "itertools.pairwise.__next__" = some Builtin.«itertools.pairwise.__next__» := entryFor_of_tree (by kernel_rfl)
theorem args_pw_iter (a : Value) : argsOk "itertools.pairwise.__iter__" ⟨[a], []⟩ := by
  unfold argsOk; rw [signature?_of (id := "itertools.pairwise.__iter__") (n := ['_', '_', 'r', 'e', 't', 'i', '_', '_']) (o := ['e', 's', 'i', 'w', 'r', 'i', 'a', 'p', '.', 's', 'l', 'o', 'o', 't', 'r', 'e', 't', 'i']) (by kernel_rfl) owner_pw]; kernel_rfl
theorem args_pw_next (a : Value) : argsOk "itertools.pairwise.__next__" ⟨[a], []⟩ := by
  unfold argsOk; rw [signature?_of (id := "itertools.pairwise.__next__") (n := ['_', '_', 't', 'x', 'e', 'n', '_', '_']) (o := ['e', 's', 'i', 'w', 'r', 'i', 'a', 'p', '.', 's', 'l', 'o', 'o', 't', 'r', 'e', 't', 'i']) (by kernel_rfl) owner_pw]; kernel_rfl
theorem noDict_pw : typeHasDict (.type "itertools.pairwise") = false := by decide +kernel

/-- the object: the pair it handed out, what it draws from, the one ahead, its own pair -/
abbrev IsPw (h : Heap) (z it TO : Addr) (f0 old : Value) : Prop := h.get? z = some { cls := .type "itertools.pairwise", dict := none, data := .fields #[f0, .bool false, .ref it, old, .ref TO], slots := #[] }
structure PwApart (z TO it l : Addr) : Prop where
  TOz : TO ≠ z
  itz : it ≠ z
  lz : l ≠ z
  TOit : TO ≠ it
  lTO : l ≠ TO
  lit : l ≠ it

section
variable {prog : Program} {w : World} {A : Around} {E : Value → Shared → Prop} {s : Shared}
abbrev pw1 (h : Heap) (l : Addr) : Heap := h.push { cls := .type "list_iterator", data := .fields #[.ref l, .int 0 0] }
abbrev pw2 (h : Heap) (l : Addr) : Heap := (pw1 h l).push { cls := .type "tuple", data := .seq #[.none, .none] }
abbrev pw3 (h : Heap) (l : Addr) : Heap := (pw2 h l).push { cls := .type "itertools.pairwise", data := .fields #[.none, .bool false, .ref h.objs.size, .int 0 0, .ref (pw1 h l).objs.size] }
theorem new_pw (l : Addr) (xs : Array Value) : Meets (Builtin.«itertools.pairwise.__new__» ⟨[.type "itertools.pairwise", .ref l], []⟩)
    (fun _ R s => s.heap.IsList l xs ∧ R (.ok (.ret (.ref (pw2 s.heap l).objs.size))) { s with heap := pw3 s.heap l }) :=
  .of_wp fun prog w A R s h => by
    obtain ⟨hl, h⟩ := h
    unfold Builtin.«itertools.pairwise.__new__»
    refine wpAny_bind (wpAny_of_eq (a := (.type "itertools.pairwise", [.ref l])) ?_ ?_)
    · unfold itPositionalOnly itClassAndRest
      rw [show ("itertools." ++ "pairwise" : String) = "itertools.pairwise" by decide +kernel]
      simp only [isType, sub_pw, pure_bind, Bool.not_true, Bool.false_eq_true, if_false]
      first | rfl | kernel_rfl
    try dsimp only
    refine wpAny_bind (wpAny_pyIter_list hl ?_)
    refine wpAny_bind (wpAny_holding (wpAny_newTuple ?_))
    unfold itNewRecord
    rw [noDict_pw]
    simp only [Bool.not_false, if_true]
    refine wpAny_bind ?_
    show wpAny _ _ (newObj (.type "itertools.pairwise") (.fields #[.none, .bool false, .ref s.heap.objs.size, .int 0 0, .ref (pw1 s.heap l).objs.size])) _ _ _
    refine wpAny_newObj_type ?_
    exact wpAny_pure ⟨_, rfl, h⟩
theorem call_pw {l : Addr} {xs : Array Value} {Q : Value → Shared → Prop} (hl : s.heap.IsList l xs)
    (h : ∀ h', IsPw h' (s.heap.objs.size + 2) s.heap.objs.size (s.heap.objs.size + 1) .none (.int 0 0) → IsPair h' (s.heap.objs.size + 1) .none .none → h'.IsListIter s.heap.objs.size l 0 → h'.objs.size = s.heap.objs.size + 3 →
      (∀ c o, s.heap.get? c = some o → h'.get? c = some o) → Q (.ref (s.heap.objs.size + 2)) { s with heap := h' }) :
    wpAny (model prog w) A (call (.type "itertools.pairwise") [.ref l]) Q E s := by
  refine callType_new called_pw (by decide +kernel) (typeCall_pw _) (newCall_pw _) (fun obj => F.args_object_init_2 obj _) entry_pw_new (new_pw l xs) ⟨hl, ?_⟩
  have z1 : (pw1 s.heap l).objs.size = s.heap.objs.size + 1 := Heap.size_push ..
  have z2 : (pw2 s.heap l).objs.size = s.heap.objs.size + 2 := by rw [Heap.size_push, z1]
  have z3 : (pw3 s.heap l).objs.size = s.heap.objs.size + 3 := by rw [Heap.size_push, z2]
  have g3 : (pw3 s.heap l).get? (pw2 s.heap l).objs.size = some _ := Heap.get?_push_size _ rfl
  have g2 : (pw3 s.heap l).get? (pw1 s.heap l).objs.size = some _ := Heap.get?_push_of_some _ (Heap.get?_push_size _ rfl)
  have g1 : (pw3 s.heap l).get? s.heap.objs.size = some _ := Heap.get?_push_of_some _ (Heap.get?_push_of_some _ (Heap.get?_push_size _ rfl))
  show _ ∧ _
  rw [z2, z1] at g3
  rw [z1] at g2
  rw [z2]
  exact ⟨⟨_, g3, rfl⟩, h _ g3 g2 ⟨_, g1, rfl, rfl⟩ z3 fun c o x => Heap.get?_push_of_some _ (Heap.get?_push_of_some _ (Heap.get?_push_of_some _ x))⟩

/-- what is the same in every turn, behind the one ahead -/
theorem pw_rest_item {z it TO l : Addr} {k : Nat} {xs : Array Value} {x y a b : Value} {Q : Fin → Shared → Prop} (D : PwApart z TO it l)
    (hz : IsPw s.heap z it TO .none x) (hTO : IsPair s.heap TO a b) (h1 : s.heap.IsListIter it l k) (hl : s.heap.IsList l xs) (hy : xs[k]? = some y) {ended : Value → Sem Unit}
    (hQ : ∀ h', IsPw h' z it TO (rawInt s.heap.objs.size) y → IsPair h' TO x y → h'.IsListIter it l (k + 1) → IsPair h' s.heap.objs.size x y → h'.objs.size = s.heap.objs.size + 1 →
      (∀ c o, c ≠ z → c ≠ TO → c ≠ it → s.heap.get? c = some o → h'.get? c = some o) → Q (.done (.ret (.ref s.heap.objs.size))) { s with heap := h' }) :
    wpAny (model prog w) A (do
      let old ← field (.ref z) 3
      let new ← holding [old] (tryCatch (itRawNext (.ref it)) fun e => do ended e; throw e)
      let result ← holding [old, new] (newTuple [old, new])
      if ← itOwnedIsFree (.ref z) then
        rule "itertools.pairwise.owned-tuple-again"
        let .ref kept ← field (.ref z) 4 | unsupported "internal:itertools.pairwise"
        let was ← itPoolItems (.ref kept)
        updateSeq kept fun _ => #[old, new]
        itOwnedHandOut (.ref z) result
        setField (.ref z) 3 new
        letGo was.toList [result]
      else setField (.ref z) 3 new
      ret result) Q E s := by
  refine wpAny_bind (wpAny_field hz rfl (x := x) rfl ?_)
  refine wpAny_bind (wpAny_holding (wpAny_tryCatch (itnext_item h1 hl hy fun h₁ h1₁ hs₁ => ?_)))
  refine wpAny_bind (wpAny_holding (wpAny_newTuple ?_))
  have hsz₁ : h₁.objs.size = s.heap.objs.size := hs₁.1
  have hzlt : z < s.heap.objs.size := Heap.lt_size hz
  have hz₂ : IsPw (h₁.push { cls := .type "tuple", data := .seq #[x, y] }) z it TO .none x := Heap.get?_push_of_some _ (hs₁.extBut _ _ D.itz.symm hz)
  have hTO₂ : IsPair (h₁.push { cls := .type "tuple", data := .seq #[x, y] }) TO a b := Heap.get?_push_of_some _ (hs₁.extBut _ _ D.TOit hTO)
  have h1₂ : (h₁.push { cls := .type "tuple", data := .seq #[x, y] }).IsListIter it l (k + 1) := h1₁.at fun o e => Heap.get?_push_of_some _ e
  have hT₂ : IsPair (h₁.push { cls := .type "tuple", data := .seq #[x, y] }) s.heap.objs.size x y := by rw [← hsz₁]; exact Heap.get?_push_size _ rfl
  have hk₂ : ∀ c o, c ≠ it → s.heap.get? c = some o → (h₁.push { cls := .type "tuple", data := .seq #[x, y] }).get? c = some o := fun c o hc e => Heap.get?_push_of_some _ (hs₁.extBut _ _ hc e)
  have hs₂ : (h₁.push { cls := .type "tuple", data := .seq #[x, y] }).objs.size = s.heap.objs.size + 1 := by rw [Heap.size_push, hsz₁]
  rw [hsz₁]
  generalize h₁.push { cls := .type "tuple", data := .seq #[x, y] } = h₂ at hz₂ hTO₂ h1₂ hT₂ hk₂ hs₂ ⊢
  refine wpAny_bind ?_
  unfold itOwnedIsFree
  refine wpAny_bind (wpAny_field hz₂ rfl (x := .none) rfl (wpAny_pure ?_))
  simp only [if_true]
  refine wpAny_bind (wpAny_rule ?_)
  refine wpAny_bind (wpAny_field hz₂ rfl (x := .ref TO) rfl ?_)
  unfold itPoolItems
  refine wpAny_bind (wpAny_bind (wpAny_seqItems hTO₂ rfl (wpAny_pure ?_)))
  refine wpAny_bind (wpAny_updateSeq hTO₂ rfl ?_)
  have hTO₃ := Heap.get?_update_self (Obj.mapSeq fun _ => #[x, y]) hTO₂ rfl
  have sb₃ : Heap.SameBut TO h₂ (h₂.update TO (Obj.mapSeq fun _ => #[x, y])) := Heap.SameBut.update ..
  have hTO₃' : IsPair (h₂.update TO (Obj.mapSeq fun _ => #[x, y])) TO x y := hTO₃
  have hz₃ : IsPw (h₂.update TO (Obj.mapSeq fun _ => #[x, y])) z it TO .none x := sb₃.extBut _ _ D.TOz.symm hz₂
  generalize h₂.update TO (Obj.mapSeq fun _ => #[x, y]) = h₃ at sb₃ hTO₃' hz₃ ⊢
  unfold itOwnedHandOut
  refine wpAny_bind (wpAny_bind (wpAny_setField_rec hz₃ (by simp) fun h₄ hz₄ hs₄ => ?_))
  replace hz₄ : IsPw h₄ z it TO (rawInt s.heap.objs.size) x := hz₄
  refine wpAny_setField_rec hz₄ (by simp) fun h₅ hz₅ hs₅ => ?_
  replace hz₅ : IsPw h₅ z it TO (rawInt s.heap.objs.size) x := hz₅
  refine wpAny_bind (wpAny_setField_rec hz₅ (by simp) fun h₆ hz₆ hs₆ => ?_)
  replace hz₆ : IsPw h₆ z it TO (rawInt s.heap.objs.size) y := hz₆
  refine wpAny_bind (wpAny_letGo ?_)
  have up : ∀ c o, c ≠ z → h₃.get? c = some o → h₆.get? c = some o := fun c o hc e => hs₆.extBut _ _ hc (hs₅.extBut _ _ hc (hs₄.extBut _ _ hc e))
  have kp : ∀ c o, c ≠ z → c ≠ TO → h₂.get? c = some o → h₆.get? c = some o := fun c o c1 c2 e => up c o c1 (sb₃.extBut _ _ c2 e)
  have hTlt : TO < s.heap.objs.size := Heap.lt_size hTO
  refine wpAny_pure (hQ h₆ hz₆ (up _ _ D.TOz hTO₃') (h1₂.at fun o e => kp _ o D.itz D.TOit.symm e) (kp _ _ (Nat.ne_of_gt hzlt) (Nat.ne_of_gt hTlt) hT₂) ?_ fun c o c1 c2 c3 e => kp c o c1 c2 (hk₂ c o c3 e))
  rw [hs₆.1, hs₅.1, hs₄.1, sb₃.1, hs₂]
theorem pw_next_more {z it TO l : Addr} {k : Nat} {xs : Array Value} {x y a b : Value} {Q : Fin → Shared → Prop} (D : PwApart z TO it l)
    (hz : IsPw s.heap z it TO .none x) (hTO : IsPair s.heap TO a b) (h1 : s.heap.IsListIter it l k) (hl : s.heap.IsList l xs) (hx : (x == itNothing) = false) (hy : xs[k]? = some y)
    (hQ : ∀ h', IsPw h' z it TO (rawInt s.heap.objs.size) y → IsPair h' TO x y → h'.IsListIter it l (k + 1) → IsPair h' s.heap.objs.size x y → h'.objs.size = s.heap.objs.size + 1 →
      (∀ c o, c ≠ z → c ≠ TO → c ≠ it → s.heap.get? c = some o → h'.get? c = some o) → Q (.done (.ret (.ref s.heap.objs.size))) { s with heap := h' }) :
    wpAny (model prog w) A (Builtin.«itertools.pairwise.__next__» ⟨[.ref z], []⟩) Q E s := by
  show wpAny _ _ (field (.ref z) 2 >>= _) _ _ _
  refine wpAny_bind (wpAny_field hz rfl (x := .ref it) rfl ?_)
  show wpAny _ _ (if (Value.ref it == Value.none) = true then _ else _) _ _ s
  rw [if_neg (show ¬ ((Value.ref it == Value.none) = true) from Bool.false_ne_true)]
  show wpAny _ _ (field (.ref z) 3 >>= _) _ _ _
  refine wpAny_bind (wpAny_field hz rfl (x := x) rfl ?_)
  show wpAny _ _ (if (x == itNothing) = true then _ else _) _ _ s
  rw [if_neg (by rw [hx]; decide)]
  exact pw_rest_item D hz hTO h1 hl hy hQ
theorem pw_next_first {z it TO l : Addr} {xs : Array Value} {x y a b : Value} {Q : Fin → Shared → Prop} (D : PwApart z TO it l)
    (hz : IsPw s.heap z it TO .none (.int 0 0)) (hTO : IsPair s.heap TO a b) (h1 : s.heap.IsListIter it l 0) (hl : s.heap.IsList l xs) (hx : xs[0]? = some x) (hy : xs[1]? = some y)
    (hQ : ∀ h', IsPw h' z it TO (rawInt s.heap.objs.size) y → IsPair h' TO x y → h'.IsListIter it l 2 → IsPair h' s.heap.objs.size x y → h'.objs.size = s.heap.objs.size + 1 →
      (∀ c o, c ≠ z → c ≠ TO → c ≠ it → s.heap.get? c = some o → h'.get? c = some o) → Q (.done (.ret (.ref s.heap.objs.size))) { s with heap := h' }) :
    wpAny (model prog w) A (Builtin.«itertools.pairwise.__next__» ⟨[.ref z], []⟩) Q E s := by
  show wpAny _ _ (field (.ref z) 2 >>= _) _ _ _
  refine wpAny_bind (wpAny_field hz rfl (x := .ref it) rfl ?_)
  show wpAny _ _ (if (Value.ref it == Value.none) = true then _ else _) _ _ s
  rw [if_neg (show ¬ ((Value.ref it == Value.none) = true) from Bool.false_ne_true)]
  show wpAny _ _ (field (.ref z) 3 >>= _) _ _ _
  refine wpAny_bind (wpAny_field hz rfl (x := .int 0 0) rfl ?_)
  show wpAny _ _ (if (Value.int 0 0 == itNothing) = true then _ else _) _ _ s
  rw [if_pos (by decide)]
  refine wpAny_bind (wpAny_rule ?_)
  refine wpAny_bind (wpAny_tryCatch (itnext_item h1 hl hx fun h₁ h1₁ hs₁ => ?_))
  have hz₁ : IsPw h₁ z it TO .none (.int 0 0) := hs₁.extBut _ _ D.itz.symm hz
  refine wpAny_bind (wpAny_setField_rec hz₁ (by simp) fun h₂ hz₂ hs₂ => ?_)
  replace hz₂ : IsPw h₂ z it TO .none x := hz₂
  show wpAny _ _ (field (.ref z) 2 >>= _) _ _ _
  refine wpAny_bind (wpAny_field hz₂ rfl (x := .ref it) rfl ?_)
  show wpAny _ _ (if (Value.ref it == Value.none) = true then _ else _) _ _ _
  rw [if_neg (show ¬ ((Value.ref it == Value.none) = true) from Bool.false_ne_true)]
  have sz : h₂.objs.size = s.heap.objs.size := by rw [hs₂.1, hs₁.1]
  refine pw_rest_item (s := { s with heap := h₂ }) D hz₂ (hs₂.extBut _ _ D.TOz (hs₁.extBut _ _ D.TOit hTO)) (h1₁.at fun o e => hs₂.extBut _ _ D.itz e) ((hl.extBut hs₁.extBut D.lit).extBut hs₂.extBut D.lz) hy fun h' a1 a2 a3 a4 a5 a6 => ?_
  have a1 : IsPw h' z it TO (rawInt h₂.objs.size) y := a1
  have a4 : IsPair h' h₂.objs.size x y := a4
  have a5 : h'.objs.size = h₂.objs.size + 1 := a5
  show Q (.done (.ret (.ref h₂.objs.size))) _
  rw [sz] at a1 a4 a5 ⊢
  exact hQ h' a1 a2 a3 a4 a5 fun c o c1 c2 c3 e => a6 c o c1 c2 c3 (hs₂.extBut _ _ c1 (hs₁.extBut _ _ c3 e))
/-- the end: no item is left behind the one ahead, or none at all -/
theorem pw_next_end {z it TO l : Addr} {k : Nat} {xs : Array Value} {x : Value} {Q : Fin → Shared → Prop} (hh : A.handled = none) (D : PwApart z TO it l)
    (hz : IsPw s.heap z it TO .none x) (h1 : s.heap.IsListIter it l k) (hl : s.heap.IsList l xs) (hc : (k = 0 ∧ x = .int 0 0 ∧ xs.size ≤ 1) ∨ ((x == itNothing) = false ∧ xs[k]? = none))
    (hE : ∀ h' e, (∀ c o, c ≠ z → c ≠ it → s.heap.get? c = some o → h'.get? c = some o) → (∃ o, h'.get? e = some o ∧ o.cls = .type "StopIteration") → E (.ref e) { s with heap := h' }) :
    wpAny (model prog w) A (Builtin.«itertools.pairwise.__next__» ⟨[.ref z], []⟩) Q E s := by
  -- an exception of the draw: the object is emptied, the exception goes on
  have fin : ∀ (s' : Shared) (h' : Heap) (e : Addr) (x' : Value) (hld : List Value), s' = { s with heap := h' } → IsPw h' z it TO .none x' → (∀ c o, c ≠ z → c ≠ it → s.heap.get? c = some o → h'.get? c = some o) → (∃ o, h'.get? e = some o ∧ o.cls = .type "StopIteration") →
      ∀ {β : Type} (K : β → Shared → Prop), wpAny (model prog w) A ((do
        let old ← field (.ref z) 3
        setField (.ref z) 2 .none
        setField (.ref z) 3 itNothing
        letGo [.ref it, old] [.ref e]) >>= fun _ => (throw (Value.ref e) : Sem β)) K E s' := by
    rintro s' h' e x' hld rfl hz' hk he β K
    refine wpAny_bind ?_
    refine wpAny_bind (wpAny_field hz' rfl (x := x') rfl ?_)
    refine wpAny_bind (wpAny_setField_rec hz' (by simp) fun h₂ hz₂ hs₂ => ?_)
    refine wpAny_bind (wpAny_setField_rec hz₂ (by simp) fun h₃ hz₃ hs₃ => ?_)
    refine wpAny_letGo (wpAny_throw ?_)
    obtain ⟨o, ho, hcl⟩ := he
    have nez : e ≠ z := fun q => by
      rw [q, hz'] at ho
      cases ho
      simp at hcl
    exact hE h₃ e (fun c o c1 c2 q => hs₃.extBut _ _ c1 (hs₂.extBut _ _ c1 (hk c o c1 c2 q))) ⟨o, hs₃.extBut _ _ nez (hs₂.extBut _ _ nez ho), hcl⟩
  show wpAny _ _ (field (.ref z) 2 >>= _) _ _ _
  refine wpAny_bind (wpAny_field hz rfl (x := .ref it) rfl ?_)
  show wpAny _ _ (if (Value.ref it == Value.none) = true then _ else _) _ _ s
  rw [if_neg (show ¬ ((Value.ref it == Value.none) = true) from Bool.false_ne_true)]
  show wpAny _ _ (field (.ref z) 3 >>= _) _ _ _
  refine wpAny_bind (wpAny_field hz rfl (x := x) rfl ?_)
  show wpAny _ _ (if (x == itNothing) = true then _ else _) _ _ s
  rcases hc with ⟨rfl, rfl, hsz⟩ | ⟨hx, hk⟩
  · rw [if_pos (by decide)]
    refine wpAny_bind (wpAny_rule ?_)
    cases hx0 : xs[0]? with
    | none =>
      refine wpAny_bind (wpAny_tryCatch (itnext_end hh h1 hl hx0 fun h' e he ho => ?_))
      exact fin _ h' e _ [] rfl (he _ _ D.itz.symm hz) (fun c o c1 c2 q => he _ _ c2 q) ho _
    | some x0 =>
      have hx1 : xs[1]? = none := by simp; omega
      refine wpAny_bind (wpAny_tryCatch (itnext_item h1 hl hx0 fun h₁ h1₁ hs₁ => ?_))
      have hz₁ : IsPw h₁ z it TO .none (.int 0 0) := hs₁.extBut _ _ D.itz.symm hz
      refine wpAny_bind (wpAny_setField_rec hz₁ (by simp) fun h₂ hz₂ hs₂ => ?_)
      replace hz₂ : IsPw h₂ z it TO .none x0 := hz₂
      show wpAny _ _ (field (.ref z) 2 >>= _) _ _ _
      refine wpAny_bind (wpAny_field hz₂ rfl (x := .ref it) rfl ?_)
      show wpAny _ _ (if (Value.ref it == Value.none) = true then _ else _) _ _ _
      rw [if_neg (show ¬ ((Value.ref it == Value.none) = true) from Bool.false_ne_true)]
      show wpAny _ _ (field (.ref z) 3 >>= _) _ _ _
      refine wpAny_bind (wpAny_field hz₂ rfl (x := x0) rfl ?_)
      refine wpAny_bind (wpAny_holding (wpAny_tryCatch (itnext_end (s := { s with heap := h₂ }) hh (h1₁.at fun o e => hs₂.extBut _ _ D.itz e) ((hl.extBut hs₁.extBut D.lit).extBut hs₂.extBut D.lz) hx1 fun h' e he ho => ?_)))
      exact fin _ h' e _ [] rfl (he _ _ D.itz.symm hz₂) (fun c o c1 c2 q => he _ _ c2 (hs₂.extBut _ _ c1 (hs₁.extBut _ _ c2 q))) ho _
  · rw [if_neg (by rw [hx]; decide)]
    show wpAny _ _ (field (.ref z) 3 >>= _) _ _ _
    refine wpAny_bind (wpAny_field hz rfl (x := x) rfl ?_)
    refine wpAny_bind (wpAny_holding (wpAny_tryCatch (itnext_end hh h1 hl hk fun h' e he ho => ?_)))
    exact fin _ h' e _ [] rfl (he _ _ D.itz.symm hz) (fun c o c1 c2 q => he _ _ c2 q) ho _

theorem pw_go {elts : List Expr} {x1 : Nat} {pos : Pos} {z it TO T : Addr} {old : Value} {Q : Unit → Shared → Prop} (hz : IsPw s.heap z it TO (rawInt T) old)
    (hQ : ∀ h', IsPw h' z it TO .none old → Heap.SameBut z s.heap h' → Q () { s with heap := h' }) : wpAny (model prog w) A (letOwnedTupleGo (.Tuple elts x1 pos) (.ref z) (.ref T)) Q E s := by
  unfold letOwnedTupleGo
  refine wpAny_bind (wpAny_load hz ?_)
  show wpAny _ _ (if (["enumerate", "zip", "dict_itemiterator", "dict_reverseitemiterator", "odict_iterator", "itertools.zip_longest", "itertools.pairwise"].contains "itertools.pairwise" &&
      (#[rawInt T, .bool false, .ref it, old, .ref TO] : Array Value)[0]? == some (rawInt T)) = true then _ else _) Q E s
  rw [if_pos (by simp)]
  refine wpAny_bind (wpAny_rule ?_)
  show wpAny _ _ (setField (.ref z) 0 .none) Q E s
  exact wpAny_setField_rec hz (by simp) fun h' hz' hs' => hQ h' hz' hs'
theorem pw_pyIter {z it TO : Addr} {f0 old : Value} {Q : Value → Shared → Prop} (hz : IsPw s.heap z it TO f0 old) (h : Q (.ref z) s) : wpAny (model prog w) A (pyIter (.ref z)) Q E s := by
  have hT : s.TypeIs (.ref z) "itertools.pairwise" := ⟨_, hz, rfl⟩
  refine wpAny_pyIter_slot hT slot_pw_iter (wpAny_call_entry slot_pw_iter hT entry_pw_iter ?_ (args_pw_iter _))
  show wpAny _ _ (ret (.ref z)) _ _ s
  exact wpAny_pure ⟨_, rfl, "itertools.pairwise", _, hT, slot_pw_next.lookup, h⟩
end
end RFI
end
-- part RAccL
section
set_option Elab.async false
set_option linter.all false
set_option maxRecDepth 100000
set_option maxHeartbeats 1000000
/-! list(accumulate(xs)). -/
namespace RFI
open PySem PySem.Spec PyProof.Rows

section
variable {prog : Program} {w : World} {A : Around} {E : Value → Shared → Prop} {s : Shared} {R : Result → Shared → Prop}
variable {I : Addr} {fp wr : List Addr} {G : Array GenState → Array GenState → Prop} {n : Nat} {P : Nat → Value → Prop} {St : Nat → Shared → Prop}

theorem extend_it {T : String} (nl : typeLookup (.type T) "__len__" = pure none) (nh : typeLookup (.type T) "__length_hint__" = pure none) (h2 : (Value.type T == Value.type "list") = false) (h3 : (Value.type T == Value.type "tuple") = false)
    (W : WalksS prog w A.in1 I fp wr G n P St) (hT : ∀ i s, St i s → s.TypeIs (.ref I) T) (S : Addr) (res : Value) (c₀ : Nat) (hst : St 0 s) (hSf : S ∉ fp) (hI : I ∈ fp)
    (hS : s.heap.get? S = some { cls := .type "list", data := .seq #[] c₀ })
    (hR : ∀ s' acc' c', Moved (S :: wr) G s s' → s'.heap.get? S = some { cls := .type "list", dict := none, data := .seq acc' c', slots := #[] } → ItemsOf P acc' n → R (.ok (.ret res)) s') (hn : n ≤ sizeLine) :
    wpAny (model prog w) A.in1 (Builtin.List.listExtendWith (.ref S) (.ref I) res)
      (fun fin s' => match fin with | .done f => R (.ok f) s' | .again c' => c'.quiet = true ∧ codeAny (model prog w) A c' R s') (fun e s' => R (.error e) s') s := by
  have hSI : S ≠ I := fun e => hSf (e ▸ hI)
  unfold Builtin.List.listExtendWith
  refine wpAny_bind (wpAny_typeOf (hT 0 _ hst) ?_)
  have h1 : Builtin.List.listSameRef (.ref S) (.ref I) = false := by simp [Builtin.List.listSameRef, hSI]
  simp only [h1, h2, h3, Bool.or_false, Bool.false_eq_true, if_false]
  refine wpAny_bind (W.self 0 _ _ _ hst ?_)
  refine wpAny_bind (wpAny_holding ?_)
  unfold Builtin.List.listLengthHint
  refine wpAny_bind (wpAny_specialOf (hT 0 _ hst) nl ?_)
  show wpAny _ A.in1 (specialOf (Value.ref I) (Str.ofString "__length_hint__") >>= _) _ _ _
  refine wpAny_bind (wpAny_specialOf (hT 0 _ hst) nh ?_)
  refine wpAny_pure ?_
  show wpAny _ A.in1 (rule "list.extend.makes-room" >>= fun _ => Builtin.List.listTouch (.ref S) >>= fun _ =>
    again (.builtin "list.extend.loop" ⟨[.ref S, .ref I, res], []⟩)) _ _ _
  refine wpAny_bind (wpAny_rule ?_)
  refine wpAny_bind ?_
  show wpAny _ A.in1 (updateSeq S (·.push .none) >>= fun _ => updateSeq S (·.pop)) _ _ _
  refine wpAny_bind (wpAny_updateSeq hS rfl ?_)
  have hS₂ := Heap.get?_update_self (Obj.mapSeq (·.push Value.none)) hS rfl
  refine wpAny_updateSeq (hz := by seq_fits) hS₂ rfl ?_
  have hS₃ := Heap.get?_update_self (Obj.mapSeq (·.pop)) hS₂ rfl
  have oth : ∀ b o, b ≠ S → s.heap.get? b = some o → ((s.heap.update S (Obj.mapSeq (·.push Value.none))).update S (Obj.mapSeq (·.pop))).get? b = some o :=
    fun b o hb e => (Heap.get?_update_other _ _ (Ne.symm hb)).trans ((Heap.get?_update_other _ _ (Ne.symm hb)).trans e)
  refine wpAny_pure ⟨plainId_quiet F.plain_extend_loop _, codeAny_extend_loopS W hn _ hSf _ n 0 _ _ _ rfl (Nat.zero_le _)
    (W.frame 0 s _ s.toks hst (Nat.le_refl _) fun b hb o e => oth b o (fun h => hSf (h ▸ hb)) e) hS₃ (ItemsOf.nil P) fun s' acc' c' hm hS' hacc => ?_⟩
  exact hR s' acc' c' (Moved.trans W.gtrans ((Moved.refl W.grefl).then_heap (Nat.le_refl _) fun b o hb e => oth b o (fun h => hb (h ▸ List.mem_cons_self)) e) hm) hS' hacc

theorem list_init_it {T : String} (nl : typeLookup (.type T) "__len__" = pure none) (nh : typeLookup (.type T) "__length_hint__" = pure none) (h2 : (Value.type T == Value.type "list") = false) (h3 : (Value.type T == Value.type "tuple") = false)
    (W : WalksS prog w A.in1 I fp wr G n P St) (hT : ∀ i s, St i s → s.TypeIs (.ref I) T) (S : Addr) (hst : St 0 s) (hSf : S ∉ fp) (hI : I ∈ fp)
    (hS : s.heap.get? S = some { cls := .type "list", data := .seq #[] })
    (hR : ∀ s' acc' c', Moved (S :: wr) G s s' → s'.heap.get? S = some { cls := .type "list", dict := none, data := .seq acc' c', slots := #[] } → ItemsOf P acc' n → R (.ok (.ret .none)) s') (hn : n ≤ sizeLine) :
    wpAny (model prog w) A.in1 (Builtin.«list.__init__» ⟨[.ref S, .ref I], []⟩)
      (fun fin s' => match fin with | .done f => R (.ok f) s' | .again c' => c'.quiet = true ∧ codeAny (model prog w) A c' R s') (fun e s' => R (.error e) s') s := by
  show wpAny _ A.in1 (do let old ← Builtin.List.listItems (.ref S); Builtin.List.listUpdate (.ref S) (fun _ => #[]); letGo old.toList.reverse; Builtin.List.listExtendWith (.ref S) (.ref I) .none) _ _ s
  refine wpAny_bind ?_
  unfold Builtin.List.listItems
  refine wpAny_bind (wpAny_seqItems hS rfl (wpAny_pure ?_))
  show wpAny _ A.in1 (updateSeq S (fun _ => #[]) >>= fun _ => letGo (#[] : Array Value).toList.reverse >>= fun _ => Builtin.List.listExtendWith (.ref S) (.ref I) .none) _ _ s
  refine wpAny_bind (wpAny_updateSeq hS rfl ?_)
  have hS₂ := Heap.get?_update_self (Obj.mapSeq (fun _ => (#[] : Array Value))) hS rfl
  have oth : ∀ b o, b ≠ S → s.heap.get? b = some o → (s.heap.update S (Obj.mapSeq (fun _ => (#[] : Array Value)))).get? b = some o :=
    fun b o hb e => (Heap.get?_update_other _ _ (Ne.symm hb)).trans e
  refine wpAny_bind (wpAny_letGo ?_)
  refine extend_it nl nh h2 h3 (hn := hn) W hT S .none _ (W.frame 0 s _ s.toks hst (Nat.le_refl _) fun b hb o e => oth b o (fun h => hSf (h ▸ hb)) e) hSf hI hS₂ fun s' acc' c' hm hS' hacc => ?_
  exact hR s' acc' c' (Moved.trans W.gtrans ((Moved.refl W.grefl).then_heap (Nat.le_refl _) fun b o hb e => oth b o (fun h => hb (h ▸ List.mem_cons_self)) e) hm) hS' hacc

theorem call_list_it {T : String} {Q : Value → Shared → Prop} (nl : typeLookup (.type T) "__len__" = pure none) (nh : typeLookup (.type T) "__length_hint__" = pure none) (h2 : (Value.type T == Value.type "list") = false) (h3 : (Value.type T == Value.type "tuple") = false)
    (W : WalksS prog w A.in1.in1 I fp wr G n P St) (hT : ∀ i s, St i s → s.TypeIs (.ref I) T) (hst : St 0 s) (hfp : ∀ b ∈ fp, b < s.heap.objs.size) (hI : I ∈ fp)
    (hQ : ∀ s' acc' c', Moved (s.heap.objs.size :: wr) G { s with heap := s.heap.push { cls := .type "list", data := .seq #[] } } s' →
      s'.heap.get? s.heap.objs.size = some { cls := .type "list", dict := none, data := .seq acc' c', slots := #[] } → ItemsOf P acc' n → Q (.ref s.heap.objs.size) s') (hn : n ≤ sizeLine) :
    wpAny (model prog w) A (call (.type "list") [.ref I]) Q E s := by
  have hSf : s.heap.objs.size ∉ fp := fun hm => Nat.lt_irrefl _ (hfp _ hm)
  refine callType_codes (Q₁ := fun obj s₁ => obj = .ref s.heap.objs.size ∧ s₁ = { s with heap := s.heap.push { cls := .type "list", data := .seq #[] } }) F.called_list (F.typeCall_list_1 _) F.entry_list_init
    (code_list_new _ ⟨rfl, rfl⟩) fun obj s₁ h₁ => ?_
  obtain ⟨rfl, rfl⟩ := h₁
  have hS : (s.heap.push { cls := .type "list", data := .seq #[] }).get? s.heap.objs.size = some { cls := .type "list", data := .seq #[] } := Heap.get?_push_size _ rfl
  refine ⟨⟨_, hS, rfl⟩, F.args_list_init_2 _ _, list_init_it nl nh h2 h3 (hn := hn) W hT _ (W.frame 0 s _ s.toks hst (Nat.le_refl _) fun b _ o e => Heap.get?_push_of_some _ e) hSf hI hS fun s' acc' c' hm hS' hacc => ?_⟩
  exact ⟨rfl, hQ s' acc' c' hm hS' hacc⟩

/-- the sums of the first ones, one, two, .. -/
def psum (ns : List Int) : List Int := (List.range ns.length).map fun i => (ns.take (i + 1)).sum

theorem list_acc_list {l : Addr} {its : Array Value} {ns : List Int} {Q : Value → Shared → Prop} (hh : A.handled = none) (hl : s.heap.IsList l its) (hlen : its.size = ns.length) (hi : ∀ (i : Nat) (v : Value), its[i]? = some v → ∃ x t, ns[i]? = some x ∧ v = .int x t) (hn : its.size ≤ sizeLine)
    (hq : ∀ (h' : Heap) (k : Nat) (p : Addr) (acc : List Value) (c : Nat), s.heap.objs.size ≤ p → (∀ b o, s.heap.get? b = some o → h'.get? b = some o) → h'.get? p = some { cls := .type "list", dict := none, data := .seq acc.toArray c, slots := #[] } →
      acc.length = ns.length → (∀ (i : Nat) (v : Value), acc[i]? = some v → ∃ t, v = .int (ns.take (i + 1)).sum t) → Q (.ref p) { s with heap := h', toks := k }) :
    wpAny (model prog w) A (call (.type "itertools.accumulate") [.ref l]) (fun v s1 => wpAny (model prog w) A (call (.type "list") [v]) Q E s1) E s := by
  have ll : l < s.heap.objs.size := by obtain ⟨o, ho, _⟩ := hl; exact Heap.lt_size ho
  refine call_acc (wpAny_pyIter_list hl ?_)
  intro h' hM hsz hk
  have hs1 : (s.heap.push { cls := .type "list_iterator", data := .fields #[.ref l, .int 0 0] }).objs.size = s.heap.objs.size + 1 := Heap.size_push ..
  have hit : h'.IsListIter s.heap.objs.size l 0 := ⟨_, hk _ _ (Heap.get?_push_size _ rfl), rfl, rfl⟩
  have hL : h'.IsList l its := (hl.push _).at fun o e => hk _ o e
  rw [hs1] at hM ⊢
  have hmi : s.heap.objs.size + 1 ≠ s.heap.objs.size := Nat.succ_ne_self _
  have hml : s.heap.objs.size + 1 ≠ l := Nat.ne_of_gt (Nat.lt_succ_of_lt ll)
  have W := walks_acc (prog := prog) (w := w) (A := A.in1.in1) (items := its) ns hi hh hmi hml (Nat.ne_of_lt ll)
  have hsz' : h'.objs.size = s.heap.objs.size + 2 := by rw [hsz, hs1]
  refine call_list_it (T := "itertools.accumulate") nolen_acc nohint_acc (by decide) (by decide) W (fun i s st => ⟨_, (Classical.choose_spec st.1), rfl⟩) ⟨⟨0, by simpa using hM⟩, hit, hL⟩ (fun b hb => ?_) (by simp) (fun s' acc' c' hm hS' hacc => ?_) hn
  · show b < h'.objs.size
    rw [hsz']
    simp at hb
    rcases hb with z | z | z
    · rw [z]; exact Nat.lt_succ_self _
    · rw [z]; exact Nat.lt_succ_of_lt (Nat.lt_succ_self _)
    · rw [z]; exact Nat.lt_succ_of_lt (Nat.lt_succ_of_lt ll)
  · have hm' := hm.heap
    have e : s' = { s with heap := s'.heap, toks := s'.toks } := by
      obtain ⟨a, b, c, d, f⟩ := s'
      have h1 := hm.gens; have h2 := hm.drawn; have h3 := hm.os
      simp only at h1 h2 h3
      subst h1; subst h2; subst h3
      rfl
    rw [e]
    have hacc' : acc'.size = its.size := hacc.1
    refine hq s'.heap s'.toks h'.objs.size acc'.toList c' (by rw [hsz']; omega) (fun b o q => ?_) (by rw [hS']) (by rw [Array.length_toList, hacc', hlen]) (fun i v hv => ?_)
    · have hb : b < s.heap.objs.size := Heap.lt_size q
      refine hm' b o (fun hmem => ?_) (Heap.get?_push_of_some _ (hk _ _ (Heap.get?_push_of_some _ q)))
      have hmem : b ∈ h'.objs.size :: [s.heap.objs.size + 1, s.heap.objs.size] := hmem
      simp at hmem
      rcases hmem with z | z | z
      · rw [hsz'] at z; rw [z] at hb; exact absurd (Nat.lt_of_succ_lt (Nat.lt_of_succ_lt hb)) (Nat.lt_irrefl _)
      · rw [z] at hb; exact absurd (Nat.lt_of_succ_lt hb) (Nat.lt_irrefl _)
      · rw [z] at hb; exact absurd hb (Nat.lt_irrefl _)
    · exact hacc.2 i v (by simpa using hv)
end
end RFI
end
-- part RAccP
section
set_option Elab.async false
set_option linter.all false
set_option maxRecDepth 100000
set_option maxHeartbeats 1000000
namespace RFI
open PySem PySem.Spec PyProof.Rows L2
theorem paired_of {α β : Type} {F : α → β → Prop} : ∀ {l₁ : List α} {l₂ : List β}, l₁.length = l₂.length → (∀ (i : Nat) (a : α) (b : β), l₁[i]? = some a → l₂[i]? = some b → F a b) → Paired F l₁ l₂
  | [], [], _, _ => .nil
  | a :: l₁, b :: l₂, h, g => .cons (g 0 a b rfl rfl) (paired_of (Nat.succ.inj h) fun i x y h1 h2 => g (i + 1) x y h1 h2)
theorem psum_len (ns : List Int) : (psum ns).length = ns.length := by unfold psum; rw [List.length_map, List.length_range]
section
variable {X : Cx}
/-- list(accumulate(xs)), xs a list of whole numbers -/
def tListAcc (K : PySem.W.Frag) (ta : TA) : TE := fun σ H Q => ta σ H fun vs H2 => ∃ (q : Addr) (ns : List Int), vs = [.ref q] ∧ SqL K H2 q (ns.map V.int) ∧ ∀ p, H2 p = none → Q (.ref p) (upd H2 p (.lst ((psum ns).map V.int)))
theorem pe_listAcc {e : Expr} {ta : TA} {p0 pos p pos2 : Pos} (hc : X.calm = true) (hgl : Gl X "list") (hml : X.mg "list" = none) (hg : Gl X "accumulate") (hm : X.mg "accumulate" = some (.type "itertools.accumulate")) (ha : PA X [e] ta)
    (hs1 : starEach [.Call (.Name "accumulate" p) [e] [] pos2] X.env = (false, eval (.Call (.Name "accumulate" p) [e] [] pos2) X.env) :: starEach [] X.env := by rfl)
    (hp1 : (backTo pos (starEach [] X.env)).any (·.1) = false := by rfl) (hs : starEach [e] X.env = (false, eval e X.env) :: starEach [] X.env := by rfl) (hpl : (backTo pos2 (starEach [] X.env)).any (·.1) = false := by rfl) :
    PE X (.Call (.Name "list" p0) [.Call (.Name "accumulate" p) [e] [] pos2] [] pos) (tListAcc X.K ta) := by
  refine ⟨fun pins s σ H Q I h => ?_⟩
  refine wpAny_Call_Name_kw (ld_blt (u := .type "list") I hgl hml (by decide +kernel) ?_)
  refine PyProof.Rows.callWith_type1 ?_ hs1 hp1
  rw [hs1]
  show wpAny _ _ (spliced ((false, eval (.Call (.Name "accumulate" p) [e] [] pos2) X.env) :: backTo pos (starEach [] X.env))) _ _ s
  refine Calls.spliced_cons ?_
  refine wpAny_Call_Name_kw (ld_glob I hg hm ?_)
  refine PyProof.Rows.callWith_type1 ?_ hs hpl
  refine thn (ha.run pos2 pins s σ H _ I h) fun us s3 ⟨vs, H2, I3, r3, q3⟩ => ?_
  obtain ⟨q, ns, rfl, hq, q3⟩ := q3
  cases r3 with
  | cons r rr =>
    cases rr
    cases r
    obtain ⟨its, rv, pl, hsz⟩ := I3.list hq
    have hlen : its.length = ns.length := by rw [← rv.length, List.length_map]
    have hi : ∀ (i : Nat) (v : Value), its.toArray[i]? = some v → ∃ x t, ns[i]? = some x ∧ v = .int x t := fun i v hv => by
      have hv' : its[i]? = some v := by simpa using hv
      have hlt : i < ns.length := by have := (List.getElem?_eq_some_iff.mp hv').1; omega
      have hn : (ns.map V.int)[i]? = some (V.int ns[i]) := by rw [List.getElem?_map, List.getElem?_eq_getElem hlt]; rfl
      obtain ⟨u, hu, ru⟩ := rv.get hn
      have eu : u = v := Option.some.inj (hu.symm.trans hv')
      subst eu
      obtain ⟨t, rfl⟩ := ru
      exact ⟨_, t, List.getElem?_eq_getElem hlt, rfl⟩
    refine wpAny_mono (list_acc_list (Q := EP X pins σ Q) (E := X.xe) (I3.ok.hd hc) pl.isList (by simpa using hlen) hi (by simp only [List.size_toArray]; rw [hlen]; simpa using hsz) fun h' k a acc c hp hk ha' hal hav => ?_) (fun v s4 h4 => Calls.spliced_nil h4) fun _ _ z => z
    have rv2 : Vals ((psum ns).map V.int) acc := by
      have hl2 : ((psum ns).map V.int).length = acc.length := by rw [List.length_map, psum_len, hal]
      refine paired_of hl2 fun i x u h1 h2 => ?_
      obtain ⟨t, rfl⟩ := hav i u h2
      have hlt : i < ns.length := by have := (List.getElem?_eq_some_iff.mp h2).1; omega
      have e1 : ((psum ns).map V.int)[i]? = some (V.int (ns.take (i + 1)).sum) := by
        unfold psum
        rw [List.getElem?_map, List.getElem?_map, List.getElem?_range hlt]; rfl
      rw [e1] at h1
      cases h1
      exact ⟨t, rfl⟩
    refine ⟨.ref a, _, I3.laid (t' := k) hk hp (show ObjOk X.prog X.w _ h' a (.lst ((psum ns).map V.int)) from ⟨by rw [List.length_map, psum_len]; simpa using hsz, acc, c, rv2, ha'⟩), rfl, q3 a (I3.hok.fresh hp)⟩
end
end RFI
end
-- part RPwP
section
set_option Elab.async false
set_option linter.all false
set_option maxRecDepth 100000
set_option maxHeartbeats 1000000
/-! for a, b in pairwise(xs): the layer's rule. -/
namespace RFI
open PySem PySem.Spec PyProof.Rows L2
open PySem.Builtin.Itertools
/-- a value that pairwise does not take for its own mark -/
def Cl (v : Value) : Prop := (v == itNothing) = false
theorem cl_of {v : Value} (h : v ≠ .int 0 0) : Cl v := by
  unfold Cl
  cases e : v == itNothing with
  | false => rfl
  | true => exact absurd (beq_iff_eq.mp e) h
theorem cl_ne {v : Value} (h : Cl v) : v ≠ .int 0 0 := fun e => by
  subst e
  unfold Cl at h
  exact absurd h (by decide)
theorem cl_int {x : V} {u : Value} (r : RelV x u) (h : x ≠ .int 0) : Cl u := cl_of fun e => by
  subst e
  cases x with
  | int i =>
    obtain ⟨t, e⟩ := r
    injection e with e1
    exact h (by rw [e1])
  | non => cases r
  | bl b => cases r
  | str z => obtain ⟨t, e⟩ := r; cases e
  | byt b => obtain ⟨t, e⟩ := r; cases e
  | flt b => obtain ⟨t, e⟩ := r; cases e
  | ref a => cases r
  | ty n => cases r
/-- an object whose items all are such -/
def ClO (o : Obj) : Prop := ∃ its n, o.data = .seq its n ∧ ∀ v ∈ its.toList, Cl v
/-- the list at a holds such values alone -/
def ClAt (K : PySem.W.Frag) (H : Hp) (a : Addr) (xs : List V) : Prop := (∃ o, (H a = some (.frz o (.lst xs)) ∨ K.lookup a = some o) ∧ ClO o) ∨ ∀ x ∈ xs, x ≠ V.int 0
section
variable {X : Cx} {pins : List (Addr × Obj)} {σ : L2.St} {H : Hp} {s : Shared} {a : Addr} {xs : List V}
theorem clean_list (I : Inv X pins σ H s) (hq : SqL X.K H a xs) (hc : ClAt X.K H a xs) : ∃ its : List Value, Vals xs its ∧ PlainL s.heap a its.toArray ∧ ∀ v ∈ its, Cl v := by
  obtain ⟨its, r, p, _⟩ := I.list hq
  refine ⟨its, r, p, ?_⟩
  rcases hc with ⟨o, ho, its', n, hd, hcl⟩ | hc
  · have e : s.heap.get? a = some o := by
      rcases ho with ho | ho
      · exact (I.hok a _ ho).1
      · exact I.kIn a o ho
    obtain ⟨o2, n2, e2, _, _, d2⟩ := p
    rw [e] at e2
    cases e2
    rw [hd] at d2
    injection d2 with d3 _
    intro v hv
    exact hcl v (by rw [d3]; simpa using hv)
  · intro v hv
    obtain ⟨i, hi, e⟩ := List.getElem_of_mem hv
    have hl := r.length
    have hx : xs[i]? = some xs[i] := List.getElem?_eq_getElem (by omega)
    obtain ⟨u, hu, ru⟩ := r.get hx
    have eu : u = v := by
      rw [List.getElem?_eq_getElem hi] at hu
      rw [← e]; exact (Option.some.inj hu).symm
    subst eu
    exact cl_int ru (hc _ (List.getElem_mem _))
end
/-- the list at a, its neighbours in new pairs -/
def Itp (K : PySem.W.Frag) (a : Addr) (xs : List V) : It :=
  ⟨fun i H => SqL K H a xs ∧ ClAt K H a xs ∧ i + 1 < xs.length,
    fun i H v H' => ∃ T x y, v = .ref T ∧ H T = none ∧ H' = upd H T (.tup [x, y]) ∧ xs[i]? = some x ∧ xs[i + 1]? = some y,
    fun i H => SqL K H a xs ∧ ClAt K H a xs ∧ xs.length ≤ i + 1⟩
theorem turn_pw {P : Program} {w : World} {K : PySem.W.Frag} {elts : List Expr} {kk : Nat} {tpos : Pos} {a z TO it : Addr} {xs : List V} (D : PwApart z TO it a) :
    Turn P w K (.Tuple elts kk tpos) (Itp K a xs) [z, TO, it] z (fun i h => ∃ old, IsPw h z it TO .none old ∧ (∃ x y, IsPair h TO x y) ∧
      ((i = 0 ∧ old = .int 0 0 ∧ h.IsListIter it a 0) ∨ (0 < i ∧ Cl old ∧ (∃ x, xs[i]? = some x ∧ RelV x old) ∧ h.IsListIter it a (i + 1)))) where
  mem := by simp
  obj := fun i h st c hc => by
    obtain ⟨old, hz, ⟨x, y, hTO⟩, h1⟩ := st
    have hit : ∃ k, h.IsListIter it a k := by
      rcases h1 with ⟨_, _, h1⟩ | ⟨_, _, _, h1⟩
      · exact ⟨_, h1⟩
      · exact ⟨_, h1⟩
    obtain ⟨k, o1, e1, _, d1⟩ := hit
    have e' : c = z ∨ c = TO ∨ c = it := by simpa using hc
    rcases e' with q | q | q
    · rw [q]; exact ⟨_, hz, fun v q => nomatch q⟩
    · rw [q]; exact ⟨_, hTO, fun v q => nomatch q⟩
    · rw [q]; exact ⟨o1, e1, fun v q => by rw [d1] at q; cases q⟩
  keep := fun i h h' st k => by
    obtain ⟨old, hz, ⟨x, y, hTO⟩, h1⟩ := st
    refine ⟨old, k z (by simp) _ hz, ⟨x, y, k TO (by simp) _ hTO⟩, ?_⟩
    rcases h1 with ⟨e1, e2, h1⟩ | ⟨e1, e2, e3, h1⟩
    · exact .inl ⟨e1, e2, h1.at fun o q => k it (by simp) o q⟩
    · exact .inr ⟨e1, e2, e3, h1.at fun o q => k it (by simp) o q⟩
  item := by
    intro X hP hw hK hc i pins s σ H E I hf st hg
    subst hP hw hK
    obtain ⟨old, hz, ⟨x0, y0, hTO⟩, h1⟩ := st
    obtain ⟨hq, hcl, hlt⟩ := hg
    obtain ⟨its, rv, p, cls⟩ := clean_list I hq hcl
    have hlen := rv.length
    have hx : xs[i]? = some xs[i] := List.getElem?_eq_getElem (by omega)
    have hy : xs[i + 1]? = some xs[i + 1] := List.getElem?_eq_getElem hlt
    obtain ⟨u, hu, ru⟩ := rv.get hx
    obtain ⟨u2, hu2, ru2⟩ := rv.get hy
    have cu2 : Cl u2 := cls u2 (List.mem_of_getElem? hu2)
    have hzl : z < s.heap.objs.size := Heap.lt_size hz
    have hT0 : s.TypeIs (.ref z) "itertools.pairwise" := ⟨_, hz, rfl⟩
    -- whatever the first of the two is: the turn's end
    have fin : ∀ (v : Value), RelV xs[i] v → ∀ h', IsPw h' z it TO (rawInt s.heap.objs.size) u2 → IsPair h' TO v u2 → h'.IsListIter it a (i + 2) → IsPair h' s.heap.objs.size v u2 → h'.objs.size = s.heap.objs.size + 1 →
        (∀ c o, c ≠ z → c ≠ TO → c ≠ it → s.heap.get? c = some o → h'.get? c = some o) →
        ∃ u, some (Value.ref s.heap.objs.size) = some u ∧ wpAny (model X.prog X.w) X.A (letOwnedTupleGo (.Tuple elts kk tpos) (.ref z) u) (fun _ s2 => ∃ x H', Inv X pins σ H' s2 ∧ RelV x u ∧ (Itp X.K a xs).yld i H x H' ∧
          (∃ old, IsPw s2.heap z it TO .none old ∧ (∃ x y, IsPair s2.heap TO x y) ∧ ((i + 1 = 0 ∧ old = .int 0 0 ∧ s2.heap.IsListIter it a 0) ∨ (0 < i + 1 ∧ Cl old ∧ (∃ x, xs[i + 1]? = some x ∧ RelV x old) ∧ s2.heap.IsListIter it a (i + 1 + 1)))) ∧ ∀ b ∈ [z, TO, it], H' b = none) E { s with heap := h' } := by
      intro v rv1 h' z' TO' h1' hT hsz hk
      refine ⟨_, rfl, pw_go (s := { s with heap := h' }) z' fun h'' z'' sb => ?_⟩
      have hT2 : h''.get? s.heap.objs.size = some { cls := .type "tuple", data := .seq #[v, u2] } := (sb.2 _ (Nat.ne_of_gt hzl)).trans hT
      have new : ObjOk X.prog X.w (upd H s.heap.objs.size (.tup [xs[i], xs[i + 1]])) h'' s.heap.objs.size (.tup [xs[i], xs[i + 1]]) :=
        ⟨by show 2 ≤ sizeLine; decide, [v, u2], .cons rv1 (.cons ru2 .nil), ⟨_, hT2, rfl, _, rfl⟩⟩
      have I1 : Inv X pins σ (upd H s.heap.objs.size (.tup [xs[i], xs[i + 1]])) { s with heap := h'' } :=
        I.turnedNew (t' := s.toks) (ch := [z, TO, it]) (fun c o hb q => (sb.2 c (fun q' => hb (by simp [q']))).trans (hk c o (fun q' => hb (by simp [q'])) (fun q' => hb (by simp [q'])) (fun q' => hb (by simp [q'])) q)) hf (Nat.le_refl _) new
      refine ⟨.ref s.heap.objs.size, _, I1, rfl, ⟨_, _, _, rfl, I.hok.fresh (Nat.le_refl _), rfl, hx, hy⟩, ⟨u2, z'', ⟨v, u2, (sb.2 _ D.TOz).trans TO'⟩, .inr ⟨Nat.succ_pos _, cu2, ⟨_, hy, ru2⟩, h1'.at fun o q => (sb.2 _ D.itz).trans q⟩⟩, fun c hcm => ?_⟩
      have hlt : c < s.heap.objs.size := by
        have e' : c = z ∨ c = TO ∨ c = it := by simpa using hcm
        rcases e' with q | q | q
        · rw [q]; exact hzl
        · rw [q]; exact Heap.lt_size hTO
        · rw [q]
          rcases h1 with ⟨_, _, h1⟩ | ⟨_, _, _, h1⟩
          · obtain ⟨_, e1, _⟩ := h1; exact Heap.lt_size e1
          · obtain ⟨_, e1, _⟩ := h1; exact Heap.lt_size e1
      rw [upd_ne (Nat.ne_of_lt hlt)]
      exact (hf c hcm).1
    unfold pyNext
    refine wpAny_bind (wpAny_attempt (wpAny_callSpecial?_slot (name := Str.ofString "__next__") hT0 slot_pw_next (wpAny_call_entry slot_pw_next hT0 entry_pw_next ?_ (args_pw_next _))))
    rcases h1 with ⟨rfl, rfl, h1⟩ | ⟨hi, co, ⟨x, hxx, rx⟩, h1⟩
    · refine pw_next_first D hz hTO h1 p.isList (x := u) (y := u2) (by simpa using hu) (by simpa using hu2) fun h' z' TO' h1' hT hsz hk => ⟨_, rfl, ?_⟩
      exact wpAny_pure (fin u ru h' z' TO' h1' hT hsz hk)
    · rw [hx] at hxx
      cases hxx
      refine pw_next_more D hz hTO h1 p.isList co (y := u2) (by simpa using hu2) fun h' z' TO' h1' hT hsz hk => ⟨_, rfl, ?_⟩
      exact wpAny_pure (fin old rx h' z' TO' h1' hT hsz hk)
  done := by
    intro X hP hw hK hc i pins s σ H E I hf st hg
    subst hP hw hK
    obtain ⟨old, hz, ⟨x0, y0, hTO⟩, h1⟩ := st
    obtain ⟨hq, hcl, hend⟩ := hg
    obtain ⟨its, rv, p, cls⟩ := clean_list I hq hcl
    have hlen := rv.length
    have hT0 : s.TypeIs (.ref z) "itertools.pairwise" := ⟨_, hz, rfl⟩
    have goal : ∀ h' e, (∀ c o, c ≠ z → c ≠ it → s.heap.get? c = some o → h'.get? c = some o) → (∃ o, h'.get? e = some o ∧ o.cls = .type "StopIteration") →
        wpAny (model X.prog X.w) X.A (do if ← isInstance (.ref e) (.type "StopIteration") then pure (none : Option Value) else throw (.ref e)) (fun r s1 => r = none ∧ Inv X pins σ H s1) E { s with heap := h' } := by
      intro h' e hk ⟨o, ho, hcl'⟩
      refine wpAny_bind (wpAny_isInstance (T := "StopIteration") (b := true) ⟨o, ho, hcl'⟩ isSubtype_stop ?_)
      exact wpAny_pure ⟨rfl, I.turnedL (t' := s.toks) (ch := [z, TO, it]) (fun c o hb q => hk c o (fun q' => hb (by simp [q'])) (fun q' => hb (by simp [q'])) q) hf⟩
    unfold pyNext
    refine wpAny_bind (wpAny_attempt (wpAny_callSpecial?_slot (name := Str.ofString "__next__") hT0 slot_pw_next (wpAny_call_entry slot_pw_next hT0 entry_pw_next ?_ (args_pw_next _))))
    rcases h1 with ⟨rfl, rfl, h1⟩ | ⟨hi, co, ⟨x, hxx, rx⟩, h1⟩
    · exact pw_next_end (I.ok.hd hc) D hz h1 p.isList (.inl ⟨rfl, rfl, by rw [List.size_toArray]; omega⟩) fun h' e hk he => goal h' e hk he
    · exact pw_next_end (I.ok.hd hc) D hz h1 p.isList (.inr ⟨co, by simp; omega⟩) fun h' e hk he => goal h' e hk he
  self := fun A i s Q E st h => let ⟨_, hz, _⟩ := st; pw_pyIter hz h
def iPw (K : PySem.W.Frag) (ta : TA) : TI := fun σ H R => ta σ H fun vs H1 => ∃ a xs, vs = [.ref a] ∧ SqL K H1 a xs ∧ R (Itp K a xs) H1
theorem pi_pw {X : Cx} {e : Expr} {ta : TA} {p pos tpos : Pos} {elts : List Expr} {kk : Nat} (hg : Gl X "pairwise") (hm : X.mg "pairwise" = some (.type "itertools.pairwise")) (ha : PA X [e] ta)
    (hs : starEach [e] X.env = (false, eval e X.env) :: starEach [] X.env := by rfl) (hpl : (backTo pos (starEach [] X.env)).any (·.1) = false := by rfl) :
    PI X (.Tuple elts kk tpos) (.Call (.Name "pairwise" p) [e] [] pos) (iPw X.K ta) := by
  refine ⟨fun pins s σ H R I h => ?_⟩
  refine Call_ (ld_glob I hg hm (PyProof.Rows.callWith_type1 (thn (ha.run pos pins s σ H _ I h) fun us s1 ⟨vs, H1, I1, r1, q1⟩ => ?_) hs hpl))
  obtain ⟨a, xs, ex, hqx, q⟩ := q1
  subst ex
  cases r1 with
  | cons r rr =>
    cases rr
    cases r
    obtain ⟨its, rv, p1, _⟩ := I1.list hqx
    have la : a < s1.heap.objs.size := p1.lt
    refine call_pw p1.isList fun h' hz hTO h1 hsz hk => pw_pyIter hz ?_
    have I2 : Inv X pins σ H1 { s1 with heap := h' } := I1.kept (t' := s1.toks) hk
    have D : PwApart (s1.heap.objs.size + 2) (s1.heap.objs.size + 1) s1.heap.objs.size a :=
      ⟨Nat.ne_of_lt (Nat.lt_succ_self _), Nat.ne_of_lt (Nat.lt_succ_of_lt (Nat.lt_succ_self _)), Nat.ne_of_lt (Nat.lt_succ_of_lt (Nat.lt_succ_of_lt la)), Nat.succ_ne_self _, Nat.ne_of_lt (Nat.lt_succ_of_lt la), Nat.ne_of_lt la⟩
    refine ⟨s1.heap.objs.size + 2, [s1.heap.objs.size + 2, s1.heap.objs.size + 1, s1.heap.objs.size], _, _, H1, rfl, I2, turn_pw D, ⟨_, hz, ⟨_, _, hTO⟩, .inl ⟨rfl, rfl, h1⟩⟩, fun c hcm => ?_, q⟩
    have e' : c = s1.heap.objs.size + 2 ∨ c = s1.heap.objs.size + 1 ∨ c = s1.heap.objs.size := by simpa using hcm
    have hle : s1.heap.objs.size ≤ c := by
      rcases e' with z | z | z
      · rw [z]; exact Nat.le_add_right _ _
      · rw [z]; exact Nat.le_add_right _ _
      · rw [z]; exact Nat.le_refl _
    exact I1.fpOk hle (I1.hok.fresh hle)
/-- a loop over the neighbours -/
theorem for_pw {K : PySem.W.Frag} {a : Addr} {xs : List V} {g : TG} {tb : TS} {D : Ends} {σ : L2.St} {H : Hp} (Pv : Nat → L2.St → Hp → Prop) (h0 : Pv 0 σ H) (hq : ∀ i σ H, Pv i σ H → SqL K H a xs ∧ ClAt K H a xs)
    (hs : ∀ (i : Nat) (x y : V) (T : Addr) (σ : L2.St) (H : Hp), xs[i]? = some x → xs[i + 1]? = some y → Pv i σ H → H T = none → g (.ref T) σ (upd H T (.tup [x, y])) fun σ2 H2 => tb { D with nx := Pv (i + 1), ct := Pv (i + 1), bk := D.nx } σ2 H2) (hd : ∀ σ H, Pv (xs.length - 1) σ H → D.nx σ H) :
    ∃ W : Nat → Nat → L2.St → Hp → Prop, (∃ m, W 0 m σ H) ∧ ∀ i m σ H, W i m σ H →
      ((Itp K a xs).stop i H ∧ D.nx σ H) ∨ ((Itp K a xs).go i H ∧ ∃ N : L2.St → Hp → Prop, (∀ σ' H', N σ' H' → ∃ m', m' < m ∧ W (i + 1) m' σ' H') ∧ ∀ v H', (Itp K a xs).yld i H v H' → g v σ H' fun σ2 H2 => tb { D with nx := N, ct := N, bk := D.nx } σ2 H2) := by
  refine ⟨fun i m σ H => m = xs.length - 1 - i ∧ i ≤ xs.length - 1 ∧ Pv i σ H, ⟨_, rfl, Nat.zero_le _, h0⟩, ?_⟩
  rintro i m σ H ⟨rfl, hi, p⟩
  obtain ⟨qx, qc⟩ := hq i σ H p
  by_cases hlt : i + 1 < xs.length
  · refine .inr ⟨⟨qx, qc, hlt⟩, Pv (i + 1), fun σ' H' p' => ⟨xs.length - 1 - (i + 1), by omega, rfl, by omega, p'⟩, fun v H' y => ?_⟩
    obtain ⟨T, x', y', rfl, hT, rfl, f1, f2⟩ := y
    exact hs i x' y' T σ H f1 f2 p hT
  · have e : i = xs.length - 1 := by omega
    subst e
    exact .inl ⟨⟨qx, qc, by omega⟩, hd σ H p⟩
end RFI
end
-- part RLc
section
set_option Elab.async false
set_option linter.all false
set_option maxRecDepth 100000
set_option maxHeartbeats 2000000
/-! A list made by a comprehension out of another one's items, and its own objects known; append to it. -/
namespace RFI
open PySem PySem.Spec PyProof.Rows L2
/-- at a stands a list of xs whose items pairwise does not take for its mark -/
def clL (a : Addr) (xs : List V) : Heap → Prop := fun h => xs.length ≤ sizeLine ∧ ∃ (its : List Value) (n : Nat), Vals xs its ∧ h.get? a = some { cls := .type "list", data := .seq its.toArray n } ∧ ∀ v ∈ its, Cl v
theorem clL_ok {P : Program} {w : World} {H : Hp} {h : Heap} {a : Addr} {xs : List V} (x : clL a xs h) : ObjOk P w H h a (.ext (clL a xs)) := by
  obtain ⟨z, its, n, r, e, c⟩ := id x
  exact ⟨x, ⟨_, e⟩, fun h1 h2 ⟨z, its, n, r, e, c⟩ k => ⟨z, its, n, r, k _ e, c⟩⟩
/-- an expression whose value is such a one -/
structure PEc (X : Cx) (e : Expr) (t : TE) : Prop where
  run : ∀ (pins : List (Addr × Obj)) (s : Shared) (σ : L2.St) (H : Hp) (Q : VK), Inv X pins σ H s → t σ H Q → wpAny (model X.prog X.w) X.A (eval e X.env) (fun u s' => Cl u ∧ EP X pins σ Q u s') X.xe s
/-- not known by its object ahead of the def -/
def NF (X : Cx) (D : Addr) : Prop := ∀ o' u', X.H_0 D ≠ some (.frz o' u')
section
variable {X : Cx} {pins : List (Addr × Obj)} {σ : L2.St} {H : Hp} {s : Shared}
theorem nf_of {D : Addr} (I : Inv X pins σ H s) (h : H D = none) : NF X D := fun o' u' e => by
  have q := I.base.frzs D o' u' e
  rw [h] at q
  cases q
/-- from such a list to one that is known by its object -/
theorem settle {d : Addr} {xs : List V} (I : Inv X pins σ H s) (h : H d = some (.ext (clL d xs))) : ∃ od, ClO od ∧ Inv X pins σ (upd H d (.frz od (.lst xs))) s := by
  obtain ⟨⟨z, its, n, r, e, c⟩, _, _⟩ := I.hok d _ h
  refine ⟨_, ⟨its.toArray, n, rfl, by simpa using c⟩, I.write (x := d) (e := d) (t' := s.toks) (h' := s.heap) (by rw [h]; trivial) (.inl rfl) (fun b v _ q => q) ⟨_, e⟩ ⟨e, z, its, n, r, e⟩⟩
theorem app_cl {E : Value → Shared → Prop} {D : Addr} {xs : List V} {y : V} {v : Value} {Q : Value → Shared → Prop} (I : Inv X pins σ H s) (hD : H D = some (.ext (clL D xs))) (hz : xs.length < sizeLine) (r : RelV y v) (hc : Cl v)
    (h : ∀ s', Inv X pins σ (upd H D (.ext (clL D (xs ++ [y])))) s' → Q .none s') : wpAny (model X.prog X.w) X.A (call (.builtin "list.append") [.ref D, v]) Q E s := by
  obtain ⟨⟨hz', its, n, ri, e, c⟩, _, _⟩ := I.hok D _ hD
  have hl := ri.length
  refine append_at (hsz := by rw [List.size_toArray]; omega) e fun h' sb ho' => ?_
  refine h { s with heap := h' } (I.write (t' := s.toks) (by rw [hD]; trivial) (.inl rfl) (fun b u hb q => (sb.2 b hb).trans q) ⟨_, ho'⟩ (clL_ok ⟨by rw [List.length_append]; exact hz, its ++ [v], n + 1, ri.append (.cons r .nil), ?_, fun w hw => ?_⟩))
  · rw [ho']
    simp
  · rcases List.mem_append.mp hw with hw | hw
    · exact c w hw
    · rw [List.mem_singleton.mp hw]; exact hc
/-- xs[i] of such a list -/
def tIxC (K : PySem.W.Frag) (ta tb : TE) : TE := fun σ H Q => ta σ H fun x H1 => tb σ H1 fun y H2 => ∃ p xs i v, x = .ref p ∧ y = .int i ∧ SqL K H2 p xs ∧ ClAt K H2 p xs ∧ 0 ≤ i ∧ xs[i.toNat]? = some v ∧ Q v H2
theorem pec_ix {a b : Expr} {ta tb : TE} {pos : Pos} (ha : PE X a ta) (hb : PE X b tb) (hs : PlainIx b) : PEc X (.Subscript a b pos) (tIxC X.K ta tb) := by
  refine ⟨fun pins s σ H Q I h => ?_⟩
  refine Subscript_ (thn (ha.run pins s σ H _ I h) fun v s1 ⟨x, H1, I1, rx, q1⟩ => thn (hb.run pins s1 σ H1 _ I1 q1) fun u s2 ⟨y, H2, I2, ry, q2⟩ => ?_)
  obtain ⟨p, xs, i, z, rfl, rfl, hq, hc, h0, he, q⟩ := q2
  cases rx
  obtain ⟨t, rfl⟩ := ry
  obtain ⟨its, r, pl, cls⟩ := clean_list I2 hq hc
  obtain ⟨its2, r2, pl2, hz⟩ := I2.list hq
  obtain ⟨w, ew, rw'⟩ := r.get he
  have hl := r.length
  have hn := line63
  have hlt : i.toNat < xs.length := (List.getElem?_eq_some_iff.mp he).1
  exact item_listR pl.isList h0 (by omega) (by simpa using ew) ⟨cls w (List.mem_of_getElem? ew), z, H2, I2, rw', q⟩ (hs _ _)

/-- the comprehension -/
def tLcC (NFp : Addr → Prop) (wi : TI) (g : TG) (tt : TT) (te : TE) (vs : List Nat) : TE := fun σ H Q => wi σ H fun J H1 => ∀ D, H1 D = none → ∃ W : Nat → Nat → Hp → Prop, (∃ m, W 0 m (upd H1 D (.ext (clL D [])))) ∧ ∀ i m H, W i m H →
  (J.stop i H ∧ ∃ xs, H D = some (.ext (clL D xs)) ∧ ∀ o, ClO o → NFp D → Q (.ref D) (upd H D (.frz o (.lst xs)))) ∨ (J.go i H ∧ ∃ Nx : Hp → Prop, (∀ H', Nx H' → ∃ m', m' < m ∧ W (i + 1) m' H') ∧ ∀ x H', J.yld i H x H' → g x (wipe σ vs) H' fun σ2 H2 => wipe σ2 vs = wipe σ vs ∧ tt σ2 H2 fun b H3 =>
    if b = true then te σ2 H3 fun y H4 => ∃ acc, H4 D = some (.ext (clL D acc)) ∧ acc.length < sizeLine ∧ Nx (upd H4 D (.ext (clL D (acc ++ [y])))) else Nx H3)
theorem lc_coreC {Q : VK} {elt tg iter : Expr} {ifs : List Expr} {scope : Scope} {own : List (Str × Nat)} {pos pos' : Pos} {wi : TI} {g : TG} {tt : TT} {te : TE} {use : Option (Value → Sem Unit)} {Qf : Value → Shared → Prop}
    (hc : X.calm = true) (hN : X.N.Nodup) (I : Inv X pins σ H s) (hi : PI X tg iter wi) (ok : BlkOk X.N X.env.scope scope own)
    (hg : ∀ (s : Shared) (H : Hp) (C : Addr) (cl : List (Str × Addr)) (fp : List Addr), PG (X.blk s H scope (compEnvC scope cl C X.env) fp) tg g) (ht : ∀ (s : Shared) (H : Hp) (C : Addr) (cl : List (Str × Addr)) (fp : List Addr), PTs (X.blk s H scope (compEnvC scope cl C X.env) fp) ifs tt)
    (he : ∀ (s : Shared) (H : Hp) (C : Addr) (cl : List (Str × Addr)) (fp : List Addr), PEc (X.blk s H scope (compEnvC scope cl C X.env) fp) elt te) (hs : ∀ x, foldedSetIterable iter X.env x = pure x)
    (h : tLcC (NF X) wi g tt te (own.map (·.2)) σ H Q)
    (hRR : ∀ D C s' m H', Inv X pins σ H' s' → Q (.ref D) H' → s'.heap.Ns C m → FpOk X pins H' C → compPost (model X.prog X.w) X.A X.xe use Qf (.ref D) C (.ok .next) s') :
    wpAny (model X.prog X.w) X.A (comprehension (.ListComp elt [⟨tg, iter, ifs, 0⟩] scope pos) scope X.env pos' (newList []) false (eval iter X.env) use) Qf X.xe s := by
  have hfree : ∀ y ∈ scope.names, y.2 = .free → ∃ c, X.env.cells.lookup y.1 = some c := fun y hy e => by
    rcases ok.free y hy e with k | k
    · exact I.ok.has _ (.inl k)
    · exact I.ok.has _ (.inr k)
  refine wpAny_comprehension_free (use := use) rfl hs (closure_ok hfree) ok.kind (fun y hy e => by rw [ok.uniq y hy, e])
    (thn (hi.run pins s σ H _ I h) fun xv s1 hx => thn hx fun itv s2 h2 => ?_)
  obtain ⟨it, fp, tn, J, H2, e, I2, T, st2, f2, q⟩ := h2
  subst e
  refine wpAny_newObj_type (newEnv_comp ?_) (by show 0 ≤ sizeLine; decide)
  generalize hD : s2.heap.objs.size = D
  have hDn : H2 D = none := I2.hok.fresh (Nat.le_of_eq hD)
  have nf : NF X D := nf_of I2 hDn
  obtain ⟨W, ⟨m0, w0⟩, turn⟩ := q D hDn
  -- the new list
  generalize hs3 : ({ s2 with heap := s2.heap.push { cls := .type "list", data := .seq ([] : List Value).toArray } } : Shared) = s3
  have I3 : Inv X pins σ (upd H2 D (.ext (clL D []))) s3 := by
    rw [← hs3]
    refine I2.laid (t' := s2.toks) (fun b o e => Heap.get?_push_of_some _ e) (Nat.le_of_eq hD) (clL_ok ⟨Nat.zero_le _, [], 0, .nil, ?_, fun v hv => by cases hv⟩)
    rw [← hD]
    exact Heap.get?_push_size _ rfl
  have h3 : s3.heap = s2.heap.push { cls := .type "list", data := .seq ([] : List Value).toArray } := by rw [← hs3]
  have sz : ∀ b ∈ fp, b < s2.heap.objs.size := fun b hb => by
    obtain ⟨o, e, _⟩ := T.obj _ _ st2 b hb
    exact Heap.lt_size e
  have f3 : ∀ b ∈ fp, FpOk X pins (upd H2 D (.ext (clL D []))) b ∧ b < s3.heap.objs.size := fun b hb => by
    have hlt := sz b hb
    refine ⟨⟨?_, (f2 b hb).2⟩, by rw [h3, Heap.size_push]; exact Nat.lt_succ_of_lt hlt⟩
    rw [upd_ne (by rw [← hD]; exact Nat.ne_of_lt hlt)]
    exact (f2 b hb).1
  have st3 : tn 0 s3.heap := T.keep _ _ _ st2 fun b _ o e => by rw [h3]; exact Heap.get?_push_of_some _ e
  have I4 := block_start I3 ok hN f3
  have pg := hg s3 (upd H2 D (.ext (clL D []))) s3.heap.objs.size (cellsFrom (s3.heap.objs.size + 1) scope.names (cloFrom X.env.cells scope.names [])) fp
  have pt := ht s3 (upd H2 D (.ext (clL D []))) s3.heap.objs.size (cellsFrom (s3.heap.objs.size + 1) scope.names (cloFrom X.env.cells scope.names [])) fp
  have pe := he s3 (upd H2 D (.ext (clL D []))) s3.heap.objs.size (cellsFrom (s3.heap.objs.size + 1) scope.names (cloFrom X.env.cells scope.names [])) fp
  show codeAny _ _ (.compStart (.ListComp elt [⟨tg, iter, ifs, 0⟩] scope pos) 0 (.ref it) (.ref D) (compEnvC scope (cellsFrom (s3.heap.objs.size + 1) scope.names (cloFrom X.env.cells scope.names [])) s3.heap.objs.size X.env)) (compPost (model X.prog X.w) X.A X.xe use Qf (.ref D) s3.heap.objs.size) { s3 with heap := pushCells (s3.heap.push { cls := .type "dict", data := .dict #[] }) scope.names }
  have nfp : ∀ b ∈ fp, (upd H2 D (.ext (clL D []))) b = none := fun b hb => (f3 b hb).1.1
  generalize hce : compEnvC scope (cellsFrom (s3.heap.objs.size + 1) scope.names (cloFrom X.env.cells scope.names [])) s3.heap.objs.size X.env = ce at I4 pg pt pe ⊢
  have cL : ce.locals = s3.heap.objs.size := by subst hce; rfl
  generalize hH3 : upd H2 D (.ext (clL D [])) = H3 at I3 I4 pg pt pe w0 nfp f3
  generalize hs4 : ({ s3 with heap := pushCells (s3.heap.push { cls := .type "dict", data := .dict #[] }) scope.names } : Shared) = s4 at I4 ⊢
  have st4 : tn 0 s4.heap := T.keep _ _ _ st3 fun b _ o e => by rw [← hs4]; exact pushCells_keeps _ _ _ _ (Heap.get?_push_of_some _ e)
  have stat : ∀ {σ' : L2.St} {H' : Hp} {s' : Shared}, Inv (X.blk s3 H3 scope ce fp) [] σ' H' s' → (∀ b ∈ fp, H' b = none) → ∀ b ∈ fp, FpOk (X.blk s3 H3 scope ce fp) [] H' b := fun {σ' H' s'} I' hn b hb =>
    ⟨hn b hb, (I'.ok.exf b hb).1, I'.ok.exfs b hb, .inl hb, fun x c e => (I'.ok.exf b hb).2 x c e, fun p hp => absurd (show p ∈ ([] : List (Addr × Obj)) ++ [] from hp) (by simp)⟩
  have loop : codeAny (model X.prog X.w) X.A (.compLoop (.ListComp elt [⟨tg, iter, ifs, 0⟩] scope pos) 0 (.ref it) (.ref D) ce) (compPost (model X.prog X.w) X.A X.xe use Qf (.ref D) s3.heap.objs.size) s4 := by
    refine compLoop_any (fun n s' => ∃ i H', Inv (X.blk s3 H3 scope ce fp) [] (wipe σ (own.map (·.2))) H' s' ∧ tn i s'.heap ∧ (∀ b ∈ fp, H' b = none) ∧ W i n H') ?_ m0 ⟨0, H3, I4, st4, nfp, w0⟩
    rintro n s5 ⟨i, H5, I5, st5, n5, w5⟩
    rcases turn i n H5 w5 with ⟨stop, xs, hDx, qq⟩ | ⟨go, Nx, hNx, step⟩
    · have td := T.done (X.blk s3 H3 scope ce fp) rfl rfl rfl hc i [] s5 _ H5 (fun _ _ => False) I5 (stat I5 n5) st5 stop
      refine thnF td fun r s6 ⟨hr, I6⟩ => ?_
      subst hr
      -- back in the def's context
      have I7 : Inv X pins σ H5 s6 := I3.call' (ch := fp) I6.os I6.base I6.hok I6.bare fun b hb => ⟨(f3 b hb).1.2.2.2.1, (f3 b hb).1.2.1, (f3 b hb).1.2.2.2.2.1, (f3 b hb).1.2.2.2.2.2⟩
      have nC : H5 s3.heap.objs.size = none := by
        have z : H5 ce.locals = none := I6.free
        rw [cL] at z
        exact z
      obtain ⟨m, hn, _⟩ := I6.loc
      have hn : s6.heap.Ns ce.locals m := hn
      rw [cL] at hn
      obtain ⟨od, cod, I8⟩ := settle I7 hDx
      have nCD : s3.heap.objs.size ≠ D := fun z => by rw [z, hDx] at nC; cases nC
      exact hRR D s3.heap.objs.size s6 m _ I8 (qq od cod nf) hn (I3.fpOk (Nat.le_refl _) (by rw [upd_ne nCD]; exact nC))
    · have ti := T.item (X.blk s3 H3 scope ce fp) rfl rfl rfl hc i [] s5 _ H5 (fun _ _ => False) I5 (stat I5 n5) st5 go
      refine thnF ti fun r s6 ⟨u, hr, h6⟩ => ?_
      subst hr
      refine thnF h6 fun _ s7 ⟨x, H7, I7, r7, y7, st7, n7⟩ => ?_
      have I7' := I7.pinned (stat I7 n7) (T.obj _ _ st7)
      refine thnF (pg.run _ s7 _ H7 x u _ I7' r7 (step x H7 y7)) fun _ s8 ⟨σ8, H8, I8, hw8, q8⟩ => ?_
      refine thnF (pt.run _ s8 σ8 H8 _ I8 q8) fun b s9 ⟨H9, I9, q9⟩ => ?_
      -- the turn's end
      have fin : ∀ {s' : Shared} {H' : Hp}, Inv (X.blk s3 H3 scope ce fp) ([] ++ pinsAt fp s7.heap) σ8 H' s' → Nx H' → ∃ m, m < n ∧ ∃ i H', Inv (X.blk s3 H3 scope ce fp) [] (wipe σ (own.map (·.2))) H' s' ∧ tn i s'.heap ∧ (∀ b ∈ fp, H' b = none) ∧ W i m H' := fun {s' H'} I' nx => by
        obtain ⟨m', hm, w'⟩ := hNx H' nx
        have pin' : ∀ b ∈ fp, ∀ o, s7.heap.get? b = some o → s'.heap.get? b = some o ∧ H' b = none := fun b hb o e =>
          let z := I'.pin (b, o) (List.mem_append_right _ (List.mem_append_right _ (mem_pinsAt hb e)))
          ⟨z.1, z.2.1⟩
        have hl : (wipe σ (own.map (·.2))).length = σ8.length := by rw [← hw8, wipe_length]
        refine ⟨m', hm, i + 1, H', (I'.unpinned (pins := [])).weak hl (fun j v e => ?_), T.keep _ _ _ st7 fun b hb o e => (pin' b hb o e).1, fun b hb => ?_, w'⟩
        · rw [← hw8] at e
          exact (wipe_some e).1
        · obtain ⟨o, e, _⟩ := T.obj _ _ st7 b hb
          exact (pin' b hb o e).2
      cases b with
      | false =>
        simp only [Bool.false_eq_true, if_false] at q9 ⊢
        exact fin I9 q9
      | true =>
        simp only [if_true] at q9 ⊢
        refine thnF (pe.run _ s9 σ8 H9 _ I9 q9) fun z s10 ⟨zc, yv, H10, I10, r10, acc, hD10, hz10, nx⟩ => ?_
        exact app_cl (X := X.blk s3 H3 scope ce fp) I10 hD10 hz10 r10 zc fun s11 I11 => fin I11 nx
  exact codeAny_compStart_list loop (T.self X.A 0 _ _ _ st4 loop)
theorem ps_setLcC {i : Nat} {y : Str} {py : Pos} {elt tg iter : Expr} {ifs : List Expr} {scope : Scope} {own : List (Str × Nat)} {pos spos : Pos} {wi : TI} {g : TG} {tt : TT} {te : TE} (hc : X.calm = true) (hN : X.N.Nodup) (hy : X.N[i]? = some y) (hyl : X.env.scope.names.lookup y = some .local)
    (hsw : swapsWith (.ListComp elt [⟨tg, iter, ifs, 0⟩] scope pos) (some (.Name y py)) spos.line X.env = pure true) (hi : PI X tg iter wi) (ok : BlkOk X.N X.env.scope scope own)
    (hg : ∀ (s : Shared) (H : Hp) (C : Addr) (cl : List (Str × Addr)) (fp : List Addr), PG (X.blk s H scope (compEnvC scope cl C X.env) fp) tg g) (ht : ∀ (s : Shared) (H : Hp) (C : Addr) (cl : List (Str × Addr)) (fp : List Addr), PTs (X.blk s H scope (compEnvC scope cl C X.env) fp) ifs tt)
    (he : ∀ (s : Shared) (H : Hp) (C : Addr) (cl : List (Str × Addr)) (fp : List Addr), PEc (X.blk s H scope (compEnvC scope cl C X.env) fp) elt te) (hs : ∀ x, foldedSetIterable iter X.env x = pure x := by intro _; rfl) :
    PS X (.Assign [.Name y py] (.ListComp elt [⟨tg, iter, ifs, 0⟩] scope pos) spos) (tAsg (tLcC (NF X) wi g tt te (own.map (·.2))) (gName i)) := by
  refine ⟨fun pins s σ H D I h => ?_⟩
  rw [exec_Assign_Name_used _ _ _ _ hsw]
  refine wpAny_bind (wpAny_standAt (wpAny_bind ?_))
  show wpAny _ X.A (do let _ ← comprehension (.ListComp elt [⟨tg, iter, ifs, 0⟩] scope pos) scope X.env (firstIterPos [⟨tg, iter, ifs, 0⟩] pos) (newList []) false (eval iter X.env) (some (assign (.Name y py) X.env))) _ _ s
  have h : tLcC (NF X) wi g tt te (own.map (·.2)) σ H (fun x H1 => gName i x σ H1 D.nx) := h
  refine wpAny_bind (thn (lc_coreC (Qf := fun _ s' => SP X pins D .next s') hc hN I hi ok hg ht he hs h fun L C s' m H' I' q hn f => ?_) fun _ s' hq => wpAny_pure (wpAny_pure hq))
  show wpAny _ _ (assign (.Name y py) X.env (.ref L)) _ _ _
  refine wpAny_assign_Name (store_ok2 (v := V.ref L) I' hN hy (.inl hyl) rfl (fun s2 I2 ⟨a, sb, ha⟩ => ?_) (.inr hyl))
  obtain ⟨f0, f1, f2, f3, f4, f5⟩ := f
  have haC : C ≠ a := by
    rcases ha with z | z
    · rw [z]; exact f1
    · exact fun e => f4 y a z e.symm
  refine ⟨m, hn.sameBut sb haC, fun h3 sb3 => ?_⟩
  exact ⟨_, H', I2.turned (t' := s2.toks) (fun b o hb e => (sb3.2 b hb).trans e) f0 f1 f3 f4 f5, q⟩
/-- .append of a whole number other than 0 to a list known by its object -/
def rAppC (NFp : Addr → Prop) : V → List V → Hp → VK → Prop := fun x vs H Q => ∃ l xs k o, x = .ref l ∧ vs = [.int k] ∧ k ≠ 0 ∧ H l = some (.frz o (.lst xs)) ∧ ClO o ∧ NFp l ∧ xs.length < sizeLine ∧ ∀ o', ClO o' → Q .non (upd H l (.frz o' (.lst (xs ++ [.int k]))))
theorem mt_appC : MtR X "list.append" (rAppC (NF X)) := by
  intro pins s σ H x vs v us Q I rx rv h
  obtain ⟨l, xs, k, o, rfl, rfl, hk, hH, ⟨its0, n0, hd0, c0⟩, nf, hz, q⟩ := h
  cases rx
  obtain ⟨u, rfl, ru⟩ := rv.one
  obtain ⟨e0, z0, its, n, r, e⟩ := I.hok l _ hH
  have hit : its0 = its.toArray := by
    rw [e0] at e
    have e' := Option.some.inj e
    rw [e'] at hd0
    injection hd0 with h1 _
    exact h1.symm
  have I1 : Inv X pins σ (upd H l (.lst xs)) s := I.unlock hH nf
  have I2 : Inv X pins σ (upd (upd H l (.lst xs)) l (.ext (clL l xs))) s :=
    I1.write (x := l) (e := l) (t' := s.toks) (h' := s.heap) (by rw [upd_same]; trivial) (.inl rfl) (fun b v _ q => q) ⟨_, e⟩ (clL_ok ⟨z0, its, n, r, e, fun v hv => c0 v (by rw [hit]; simpa using hv)⟩)
  rw [upd_upd] at I2
  refine app_cl I2 upd_same hz ru (cl_int ru fun z => hk (by injection z)) fun s' I3 => ?_
  rw [upd_upd] at I3
  obtain ⟨od, cod, I4⟩ := settle I3 upd_same
  rw [upd_upd] at I4
  exact ⟨.non, _, I4, rfl, q od cod⟩
end
end RFI
end
-- part RGen
section
set_option Elab.async false
set_option linter.all false
set_option maxRecDepth 100000
set_option maxHeartbeats 1000000
/-! all(f(x) for x in xs), xs a list, f a quiet def of one return; the def that tells whether a value is a whole number. -/
namespace RFI
open PySem PySem.Spec PyProof.Rows L2

/-! ### a def of one return, whose value is told and which changes nothing -/
section
variable {P : Program} {w : World} {K : PySem.W.Frag} {mg : Str → Option Value} {A : Around} {E : Value → Shared → Prop} {s : Shared}
theorem quiet_call {x qual p : Str} {st : Stmt} {f : Addr} {fd : FuncData} {e : Expr} {rpos : Pos} {v y : Value} (F : Fun K x qual st f fd) (S : FnScope [p] [p] (defScope st)) (hpl : (defScope st).names.lookup p = some .local) (hst : defBody st = [.Return (some e) rpos]) (hb : Binds K fd [p] [])
    (hdep : A.depth < recursionLimit) (KX : K.In s.heap) (lim : s.heap.NoLimit)
    (he : ∀ (env : Env) (E' : Value → Shared → Prop) (s1 : Shared) (m : Str → Option Value), env.scope = defScope st → env.globals = mainGlobals → env.builtins = builtinsNs → Keeps s s1 → s1.heap.Ns env.locals m → m p = some v → wpAny (model P w) (A.deeper env) (eval e env) (fun u s2 => u = y ∧ Keeps s s2) E' s1) :
    wpAny (model P w) A (call (.ref f) [v]) (fun u s2 => u = y ∧ Keeps s s2) E s := by
  obtain ⟨oc, od, kV, doc, pm, an, cdv, ct, osl, rfl, lk, hcd⟩ := F.ex
  have hb1 := hb s [v] KX rfl
  have hkind : ∀ z ∈ [(p, v)], (defScope st).names.lookup z.1 = some .local ∨ ((defScope st).names.lookup z.1 = some .cell ∧ ((cellsFrom (s.heap.objs.size + 1) (defScope st).names []).lookup z.1).isSome = true) := fun z hz => by
    rw [List.mem_singleton.mp hz]
    exact .inl hpl
  refine wpAny_call (codeAny_call_function hdep (KX _ _ lk) rfl S.co S.gen rfl (PySem.W.codeRec_of KX hcd) (hb1 _ _ _ _ ?_))
  refine wpAny_newFunctionEnv_cells S.kind hkind fun env he' s1 xx => ?_
  subst he'
  refine ⟨lim.keeps xx.toInCall.keep, codeAny_func ?_⟩
  obtain ⟨h1, tk, rfl, hk⟩ := xx.done
  show wpAny _ _ (execs (defBody st) _) _ _ _
  rw [hst]
  refine wpAny_execs_cons (wpAny_Return_some ?_)
  refine wpAny_mono (he _ _ _ _ rfl rfl rfl ⟨h1, tk, rfl, hk⟩ xx.toInCall.ns ?_) (fun u s2 r => r) fun _ _ z => z
  exact L2.bindL_get (i := 0) (P := [p]) (vs := [v]) (by simp) rfl rfl hpl
/-- whether a value is a whole number -/
theorem quiet_isw {st : Stmt} {f : Addr} {fd : FuncData} {v t : Value} {Hh : Heap → Prop} {b1 b2 : Bool} {r1 r2 r3 r4 r5 r6 r7 r8 r9 r10 r11 : Pos} (F : Fun K "is_whole" "is_whole" st f fd) (S : FnScope ["value"] ["value"] (defScope st))
    (hpl : (defScope st).names.lookup (Str.ofString "value") = some .local) (g1 : (defScope st).names.lookup (Str.ofString "isinstance") = some .globalImplicit) (g2 : (defScope st).names.lookup (Str.ofString "int") = some .globalImplicit) (g3 : (defScope st).names.lookup (Str.ofString "bool") = some .globalImplicit)
    (hst : defBody st = [.Return (some (.BoolOp .And [.Call (.Name "isinstance" r1) [.Name "value" r2, .Name "int" r3] [] r4, .UnaryOp .Not (.Call (.Name "isinstance" r5) [.Name "value" r6, .Name "bool" r7] [] r8) r9] r10)) r11]) (hb : Binds K fd ["value"] [])
    (hdep : A.depth < recursionLimit) (KX : K.In s.heap) (lim : s.heap.NoLimit) (hg : s.heap.Ns mainGlobals mg) (hbl : ∃ mb, s.heap.Ns builtinsNs mb ∧ ∀ x : Str, x ≠ "__name__" → mb x = bootBuiltins x)
    (m1 : mg "isinstance" = none) (m2 : mg "int" = none) (m3 : mg "bool" = none) (Z : PySem.W.KitX K v t Hh) (pst : ∀ h' : Heap, (∀ c o, s.heap.get? c = some o → h'.get? c = some o) → Hh h') (hv : v ≠ .builtin "__main__.__loader__#opaque")
    (e1 : PySem.W.kitOne K t (.type "int") = some b1) (e2 : PySem.W.kitOne K t (.type "bool") = some b2) :
    wpAny (model P w) A (call (.ref f) [v]) (fun u s2 => u = .bool (b1 && !b2) ∧ Keeps s s2) E s := by
  refine quiet_call F S hpl hst hb hdep KX lim fun env E' s1 m hsc hgl hbt k1 hn hm => ?_
  obtain ⟨mb, hmb, hmb2⟩ := hbl
  have hk : env.scope.kind = .function := by rw [hsc]; exact S.kind
  -- a built-in's name
  have blt : ∀ {x : Str} {u : Value} {p : Pos} {Q : Value → Shared → Prop} {A' : Around} {E'' : Value → Shared → Prop} (s' : Shared), Keeps s s' → env.scope.names.lookup x = some .globalImplicit → mg x = none → bootBuiltins x = some u → x ≠ "__name__" → (x == ("__debug__" : Str)) = false → Q u s' → wpAny (model P w) A' (eval (.Name x p) env) Q E'' s' := by
    intro x u p Q A' E'' s' k hx hmx hbx hn' hd hq
    obtain ⟨h', tk, rfl, kp⟩ := k
    exact Calls.Name_function_global hk hx (Calls.loadGlobal_builtin (by rw [hgl]; exact hg.keeps kp) hmx (by rw [hbt]; exact hmb.keeps kp) ((hmb2 x hn').trans hbx) hq) hd
  -- isinstance(value, T)
  have isi : ∀ {T : Str} {tn : String} {b : Bool} {p1 p2 p3 p4 : Pos} {Q : Value → Shared → Prop} (s' : Shared), Keeps s s' → s'.heap.Ns env.locals m → env.scope.names.lookup T = some .globalImplicit → mg T = none → bootBuiltins T = some (.type tn) → T ≠ "__name__" → (T == ("__debug__" : Str)) = false →
      PySem.W.kitOne K t (.type tn) = some b → (∀ s2, Keeps s s2 → s2.heap.Ns env.locals m → Q (.bool b) s2) → wpAny (model P w) (A.deeper env) (eval (.Call (.Name "isinstance" p1) [.Name "value" p2, .Name T p3] [] p4) env) Q E' s' := by
    intro T tn b p1 p2 p3 p4 Q s' k hn' hT hmT hbT hT2 hT3 hk1 hq
    refine wpAny_Call_Name_kw (blt s' k (by rw [hsc]; exact g1) m1 boot_isinstance (by decide) (by decide) ?_)
    refine PyProof.Rows.callWith_builtin1 ?_ (by rfl) (by rfl)
    show wpAny _ _ (spliced ((false, eval (.Name "value" p2) env) :: (false, eval (.Name T p3) env) :: [])) _ _ s'
    refine Calls.spliced_cons (wpAny_Name (wpAny_loadName_local hk (show env.scope.names.lookup (Str.ofString "value") = some .local by rw [hsc]; exact hpl) hn' hm ?_) (by decide))
    refine Calls.spliced_cons (blt s' k hT hmT hbT hT2 hT3 (Calls.spliced_nil ?_))
    obtain ⟨h', tk, rfl, kp⟩ := k
    exact PySem.W.kia_one Z (KX.keeps kp) (pst h' kp) hk1 hv fun tk2 => hq _ ⟨h', tk2, rfl, kp⟩ hn'
  refine BoolOp_and (isi s1 k1 hn (by rw [hsc]; exact g2) m2 (by decide +kernel) (by decide) (by decide) e1 fun s2 k2 hn2 => ?_)
  refine wpAny_truthy_bool ?_
  cases b1 with
  | false => exact ⟨rfl, k2⟩
  | true =>
    refine BoolOp_one (UnaryOp_ (isi s2 k2 hn2 (by rw [hsc]; exact g3) m3 (by decide +kernel) (by decide) (by decide) e2 fun s3 k3 hn3 => ?_))
    refine not_of (wpAny_truthy_bool ?_)
    exact ⟨by simp, k3⟩
end

/-! ### all(elt for x in xs) -/
/-- the element of v is the truth b, wherever the heap hp but for P is kept -/
def EltQ (prog : Program) (w : World) (scope : Scope) (x : Str) (elt : Expr) (D U : Nat) (hp : Heap) (P : Addr) (v : Value) (b : Bool) : Prop :=
  ∀ (cenv : Env) (A' : Around) (E' : Value → Shared → Prop) (s₂ : Shared) (m₂ : Str → Option Value), cenv.scope = scope → cenv.globals = mainGlobals → A'.handled = none → A'.depth ≤ D → A'.units ≤ U →
    (∀ c o, c ≠ P → hp.get? c = some o → s₂.heap.get? c = some o) → s₂.heap.Ns cenv.locals m₂ → m₂ x = some v → wpAny (model prog w) A' (eval elt cenv) (fun y s₃ => y = .bool b ∧ Keeps s₂ s₃) E' s₂
section
variable {X : Cx} {pins : List (Addr × Obj)} {σ : L2.St} {H : Hp} {s : Shared}
theorem all_lst {c P : Addr} {elt iter : Expr} {x : Str} {px gpos p pos : Pos} {scope : Scope} {te : TE} {k : Nat} {Q : VK} {Ok : Hp → V → Bool → Prop}
    (hr : Room k X.A) (hg : Gl X "all") (hm : X.mg "all" = none) (TB : GxR.TabB X.base X.mg c P) (hcode : X.env.code = .ref c) (S : GxR.GenS X.env scope x) (hi : PE X iter te)
    (hel : ∀ (s1 : Shared) (H1 : Hp) (y : V) (v : Value) (b : Bool), Inv X pins σ H1 s1 → GxR.TabG H1 P → RelV y v → Ok H1 y b → EltQ X.prog X.w scope x elt (X.A.depth + 1) (X.A.units + 8) s1.heap P v b)
    (hs : ∀ v, genFold iter X.env v = pure v) (I : Inv X pins σ H s)
    (h : te σ H fun v H1 => ∃ (yl : Addr) (xs : List V) (bs : List Bool), v = .ref yl ∧ SqL X.K H1 yl xs ∧ GxR.TabG H1 P ∧ bs.length = xs.length ∧ (∀ (i : Nat) (y : V) (b : Bool), xs[i]? = some y → bs[i]? = some b → Ok H1 y b) ∧ ∀ H2, GxR.Tabbed P H1 H2 → Q (.bl (bs.all id)) H2)
    (he : starEach [.GeneratorExp elt [⟨.Name x px, iter, [], 0⟩] scope gpos] X.env = (false, eval (.GeneratorExp elt [⟨.Name x px, iter, [], 0⟩] scope gpos) X.env) :: starEach [] X.env) :
    wpAny (model X.prog X.w) X.A (eval (.Call (.Name "all" p) [.GeneratorExp elt [⟨.Name x px, iter, [], 0⟩] scope gpos] [] pos) X.env) (EP X pins σ Q) X.xe s := by
  refine wpAny_Call_Name_kw (ld_blt (u := .builtin "all") I hg hm (by decide +kernel) ?_)
  refine PyProof.Rows.callWith_builtin1 ?_ he (by rfl)
  rw [he]
  show wpAny _ _ (spliced ((false, eval (.GeneratorExp elt [⟨.Name x px, iter, [], 0⟩] scope gpos) X.env) :: backTo pos (starEach [] X.env))) _ _ s
  refine Calls.spliced_cons ?_
  refine wpAny_GeneratorExp_walksQD hr.hd S.co (closure_ok S.free) S.cell S.dot S.loc S.kind (by have := hr.dp; omega) ?_ hs
  refine thn (hi.run pins s σ H _ I h) fun xv s1 ⟨v, H1, I1, r1, q1⟩ => ?_
  obtain ⟨yl, xs, bs, rfl, hyl, ⟨ps, hP, ht⟩, hbl, hok, q1⟩ := q1
  obtain rfl : xv = Value.ref yl := r1
  obtain ⟨its, rv, hl, hz⟩ := I1.list hyl
  have hIL := hl.isList
  have hlen : its.length = xs.length := rv.length.symm
  have hat : ∀ (i : Nat) (v : Value), its.toArray[i]? = some v → ∃ (y : V) (b : Bool), xs[i]? = some y ∧ bs[i]? = some b ∧ RelV y v := fun i v hv => by
    have hv2 : its[i]? = some v := by simpa using hv
    have hi2 : i < its.length := (List.getElem?_eq_some_iff.mp hv2).1
    have hy : xs[i]? = some xs[i] := List.getElem?_eq_getElem (by omega)
    obtain ⟨u, hu, ru⟩ := rv.get hy
    rw [hv2] at hu
    cases hu
    exact ⟨_, bs[i], hy, List.getElem?_eq_getElem (by omega), ru⟩
  refine wpAny_pyIter_list hIL ?_
  generalize ho : ({ cls := .type "list_iterator", data := .fields #[.ref yl, .int 0 0] } : Obj) = o
  have hitr : (s1.heap.push o).IsListIter s1.heap.objs.size yl 0 := by
    subst ho
    exact ⟨_, Heap.get?_push_size _ rfl, rfl, rfl⟩
  have hylt : yl < s1.heap.objs.size := by
    obtain ⟨_, e, _⟩ := _root_.id hIL
    exact Heap.lt_size e
  have hPs : s1.heap.get? P = some { cls := .none, data := .fields ps } := I1.hok P _ hP
  have hPlt : P < s1.heap.objs.size := Heap.lt_size hPs
  have hP2 : (s1.heap.push o).get? P = some { cls := .none, data := .fields ps } := Heap.get?_push_of_some _ hPs
  have cd : PySem.W.CodeHd (s1.heap.push o) c P := TB.code.keeps fun b u e => Heap.get?_push_of_some _ (I1.bk b u e)
  have lim2 : (s1.heap.push o).NoLimit := I1.nolimit.push o
  have cont : ∀ (code : Value) (h3 : Heap) (tk : Nat) (ps' : Array Value), Heap.ExtBut P (s1.heap.push o) h3 → (s1.heap.push o).objs.size ≤ h3.objs.size → h3.get? P = some { cls := .none, data := .fields ps' } → (∃ more, ps' = ps ++ more) → TriplesOk ps'.toList →
      wpAny (model X.prog X.w) X.A (builtinsFor X.env.globals X.env.builtins) (fun bi s₄ =>
        ∃ Ia fp wr n₀ Pf St₀ pz F, Value.ref s1.heap.objs.size = .ref Ia ∧ (∀ A' : Around, A'.handled = none → Walks X.prog X.w A' Ia fp wr n₀ Pf St₀) ∧ St₀ 0 s₄.heap ∧ (∀ b ∈ fp, b < s₄.heap.objs.size) ∧ s₄.heap.NoLimit ∧ cStatics ∉ wr ∧
          (∀ href : Heap, (∀ b o, s₄.heap.get? b = some o → href.get? b = some o) →
            QuietGenD X.prog X.w (genEnv scope (cloFrom X.env.cells scope.names []) s₄.heap.objs.size code bi X.env) x [] elt (List.range s₄.heap.objs.size) wr Pf pz F href (X.A.depth + 1) (X.A.units + 8)) ∧
          (∀ a h₅ tk gs, gs.bare = true → s₄.heap.objs.size < a → h₅.objs.size = a + 1 → (∀ b o, s₄.heap.get? b = some o → h₅.get? b = some o) →
            WalksS X.prog X.w X.A.in4 a (a :: s₄.heap.objs.size :: List.range s₄.heap.objs.size) (s₄.heap.objs.size :: wr) (GenOnlyQ s₄.gens.size) (passing pz n₀ 0).length
              (fun j y => ∃ i, (passing pz n₀ 0)[j]? = some i ∧ F i y) (GenAt X.prog X.w X.A.in4 a s₄.gens.size s₄.heap.objs.size (List.range s₄.heap.objs.size) wr pz n₀ F) →
            GenAt X.prog X.w X.A.in4 a s₄.gens.size s₄.heap.objs.size (List.range s₄.heap.objs.size) wr pz n₀ F 0 { s₄ with gens := s₄.gens.push gs, toks := tk, heap := h₅ } →
            wpAny (model X.prog X.w) X.A (spliced (backTo pos (starEach [] X.env))) (fun vs s₁ => wpAny (model X.prog X.w) X.A (call (.builtin "all") (.ref a :: vs)) (EP X pins σ Q) X.xe s₁) X.xe { s₄ with gens := s₄.gens.push gs, toks := tk, heap := h₅ })) X.xe { s1 with heap := h3, toks := tk } := by
    intro code h3 tk ps' hx hsz hP3 hmore ht3
    obtain ⟨bm, ob, e1, e2, e3, e4, e5, e6, e7, e8⟩ := TB.bm
    have hcP : cStatics ≠ P := fun e => by
      obtain ⟨_, hns, _⟩ := I1.nolimit
      obtain ⟨o', es, ep, ho, hd, _⟩ := hns
      rw [e, hPs] at ho
      cases ho
      cases hd
    have hcl : cStatics < s1.heap.objs.size := let ⟨_, hns, _⟩ := I1.nolimit; hns.lt
    have sz2 : (s1.heap.push o).objs.size = s1.heap.objs.size + 1 := Heap.size_push ..
    have keep3 : ∀ b u, b ≠ P → s1.heap.get? b = some u → h3.get? b = some u := fun b u hb e => hx b u hb (Heap.get?_push_of_some _ e)
    refine wpAny_builtinsFor (m := X.mg) (by rw [I1.ok.glob]; exact ((I1.mod.glob.keeps I1.bk).push o).extBut hx TB.gP) e1 e2 (keep3 _ _ e4 (I1.bk _ _ e5)) e6 e7 e8 ?_
    have hylP : yl ≠ P := fun z => by
      obtain ⟨_, e, hc1, _, hd1⟩ := _root_.id hIL
      rw [z, hPs] at e
      cases e
      cases hd1
    have hIL3 : h3.IsList yl its.toArray := by
      obtain ⟨ob, e, r⟩ := _root_.id hIL
      exact ⟨ob, keep3 _ _ hylP e, r⟩
    have hItr3 : h3.IsListIter s1.heap.objs.size yl 0 := hitr.at fun u e => hx _ u (Nat.ne_of_gt hPlt) e
    refine ⟨s1.heap.objs.size, [s1.heap.objs.size, yl], [s1.heap.objs.size], its.toArray.size, (fun i v => its.toArray[i]? = some v), (fun i h => h.IsListIter s1.heap.objs.size yl i ∧ h.IsList yl its.toArray), (fun _ => true),
      (fun i y => ∃ b, bs[i]? = some b ∧ y = .bool b), rfl, (fun A' hA => Walks.list hA _ _ (Nat.ne_of_lt hylt) _), ⟨hItr3, hIL3⟩, ?_, lim2.extBut hx hcP, ?_, ?_, ?_⟩
    · intro b hb
      rcases List.mem_cons.mp hb with z | z
      · rw [z]
        show s1.heap.objs.size < h3.objs.size
        omega
      · rcases List.mem_cons.mp z with z | z
        · rw [z]
          have e9 : s1.heap.objs.size ≤ h3.objs.size := by omega
          exact Nat.lt_of_lt_of_le hylt e9
        · cases z
    · intro z
      rcases List.mem_cons.mp z with z | z
      · exact Nat.ne_of_lt hcl z
      · cases z
    · intro href hhref
      have hhref : ∀ b o, h3.get? b = some o → href.get? b = some o := hhref
      refine ⟨fun A' E' i v s₂ m₂ hA _ _ hPv hn hm hk => ?_, fun A' E' i v s₂ m₂ hA hAd hAu hPv hp hn hm hk => ?_⟩
      · simp only [List.forIn_nil]
        exact wpAny_pure ⟨rfl, GxR.keeps_refl _⟩
      · obtain ⟨y, b, hy, hb, ry⟩ := hat i v hPv
        refine wpAny_mono (hel s1 H1 y v b I1 ⟨ps, hP, ht⟩ ry (hok i y b hy hb) _ A' E' s₂ m₂ rfl I1.ok.glob hA hAd hAu (fun c1 o1 hc1 e1 => ?_) hn hm) (fun y s3 r => ?_) fun _ _ e => e
        · have h31 : h3.get? c1 = some o1 := keep3 _ _ hc1 e1
          have hlt1 : c1 < s1.heap.objs.size := Heap.lt_size e1
          refine hk c1 (List.mem_range.mpr (Heap.lt_size h31)) (fun z => ?_) o1 (hhref _ _ h31)
          rcases List.mem_cons.mp z with z | z
          · exact Nat.ne_of_lt hlt1 z
          · cases z
        · exact ⟨⟨b, hb, r.1⟩, r.2⟩
    · intro g h5 tk5 gs hgb hag hsz5 hk5 W5 hgat
      simp only [GxR.passing_true, List.length_range] at W5
      have hn5 : its.toArray.size = bs.length := by rw [List.size_toArray, hlen, hbl]
      rw [hn5] at W5 hgat
      refine Calls.spliced_nil ?_
      refine call_all_walkS (W5.in4_1.self 0 _ _ _ hgat ⟨g, _, _, _, bs.length, _, _, (fun j => bs.getD j true), rfl, W5.in4_1, hgat, ?_, fun s' hmv => ?_⟩)
      · intro j y sj Qj Ej hy hQj
        obtain ⟨i, hij, b, hb, rfl⟩ := hy
        obtain ⟨hj, ej⟩ := List.getElem?_eq_some_iff.mp hij
        rw [List.getElem_range] at ej
        subst ej
        have hQ2 : Qj (bs.getD j true) sj := hQj
        rw [List.getD_eq_getElem?_getD, hb] at hQ2
        exact wpAny_truthy_bool hQ2
      · obtain ⟨more, em⟩ := hmore
        have nwr : ∀ b u, s1.heap.get? b = some u → b ∉ h3.objs.size :: [s1.heap.objs.size] := fun b u e hb => by
          have hl := Heap.lt_size e
          rcases List.mem_cons.mp hb with z | z
          · rw [z] at hl
            have h9 : (h3.objs.size : Nat) < s1.heap.objs.size := hl
            omega
          · rcases List.mem_cons.mp z with z | z
            · rw [z] at hl
              exact Nat.lt_irrefl _ hl
            · cases z
        have J := GxR.inv_tab (more := more) (h' := s'.heap) (g' := s'.gens) (d' := s'.drawn) (t' := s'.toks) I1 hP (fun b u hb e => hmv.heap b u (nwr b u e) (hk5 b u (keep3 b u hb e)))
          (by rw [← em]; exact hmv.heap P _ (nwr P _ hPs) (hk5 P _ hP3)) (AllBare.movedS (I1.bare.push hgb) hmv)
        rw [GxR.sh_eta s1 s' hmv.os] at J
        have eall : (List.range bs.length).all (fun j => bs.getD j true) = bs.all id := by
          rw [Bool.eq_iff_iff, List.all_eq_true, List.all_eq_true]
          constructor
          · intro h b hb
            obtain ⟨j, hj, e⟩ := List.getElem_of_mem hb
            have q := h j (List.mem_range.mpr hj)
            rw [List.getD_eq_getElem?_getD, List.getElem?_eq_getElem hj, e] at q
            exact q
          · intro h j hj
            have hj' := List.mem_range.mp hj
            rw [List.getD_eq_getElem?_getD, List.getElem?_eq_getElem hj']
            exact h _ (List.getElem_mem hj')
        rw [eall]
        exact ⟨.bl _, upd H1 P (.tbl (ps ++ more)), J, rfl, q1 _ ⟨⟨ps ++ more, upd_same, by rw [← em]; exact ht3⟩, fun b hb => upd_ne hb⟩⟩
  refine ⟨lim2, ?_⟩
  cases hf : codeAmong gpos ps.toList with
  | none =>
    refine wpAny_genexprCodeX hcode (cd.code hP2 ht) (cd.tab hP2) hf fun c' h' tk hx hge hlt hco' _ htab' _ => ?_
    obtain ⟨o1, vs, f1, tf, fl, tg, inF, tx, tt, op, _, _, _, _, _, _, _, _, _, htr, _⟩ := hco'
    exact cont _ h' tk _ hx (Nat.le_trans hge (Nat.le_of_lt hlt)) htab'.2 ⟨_, rfl⟩ htr
  | some cv =>
    refine wpAny_genexprCode_hit hcode (cd.code hP2 ht) hf ?_
    exact cont cv (s1.heap.push o) s1.toks ps (Heap.ExtBut.refl _ _) (Nat.le_refl _) hP2 ⟨#[], by simp⟩ ht
end

/-! ### all(is_whole(value) for value in xs) -/
/-- a value's type, of the kinds that a row may hold -/
inductive TyS (H : Hp) : V → Value → Prop where
  | non : TyS H .non (.type "NoneType")
  | bl (x : Bool) : TyS H (.bl x) (.type "bool")
  | int (i : Int) : TyS H (.int i) (.type "int")
  | str (x : Str) : TyS H (.str x) (.type "str")
  | flt (x : UInt64) : TyS H (.flt x) (.type "float")
  | byt (b : Array UInt8) : TyS H (.byt b) (.type "bytes")
  | lst {a : Addr} {xs : List V} (e : H a = some (.lst xs)) : TyS H (.ref a) (.type "list")
  | tup {a : Addr} {xs : List V} (e : H a = some (.tup xs)) : TyS H (.ref a) (.type "tuple")
  | dK {a : Addr} {kvs : List (Key × V)} (e : H a = some (.dK kvs)) : TyS H (.ref a) (.type "dict")
section
variable {X : Cx} {pins : List (Addr × Obj)} {σ : L2.St} {H : Hp} {s : Shared}
theorem kit_s {x : V} {u t : Value} {P : Addr} (I : Inv X pins σ H s) (T : GxR.TabG H P) (rx : RelV x u) (ty : TyS H x t) : ∃ Hh : Heap → Prop, PySem.W.KitX X.K u t Hh ∧ (∀ h' : Heap, (∀ c o, c ≠ P → s.heap.get? c = some o → h'.get? c = some o) → Hh h') ∧ u ≠ .builtin "__main__.__loader__#opaque" := by
  obtain ⟨ps, hP, _⟩ := T
  cases ty with
  | non => cases (show u = Value.none from rx); exact ⟨_, PySem.W.kitx_none, fun _ _ => True.intro, fun z => nomatch z⟩
  | bl y => cases (show u = Value.bool y from rx); exact ⟨_, PySem.W.kitx_bool, fun _ _ => True.intro, fun z => nomatch z⟩
  | int i => obtain ⟨t, q⟩ := (show ∃ t, u = Value.int i t from rx); cases q; exact ⟨_, PySem.W.kitx_int, fun _ _ => True.intro, fun z => nomatch z⟩
  | str y => obtain ⟨t, q⟩ := (show ∃ t, u = Value.str y t from rx); cases q; exact ⟨_, PySem.W.kitx_str, fun _ _ => True.intro, fun z => nomatch z⟩
  | flt y => obtain ⟨t, q⟩ := (show ∃ t, u = Value.float y t from rx); cases q; exact ⟨_, PySem.W.kitx_float, fun _ _ => True.intro, fun z => nomatch z⟩
  | byt y => obtain ⟨t, q⟩ := (show ∃ t, u = Value.bytes y t from rx); cases q; exact ⟨_, PySem.W.kitx_bytes, fun _ _ => True.intro, fun z => nomatch z⟩
  | @lst a xs ea =>
    cases (show u = Value.ref a from rx)
    have na : a ≠ P := ne_of ea hP (fun z => by cases z)
    obtain ⟨_, _, n, _, h1⟩ := (show ObjOk X.prog X.w H s.heap a (.lst xs) from I.hok a _ ea)
    exact ⟨_, PySem.W.kitx_list, fun h' k => ⟨_, k a _ na h1, rfl⟩, fun z => nomatch z⟩
  | @tup a xs ea =>
    cases (show u = Value.ref a from rx)
    have na : a ≠ P := ne_of ea hP (fun z => by cases z)
    obtain ⟨_, _, _, o, h1, h2, _⟩ := (show ObjOk X.prog X.w H s.heap a (.tup xs) from I.hok a _ ea)
    exact ⟨_, PySem.W.kitx_tuple, fun h' k => ⟨o, k a _ na h1, h2⟩, fun z => nomatch z⟩
  | @dK a kvs ea =>
    cases (show u = Value.ref a from rx)
    have na : a ≠ P := ne_of ea hP (fun z => by cases z)
    obtain ⟨_, _, vs, _, o, es, ep, h1, h2, _⟩ := (show ObjOk X.prog X.w H s.heap a (.dK kvs) from I.hok a _ ea)
    exact ⟨_, PySem.W.kitx_dict, fun h' k => ⟨o, k a _ na h1, h2.1⟩, fun z => nomatch z⟩
/-- the answer for a value -/
def IswIs (K : PySem.W.Frag) (H : Hp) (x : V) (b : Bool) : Prop := ∃ t b1 b2, TyS H x t ∧ PySem.W.kitOne K t (.type "int") = some b1 ∧ PySem.W.kitOne K t (.type "bool") = some b2 ∧ b = (b1 && !b2)
def tAllIsw (K : PySem.W.Frag) (P : Addr) (te : TE) : TE := fun σ H Q => te σ H fun v H1 => ∃ (yl : Addr) (xs : List V) (bs : List Bool), v = .ref yl ∧ SqL K H1 yl xs ∧ GxR.TabG H1 P ∧ bs.length = xs.length ∧
  (∀ (i : Nat) (y : V) (b : Bool), xs[i]? = some y → bs[i]? = some b → IswIs K H1 y b) ∧ ∀ H2, GxR.Tabbed P H1 H2 → Q (.bl (bs.all id)) H2
theorem pe_allIsw {st : Stmt} {f c P : Addr} {fd : FuncData} {iter : Expr} {px gpos p pos p1 p2 p3 : Pos} {scope : Scope} {te : TE} {k : Nat} {r1 r2 r3 r4 r5 r6 r7 r8 r9 r10 r11 : Pos} (F : Fun X.K "is_whole" "is_whole" st f fd) (SF : FnScope ["value"] ["value"] (defScope st))
    (hpl : (defScope st).names.lookup (Str.ofString "value") = some .local) (g1 : (defScope st).names.lookup (Str.ofString "isinstance") = some .globalImplicit) (g2 : (defScope st).names.lookup (Str.ofString "int") = some .globalImplicit) (g3 : (defScope st).names.lookup (Str.ofString "bool") = some .globalImplicit)
    (hst : defBody st = [.Return (some (.BoolOp .And [.Call (.Name "isinstance" r1) [.Name "value" r2, .Name "int" r3] [] r4, .UnaryOp .Not (.Call (.Name "isinstance" r5) [.Name "value" r6, .Name "bool" r7] [] r8) r9] r10)) r11]) (hb : Binds X.K fd ["value"] [])
    (m1 : X.mg "isinstance" = none) (m2 : X.mg "int" = none) (m3 : X.mg "bool" = none) (mf : X.mg "is_whole" = some (.ref f))
    (hr : Room k X.A) (hg : Gl X "all") (hm : X.mg "all" = none) (TB : GxR.TabB X.base X.mg c P) (hcode : X.env.code = .ref c) (S : GxR.GenS X.env scope "value") (gs : scope.names.lookup (Str.ofString "is_whole") = some .globalImplicit) (hi : PE X iter te)
    (hs : ∀ v, genFold iter X.env v = pure v)
    (he : starEach [.GeneratorExp (.Call (.Name "is_whole" p1) [.Name "value" p2] [] p3) [⟨.Name "value" px, iter, [], 0⟩] scope gpos] X.env = (false, eval (.GeneratorExp (.Call (.Name "is_whole" p1) [.Name "value" p2] [] p3) [⟨.Name "value" px, iter, [], 0⟩] scope gpos) X.env) :: starEach [] X.env := by rfl) :
    PE X (.Call (.Name "all" p) [.GeneratorExp (.Call (.Name "is_whole" p1) [.Name "value" p2] [] p3) [⟨.Name "value" px, iter, [], 0⟩] scope gpos] [] pos) (tAllIsw X.K P te) := by
  refine ⟨fun pins s σ H Q I h => all_lst (Ok := IswIs X.K) hr hg hm TB hcode S hi (fun s1 H1 y v b I1 T1 ry ho => ?_) hs I h he⟩
  obtain ⟨t, b1, b2, ty, e1, e2, rfl⟩ := ho
  obtain ⟨Hh, Z, pst, hv⟩ := kit_s I1 T1 ry ty
  obtain ⟨ps, hP, _⟩ := T1
  intro cenv A' E' s₂ m₂ hsc hgl hA hAd hAu hk hn hm2
  have bk : ∀ b o, X.base.get? b = some o → s₂.heap.get? b = some o := fun b o e => hk b o (fun z => by
    have q := (I1.bs b o e).2
    rw [z, hP] at q
    cases q) (I1.bk b o e)
  have KX : X.K.In s₂.heap := I1.mod.kin.keeps bk
  obtain ⟨mb, hb1, hb2⟩ := I1.mod.blt
  have hkf : cenv.scope.kind = .function := by rw [hsc]; exact S.kind
  refine wpAny_Call_Name_kw (Calls.Name_function_global hkf (show cenv.scope.names.lookup (Str.ofString "is_whole") = some .globalImplicit by rw [hsc]; exact gs) (Calls.loadGlobal_global (by rw [hgl]; exact I1.mod.glob.keeps bk) mf ?_) (by decide))
  refine PySem.W.callWith_K (h₀ := X.base) I1.mod.kin F.kp ?_ (by rfl) (by rfl)
  show wpAny _ _ (spliced ((false, eval (.Name "value" p2) cenv) :: [])) _ _ s₂
  refine Calls.spliced_cons (wpAny_Name (wpAny_loadName_local hkf (show cenv.scope.names.lookup (Str.ofString "value") = some .local by rw [hsc]; exact S.loc) hn hm2 ?_) (by decide))
  refine Calls.spliced_nil ⟨KX, ?_⟩
  exact quiet_isw F SF hpl g1 g2 g3 hst hb (Nat.lt_of_le_of_lt hAd (by have := hr.dp; omega)) KX (I1.mod.nolimit.keeps bk) (I1.mod.glob.keeps bk) ⟨mb, hb1.keeps bk, hb2⟩ m1 m2 m3 Z (fun h' kp => pst h' fun c o hc e => kp c o (hk c o hc e)) hv e1 e2
end
end RFI
end
-- part RFMath
section
set_option autoImplicit false
set_option linter.all false
namespace RF
/-! ### running sums, the two steps, the run of a word -/
def pre : Int → List Int → List Int
  | _, [] => []
  | s, x :: r => (s + x) :: pre (s + x) r
def stepU (ws : List Int) : List Int := 0 :: pre 0 ws
def stepD (ws : List Int) : List Int := (pre 0 ws.reverse).reverse ++ [0]
def step (b : Bool) (ws : List Int) : List Int := if b then stepU ws else stepD ws
def run (w : List Bool) (ws : List Int) : List Int := w.foldl (fun a b => step b a) ws
def cnt (w : List Bool) : Int := (run w [1]).sum

theorem pre_len : ∀ (ws : List Int) (s : Int), (pre s ws).length = ws.length
  | [], _ => rfl
  | x :: r, s => by show (pre (s + x) r).length + 1 = r.length + 1; rw [pre_len r]
theorem pre_app : ∀ (a b : List Int) (s : Int), pre s (a ++ b) = pre s a ++ pre (s + a.sum) b
  | [], b, s => by show pre s b = [] ++ pre (s + 0) b; rw [Int.add_zero]; rfl
  | x :: r, b, s => by
    show (s + x) :: pre (s + x) (r ++ b) = (s + x) :: (pre (s + x) r ++ pre (s + (x :: r).sum) b)
    rw [pre_app r b (s + x), List.sum_cons, Int.add_assoc]
theorem stepU_len (ws : List Int) : (stepU ws).length = ws.length + 1 := by
  show (pre 0 ws).length + 1 = _; rw [pre_len]
theorem stepD_len (ws : List Int) : (stepD ws).length = ws.length + 1 := by
  unfold stepD; rw [List.length_append, List.length_reverse, pre_len, List.length_reverse]; rfl
theorem step_len (b : Bool) (ws : List Int) : (step b ws).length = ws.length + 1 := by
  cases b
  · exact stepD_len ws
  · exact stepU_len ws
theorem stepD_rev (ws : List Int) : stepD ws = (stepU ws.reverse).reverse := by
  unfold stepU stepD; rw [List.reverse_cons]
/-- the sums from behind -/
def sufs : List Int → List Int
  | [] => [0]
  | x :: r => (x + r.sum) :: sufs r
theorem stepD_sufs : ∀ ws : List Int, stepD ws = sufs ws
  | [] => rfl
  | x :: r => by
    have ih := stepD_sufs r
    unfold stepD at *
    rw [List.reverse_cons, pre_app, List.reverse_append, List.append_assoc, ih]
    show [0 + r.reverse.sum + x] ++ sufs r = _
    rw [List.sum_reverse]
    show (0 + r.sum + x) :: sufs r = (x + r.sum) :: sufs r
    rw [show (0 + r.sum + x) = x + r.sum by omega]
theorem sufs_map : ∀ (ws : List Int) (s : Int), (s :: pre s ws).map (fun v => s + ws.sum - v) = sufs ws
  | [], s => by show [s + 0 - s] = [0]; rw [show s + 0 - s = 0 by omega]
  | x :: r, s => by
    have ih := sufs_map r (s + x)
    show (s + (x :: r).sum - s) :: (((s + x) :: pre (s + x) r).map (fun v => s + (x :: r).sum - v)) = (x + r.sum) :: sufs r
    rw [List.sum_cons, show s + (x + r.sum) - s = x + r.sum by omega, ← ih, show s + (x + r.sum) = s + x + r.sum by omega]
theorem stepD_map (ws : List Int) : stepD ws = (stepU ws).map (fun v => ws.sum - v) := by
  rw [stepD_sufs, ← sufs_map ws 0, Int.zero_add]; rfl
/-! ### both letters together -/
def zadd (a b : List Int) : List Int := List.zipWith (· + ·) a b
theorem zadd_sum : ∀ (a b : List Int), a.length = b.length → (zadd a b).sum = a.sum + b.sum
  | [], [], _ => rfl
  | x :: a, y :: b, h => by
    have ih := zadd_sum a b (Nat.succ.inj h)
    show ((x + y) :: zadd a b).sum = _
    rw [List.sum_cons, List.sum_cons, List.sum_cons, ih]; omega
theorem zadd_len (a b : List Int) (h : a.length = b.length) : (zadd a b).length = a.length := by
  unfold zadd; rw [List.length_zipWith, h, Nat.min_self]
theorem pre_zadd : ∀ (a b : List Int) (s t : Int), a.length = b.length → pre (s + t) (zadd a b) = zadd (pre s a) (pre t b)
  | [], [], _, _, _ => rfl
  | x :: a, y :: b, s, t, h => by
    have ih := pre_zadd a b (s + x) (t + y) (Nat.succ.inj h)
    show (s + t + (x + y)) :: pre (s + t + (x + y)) (zadd a b) = (s + x + (t + y)) :: zadd (pre (s + x) a) (pre (t + y) b)
    rw [← ih, show s + t + (x + y) = s + x + (t + y) by omega]
theorem stepU_zadd (a b : List Int) (h : a.length = b.length) : stepU (zadd a b) = zadd (stepU a) (stepU b) := by
  have e := pre_zadd a b 0 0 h
  show 0 :: pre 0 (zadd a b) = ((0 : Int) + 0) :: zadd (pre 0 a) (pre 0 b)
  rw [← e]; rfl
theorem sufs_zadd : ∀ (a b : List Int), a.length = b.length → sufs (zadd a b) = zadd (sufs a) (sufs b)
  | [], [], _ => rfl
  | x :: a, y :: b, h => by
    have ih := sufs_zadd a b (Nat.succ.inj h)
    show (x + y + (zadd a b).sum) :: sufs (zadd a b) = (x + a.sum + (y + b.sum)) :: zadd (sufs a) (sufs b)
    rw [ih, zadd_sum a b (Nat.succ.inj h), show x + y + (a.sum + b.sum) = x + a.sum + (y + b.sum) by omega]
theorem step_zadd (l : Bool) (a b : List Int) (h : a.length = b.length) : step l (zadd a b) = zadd (step l a) (step l b) := by
  cases l
  · show stepD _ = zadd (stepD _) (stepD _)
    rw [stepD_sufs, stepD_sufs, stepD_sufs, sufs_zadd a b h]
  · exact stepU_zadd a b h
theorem run_zadd : ∀ (w : List Bool) (a b : List Int), a.length = b.length → run w (zadd a b) = zadd (run w a) (run w b)
  | [], _, _, _ => rfl
  | l :: w, a, b, h => by
    show run w (step l (zadd a b)) = zadd (run w (step l a)) (run w (step l b))
    rw [step_zadd l a b h]
    exact run_zadd w _ _ (by rw [step_len, step_len, h])
theorem run_len : ∀ (w : List Bool) (a : List Int), (run w a).length = a.length + w.length
  | [], a => rfl
  | l :: w, a => by
    show (run w (step l a)).length = _
    rw [run_len w, step_len, List.length_cons]; omega
theorem run_app (u v : List Bool) (a : List Int) : run (u ++ v) a = run v (run u a) := by
  unfold run; rw [List.foldl_append]
/-! ### scaling -/
theorem pre_scale (c : Int) : ∀ (a : List Int) (s : Int), pre (c * s) (a.map (c * ·)) = (pre s a).map (c * ·)
  | [], _ => rfl
  | x :: a, s => by
    have ih := pre_scale c a (s + x)
    show (c * s + c * x) :: pre (c * s + c * x) (a.map (c * ·)) = (c * (s + x)) :: (pre (s + x) a).map (c * ·)
    rw [← ih, Int.mul_add]
theorem sum_scale (c : Int) : ∀ a : List Int, (a.map (c * ·)).sum = c * a.sum
  | [] => by show (0 : Int) = c * 0; rw [Int.mul_zero]
  | x :: a => by rw [List.map_cons, List.sum_cons, List.sum_cons, sum_scale c a, Int.mul_add]
theorem sufs_scale (c : Int) : ∀ (a : List Int), sufs (a.map (c * ·)) = (sufs a).map (c * ·)
  | [] => by show [(0 : Int)] = [c * 0]; rw [Int.mul_zero]
  | x :: a => by
    show (c * x + (a.map (c * ·)).sum) :: sufs (a.map (c * ·)) = (c * (x + a.sum)) :: (sufs a).map (c * ·)
    rw [sum_scale, sufs_scale c a, Int.mul_add]
theorem step_scale (c : Int) (l : Bool) (a : List Int) : step l (a.map (c * ·)) = (step l a).map (c * ·) := by
  cases l
  · show stepD _ = (stepD _).map _
    rw [stepD_sufs, stepD_sufs, sufs_scale]
  · show 0 :: pre 0 (a.map (c * ·)) = (c * 0) :: (pre 0 a).map (c * ·)
    rw [← pre_scale, Int.mul_zero]
theorem run_scale (c : Int) : ∀ (w : List Bool) (a : List Int), run w (a.map (c * ·)) = (run w a).map (c * ·)
  | [], _ => rfl
  | l :: w, a => by
    show run w (step l (a.map (c * ·))) = (run w (step l a)).map (c * ·)
    rw [step_scale, run_scale c w]
/-! ### from a row of ones -/
def ones (m : Nat) : List Int := List.replicate m 1
def G (m : Nat) (B : List Bool) : Int := (run B (ones (m + 1))).sum
theorem cnt_G (B : List Bool) : cnt B = G 0 B := rfl
theorem zadd_const : ∀ (l : List Int) (S : Int), zadd l (l.map (fun v => S - v)) = (ones l.length).map (S * ·)
  | [], _ => rfl
  | x :: l, S => by
    show (x + (S - x)) :: zadd l (l.map (fun v => S - v)) = (S * 1) :: (ones l.length).map (S * ·)
    rw [zadd_const l S, show x + (S - x) = S by omega, Int.mul_one]
theorem both (ws : List Int) : zadd (stepU ws) (stepD ws) = (ones (ws.length + 1)).map (ws.sum * ·) := by
  rw [stepD_map, zadd_const, stepU_len]
theorem split_run (A B : List Bool) (ws : List Int) :
    (run (A ++ true :: B) ws).sum + (run (A ++ false :: B) ws).sum = (run A ws).sum * G (A.length + ws.length) B := by
  have e1 : run (A ++ true :: B) ws = run B (stepU (run A ws)) := by rw [run_app]; rfl
  have e2 : run (A ++ false :: B) ws = run B (stepD (run A ws)) := by rw [run_app]; rfl
  have hl : (stepU (run A ws)).length = (stepD (run A ws)).length := by rw [stepU_len, stepD_len]
  rw [e1, e2, ← zadd_sum _ _ (by rw [run_len, run_len, hl]), ← run_zadd _ _ _ hl, both, run_scale, sum_scale, run_len]
  unfold G
  rw [Nat.add_comm ws.length]
theorem split_G (m : Nat) (A B : List Bool) : G m (A ++ true :: B) + G m (A ++ false :: B) = G m A * G (A.length + (m + 1)) B := by
  have e := split_run A B (ones (m + 1))
  rw [show (ones (m + 1)).length = m + 1 from List.length_replicate] at e
  exact e
/-! ### choices -/
def ch : Nat → Nat → Nat
  | _, 0 => 1
  | 0, _ + 1 => 0
  | n + 1, k + 1 => ch n k + ch n (k + 1)
def fac : Nat → Nat
  | 0 => 1
  | n + 1 => (n + 1) * fac n
theorem fac_pos : ∀ n, 0 < fac n
  | 0 => Nat.one_pos
  | n + 1 => Nat.mul_pos (Nat.succ_pos n) (fac_pos n)
theorem ch_zero (n : Nat) : ch n 0 = 1 := by cases n <;> rfl
theorem ch_lt : ∀ (n k : Nat), n < k → ch n k = 0
  | _, 0, h => absurd h (Nat.not_lt_zero _)
  | 0, k + 1, _ => rfl
  | n + 1, k + 1, h => by
    show ch n k + ch n (k + 1) = 0
    rw [ch_lt n k (by omega), ch_lt n (k + 1) (by omega)]
theorem ch_fac : ∀ (a b : Nat), ch (a + b) a * (fac a * fac b) = fac (a + b)
  | 0, b => by rw [Nat.zero_add, ch_zero, Nat.one_mul]; show 1 * fac b = fac b; rw [Nat.one_mul]
  | a + 1, 0 => by
    have hs : ∀ n, ch n n = 1 := by
      intro n
      induction n with
      | zero => rfl
      | succ n ih => show ch n n + ch n (n + 1) = 1; rw [ih, ch_lt n (n + 1) (by omega)]
    show ch (a + 1) (a + 1) * (fac (a + 1) * 1) = fac (a + 1)
    rw [hs, Nat.one_mul, Nat.mul_one]
  | a + 1, b + 1 => by
    have i1 := ch_fac a (b + 1)
    have i2 := ch_fac (a + 1) b
    have e : ch (a + 1 + (b + 1)) (a + 1) = ch (a + (b + 1)) a + ch (a + 1 + b) (a + 1) := by
      rw [show a + 1 + (b + 1) = (a + (b + 1)) + 1 by omega, show a + 1 + b = a + (b + 1) by omega]; rfl
    have f : fac (a + 1 + (b + 1)) = (a + 1 + (b + 1)) * fac (a + (b + 1)) := by
      rw [show a + 1 + (b + 1) = (a + (b + 1)) + 1 by omega]; rfl
    have g : fac (a + 1 + b) = fac (a + (b + 1)) := by rw [show a + 1 + b = a + (b + 1) by omega]
    rw [g] at i2
    have fa : fac (a + 1) = (a + 1) * fac a := rfl
    have fb : fac (b + 1) = (b + 1) * fac b := rfl
    rw [e, f, fa, fb]
    rw [fb] at i1
    rw [fa] at i2
    grind
theorem ch_symm (a b : Nat) : ch (a + b) a = ch (a + b) b := by
  have h1 := ch_fac a b
  have h2 := ch_fac b a
  rw [Nat.add_comm b a, Nat.mul_comm (fac b)] at h2
  exact Nat.eq_of_mul_eq_mul_right (Nat.mul_pos (fac_pos a) (fac_pos b)) (h1.trans h2.symm)
theorem ch_tri (a b c : Nat) : ch (a + (b + c)) (b + c) * ch (b + c) c = ch (a + b + c) c * ch (a + b) b := by
  have h1 : ch (a + (b + c)) (b + c) * (fac a * fac (b + c)) = fac (a + (b + c)) := by
    rw [← ch_symm, ch_fac]
  have h2 : ch (b + c) c * (fac b * fac c) = fac (b + c) := by rw [← ch_symm, ch_fac]
  have h3 : ch (a + b + c) c * (fac (a + b) * fac c) = fac (a + b + c) := by rw [← ch_symm, ch_fac]
  have h4 : ch (a + b) b * (fac a * fac b) = fac (a + b) := by rw [← ch_symm, ch_fac]
  have hN : fac (a + (b + c)) = fac (a + b + c) := by rw [Nat.add_assoc]
  have hp : 0 < fac a * (fac b * fac c) := Nat.mul_pos (fac_pos a) (Nat.mul_pos (fac_pos b) (fac_pos c))
  refine Nat.eq_of_mul_eq_mul_right hp ?_
  calc ch (a + (b + c)) (b + c) * ch (b + c) c * (fac a * (fac b * fac c))
      = ch (a + (b + c)) (b + c) * (fac a * (ch (b + c) c * (fac b * fac c))) := by grind
    _ = fac (a + b + c) := by rw [h2, h1, hN]
    _ = ch (a + b + c) c * (ch (a + b) b * (fac a * fac b) * fac c) := by rw [h4, h3]
    _ = _ := by grind
theorem ch_self (n : Nat) : ch n n = 1 := by
  have e := ch_symm n 0
  rw [Nat.add_zero, ch_zero] at e
  exact e
/-! ### rises alone -/
def Pl (k s : Nat) : Nat → List Int
  | 0 => []
  | m + 1 => (ch (k + s) k : Nat) :: Pl k (s + 1) m
theorem pre_Pl (k : Nat) : ∀ (m s : Nat), pre (ch (k + s) (k + 1) : Nat) (Pl k s m) = Pl (k + 1) s m
  | 0, _ => rfl
  | m + 1, s => by
    have ih := pre_Pl k m (s + 1)
    have e : ch (k + (s + 1)) (k + 1) = ch (k + s) k + ch (k + s) (k + 1) := rfl
    have e2 : ch (k + 1 + s) (k + 1) = ch (k + s) k + ch (k + s) (k + 1) := by rw [show k + 1 + s = k + s + 1 by omega]; rfl
    show ((ch (k + s) (k + 1) : Nat) + (ch (k + s) k : Nat) : Int) :: pre ((ch (k + s) (k + 1) : Nat) + (ch (k + s) k : Nat) : Int) (Pl k (s + 1) m) = ((ch (k + 1 + s) (k + 1) : Nat) : Int) :: Pl (k + 1) (s + 1) m
    rw [← ih, e, e2, Int.natCast_add, Int.add_comm]
theorem sum_Pl (k : Nat) : ∀ (m s : Nat), ((ch (k + s) (k + 1) : Nat) : Int) + (Pl k s m).sum = (ch (k + s + m) (k + 1) : Nat)
  | 0, s => by show _ + (0 : Int) = _; rw [Int.add_zero]; rfl
  | m + 1, s => by
    have ih := sum_Pl k m (s + 1)
    have e : ch (k + (s + 1)) (k + 1) = ch (k + s) k + ch (k + s) (k + 1) := rfl
    rw [e, Int.natCast_add] at ih
    show _ + ((ch (k + s) k : Nat) :: Pl k (s + 1) m : List Int).sum = _
    rw [List.sum_cons, show k + s + (m + 1) = k + (s + 1) + m by omega, ← ih]
    omega
def zeros (k : Nat) : List Int := List.replicate k 0
theorem pre_zeros : ∀ (k : Nat) (b : List Int), pre 0 (zeros k ++ b) = zeros k ++ pre 0 b
  | 0, _ => rfl
  | k + 1, b => by
    show ((0 : Int) + 0) :: pre (0 + 0) (zeros k ++ b) = 0 :: (zeros k ++ pre 0 b)
    rw [Int.add_zero, pre_zeros k b]
def ups (k : Nat) : List Bool := List.replicate k true
theorem run_ups (m : Nat) : ∀ k : Nat, run (ups k) (ones (m + 1)) = zeros k ++ Pl k 0 (m + 1)
  | 0 => by
    show ones (m + 1) = Pl 0 0 (m + 1)
    have h : ∀ (n s : Nat), ones n = Pl 0 s n := by
      intro n
      induction n with
      | zero => intro s; rfl
      | succ n ih => intro s; show 1 :: ones n = ((ch (0 + s) 0 : Nat) : Int) :: Pl 0 (s + 1) n; rw [ch_zero, ← ih]; rfl
    exact h _ _
  | k + 1 => by
    have ih := run_ups m k
    have e : ups (k + 1) = ups k ++ [true] := List.replicate_succ'
    rw [e, run_app, ih]
    show 0 :: pre 0 (zeros k ++ Pl k 0 (m + 1)) = 0 :: (zeros k ++ Pl (k + 1) 0 (m + 1))
    have e2 := pre_Pl k (m + 1) 0
    rw [Nat.add_zero, ch_lt k (k + 1) (by omega)] at e2
    rw [pre_zeros, ← e2]; rfl
theorem sum_zeros : ∀ k, (zeros k).sum = 0
  | 0 => rfl
  | k + 1 => by show (0 :: zeros k).sum = 0; rw [List.sum_cons, sum_zeros k]; rfl
theorem G_ups (m k : Nat) : G m (ups k) = (ch (k + 1 + m) (k + 1) : Nat) := by
  unfold G
  rw [run_ups, List.sum_append, sum_zeros, Int.zero_add]
  have e := sum_Pl k (m + 1) 0
  rw [Nat.add_zero, ch_lt k (k + 1) (by omega)] at e
  rw [show k + 1 + m = k + (m + 1) by omega, ← e]
  show _ = (0 : Int) + _
  rw [Int.zero_add]
theorem cnt_ups (k : Nat) : cnt (ups k) = 1 := by
  rw [cnt_G, G_ups, Nat.add_zero, ch_self]; rfl
/-! ### the product -/
theorem G_mulA : ∀ (n : Nat) (B : List Bool), B.length = n → ∀ (m k : Nat), G m (B ++ ups k) = cnt (B ++ ups k) * (ch (n + k + 1 + m) (n + k + 1) : Nat)
  | 0, B, h, m, k => by
    obtain rfl : B = [] := List.length_eq_zero_iff.mp h
    rw [List.nil_append, G_ups, cnt_ups, Int.one_mul, Nat.zero_add]
  | n + 1, B, h, m, k => by
    have hne : B ≠ [] := by intro e; subst e; cases h
    obtain ⟨B', l, rfl⟩ : ∃ B' l, B = B' ++ [l] := ⟨B.dropLast, B.getLast hne, (List.dropLast_concat_getLast hne).symm⟩
    have hl : B'.length = n := by rw [List.length_append] at h; exact Nat.succ.inj h
    have i1 := G_mulA n B' hl m (k + 1)
    have i0 := G_mulA n B' hl m 0
    have eu : B' ++ [true] ++ ups k = B' ++ ups (k + 1) := by rw [List.append_assoc]; rfl
    cases l with
    | true => rw [eu, i1, show n + (k + 1) + 1 = n + 1 + k + 1 by omega]
    | false =>
      have s1 := split_G m B' (ups k)
      have s0 := split_G 0 B' (ups k)
      have ef : B' ++ [false] ++ ups k = B' ++ false :: ups k := by rw [List.append_assoc]; rfl
      have et : B' ++ true :: ups k = B' ++ ups (k + 1) := rfl
      rw [ef]
      rw [et, i1, G_ups, hl] at s1
      rw [et, G_ups, hl, ← cnt_G, ← cnt_G, ← cnt_G] at s0
      rw [show B' ++ ups 0 = B' from List.append_nil _] at i0
      rw [i0] at s1
      have t := ch_tri m (n + 1) (k + 1)
      rw [show m + (n + 1 + (k + 1)) = n + (k + 1) + 1 + m by omega, show n + 1 + (k + 1) = n + (k + 1) + 1 by omega,
        show m + (n + 1) + (k + 1) = k + 1 + (n + (m + 1)) by omega, show m + (n + 1) = n + 0 + 1 + m by omega] at t
      rw [show k + 1 + (n + (0 + 1)) = n + (k + 1) + 1 by omega] at s0
      rw [show n + 1 + k + 1 = n + (k + 1) + 1 by omega]
      have t' : ((ch (n + (k + 1) + 1 + m) (n + (k + 1) + 1) : Nat) : Int) * (ch (n + (k + 1) + 1) (k + 1) : Nat) = (ch (k + 1 + (n + (m + 1))) (k + 1) : Nat) * (ch (n + 0 + 1 + m) (n + 0 + 1) : Nat) := by
        rw [← Int.natCast_mul, ← Int.natCast_mul]
        exact congrArg _ t
      grind
theorem G_mul (m : Nat) (B : List Bool) : G m B = cnt B * (ch (B.length + 1 + m) (B.length + 1) : Nat) := by
  have e := G_mulA B.length B rfl m 0
  rw [show B ++ ups 0 = B from List.append_nil _] at e
  exact e
/-! ### told backwards -/
theorem ups_rev (k : Nat) : (ups k).reverse = ups k := List.reverse_replicate
theorem cnt_revA : ∀ (B : List Bool) (k : Nat), cnt (ups k ++ B).reverse = cnt (ups k ++ B)
  | [], k => by rw [List.append_nil, ups_rev]
  | true :: B, k => by
    have e : ups k ++ true :: B = ups (k + 1) ++ B := by
      rw [show ups (k + 1) = ups k ++ [true] from List.replicate_succ', List.append_assoc]; rfl
    rw [e]; exact cnt_revA B (k + 1)
  | false :: B, k => by
    have i0 := cnt_revA B 0
    have i1 := cnt_revA B (k + 1)
    have e : ups (k + 1) ++ B = ups k ++ true :: B := by
      rw [show ups (k + 1) = ups k ++ [true] from List.replicate_succ', List.append_assoc]; rfl
    have r : ∀ l : Bool, (ups k ++ l :: B).reverse = B.reverse ++ l :: ups k := by
      intro l
      rw [List.reverse_append, ups_rev, List.reverse_cons, List.append_assoc]; rfl
    rw [e, r true] at i1
    rw [r false]
    rw [show ups 0 ++ B = B from rfl] at i0
    have s1 := split_G 0 (ups k) B
    have s2 := split_G 0 B.reverse (ups k)
    rw [← cnt_G, ← cnt_G, ← cnt_G, cnt_ups, G_mul] at s1
    rw [← cnt_G, ← cnt_G, ← cnt_G, i0, G_mul, cnt_ups, i1] at s2
    rw [List.length_reverse] at s2
    rw [show (ups k).length = k from List.length_replicate] at s1 s2
    have c := ch_symm (B.length + 1) (k + 1)
    rw [show B.length + 1 + (k + (0 + 1)) = B.length + 1 + (k + 1) by omega] at s1
    rw [show k + 1 + (B.length + (0 + 1)) = B.length + 1 + (k + 1) by omega, ← c] at s2
    grind
theorem cnt_rev (B : List Bool) : cnt B.reverse = cnt B := cnt_revA B 0
/-! ### letters exchanged -/
theorem step_not (b : Bool) (ws : List Int) : step (!b) ws.reverse = (step b ws).reverse := by
  cases b
  · show stepU ws.reverse = (stepD ws).reverse
    rw [stepD_rev, List.reverse_reverse]
  · show stepD ws.reverse = (stepU ws).reverse
    rw [stepD_rev, List.reverse_reverse]
theorem run_not : ∀ (w : List Bool) (ws : List Int), run (w.map (!·)) ws.reverse = (run w ws).reverse
  | [], _ => rfl
  | b :: w, ws => by
    show run (w.map (!·)) (step (!b) ws.reverse) = (run w (step b ws)).reverse
    rw [step_not, run_not w]
theorem cnt_not (w : List Bool) : cnt (w.map (!·)) = cnt w := by
  unfold cnt
  rw [show ([1] : List Int) = [1].reverse from rfl, run_not, List.sum_reverse]; rfl
/-! ### one more letter -/
theorem cnt_more (w : List Bool) : cnt (w ++ [true]) + cnt (w ++ [false]) = ((w.length + 2 : Nat) : Int) * cnt w := by
  have e := split_G 0 w []
  have f : G (w.length + (0 + 1)) [] = ((w.length + 2 : Nat) : Int) := by
    show (ones (w.length + 2)).sum = _
    have h : ∀ n : Nat, (ones n).sum = (n : Int) := by
      intro n
      induction n with
      | zero => rfl
      | succ n ih => show (1 :: ones n).sum = _; rw [List.sum_cons, ih]; omega
    exact h _
  rw [f] at e
  rw [cnt_G, cnt_G, cnt_G, e, Int.mul_comm]
/-! ### at least one -/
def Pos (ws : List Int) : Prop := (∀ v ∈ ws, 0 ≤ v) ∧ 1 ≤ ws.sum
theorem pre_nonneg : ∀ (ws : List Int) (s : Int), 0 ≤ s → (∀ v ∈ ws, 0 ≤ v) → ∀ v ∈ pre s ws, 0 ≤ v
  | [], _, _, _, v, h => by cases h
  | x :: r, s, hs, hw, v, h => by
    have hx : 0 ≤ x := hw x (List.mem_cons_self)
    rcases List.mem_cons.mp h with rfl | h
    · omega
    · exact pre_nonneg r (s + x) (by omega) (fun v hv => hw v (List.mem_cons_of_mem _ hv)) v h
theorem sum_nonneg : ∀ (ws : List Int), (∀ v ∈ ws, 0 ≤ v) → 0 ≤ ws.sum
  | [], _ => Int.le_refl 0
  | x :: r, h => by
    have hx : 0 ≤ x := h x (List.mem_cons_self)
    have := sum_nonneg r (fun v hv => h v (List.mem_cons_of_mem _ hv))
    rw [List.sum_cons]; omega
theorem pre_sum_ge : ∀ (ws : List Int) (s : Int), 0 ≤ s → (∀ v ∈ ws, 0 ≤ v) → ws.sum ≤ (pre s ws).sum
  | [], _, _, _ => Int.le_refl 0
  | x :: r, s, hs, hw => by
    have hx : 0 ≤ x := hw x (List.mem_cons_self)
    have := pre_sum_ge r (s + x) (by omega) (fun v hv => hw v (List.mem_cons_of_mem _ hv))
    show (x :: r).sum ≤ ((s + x) :: pre (s + x) r).sum
    rw [List.sum_cons, List.sum_cons]; omega
theorem stepU_pos {ws : List Int} (h : Pos ws) : Pos (stepU ws) := by
  refine ⟨fun v hv => ?_, ?_⟩
  · rcases List.mem_cons.mp hv with rfl | hv
    · exact Int.le_refl 0
    · exact pre_nonneg ws 0 (Int.le_refl 0) h.1 v hv
  · have := pre_sum_ge ws 0 (Int.le_refl 0) h.1
    have h2 := h.2
    show 1 ≤ (0 :: pre 0 ws).sum
    rw [List.sum_cons]; omega
theorem pos_rev {ws : List Int} (h : Pos ws) : Pos ws.reverse := ⟨fun v hv => h.1 v (List.mem_reverse.mp hv), by rw [List.sum_reverse]; exact h.2⟩
theorem step_pos (b : Bool) {ws : List Int} (h : Pos ws) : Pos (step b ws) := by
  cases b
  · show Pos (stepD ws)
    rw [stepD_rev]; exact pos_rev (stepU_pos (pos_rev h))
  · exact stepU_pos h
theorem run_pos : ∀ (w : List Bool) {ws : List Int}, Pos ws → Pos (run w ws)
  | [], _, h => h
  | b :: w, _, h => run_pos w (step_pos b h)
theorem pos_one : Pos [1] := by
  refine ⟨fun v h => ?_, by decide⟩
  rcases List.mem_cons.mp h with rfl | h
  · decide
  · cases h
theorem cnt_pos (w : List Bool) : 1 ≤ cnt w := (run_pos w pos_one).2
/-! ### by turns is the most -/
inductive Le : List Int → List Int → Prop
  | nil : Le [] []
  | cons {x y : Int} {a b : List Int} : x ≤ y → Le a b → Le (x :: a) (y :: b)
theorem Le.refl : ∀ a : List Int, Le a a
  | [] => .nil
  | _ :: a => .cons (Int.le_refl _) (Le.refl a)
theorem Le.trans : ∀ {a b c : List Int}, Le a b → Le b c → Le a c
  | _, _, _, .nil, .nil => .nil
  | _, _, _, .cons h t, .cons h' t' => .cons (Int.le_trans h h') (t.trans t')
theorem Le.sum : ∀ {a b : List Int}, Le a b → a.sum ≤ b.sum
  | _, _, .nil => Int.le_refl _
  | _, _, .cons h t => by have := t.sum; rw [List.sum_cons, List.sum_cons]; omega
theorem Le.len : ∀ {a b : List Int}, Le a b → a.length = b.length
  | _, _, .nil => rfl
  | _, _, .cons h t => congrArg (· + 1) t.len
theorem Le.app : ∀ {a b c d : List Int}, Le a b → Le c d → Le (a ++ c) (b ++ d)
  | _, _, _, _, .nil, h => h
  | _, _, _, _, .cons h t, h' => .cons h (t.app h')
theorem Le.rev : ∀ {a b : List Int}, Le a b → Le a.reverse b.reverse
  | _, _, .nil => .nil
  | _, _, .cons h t => by rw [List.reverse_cons, List.reverse_cons]; exact t.rev.app (.cons h .nil)
theorem Le.pre : ∀ {a b : List Int} {s t : Int}, s ≤ t → Le a b → Le (pre s a) (pre t b)
  | _, _, _, _, _, .nil => .nil
  | _, _, _, _, h, .cons h' r => .cons (Int.add_le_add h h') (Le.pre (Int.add_le_add h h') r)
theorem Le.stepU {a b : List Int} (h : Le a b) : Le (stepU a) (stepU b) := .cons (Int.le_refl 0) (h.pre (Int.le_refl 0))
/-- the prefix sums of two lists, as a condition on all takes -/
theorem pre_le_of : ∀ (a b : List Int) (s t : Int), a.length = b.length → (∀ j, j ≤ a.length → s + (a.take j).sum ≤ t + (b.take j).sum) → Le (pre s a) (pre t b)
  | [], [], _, _, _, _ => .nil
  | x :: a, y :: b, s, t, hl, h => by
    have h1 := h 1 (by show 1 ≤ a.length + 1; omega)
    have e1 : ((x :: a).take 1).sum = x := by show ([x] ++ a.take 0).sum = x; simp
    have e2 : ((y :: b).take 1).sum = y := by show ([y] ++ b.take 0).sum = y; simp
    rw [e1, e2] at h1
    refine .cons h1 (pre_le_of a b (s + x) (t + y) (Nat.succ.inj hl) (fun j hj => ?_))
    have h2 := h (j + 1) (by show j + 1 ≤ a.length + 1; omega)
    rw [List.take_succ_cons, List.take_succ_cons, List.sum_cons, List.sum_cons] at h2
    omega
def Up : List Int → Prop
  | [] => True
  | [_] => True
  | x :: y :: r => x ≤ y ∧ Up (y :: r)
theorem Up.tail : ∀ {x : Int} {r : List Int}, Up (x :: r) → Up r
  | _, [], _ => trivial
  | _, _ :: _, h => h.2
theorem up_pre : ∀ (ws : List Int) (s : Int), (∀ v ∈ ws, 0 ≤ v) → Up (s :: pre s ws)
  | [], _, _ => trivial
  | x :: r, s, h => by
    have hx : 0 ≤ x := h x (List.mem_cons_self)
    exact ⟨by show s ≤ s + x; omega, up_pre r (s + x) (fun v hv => h v (List.mem_cons_of_mem _ hv))⟩
/-- of a rising list the first ones sum up to no more than the last ones -/
theorem take_shift : ∀ (x : Int) (r : List Int) (j : Nat), Up (x :: r) → j ≤ r.length → ((x :: r).take j).sum ≤ (r.take j).sum
  | _, _, 0, _, _ => by simp
  | x, [], j + 1, _, h => by cases h
  | x, y :: r, j + 1, h, hj => by
    have ih := take_shift y r j h.2 (by simpa using hj)
    rw [List.take_succ_cons, List.take_succ_cons, List.sum_cons, List.sum_cons]
    have := h.1
    omega
theorem take_drop : ∀ (a : List Int) (j : Nat), Up a → j ≤ a.length → (a.take j).sum ≤ (a.drop (a.length - j)).sum
  | [], _, _, _ => by simp
  | x :: r, j, h, hj => by
    by_cases e : j = r.length + 1
    · subst e
      rw [List.length_cons, Nat.sub_self, List.drop_zero, List.take_of_length_le (by rw [List.length_cons]; exact Nat.le_refl _)]
      exact Int.le_refl _
    · have hj' : j ≤ r.length := by rw [List.length_cons] at hj; omega
      have ih := take_drop r j h.tail hj'
      rw [List.length_cons, show r.length + 1 - j = (r.length - j) + 1 by omega, List.drop_succ_cons]
      exact Int.le_trans (take_shift x r j h hj') ih
theorem pre_rev_le (a : List Int) (h : Up a) : Le (pre 0 a) (pre 0 a.reverse) := by
  refine pre_le_of a a.reverse 0 0 (by rw [List.length_reverse]) (fun j hj => ?_)
  rw [Int.zero_add, Int.zero_add, List.take_reverse, List.sum_reverse]
  exact take_drop a j h hj
/-- by turns, the last one a rise -/
def alt : Nat → List Int
  | 0 => [1]
  | n + 1 => stepU (alt n).reverse
theorem alt_pos : ∀ n, Pos (alt n)
  | 0 => pos_one
  | n + 1 => stepU_pos (pos_rev (alt_pos n))
theorem alt_up : ∀ n, Up (alt n)
  | 0 => trivial
  | n + 1 => up_pre _ 0 (pos_rev (alt_pos n)).1
theorem alt_le (n : Nat) : Le (stepU (alt n)) (alt (n + 1)) := .cons (Int.le_refl 0) (pre_rev_le _ (alt_up n))
/-- seen from its last letter -/
def seen (w : List Bool) : List Int := if w.getLast? = some false then (run w [1]).reverse else run w [1]
theorem seen_le : ∀ (n : Nat) (w : List Bool), w.length = n → Le (seen w) (alt n)
  | 0, w, h => by
    obtain rfl : w = [] := List.length_eq_zero_iff.mp h
    exact Le.refl _
  | n + 1, w, h => by
    have hne : w ≠ [] := by intro e; subst e; cases h
    obtain ⟨B, l, rfl⟩ : ∃ B l, w = B ++ [l] := ⟨w.dropLast, w.getLast hne, (List.dropLast_concat_getLast hne).symm⟩
    have hl : B.length = n := by rw [List.length_append] at h; exact Nat.succ.inj h
    have ih := seen_le n B hl
    have lst : (B ++ [l]).getLast? = some l := by rw [List.getLast?_append]; rfl
    have run1 : run (B ++ [l]) [1] = step l (run B [1]) := by rw [run_app]; rfl
    have key : seen (B ++ [l]) = stepU (if l then run B [1] else (run B [1]).reverse) := by
      unfold seen
      rw [lst, run1]
      cases l
      · show (stepD _).reverse = _
        rw [stepD_rev, List.reverse_reverse]; rfl
      · rfl
    have two : (if l then run B [1] else (run B [1]).reverse) = seen B ∨ (if l then run B [1] else (run B [1]).reverse) = (seen B).reverse := by
      unfold seen
      by_cases hb : B.getLast? = some false
      · rw [if_pos hb]
        cases l
        · exact .inl rfl
        · refine .inr ?_
          rw [List.reverse_reverse]; rfl
      · rw [if_neg hb]
        cases l
        · exact .inr rfl
        · exact .inl rfl
    rw [key]
    rcases two with e | e
    · rw [e]; exact (ih.stepU).trans (alt_le n)
    · rw [e]; exact ih.rev.stepU
theorem cnt_seen (w : List Bool) : cnt w = (seen w).sum := by
  unfold seen cnt
  split
  · rw [List.sum_reverse]
  · rfl
theorem cnt_le_alt (w : List Bool) : cnt w ≤ (alt w.length).sum := by
  rw [cnt_seen]; exact (seen_le _ w rfl).sum
/-- letters by turns, beginning with a rise -/
def turns (n : Nat) : List Bool := (List.range n).map (fun i => i % 2 == 0)
theorem turns_succ (n : Nat) : turns (n + 1) = turns n ++ [n % 2 == 0] := by
  unfold turns; rw [List.range_succ, List.map_append]; rfl
theorem seen_turns : ∀ n, run (turns n) [1] = if n % 2 = 0 then (alt n).reverse else alt n
  | 0 => rfl
  | n + 1 => by
    have ih := seen_turns n
    rw [turns_succ, run_app, ih]
    rcases Nat.mod_two_eq_zero_or_one n with e | e
    · have e1 : (n + 1) % 2 = 1 := by omega
      rw [e, e1]; rfl
    · have e1 : (n + 1) % 2 = 0 := by omega
      rw [e, e1]
      show stepD (alt n) = (stepU (alt n).reverse).reverse
      rw [stepD_rev]
theorem cnt_turns (n : Nat) : cnt (turns n) = (alt n).sum := by
  unfold cnt
  rw [seen_turns]
  split
  · rw [List.sum_reverse]
  · rfl
theorem cnt_most (w : List Bool) : cnt w ≤ cnt (turns w.length) := by
  rw [cnt_turns]; exact cnt_le_alt w
end RF
end
-- part RStr
section
set_option Elab.async false
set_option linter.all false
set_option maxRecDepth 100000
set_option maxHeartbeats 2000000
/-! Texts: e[::-1], text times number; the words of rises and falls as texts. -/
namespace RFI
open PySem PySem.Spec PyProof.Rows L2
/-- a text of these signs -/
def tx (l : List Nat) : Str := ⟨l.toArray⟩
theorem tx_len (l : List Nat) : (tx l).length = l.length := by simp [tx, Str.length]
theorem tx_list (l : List Nat) : (tx l).cps.toList = l := by simp [tx]
theorem tx_of (z : Str) : z = tx z.cps.toList := by cases z; simp [tx]
section
variable {X : Cx}
def tRevS (te : TE) : TE := fun σ H Q => te σ H fun x H1 => ∃ l, x = .str (tx l) ∧ l.length ≤ sizeLine ∧ Q (.str (tx l.reverse)) H1
theorem pe_revS {e : Expr} {te : TE} {k : Nat} {p1 p2 p3 pos : Pos} (he : PE X e te) : PE X (.Subscript e (.Slice none none (some (.UnaryOp .USub (.Constant (.int 1) k p1) p2)) p3) pos) (tRevS te) := by
  refine ⟨fun pins s σ H Q I h => ?_⟩
  refine Subscript_ (thn (he.run pins s σ H _ I h) fun v s1 ⟨x, H1, I1, r1, q1⟩ => ?_)
  obtain ⟨l, ex, hx, q⟩ := q1
  subst ex
  obtain ⟨tz, rfl⟩ := r1
  have hst : PO X (some (.UnaryOp .USub (.Constant (.int 1) k p1) p2)) (tPart (tUn (rU fun i => .int (-i)) (tC (.int 1)))) := po_some (pe_un un_neg pe_int)
  refine wpAny_Slice (thn (po_none.run pins s1 σ H1 (fun o H2 => o = none ∧ H2 = H1) I1 ⟨rfl, rfl⟩) fun vl s2 ⟨lo, H2, I2, pl, el, e2⟩ => ?_)
  subst el e2
  refine thn (po_none.run pins s2 σ H2 (fun o H3 => o = none ∧ H3 = H2) I2 ⟨rfl, rfl⟩) fun vu s3 ⟨u, H3, I3, pu, eu, e3⟩ => ?_
  subst eu e3
  refine thn (hst.run pins s3 σ H3 (fun o H4 => o = some (-1) ∧ H4 = H3) I3 ⟨1, rfl, -1, rfl, rfl, rfl⟩) fun vs s4 ⟨o, H4, I4, ps, eo, e4⟩ => ?_
  subst eo e4
  have I5 : Inv X pins σ H4 { s4 with heap := s4.heap.push { cls := .type "slice", data := .fields #[vl, vu, vs] } } := I4.kept (t' := s4.toks) fun b ob q => Heap.get?_push_of_some _ q
  obtain ⟨l1, rfl, e1⟩ := IsPart.raw pl
  obtain ⟨u1, rfl, e2⟩ := IsPart.raw pu
  obtain ⟨st, rfl, e3⟩ := IsPart.raw ps
  have l1n : l1 = none := by cases l1 with | none => rfl | some a => cases e1
  have u1n : u1 = none := by cases u1 with | none => rfl | some a => cases e2
  subst l1n u1n
  show wpAny (model X.prog X.w) X.A (subscriptTail e (.Slice none none (some (.UnaryOp .USub (.Constant (.int 1) k p1) p2)) p3) (.str (tx l) tz) (.ref s4.heap.objs.size)) (EP X pins σ Q) X.xe _
  refine tail_any (ops := [.str (tx l) tz, .ref s4.heap.objs.size]) (typeIs_str _ _ _) (F.slot_str_getitem.lookup) ?_ (by with_unfolding_all rfl)
  refine wpAny_getItem_str_slice (l := none) (u := none) (st := st) ⟨_, Heap.get?_push_size _ rfl, rfl, rfl⟩ (by rw [e3]; rfl) ?_
  unfold sliceMade
  rw [e3]
  rw [if_neg (by simp)]
  have pick : slicePicked (tx l) none none st = (List.range (tx l).length).reverse := by
    unfold slicePicked
    rw [e3]
    show sliceRange (((tx l).length : Int) - 1) (-1) (-1) = _
    rw [PySem.W.krv_sliceRange, PySem.W.krv_range]
  have whole : (⟨((slicePicked (tx l) none none st).filterMap ((tx l).cps[·]?)).toArray⟩ : Str) = tx l.reverse := by
    rw [pick, List.filterMap_reverse]
    have h := PySem.W.krv_all (tx l).cps
    rw [show (tx l).length = (tx l).cps.size from rfl, h, tx_list]
    rfl
  rw [whole]
  exact ⟨by rw [tx_len, List.length_reverse]; exact hx, .str _, H4, I5.tok _, ⟨_, rfl⟩, q⟩
/-- text * number -/
def rRepS : R2 := fun x y H Q => ∃ l n, x = .str (tx l) ∧ y = .int n ∧ 0 ≤ n ∧ n ≤ 1000000 ∧ l.length * n.toNat ≤ 1000000 ∧ Q (.str (tx (List.replicate n.toNat l).flatten)) H
theorem fold_app : ∀ (ls : List (Array Nat)) (b : Array Nat), (ls.foldl (· ++ ·) b).toList = b.toList ++ (ls.map Array.toList).flatten
  | [], b => by simp
  | a :: r, b => by
    rw [List.foldl_cons, fold_app r (b ++ a)]
    simp
theorem op_repS : OpR X (binaryOp .Mult) rRepS := by
  intro pins s σ H x y v u Q I rx ry h
  obtain ⟨l, n, rfl, rfl, h0, h1, h2, q⟩ := h
  obtain ⟨t, rfl⟩ := rx
  obtain ⟨t', rfl⟩ := ry
  have hsm : (1000000 : Nat) ≤ sizeLine := by decide
  have fit : (tx l).length * n.toNat ≤ 1000000 := by rw [tx_len]; exact h2
  refine PySem.P.mul_str (by
      have a : ¬ n < -(2 ^ 63 : Int) := by omega
      have b : ¬ n ≥ 2 ^ 63 := by omega
      rw [decide_eq_false a, decide_eq_false b]; rfl) (fun hn1 hz => ?_) (fun hn1 hz => ?_) ?_
  · intro hgt
    have hn : 1 ≤ n := by omega
    have d : n * ((2 ^ 63 - 1) / n) ≤ 2 ^ 63 - 1 := Int.mul_ediv_self_le (by omega)
    have lenle : ((tx l).length : Int) ≤ 1000000 := by
      have : (tx l).length ≤ (tx l).length * n.toNat := Nat.le_mul_of_pos_right _ (by omega)
      omega
    have dl : (1000000 : Int) ≤ (2 ^ 63 - 1) / n := by
      apply (Int.le_ediv_iff_mul_le (by omega)).mpr
      have : (1000000 : Int) * n ≤ 1000000 * 1000000 := Int.mul_le_mul_of_nonneg_left h1 (by decide)
      omega
    omega
  · unfold PySem.Builtin.Str.tooLong
    rw [decide_eq_false]
    have : (tx l).length * n.toNat ≤ 1000000 := fit
    have e : (2 : Nat) ^ 24 = 16777216 := by decide
    omega
  · have val : ∀ (z : Str), z = tx (List.replicate n.toNat l).flatten → ∀ tt k, EP X pins σ Q (.str z tt) { s with toks := k } := fun z e tt k => ⟨.str _, H, I.tok k, ⟨tt, by rw [e]⟩, q⟩
    split
    · rename_i hlt
      have n0 : n.toNat = 0 := by omega
      exact ⟨by decide, val _ (by rw [n0]; rfl) _ _⟩
    · split
      · rename_i hlt hone
        rcases Bool.or_eq_true_iff.mp hone with e | e
        · have : n = 1 := by simpa using e
          subst this
          exact val _ (by show tx l = tx ([l].flatten); simp) t s.toks
        · have hz : l.length = 0 := by rw [← tx_len]; simpa using e
          have hl : l = [] := List.length_eq_zero_iff.mp hz
          subst hl
          exact val _ (by congr 1; simp) t s.toks
      · have eq : (⟨(List.replicate n.toNat (tx l).cps).foldl (· ++ ·) #[]⟩ : Str) = tx (List.replicate n.toNat l).flatten := by
          rw [tx_of (⟨(List.replicate n.toNat (tx l).cps).foldl (· ++ ·) #[]⟩ : Str)]
          congr 1
          rw [fold_app]
          simp [tx]
        refine ⟨?_, val _ eq _ _⟩
        rw [eq, tx_len, List.length_flatten, List.map_replicate, List.sum_replicate_nat]
        rw [tx_len] at fit
        rw [Nat.mul_comm]
        omega
end
/-! ### words -/
def sg (b : Bool) : Nat := if b then 117 else 100
def wd (l : List Bool) : Str := tx (l.map sg)
theorem wd_len (l : List Bool) : (wd l).length = l.length := by unfold wd; rw [tx_len, List.length_map]
theorem wd_cons (b : Bool) : wd [b] = ⟨#[sg b]⟩ := rfl
theorem wd_inj {l m : List Bool} (h : wd l = wd m) : l = m := by
  have h1 : (wd l).cps.toList = (wd m).cps.toList := by rw [h]
  unfold wd at h1
  rw [tx_list, tx_list] at h1
  have inj : ∀ {l m : List Bool}, l.map sg = m.map sg → l = m := by
    intro l
    induction l with
    | nil => intro m h; cases m with | nil => rfl | cons _ _ => cases h
    | cons a l ih =>
      intro m h
      cases m with
      | nil => cases h
      | cons b m =>
        rw [List.map_cons, List.map_cons] at h
        injection h with h2 h3
        have : a = b := by cases a <;> cases b <;> first | rfl | (exact absurd h2 (by decide))
        rw [this, ih h3]
  exact inj h1
theorem wd_rev (l : List Bool) : tx ((l.map sg).reverse) = wd l.reverse := by unfold wd; rw [List.map_reverse]
end RFI
end
-- part RWd
section
set_option Elab.async false
set_option linter.all false
set_option maxRecDepth 100000
set_option maxHeartbeats 2000000
namespace RFI
open PySem PySem.Spec PyProof.Rows L2 TL
theorem count_word : ∀ l : List Bool, cnt 117 (l.map sg) + cnt 100 (l.map sg) = (l.length : Int)
  | [] => by decide
  | b :: l => by
    have ih := count_word l
    cases b
    · show cnt 117 (100 :: l.map sg) + cnt 100 (100 :: l.map sg) = _
      rw [cnt_cons, cnt_cons, if_neg (by decide), if_pos rfl, List.length_cons]; omega
    · show cnt 117 (117 :: l.map sg) + cnt 100 (117 :: l.map sg) = _
      rw [cnt_cons, cnt_cons, if_pos rfl, if_neg (by decide), List.length_cons]; omega
theorem joinL_nil : ∀ ys : List (List Nat), joinL [] ys = ys.flatten
  | [] => rfl
  | [p] => by simp [joinL]
  | p :: q :: r => by
    have ih := joinL_nil (q :: r)
    show p ++ ([] ++ joinL [] (q :: r)) = _
    rw [ih, List.nil_append]; rfl
theorem join_tx (ys : List (List Nat)) : Txt.join (Str.ofString "") (ys.map tx) = tx ys.flatten := by
  apply ext_tl
  rw [join_eq, tl_join, show tl (Str.ofString "") = [] from rfl, joinL_nil, List.map_map]
  show ((ys.map (fun l => (tx l).cps.toList)).flatten) = (tx ys.flatten).cps.toList
  rw [tx_list]
  congr 1
  rw [show (fun l => (tx l).cps.toList) = id from funext fun l => tx_list l, List.map_id]
/-- letters joined -/
theorem join_wd (l : List Bool) : Txt.join (Str.ofString "") (l.map fun b => wd [b]) = wd l := by
  have e : (l.map fun b => wd [b]) = (l.map fun b => [sg b]).map tx := by rw [List.map_map]; rfl
  rw [e, join_tx]
  unfold wd
  congr 1
  induction l with
  | nil => rfl
  | cons b l ih => rw [List.map_cons, List.flatten_cons, ih (by rw [List.map_map]; rfl)]; rfl
/-- words joined -/
theorem join_wds (ls : List (List Bool)) : Txt.join (Str.ofString "") (ls.map wd) = wd ls.flatten := by
  have e : ls.map wd = (ls.map fun l => l.map sg).map tx := by rw [List.map_map]; rfl
  rw [e, join_tx]
  unfold wd
  rw [List.map_flatten]
theorem wd_app (a b : List Bool) : wd a ++ wd b = wd (a ++ b) := by
  apply ext_tl
  show ((wd a).cps ++ (wd b).cps).toList = _
  unfold wd
  rw [Array.toList_append, tx_list, tx_list, List.map_append]
  exact (tx_list _).symm
/-- keeping what stood -/
def SameP (P : Addr) (H H' : Hp) : Prop := ∀ b o, b ≠ P → H b = some o → H' b = some o
end RFI
end
-- part KLib
section
set_option Elab.async false
set_option linter.all false
set_option maxRecDepth 100000
set_option maxHeartbeats 4000000
namespace K1
open PySem PySem.Spec PyProof.Rows L2 RFI
/-- names of built-ins that the text leaves alone; two it imports -/
structure Nm (mg : Str → Option Value) : Prop where
  isi : mg "isinstance" = none
  str : mg "str" = none
  len : mg "len" = none
  list : mg "list" = none
  all : mg "all" = none
  sum : mg "sum" = none
  int : mg "int" = none
  bool : mg "bool" = none
  range : mg "range" = none
  enum : mg "enumerate" = none
  max : mg "max" = none
  abs : mg "abs" = none
  acc : mg "accumulate" = some (.type "itertools.accumulate")
  pw : mg "pairwise" = some (.type "itertools.pairwise")
section
variable {P : Program} {w : World} {K : PySem.W.Frag} {mg : Str → Option Value} {base : Heap}
def spCw : Sp := fun vs H Q _ => ∃ l : List Bool, vs = [.str (wd l)] ∧ l.length ≤ 1000 ∧ Q .non H
def spWb (K : PySem.W.Frag) : Sp := fun vs H Q _ => ∃ (a : Addr) (ws : List Int) (b : Bool), vs = [.ref a, .str (wd [b])] ∧ SqL K H a (ws.map V.int) ∧ ws.length ≤ 1000 ∧ ∀ H' p, Same H H' → H p = none → H' p = some (.lst ((RF.step b ws).map V.int)) → Q (.ref p) H'
theorem psum_pre : ∀ (ns : List Int) (s : Int), (psum ns).map (s + ·) = RF.pre s ns
  | [], _ => rfl
  | x :: r, s => by
    have ih := psum_pre r (s + x)
    unfold psum at *
    rw [List.length_cons, List.range_succ_eq_map, List.map_cons, List.map_cons, List.map_map, List.map_map]
    show (s + (x :: r.take 0).sum) :: _ = (s + x) :: RF.pre (s + x) r
    rw [← ih, List.map_map]
    congr 1
    · simp
    · apply List.map_congr_left
      intro i _
      show s + ((x :: r).take (i + 1 + 1)).sum = s + x + (r.take (i + 1)).sum
      rw [List.take_succ_cons, List.sum_cons]; omega
theorem psum_pre0 (ns : List Int) : psum ns = RF.pre 0 ns := by
  have h := psum_pre ns 0
  rw [← h, show (fun x : Int => 0 + x) = id from funext fun x => Int.zero_add x, List.map_id]
theorem same_upd {H : Hp} {p : Addr} {o : HO} (h : H p = none) : Same H (upd H p o) := fun b x e => by
  rw [upd_ne (ne_of_none e h)]
  exact e
/-- ways_of: a new list, by the last number -/
def spWy : Sp := fun vs H Q _ => ∃ l : List Bool, vs = [.str (wd l)] ∧ l.length ≤ 900 ∧ ∀ H' p, Same H H' → H p = none → H' p = some (.lst ((RF.run l [1]).map V.int)) → Q (.ref p) H'
def spCo : Sp := fun vs H Q _ => ∃ l : List Bool, vs = [.str (wd l)] ∧ l.length ≤ 900 ∧ ∀ H', Same H H' → Q (.int (RF.cnt l)) H'
/-- a loop over a word's letters -/
theorem for_word {l : List Bool} {g : TG} {tb : TS} {D : Ends} {σ : L2.St} {H : Hp} (Pv : Nat → L2.St → Hp → Prop) (h0 : Pv 0 σ H)
    (hs : ∀ i b σ H, l[i]? = some b → Pv i σ H → g (.str (wd [b])) σ H fun σ2 H2 => tb { D with nx := Pv (i + 1), ct := Pv (i + 1), bk := D.nx } σ2 H2) (hd : ∀ σ H, Pv l.length σ H → D.nx σ H) :
    ∃ W : Nat → Nat → L2.St → Hp → Prop, (∃ m, W 0 m σ H) ∧ ∀ i m σ H, W i m σ H →
      ((Its (wd l)).stop i H ∧ D.nx σ H) ∨ ((Its (wd l)).go i H ∧ ∃ N : L2.St → Hp → Prop, (∀ σ' H', N σ' H' → ∃ m', m' < m ∧ W (i + 1) m' σ' H') ∧ ∀ v H', (Its (wd l)).yld i H v H' → g v σ H' fun σ2 H2 => tb { D with nx := N, ct := N, bk := D.nx } σ2 H2) := by
  have hcs : (wd l).cps.size = l.length := by
    show (wd l).length = _
    rw [wd_len]
  refine ⟨fun i m σ H => m = l.length - i ∧ i ≤ l.length ∧ Pv i σ H, ⟨_, rfl, Nat.zero_le _, h0⟩, ?_⟩
  rintro i m σ H ⟨rfl, hi, p⟩
  by_cases hlt : i < l.length
  · refine .inr ⟨show i < (wd l).cps.size by rw [hcs]; exact hlt, Pv (i + 1), fun σ' H' p' => ⟨l.length - (i + 1), by omega, rfl, hlt, p'⟩, fun v H' y => ?_⟩
    obtain ⟨rfl, c, hc, rfl⟩ := y
    have hb : l[i]? = some l[i] := List.getElem?_eq_getElem hlt
    have ec : c = sg l[i] := by
      have h2 : (wd l).cps.toList[i]? = some c := by rw [Array.getElem?_toList]; exact hc
      unfold wd at h2
      rw [tx_list, List.getElem?_map, hb] at h2
      exact (Option.some.inj h2).symm
    subst ec
    exact hs i l[i] σ _ hb p
  · have e : i = l.length := by omega
    subst e
    exact .inl ⟨show (wd l).cps.size ≤ l.length by rw [hcs]; exact Nat.le_refl _, hd σ H p⟩
theorem run_take {l : List Bool} {i : Nat} {b : Bool} (h : l[i]? = some b) (ws : List Int) : RF.run (l.take (i + 1)) ws = RF.step b (RF.run (l.take i) ws) := by
  rw [List.take_add_one, h, RF.run_app]
  rfl
theorem nofree_of {names : List (Str × NameKind)} {R : Str × NameKind → Prop} (h : (names.all fun y => match y.2 with | .free => false | _ => true) = true) : ∀ y ∈ names, y.2 = .free → R y := fun y hy e => by
  have q := List.all_eq_true.mp h y hy
  rw [e] at q
  cases q
/-- as F.ok, its code object known -/
theorem okT {x qual : Str} {st : Stmt} {f c : Addr} {fd : FuncData} {N ps : List Str} {k : Nat} {sp : Sp} (F : Fun K x qual st f fd) (hc : fd.code = .ref c) (S : FnScope N ps (defScope st)) (len : ∀ vs H Q E, sp vs H Q E → vs.length = ps.length)
    (hbody : ∀ (A : Around) (outer : List Env) (s : Shared) (H : Hp) (vs : List V) (Q : VK) (E : XK), Room k (A.deeper (envOfC qual (defScope st) s.heap.objs.size f (.ref c))) → sp vs H Q E →
      ∃ t, PSs (cxOf CX0 P w K mg base N qual (defScope st) f (.ref c) A outer s H E).nox (defBody st) t ∧ t { nx := fun _ H' => Q .non H', rt := Q } (start N vs) H) : FnOk P w K mg base CX0 (k + 1) f fd ps sp := by
  obtain ⟨oc, od, kV, doc, pm, an, cdv, ct, osl, rfl, lk, hcd⟩ := F.ex
  have e : cdv = .ref c := hc
  subst e
  refine fn_of lk hcd S len fun A outer s H vs Q E hr hsp => ?_
  obtain ⟨t, h, q⟩ := hbody A outer s H vs Q E hr hsp
  exact ⟨t, h.nox, q⟩
/-- a list's type -/
theorem ty_list {H : Hp} {a : Addr} {xs : List V} (h : SqL K H a xs) : TyX K H (.ref a) (.type "list") := by
  rcases h with (h | ⟨o, h⟩) | ⟨o, its, n, hk, hc, _⟩
  · exact .base (.lst h)
  · exact .base (.frz h)
  · exact .kList hk hc
theorem sq_tab {H H' : Hp} {a T : Addr} {xs : List V} (ht : GxR.TabG H T) (h : SqL K H a xs) (k : SameP T H H') : SqL K H' a xs := by
  obtain ⟨ps, hP, _⟩ := ht
  rcases h with (h | ⟨o, h⟩) | h
  · exact .inl (.inl (k _ _ (ne_of h hP (fun z => by cases z)) h))
  · exact .inl (.inr ⟨o, k _ _ (ne_of h hP (fun z => by cases z)) h⟩)
  · exact .inr h
theorem cl_tab {H H' : Hp} {a T : Addr} {xs : List V} (ht : GxR.TabG H T) (h : ClAt K H a xs) (k : SameP T H H') : ClAt K H' a xs := by
  obtain ⟨ps, hP, _⟩ := ht
  rcases h with ⟨o, h | h, c⟩ | h
  · exact .inl ⟨o, .inl (k _ _ (ne_of h hP (fun z => by cases z)) h), c⟩
  · exact .inl ⟨o, .inr h, c⟩
  · exact .inr h
theorem tabbed_same {H H' : Hp} {T : Addr} (h : GxR.Tabbed T H H') : SameP T H H' := fun b o hb e => (h.2 b hb).trans e
theorem SameP.trans {H H1 H2 : Hp} {T : Addr} (a : SameP T H H1) (b : SameP T H1 H2) : SameP T H H2 := fun c o hc e => b c o hc (a c o hc e)
theorem Same.toP {H H' : Hp} {T : Addr} (h : Same H H') : SameP T H H' := fun b o _ e => h b o e
theorem tab_same {H H' : Hp} {T : Addr} (ht : GxR.TabG H T) (h : Same H H') : GxR.TabG H' T := let ⟨ps, e, t⟩ := ht; ⟨ps, h _ _ e, t⟩
def spCr (K : PySem.W.Frag) (T : Addr) : Sp := fun vs H Q _ => ∃ (a : Addr) (ns : List Int), vs = [.ref a] ∧ SqL K H a (ns.map V.int) ∧ GxR.TabG H T ∧ ∀ H', SameP T H H' → GxR.TabG H' T → Q .non H'
def byOf : List Int → List Bool
  | x :: y :: r => decide (x < y) :: byOf (y :: r)
  | _ => []
theorem byOf_len : ∀ ns : List Int, (byOf ns).length = ns.length - 1
  | [] => rfl
  | [_] => rfl
  | x :: y :: r => by
    show (byOf (y :: r)).length + 1 = _
    rw [byOf_len (y :: r)]
    simp
theorem byOf_get : ∀ (ns : List Int) (i : Nat) (x y : Int), ns[i]? = some x → ns[i + 1]? = some y → (byOf ns)[i]? = some (decide (x < y))
  | [], _, _, _, h, _ => by simp at h
  | [_], 0, _, _, _, h => by simp at h
  | [_], i + 1, _, _, h, _ => by simp at h
  | a :: b :: r, 0, x, y, h, h2 => by
    have e1 : a = x := Option.some.inj h
    have e2 : b = y := Option.some.inj h2
    rw [← e1, ← e2]
    rfl
  | a :: b :: r, i + 1, x, y, h, h2 => byOf_get (b :: r) i x y h h2
def spWo (K : PySem.W.Frag) (T : Addr) : Sp := fun vs H Q _ => ∃ (a : Addr) (ns : List Int), vs = [.ref a] ∧ SqL K H a (ns.map V.int) ∧ ClAt K H a (ns.map V.int) ∧ GxR.TabG H T ∧ 1 ≤ ns.length ∧ ns.length ≤ 900 ∧
  (∀ (i : Nat) (x y : Int), ns[i]? = some x → ns[i + 1]? = some y → x ≠ y) ∧ ∀ H', SameP T H H' → GxR.TabG H' T → Q (.str (wd (byOf ns))) H'
end
abbrev nLc : List Str := ["_law_word_here", "_law_last", "_law_letter", "_law_sums", "_law_many"]
abbrev nBy : List Str := ["_law_row", "_law_k"]
section
variable {P : Program} {w : World} {K : PySem.W.Frag} {mg : Str → Option Value} {base : Heap}
def spCa (K : PySem.W.Frag) : Sp := fun vs H Q _ => ∃ (a : Addr) (ns : List Int) (k : Nat), vs = [.ref a, .int (k : Int)] ∧ SqL K H a (ns.map V.int) ∧ Q (.int (ns.getD k 0)) H
def spDr : Sp := fun vs H Q _ => ∃ (c : Int) (k : Nat) (m : Int), vs = [.int c, .int (k : Int), .int m] ∧ k < 16 ∧ 0 < m ∧ ∀ r H', 0 ≤ r → r < m → Same H H' → Q (.int r) H'
def pr16 : List Int := [1000003, 1000033, 1000037, 1000039, 1000081, 1000099, 1000117, 1000121, 1000133, 1000151, 1000159, 1000171, 1000183, 1000187, 1000193, 1000199]
def spWh : Sp := fun vs H Q _ => ∃ n : Int, vs = [.int n] ∧ Q (.bl true) H
theorem pre_last (a : List Int) : ∃ r, (0 :: RF.pre 0 a) = r ++ [a.sum] := by
  have h : ∀ (a : List Int) (s : Int), ∃ r, (s :: RF.pre s a) = r ++ [s + a.sum] := by
    intro a
    induction a with
    | nil => intro s; exact ⟨[], by show [s] = [] ++ [s + 0]; rw [Int.add_zero]; rfl⟩
    | cons x t ih =>
      intro s
      obtain ⟨r, e⟩ := ih (s + x)
      refine ⟨s :: r, ?_⟩
      show s :: ((s + x) :: RF.pre (s + x) t) = _
      rw [e, List.sum_cons, Int.add_assoc]
      rfl
  obtain ⟨r, e⟩ := h a 0
  exact ⟨r, by rw [e, Int.zero_add]⟩
theorem pre_snoc {ws : List Int} {j : Nat} {x : Int} (h : ws[j]? = some x) : RF.pre 0 (ws.take (j + 1)) = RF.pre 0 (ws.take j) ++ [(ws.take j).sum + x] := by
  rw [List.take_add_one, h]
  show RF.pre 0 (ws.take j ++ [x]) = _
  rw [RF.pre_app]
  show _ ++ [0 + (ws.take j).sum + x] = _
  rw [Int.zero_add]
theorem at_last (a : List Int) : atI ((0 :: RF.pre 0 a).map V.int) (-1) = some (V.int a.sum) := by
  obtain ⟨r, e⟩ := pre_last a
  rw [e, List.map_append]
  exact atI_last _ _
def spLc : Sp := fun vs H Q _ => ∃ l : List Bool, vs = [.str (wd l)] ∧ l.length ≤ 900 ∧ ∀ H', Same H H' → Q (.int (RF.cnt l)) H'
theorem letters_sum (l : List Bool) : ((l.map fun b => wd [b]).map fun x => x.length).sum = l.length := by
  rw [List.map_map]
  have e1 : (l.map ((fun x => x.length) ∘ fun b => wd [b])) = List.replicate l.length 1 := by
    rw [List.eq_replicate_iff]
    refine ⟨List.length_map .., fun b hb => ?_⟩
    obtain ⟨c, _, rfl⟩ := List.mem_map.mp hb
    exact wd_len [c]
  rw [e1, List.sum_replicate_nat]
  omega
def spBy (K : PySem.W.Frag) : Sp := fun vs H Q _ => ∃ (a : Addr) (ns : List Int), vs = [.ref a] ∧ SqL K H a (ns.map V.int) ∧ ns.length ≤ 900 ∧ ∀ H', Same H H' → Q (.str (wd (byOf ns))) H'
end
abbrev nOr : List Str := ["_law_many", "_law_found", "_law_at", "_law_more", "_law_order", "_law_k"]
def ins (n : Nat) (o : List Int) (k : Nat) : List Int := o.take k ++ [(n : Int)] ++ o.drop k
def insAll (n : Nat) (o : List Int) : List (List Int) := (List.range (n + 1)).map (ins n o)
def perms : Nat → List (List Int)
  | 0 => [[]]
  | n + 1 => (perms n).flatMap (insAll n)
theorem perms_few : ∀ n, n < 6 → (perms n).length ≤ 120 := by decide +kernel
theorem perms_each : ∀ n, n < 6 → ∀ r ∈ perms n, r.length = n := by decide +kernel
theorem cut_take (xs : List V) (k : Nat) : cutV xs none (some (k : Int)) = xs.take k := by
  unfold cutV
  rw [HT.sIx_nat, HT.sIx_none, Nat.sub_zero, List.drop_zero]
  exact (List.take_eq_take_min).symm
theorem cut_drop (xs : List V) (k : Nat) : cutV xs (some (k : Int)) none = xs.drop k := by
  unfold cutV
  rw [HT.sIx_nat, HT.sIx_none]
  by_cases h : k ≤ xs.length
  · rw [Nat.min_eq_left h, List.take_of_length_le (by rw [List.length_drop]; exact Nat.le_refl _)]
  · rw [Nat.min_eq_right (by omega), List.drop_of_length_le (Nat.le_refl _), List.drop_of_length_le (by omega)]
    simp
/-- the lists at these places hold these rows -/
inductive Rw (H : Hp) : List Addr → List (List Int) → Prop
  | nil : Rw H [] []
  | cons {a : Addr} {r : List Int} {as : List Addr} {rs : List (List Int)} : H a = some (.lst (r.map V.int)) → Rw H as rs → Rw H (a :: as) (r :: rs)
theorem Rw.same {H H' : Hp} (s : Same H H') : ∀ {as rs}, Rw H as rs → Rw H' as rs
  | _, _, .nil => .nil
  | _, _, .cons h t => .cons (s _ _ h) (t.same s)
theorem Rw.app {H : Hp} : ∀ {as rs bs qs}, Rw H as rs → Rw H bs qs → Rw H (as ++ bs) (rs ++ qs)
  | _, _, _, _, .nil, u => u
  | _, _, _, _, .cons h t, u => .cons h (t.app u)
theorem Rw.len {H : Hp} : ∀ {as rs}, Rw H as rs → as.length = rs.length
  | _, _, .nil => rfl
  | _, _, .cons _ t => by rw [List.length_cons, List.length_cons, t.len]
theorem Rw.get {H : Hp} : ∀ {as rs}, Rw H as rs → ∀ (i : Nat) (a : Addr), as[i]? = some a → ∃ r, rs[i]? = some r ∧ H a = some (.lst (r.map V.int))
  | _, _, .nil, _, _, h => by simp at h
  | _, _, .cons h t, 0, _, e => by cases e; exact ⟨_, rfl, h⟩
  | _, _, .cons h t, i + 1, a, e => t.get i a e
theorem Rw.upd {H : Hp} {D : Addr} {o : HO} : ∀ {as rs}, (∀ c ∈ as, c ≠ D) → Rw H as rs → Rw (upd H D o) as rs
  | _, _, _, .nil => .nil
  | _, _, n, .cons h t => .cons (by rw [upd_ne (n _ List.mem_cons_self)]; exact h) (Rw.upd (fun c hc => n c (List.mem_cons_of_mem _ hc)) t)
theorem map_get {α β : Type} {f : α → β} {l : List α} {i : Nat} {y : β} (h : (l.map f)[i]? = some y) : ∃ x, l[i]? = some x ∧ f x = y := by
  rw [List.getElem?_map] at h
  cases e : l[i]? with
  | none => rw [e] at h; cases h
  | some x => rw [e] at h; exact ⟨x, rfl, Option.some.inj h⟩
theorem flat_snoc {α β : Type} (f : α → List β) {l : List α} {i : Nat} {x : α} (h : l[i]? = some x) : (l.take (i + 1)).flatMap f = (l.take i).flatMap f ++ f x := by
  rw [List.take_add_one, h, List.flatMap_append]
  simp
theorem flat_len {α β : Type} (f : α → List β) (l : List α) (i : Nat) : ((l.take i).flatMap f).length ≤ (l.flatMap f).length := by
  have e : l.flatMap f = (l.take i).flatMap f ++ (l.drop i).flatMap f := by rw [← List.flatMap_append, List.take_append_drop]
  rw [e, List.length_append]
  exact Nat.le_add_right _ _
section
variable {P : Program} {w : World} {K : PySem.W.Frag} {mg : Str → Option Value} {base : Heap}
def spOr : Sp := fun vs H Q _ => ∃ n : Nat, vs = [.int (n : Int)] ∧ n ≤ 5 ∧ ∀ p as H', Same H H' → H' p = some (.lst (as.map V.ref)) → Rw H' as (perms n) → Q (.ref p) H'
end
def wordsOf : Nat → List (List Bool)
  | 0 => [[]]
  | n + 1 => (wordsOf n).flatMap fun w => [true :: w, false :: w]
theorem mem_words : ∀ w : List Bool, w ∈ wordsOf w.length
  | [] => List.mem_singleton.mpr rfl
  | b :: w => by
    have ih := mem_words w
    show b :: w ∈ (wordsOf w.length).flatMap _
    rw [List.mem_flatMap]
    refine ⟨w, ih, ?_⟩
    cases b <;> simp
def tally (w : List Bool) : Nat := ((perms (w.length + 1)).filter fun r => decide (byOf r = w)).length
theorem few_raw : ∀ n, n < 5 → ∀ w ∈ wordsOf n, RF.cnt w = (((perms (n + 1)).filter fun r => decide (byOf r = w)).length : Int) := by decide +kernel
theorem few_all (w : List Bool) (h : w.length ≤ 4) : RF.cnt w = (tally w : Int) := few_raw w.length (by omega) w (mem_words w)
theorem two_at {z : Str} (hz : z.cps.toList = [117, 100] ∨ z.cps.toList = [100, 117]) {i : Int} (h0 : 0 ≤ i) (h1 : i < 2) : ∃ b : Bool, atI z.cps.toList i = some (sg b) := by
  have e : i = ((i.toNat : Nat) : Int) := by omega
  have hi : i.toNat = 0 ∨ i.toNat = 1 := by omega
  rw [e]
  rcases hz with hz | hz <;> rw [hz] <;> rcases hi with hi | hi <;> rw [hi]
  · exact ⟨true, atI_nat rfl⟩
  · exact ⟨false, atI_nat rfl⟩
  · exact ⟨false, atI_nat rfl⟩
  · exact ⟨true, atI_nat rfl⟩
theorem ud_two : (Str.ofString "ud").cps.toList = [117, 100] := by decide +kernel
theorem du_two : (Str.ofString "du").cps.toList = [100, 117] := by decide +kernel
theorem at_end {ns : List Int} (h : ns ≠ []) : ∃ v, atI (ns.map V.int) (-1) = some (V.int v) := by
  refine ⟨ns.getLast h, ?_⟩
  have e : ns = ns.dropLast ++ [ns.getLast h] := (List.dropLast_concat_getLast h).symm
  rw [show ns.map V.int = (ns.dropLast ++ [ns.getLast h]).map V.int by rw [← e], List.map_append]
  exact atI_last _ _
theorem cut_word (l : List Bool) (k : Nat) : cutS (wd l) none (some (k : Int)) = wd (l.take k) := by
  unfold cutS
  rw [HT.sIx_nat, HT.sIx_none, Nat.sub_zero, List.drop_zero]
  have hl : (wd l).length = l.length := wd_len l
  have hc : (wd l).cps.toList = l.map sg := by unfold wd; rw [tx_list]
  rw [hl, hc]
  unfold wd tx
  congr 1
  rw [List.map_take]
  have e : (l.map sg).take (min k l.length) = (l.map sg).take k := by
    rw [show l.length = (l.map sg).length by rw [List.length_map]]
    exact (List.take_eq_take_min).symm
  rw [e]
theorem rep_wd (b : Bool) (n : Nat) : tx (List.replicate n [sg b]).flatten = wd (List.replicate n b) := by
  unfold wd
  congr 1
  rw [List.map_replicate]
  induction n with
  | zero => rfl
  | succ n ih => rw [List.replicate_succ, List.replicate_succ, List.flatten_cons, ih]; rfl
theorem dp_ints {H : Hp} {K : PySem.W.Frag} : ∀ ns : List Int, DpAll K H (ns.map V.int) (ns.map PyData.int)
  | [] => .nil
  | n :: r => .cons (.int n) (dp_ints r)
theorem dp_list {H : Hp} {K : PySem.W.Frag} {a : Addr} {ns : List Int} (h : SqL K H a (ns.map V.int)) : Dp K H (.ref a) (.list (ns.map PyData.int)) := .lst h (dp_ints ns)
theorem ints_refl (ns : List Int) : PyData.eqv (.list (ns.map PyData.int)) (.list (ns.map PyData.int)) = true :=
  PySem.SeqAt.eqv_refl _ (PySem.SeqAt.canLay_of_shaped (PySem.W.shaped_ints ns))
abbrev nLw : List Str := ["_law_script", "_law_kind", "_law_word_here", "_law_left", "_law_k", "_law_cell"]
theorem words_sum (ws : List (List Bool)) (c : Nat) (h : ∀ x ∈ ws, x.length ≤ c) : ((ws.map wd).map fun x => x.length).sum ≤ ws.length * c := by
  induction ws with
  | nil => exact Nat.zero_le _
  | cons x r ih =>
    rw [List.map_cons, List.map_cons, List.sum_cons, List.length_cons, wd_len, Nat.succ_mul]
    have h1 := h x List.mem_cons_self
    have h2 := ih fun y hy => h y (List.mem_cons_of_mem _ hy)
    omega
theorem flat_le (ws : List (List Bool)) (c : Nat) (h : ∀ x ∈ ws, x.length ≤ c) : ws.flatten.length ≤ ws.length * c := by
  induction ws with
  | nil => exact Nat.zero_le _
  | cons x r ih =>
    rw [List.flatten_cons, List.length_append, List.length_cons, Nat.succ_mul]
    have h1 := h x List.mem_cons_self
    have h2 := ih fun y hy => h y (List.mem_cons_of_mem _ hy)
    omega
/-- a statement, then the rest from a word between -/
def tMid (t u : TS) : TS := fun D σ H => ∃ Mid : L2.St → Hp → Prop, t { D with nx := Mid } σ H ∧ ∀ σ' H', Mid σ' H' → u D σ' H'
theorem pss_mid {X : Cx} {st : Stmt} {rest : List Stmt} {t u : TS} (h1 : PS X st t) (h2 : PSs X rest u) : PSs X (st :: rest) (tMid t u) := by
  refine ⟨fun pins s σ H D I h => ?_⟩
  obtain ⟨Mid, hm, hu⟩ := h
  refine wpAny_execs_cons (thn (h1.run pins s σ H { D with nx := Mid } I hm) fun f s1 q => ?_)
  cases f with
  | next =>
    obtain ⟨σ', H', I', q⟩ := q
    exact h2.run pins s1 σ' H' D I' (hu σ' H' q)
  | ret v => exact q
  | brk => exact q
  | cont => exact q
section
variable {P : Program} {w : World} {K : PySem.W.Frag} {mg : Str → Option Value} {base : Heap}
def spLw (K : PySem.W.Frag) : Sp := fun vs H Q _ => ∃ (a : Addr) (ns : List Int), vs = [.ref a] ∧ SqL K H a (ns.map V.int) ∧ ∀ (l : List Bool) H', l.length ≤ 64 → Same H H' → Q (.str (wd l)) H'
end
abbrev nLaw : List Str := ["_law_script", "_law_word_here", "_law_whole_here", "_law_other", "_law_few", "_law_row", "_law_kept", "_law_letter", "_law_order", "_law_k", "_law_number"]
/-- a def of the text where its name leads -/
structure Df (K : PySem.W.Frag) (mg : Str → Option Value) (x : Str) (st : Stmt) (ps : List Str) : Type where
  f : Addr
  fd : FuncData
  F : Fun K x x st f fd
  b : Binds K fd ps []
  g : mg x = some (.ref f)
def Un (R : List Int) : Prop := ∀ (i : Nat) (x y : Int), R[i]? = some x → R[i + 1]? = some y → x ≠ y
theorem un_nil : Un [] := fun i x y h => by simp at h
theorem un_snoc {R : List Int} {y : Int} (h : Un R) (hl : ∀ x, R.getLast? = some x → x ≠ y) : Un (R ++ [y]) := by
  intro i a b ha hb
  by_cases h1 : i + 1 < R.length
  · rw [List.getElem?_append_left (by omega)] at ha
    rw [List.getElem?_append_left h1] at hb
    exact h i a b ha hb
  · have hlt : i + 1 < (R ++ [y]).length := (List.getElem?_eq_some_iff.mp hb).1
    rw [List.length_append] at hlt
    have e : i + 1 = R.length := by
      have : i + 1 < R.length + 1 := hlt
      omega
    rw [List.getElem?_append_right (by omega), e, Nat.sub_self] at hb
    have hb' : y = b := by simpa using hb
    subst hb'
    refine hl a ?_
    rw [List.getElem?_append_left (by omega)] at ha
    rw [List.getLast?_eq_getElem?, ← ha]
    congr 1
    omega
theorem get_last {R : List Int} {y : Int} : (R ++ [y]).getLast? = some y := by simp
theorem turns_tx (n : Nat) : ((List.replicate n [117, 100]).flatten).take n = (RF.turns n).map sg := by
  have h : ∀ n, ((List.replicate n [117, 100]).flatten) = (RF.turns (2 * n)).map sg := by
    intro n
    induction n with
    | zero => rfl
    | succ n ih =>
      rw [List.replicate_succ', List.flatten_append, ih, show 2 * (n + 1) = (2 * n + 1) + 1 by omega, RF.turns_succ, RF.turns_succ, List.map_append, List.map_append, List.append_assoc]
      congr 1
      have h1 : (2 * n % 2 == 0) = true := by
        have : 2 * n % 2 = 0 := by omega
        rw [this]; rfl
      have h2 : ((2 * n + 1) % 2 == 0) = false := by
        have : (2 * n + 1) % 2 = 1 := by omega
        rw [this]; rfl
      rw [h1, h2]
      rfl
  rw [h n]
  unfold RF.turns
  rw [List.map_map, List.map_map, ← List.map_take, List.take_range]
  congr 2
  omega
theorem cut_turns (n : Nat) : cutS (tx (List.replicate n [117, 100]).flatten) none (some (n : Int)) = wd (RF.turns n) := by
  unfold cutS
  rw [HT.sIx_nat, HT.sIx_none, Nat.sub_zero, List.drop_zero, tx_list]
  have hl : (tx (List.replicate n [117, 100]).flatten).length = n * 2 := by
    rw [tx_len, List.length_flatten, List.map_replicate, List.sum_replicate_nat]
    rfl
  rw [hl, Nat.min_eq_left (by omega), turns_tx]
  rfl
theorem turns_len (n : Nat) : (RF.turns n).length = n := by
  unfold RF.turns
  rw [List.length_map, List.length_range]
theorem lcC_range {n : Nat} {g : TG} {tt : TT} {te : TE} {vs : List Nat} {σ : L2.St} {H1 : Hp} {D : Addr} {Qd : Hp → Prop} (Pv : Nat → Hp → Prop) (h0 : Pv 0 (upd H1 D (.ext (clL D []))))
    (hs : ∀ i H, i < n → Pv i H → g (.int (0 + (i : Nat))) (wipe σ vs) H fun σ2 H2 => wipe σ2 vs = wipe σ vs ∧ tt σ2 H2 fun b H3 =>
      if b = true then te σ2 H3 fun y H4 => ∃ acc, H4 D = some (.ext (clL D acc)) ∧ acc.length < sizeLine ∧ Pv (i + 1) (upd H4 D (.ext (clL D (acc ++ [y])))) else Pv (i + 1) H3) (hd : ∀ H, Pv n H → Qd H) :
    ∃ W : Nat → Nat → Hp → Prop, (∃ m, W 0 m (upd H1 D (.ext (clL D [])))) ∧ ∀ i m H, W i m H →
      ((Itr 0 n).stop i H ∧ Qd H) ∨ ((Itr 0 n).go i H ∧ ∃ Nx : Hp → Prop, (∀ H', Nx H' → ∃ m', m' < m ∧ W (i + 1) m' H') ∧ ∀ x H', (Itr 0 n).yld i H x H' → g x (wipe σ vs) H' fun σ2 H2 => wipe σ2 vs = wipe σ vs ∧ tt σ2 H2 fun b H3 =>
        if b = true then te σ2 H3 fun y H4 => ∃ acc, H4 D = some (.ext (clL D acc)) ∧ acc.length < sizeLine ∧ Nx (upd H4 D (.ext (clL D (acc ++ [y])))) else Nx H3) := by
  refine ⟨fun i m H => m = n - i ∧ i ≤ n ∧ Pv i H, ⟨n, by simp, Nat.zero_le _, h0⟩, ?_⟩
  rintro i m H ⟨rfl, hi, p⟩
  by_cases hlt : i < n
  · refine .inr ⟨hlt, Pv (i + 1), fun H' p' => ⟨n - (i + 1), by omega, rfl, hlt, p'⟩, fun x H' y => ?_⟩
    obtain ⟨e, y⟩ := y
    subst e y
    exact hs i _ hlt p
  · have e : i = n := by omega
    subst e
    exact .inl ⟨Nat.le_refl _, hd H p⟩
def absI (i : Int) : Int := if i < 0 then -i else i
theorem le_abs (i : Int) : i ≤ absI i := by unfold absI; split <;> omega
theorem abs_nn (i : Int) : 0 ≤ absI i := by unfold absI; split <;> omega
theorem wd_at {l : List Bool} {j c : Nat} (h : (wd l).cps[j]? = some c) : ∃ b, l[j]? = some b ∧ c = sg b := by
  have h2 : (wd l).cps.toList[j]? = some c := by rw [Array.getElem?_toList]; exact h
  unfold wd at h2
  rw [tx_list] at h2
  obtain ⟨b, e, rfl⟩ := map_get h2
  exact ⟨b, e, rfl⟩
theorem clAt_same {K : PySem.W.Frag} {H H' : Hp} {a : Addr} {xs : List V} (h : ClAt K H a xs) (s : Same H H') : ClAt K H' a xs := by
  rcases h with ⟨o, h | h, c⟩ | h
  · exact .inl ⟨o, .inl (s _ _ h), c⟩
  · exact .inl ⟨o, .inr h, c⟩
  · exact .inr h
section
variable {P : Program} {w : World} {K : PySem.W.Frag} {mg : Str → Option Value} {base : Heap}
def spLaw (K : PySem.W.Frag) (T : Addr) : Sp := fun vs H Q _ => ∃ (a : Addr) (ns : List Int), vs = [.ref a] ∧ SqL K H a (ns.map V.int) ∧ ClAt K H a (ns.map V.int) ∧ GxR.TabG H T ∧ ns.length ≤ 63 ∧ ∀ H', Q (.bl true) H'
end
end K1
end
-- part KWalk
section
set_option Elab.async false
set_option linter.all false
set_option maxRecDepth 100000
set_option maxHeartbeats 4000000
namespace K1
open PySem PySem.Spec PyProof.Rows L2 RFI
def topS (i : Nat) : Stmt := PySem.Challenge.pw_risefall_k01_whole_counts.main.body.getD i (.Pass ⟨0, 0, 0, 0⟩)
abbrev sCw : Stmt := topS 6
abbrev sIw : Stmt := topS 7
abbrev sCr : Stmt := topS 8
abbrev sWb : Stmt := topS 9
abbrev sWy : Stmt := topS 10
abbrev sCo : Stmt := topS 11
abbrev sWo : Stmt := topS 12
abbrev sCa : Stmt := topS 14
abbrev sDr : Stmt := topS 15
abbrev sLw : Stmt := topS 16
abbrev sLc : Stmt := topS 17
abbrev sWh : Stmt := topS 19
abbrev sOr : Stmt := topS 20
abbrev sBy : Stmt := topS 21
abbrev sLaw : Stmt := topS 22
theorem scCw : FnScope ["word"] ["word"] (defScope sCw) := ⟨rfl, rfl, rfl, by decide +kernel, rfl, by decide +kernel, by decide +kernel⟩
theorem scIw : FnScope ["value"] ["value"] (defScope sIw) := ⟨rfl, rfl, rfl, by decide +kernel, rfl, by decide +kernel, by decide +kernel⟩
theorem scCr : FnScope ["row"] ["row"] (defScope sCr) := ⟨rfl, rfl, rfl, by decide +kernel, rfl, by decide +kernel, by decide +kernel⟩
theorem scWb : FnScope ["ways", "letter"] ["ways", "letter"] (defScope sWb) := ⟨rfl, rfl, rfl, by decide +kernel, rfl, by decide +kernel, by decide +kernel⟩
theorem scWy : FnScope ["word", "ways", "letter"] ["word"] (defScope sWy) := ⟨rfl, rfl, rfl, by decide +kernel, rfl, by decide +kernel, by decide +kernel⟩
theorem scCo : FnScope ["word"] ["word"] (defScope sCo) := ⟨rfl, rfl, rfl, by decide +kernel, rfl, by decide +kernel, by decide +kernel⟩
section
variable {P : Program} {w : World} {K : PySem.W.Frag} {mg : Str → Option Value} {base : Heap}
theorem ok_cw {f : Addr} {fd : FuncData} (F : Fun K "check_word" "check_word" sCw f fd) (N : Nm mg) : FnOk P w K mg base CX0 1 f fd ["word"] spCw := by
  refine F.ok scCw (fun vs H Q E h => ?_) (fun cdv A outer s H vs Q E hr h => ?_)
  · obtain ⟨l, rfl, _⟩ := h
    rfl
  · obtain ⟨l, rfl, hl, q⟩ := h
    refine ⟨_, pss_one (ps_if (PW.pt (pw_or (pt_not (pt_val (pe_callB call_isi (by rfl) N.isi boot_isinstance (pa_cons (pv 0) (pa_cons (pe_bltn (by rfl) N.str (u := .type "str") (v := .ty "str") (by decide +kernel) rfl) pa_nil)))))
        (pw_or1 (pt_cmpR op_ne (pe_op op_add (pe_m1 PySem.F.slot_str_count PySem.F.type_str_count mt_count (pv 0) pe_str) (pe_m1 PySem.F.slot_str_count PySem.F.type_str_count mt_count (pv 0) pe_str)) (pe_callB call_len_str (by rfl) N.len PySem.boot_len (pa_cons (pv 0) pa_nil)) (nomark _)))))
      (pss_one ps_never) pss_nil), ?_⟩
    refine ⟨_, rfl, _, _, _, _, true, rfl, .ty "str", .base (.str _), kit_ty (by decide +kernel), true, rfl, ?_⟩
    refine iteF ?_
    refine ⟨_, rfl, ⟨_, rfl⟩, _, _, rfl, rfl, _, rfl, ⟨_, rfl⟩, _, _, rfl, rfl, ?_⟩
    have ht : Txt.count (wd l) (Str.ofString "u") + Txt.count (wd l) (Str.ofString "d") = ((wd l).length : Int) := by
      rw [show (Str.ofString "u") = (⟨#[117]⟩ : Str) by decide +kernel, show (Str.ofString "d") = (⟨#[100]⟩ : Str) by decide +kernel, count_cnt, count_cnt, wd_len]
      unfold wd
      rw [tx_list]
      exact count_word l
    refine ⟨_, _, rfl, rfl, _, rfl, _, rfl, by rw [wd_len]; exact Nat.le_trans hl (by decide), ?_⟩
    exact ⟨rfl, _, rfl, iteNS (congrArg V.int ht) q⟩
theorem ok_wb {f : Addr} {fd : FuncData} (F : Fun K "ways_behind" "ways_behind" sWb f fd) (N : Nm mg) : FnOk P w K mg base CX0 1 f fd ["ways", "letter"] (spWb K) := by
  refine F.ok scWb (fun vs H Q E h => ?_) (fun cdv A outer s H vs Q E hr h => ?_)
  · obtain ⟨a, ws, b, rfl, _⟩ := h
    rfl
  · obtain ⟨a, ws, b, rfl, hS, hl, q⟩ := h
    refine ⟨_, pss_cons (ps_if (pt_cmpR op_eq (pv 1) pe_str (nomark _))
        (pss_one (ps_ret (pe_op op_cat (pe_lst (pa_cons pe_int pa_nil)) (pe_listAcc rfl (by rfl) N.list (by rfl) N.acc (pa_cons (pv 0) pa_nil))))) pss_nil)
      (pss_one (ps_ret (pe_op op_cat (pe_revL (pe_listAcc rfl (by rfl) N.list (by rfl) N.acc (pa_cons (pe_revL (pv 0)) pa_nil))) (pe_lst (pa_cons pe_int pa_nil))))), ?_⟩
    have hsm : (1001 : Nat) ≤ sizeLine := by decide
    refine ⟨_, rfl, rfl, _, rfl, ?_⟩
    cases b with
    | true =>
      refine ite2 (fun _ => ?_) (fun e => absurd (decide_eq_true (by decide +kernel)) e)
      -- [0] + list(accumulate(ways))
      refine ⟨by decide, fun o no => ⟨_, rfl, a, ws, rfl, (same_upd no).seq hS, fun p np => ?_⟩⟩
      have npo : o ≠ p := ne_of_none upd_same np
      refine ⟨o, p, _, _, rfl, rfl, by rw [upd_ne npo, upd_same], upd_same, ?_, fun r nr => ?_⟩
      · rw [List.length_map, psum_len]
        show 1 + ws.length ≤ sizeLine
        omega
      · refine q _ r ((same_upd no).trans ((same_upd np).trans (same_upd nr))) (((same_upd no).trans (same_upd np)).free nr) ?_
        rw [upd_same, psum_pre0]
        rfl
    | false =>
      refine ite2 (fun e => absurd (of_decide_eq_true e) (by decide +kernel)) (fun _ => ?_)
      refine ⟨_, rfl, a, _, rfl, hS, fun p1 n1 => ⟨p1, ws.reverse, rfl, .inl (.inl (by rw [upd_same, List.map_reverse])), fun p2 n2 => ?_⟩⟩
      refine ⟨p2, _, rfl, .inl (.inl upd_same), fun p3 n3 => ?_⟩
      refine ⟨by decide, fun p4 n4 => ?_⟩
      have n34 : p3 ≠ p4 := ne_of_none upd_same n4
      refine ⟨p3, p4, _, _, rfl, rfl, by rw [upd_ne n34, upd_same], upd_same, ?_, fun r nr => ?_⟩
      · rw [List.length_reverse, List.length_map, psum_len, List.length_reverse]
        show ws.length + 1 ≤ sizeLine
        omega
      · have S4 := ((same_upd n1).trans (same_upd n2)).trans ((same_upd n3).trans (same_upd (o := .lst [V.int 0]) n4))
        refine q _ r (S4.trans (same_upd nr)) (S4.free nr) ?_
        rw [upd_same, psum_pre0, ← List.map_reverse]
        show some (HO.lst ((RF.pre 0 ws.reverse).reverse.map V.int ++ [V.int 0])) = some (HO.lst (((RF.pre 0 ws.reverse).reverse ++ [0]).map V.int))
        rw [List.map_append]
        rfl
theorem ok_wy {f fW : Addr} {fd fdW : FuncData} (F : Fun K "ways_of" "ways_of" sWy f fd) (N : Nm mg)
    (FW : Fun K "ways_behind" "ways_behind" sWb fW fdW) (bW : Binds K fdW ["ways", "letter"] []) (gW : mg "ways_behind" = some (.ref fW)) : FnOk P w K mg base CX0 2 f fd ["word"] spWy := by
  have GW : FnOk P w K mg base CX0 1 fW fdW ["ways", "letter"] (spWb K) := ok_wb FW N
  refine F.ok scWy (fun vs H Q E h => ?_) (fun cdv A outer s H vs Q E hr h => ?_)
  · obtain ⟨l, rfl, _⟩ := h
    rfl
  · obtain ⟨l, rfl, hl, q⟩ := h
    refine ⟨_, pss_cons (ps_set (i := 1) scWy.nd rfl (.inl rfl) (pe_lst (pa_cons pe_int pa_nil)))
      (pss_cons (ps_for PassesOwn.never rfl (pi_str (pv 0)) (pg_name (i := 2) scWy.nd rfl (.inl rfl))
        (pss_one (ps_set (i := 1) scWy.nd rfl (.inl rfl) (pe_call GW hr (by rfl) gW FW.kp bW .nil pass0 (pa_cons (pv 1) (pa_cons (pv 2) pa_nil))))))
      (pss_one (ps_ret (pv 1)))), ?_⟩
    refine ⟨by decide, fun o no => ?_⟩
    refine ⟨_, rfl, _, rfl, for_word (fun i σ H3 => ∃ p v, σ = [some (.str (wd l)), some (.ref p), v] ∧ Same H H3 ∧ H p = none ∧ H3 p = some (.lst ((RF.run (l.take i) [1]).map V.int)))
      ⟨o, none, rfl, same_upd no, no, by rw [upd_same]; rfl⟩ (fun i b σ H3 hb hW => ?_) (fun σ H3 hW => ?_)⟩
    · obtain ⟨p, v, rfl, sm, np, hp⟩ := hW
      have hi : i < l.length := (List.getElem?_eq_some_iff.mp hb).1
      refine ⟨_, rfl, _, rfl, p, RF.run (l.take i) [1], b, rfl, .inl (.inl hp), ?_, fun H4 p4 s4 n4 h4 => ?_⟩
      · rw [RF.run_len, List.length_take]
        show 1 + min i l.length ≤ 1000
        omega
      · refine ⟨p4, _, rfl, sm.trans s4, sm.free n4, ?_⟩
        rw [h4, run_take hb]
    · obtain ⟨p, v, rfl, sm, np, hp⟩ := hW
      refine ⟨_, rfl, ?_⟩
      rw [List.take_of_length_le (Nat.le_refl _)] at hp
      exact q H3 p sm np hp
theorem ok_co {f fC fW fY : Addr} {fd fdC fdW fdY : FuncData} (F : Fun K "count" "count" sCo f fd) (N : Nm mg) (FC : Fun K "check_word" "check_word" sCw fC fdC) (bC : Binds K fdC ["word"] []) (gC : mg "check_word" = some (.ref fC))
    (FY : Fun K "ways_of" "ways_of" sWy fY fdY) (bY : Binds K fdY ["word"] []) (gY : mg "ways_of" = some (.ref fY))
    (FW : Fun K "ways_behind" "ways_behind" sWb fW fdW) (bW : Binds K fdW ["ways", "letter"] []) (gW : mg "ways_behind" = some (.ref fW)) : FnOk P w K mg base CX0 3 f fd ["word"] spCo := by
  have GC : FnOk P w K mg base CX0 1 fC fdC ["word"] spCw := ok_cw FC N
  have GY : FnOk P w K mg base CX0 2 fY fdY ["word"] spWy := ok_wy FY N FW bW gW
  refine F.ok scCo (fun vs H Q E h => ?_) (fun cdv A outer s H vs Q E hr h => ?_)
  · obtain ⟨l, rfl, _⟩ := h
    rfl
  · obtain ⟨l, rfl, hl, q⟩ := h
    refine ⟨_, pss_cons (ps_expr (pe_call GC (hr.mono (by decide)) (by rfl) gC FC.kp bC .nil pass0 (pa_cons (pv 0) pa_nil)))
      (pss_one (ps_ret (pe_callB (cr_sum rfl) (by rfl) N.sum (by decide +kernel) (pa_cons (pe_call GY hr (by rfl) gY FY.kp bY .nil pass0 (pa_cons (pv 0) pa_nil)) pa_nil)))), ?_⟩
    refine ⟨_, rfl, l, rfl, by omega, ?_⟩
    refine ⟨_, rfl, l, rfl, hl, fun H3 p sm np hp => ?_⟩
    exact ⟨p, _, rfl, .inl (.inl hp), q H3 sm⟩
end
theorem scWo : FnScope ["row", "letters", "here", "behind"] ["row"] (defScope sWo) := ⟨rfl, rfl, rfl, by decide +kernel, rfl, by decide +kernel, by decide +kernel⟩
section
variable {P : Program} {w : World} {K : PySem.W.Frag} {mg : Str → Option Value} {base : Heap}
theorem ok_cr {f c T fI : Addr} {fd fdI : FuncData} (F : Fun K "check_row" "check_row" sCr f fd) (N : Nm mg) (hc : fd.code = .ref c) (TB : GxR.TabB base mg c T) (FI : Fun K "is_whole" "is_whole" sIw fI fdI) (bI : Binds K fdI ["value"] []) (gI : mg "is_whole" = some (.ref fI)) :
    FnOk P w K mg base CX0 2 f fd ["row"] (spCr K T) := by
  refine okT F hc scCr (fun vs H Q E h => ?_) (fun A outer s H vs Q E hr h => ?_)
  · obtain ⟨a, ns, rfl, _⟩ := h
    rfl
  · obtain ⟨a, ns, rfl, hS, hT, q⟩ := h
    refine ⟨_, pss_cons (ps_if (pt_not (pt_val (pe_callB call_isi (by rfl) N.isi boot_isinstance (pa_cons (pv 0) (pa_cons (pe_bltn (by rfl) N.list (u := .type "list") (v := .ty "list") (by decide +kernel) rfl) pa_nil))))) (pss_one ps_never) pss_nil)
      (pss_one (ps_if (pt_not (pt_val (pe_allIsw FI scIw rfl rfl rfl rfl rfl bI N.isi N.int N.bool gI hr (by rfl) N.all TB rfl ⟨rfl, rfl, by decide +kernel, rfl, rfl, nofree_of rfl⟩ rfl (pv 0) (by intro _; rfl)))) (pss_one ps_never) pss_nil)), ?_⟩
    refine ⟨_, rfl, _, _, _, _, true, rfl, .ty "list", ty_list hS, kit_ty (by decide +kernel), true, rfl, ?_⟩
    refine iteF ?_
    refine ⟨_, rfl, a, ns.map V.int, ns.map (fun _ => true), rfl, hS, hT, by simp, fun i y b hy hb => ?_, fun H2 h2 => ?_⟩
    · rw [List.getElem?_map] at hy hb
      cases e : ns[i]? with
      | none => rw [e] at hy; cases hy
      | some n =>
        rw [e] at hy hb
        cases hy
        cases hb
        exact ⟨_, true, false, .int n, kit_ty (by decide +kernel), kit_ty (by decide +kernel), rfl⟩
    · have e : (ns.map (fun _ => true)).all id = true := by simp
      rw [e]
      exact ⟨true, rfl, iteF (q H2 (tabbed_same h2) h2.1)⟩
theorem ok_wo {f fC T : Addr} {fd fdC : FuncData} (F : Fun K "word_of" "word_of" sWo f fd) (N : Nm mg) (FC : Fun K "check_row" "check_row" sCr fC fdC) (bC : Binds K fdC ["row"] []) (gC : mg "check_row" = some (.ref fC)) (GC : FnOk P w K mg base CX0 2 fC fdC ["row"] (spCr K T)) :
    FnOk P w K mg base CX0 3 f fd ["row"] (spWo K T) := by
  refine F.ok scWo (fun vs H Q E h => ?_) (fun cdv A outer s H vs Q E hr h => ?_)
  · obtain ⟨a, ns, rfl, _⟩ := h
    rfl
  · obtain ⟨a, ns, rfl, hS, hCl, hT, hl1, hl2, hd, q⟩ := h
    refine ⟨_, pss_cons (ps_expr (pe_call GC hr (by rfl) gC FC.kp bC .nil pass0 (pa_cons (pv 0) pa_nil)))
      (pss_cons (ps_if (pt_not (pt_truth (pv 0) (by intro _; rfl))) (pss_one ps_never) pss_nil)
      (pss_cons (ps_set (i := 1) scWo.nd rfl (.inl rfl) (pe_lst pa_nil))
      (pss_cons (ps_for PassesOwn.never rfl (pi_pw (by rfl) N.pw (pa_cons (pv 0) pa_nil))
          (pg_tup rfl (pgs_cons (pg_name (i := 2) scWo.nd rfl (.inl rfl)) (pgs_cons (pg_name (i := 3) scWo.nd rfl (.inl rfl)) pgs_nil)))
        (pss_cons (ps_if (pt_cmpR op_eq (pv 2) (pv 3) (nomark _)) (pss_one ps_never) pss_nil)
        (pss_one (ps_expr (pe_bm PySem.F.plainAttrs_list PySem.F.slot_list_append PySem.F.type_list_append mt_append (pv 1) (pa_cons (pe_ifExp (pt_cmpR op_lt (pv 2) (pv 3) (nomark _)) pe_str pe_str) pa_nil))))))
      (pss_one (ps_ret (pe_join pe_str (pv 1))))))), ?_⟩
    refine ⟨_, rfl, a, ns, rfl, hS, hT, fun H1 s1 t1 => ?_⟩
    have hS1 := sq_tab hT hS s1
    have hC1 := cl_tab hT hCl s1
    have hne : (ns.map V.int).isEmpty = false := by cases ns with | nil => cases hl1 | cons _ _ => rfl
    refine ⟨_, rfl, true, .inl ⟨_, hS1, by rw [hne]; rfl⟩, ?_⟩
    refine iteF ?_
    refine ⟨Nat.zero_le _, fun o no => ?_⟩
    have s2 : SameP T H1 (upd H1 o (.lst [])) := Same.toP (same_upd no)
    refine ⟨_, rfl, a, ns.map V.int, rfl, (same_upd no).seq hS1, for_pw (fun i σ H3 => ∃ x2 x3, σ = [some (.ref a), some (.ref o), x2, x3] ∧ SameP T H1 H3 ∧ GxR.TabG H3 T ∧ H3 o = some (.lst (((byOf ns).take i).map fun b => V.str (wd [b]))))
      ⟨none, none, rfl, s2, tab_same t1 (same_upd no), by rw [upd_same]; rfl⟩ (fun i σ H3 hW => ?_) (fun i x y U σ H3 hx hy hW nU => ?_) (fun σ H3 hW => ?_)⟩
    · obtain ⟨x2, x3, rfl, s3, t3, e3⟩ := hW
      exact ⟨sq_tab t1 hS1 s3, cl_tab t1 hC1 s3⟩
    · obtain ⟨x2, x3, rfl, s3, t3, e3⟩ := hW
      rw [List.getElem?_map] at hx hy
      cases ex : ns[i]? with
      | none => rw [ex] at hx; cases hx
      | some m =>
        cases ey : ns[i + 1]? with
        | none => rw [ey] at hy; cases hy
        | some n =>
          rw [ex] at hx
          rw [ey] at hy
          cases hx
          cases hy
          have nUo : o ≠ U := ne_of_none e3 nU
          refine ⟨U, _, rfl, .inl (.inl upd_same), rfl, _, _, rfl, _, _, rfl, rfl, ?_⟩
          refine ⟨_, rfl, _, rfl, rfl, _, rfl, ite2 (fun e => absurd (V.int.inj (of_decide_eq_true e)) (hd i m n ex ey)) (fun _ => ?_)⟩
          have eo : upd H3 U (.tup [V.int m, V.int n]) o = some (.lst (((byOf ns).take i).map fun b => V.str (wd [b]))) := by rw [upd_ne nUo]; exact e3
          have fin : ∀ (z : V), z = V.str (wd [decide (m < n)]) → ∃ l xs y, V.ref o = .ref l ∧ [z] = [y] ∧ upd H3 U (.tup [V.int m, V.int n]) l = some (.lst xs) ∧ xs.length < sizeLine ∧
              (∃ x2 x3, ([some (.ref a), some (.ref o), some (V.int m), some (V.int n)] : L2.St) = [some (.ref a), some (.ref o), x2, x3] ∧ SameP T H1 (upd (upd H3 U (.tup [V.int m, V.int n])) l (.lst (xs ++ [y]))) ∧ GxR.TabG (upd (upd H3 U (.tup [V.int m, V.int n])) l (.lst (xs ++ [y]))) T ∧
                upd (upd H3 U (.tup [V.int m, V.int n])) l (.lst (xs ++ [y])) o = some (.lst (((byOf ns).take (i + 1)).map fun b => V.str (wd [b])))) := by
            intro z ez
            refine ⟨o, _, z, rfl, rfl, eo, ?_, _, _, rfl, fun b ob hb e => ?_, ?_, ?_⟩
            · rw [List.length_map, List.length_take, byOf_len]
              exact Nat.lt_of_le_of_lt (show min i (ns.length - 1) ≤ 900 by omega) (by decide)
            · have nb : b ≠ o := ne_of_none e no
              rw [upd_ne nb]
              exact same_upd nU b ob (s3 b ob hb e)
            · obtain ⟨ps, eP, hp⟩ := t3
              refine ⟨ps, ?_, hp⟩
              have nTo : T ≠ o := ne_of eP e3 (fun z => by cases z)
              rw [upd_ne nTo]
              exact same_upd nU T _ eP
            · rw [upd_same, List.take_add_one, byOf_get ns i m n ex ey, List.map_append, ez]
              rfl
          refine ⟨_, rfl, .inl ⟨rfl, _, .inl (.inl eo)⟩, _, rfl, _, rfl, m, n, rfl, rfl, _, rfl, ite2 (fun e => ?_) (fun e => ?_)⟩
          · exact fin _ (by rw [show decide (m < n) = true from e]; rfl)
          · exact fin _ (by rw [show decide (m < n) = false by simpa using e]; rfl)
    · obtain ⟨x2, x3, rfl, s3, t3, e3⟩ := hW
      rw [List.length_map, List.take_of_length_le (by rw [byOf_len]; exact Nat.le_refl _)] at e3
      refine ⟨⟨_, rfl⟩, _, rfl, _, o, (byOf ns).map (fun b => wd [b]), rfl, rfl, .inl (.inl (.inl (by rw [e3, List.map_map]; rfl))), ?_, ?_⟩
      · rw [List.map_map, List.length_map, byOf_len]
        have e1 : ((byOf ns).map (fun b => (wd [b]).length)) = List.replicate (byOf ns).length 1 := by
          rw [List.eq_replicate_iff]
          refine ⟨List.length_map .., fun b hb => ?_⟩
          obtain ⟨c, _, rfl⟩ := List.mem_map.mp hb
          exact wd_len [c]
        rw [show ((fun x => x.length) ∘ fun b => wd [b]) = (fun b => (wd [b]).length) from rfl, e1, List.sum_replicate_nat, byOf_len]
        show (ns.length - 1) * 1 + (ns.length - 1) * 0 ≤ 16777216
        omega
      · rw [join_wd]
        exact q H3 (SameP.trans s1 s3) t3
end
theorem scCa : FnScope ["_law_script", "_law_k"] ["_law_script", "_law_k"] (defScope sCa) := ⟨rfl, rfl, rfl, by decide +kernel, rfl, by decide +kernel, by decide +kernel⟩
theorem scDr : FnScope ["_law_cell", "_law_k", "_law_many", "_law_primes"] ["_law_cell", "_law_k", "_law_many"] (defScope sDr) := ⟨rfl, rfl, rfl, by decide +kernel, rfl, by decide +kernel, by decide +kernel⟩
theorem scWh : FnScope ["_law_number"] ["_law_number"] (defScope sWh) := ⟨rfl, rfl, rfl, by decide +kernel, rfl, by decide +kernel, by decide +kernel⟩
theorem scLc : FnScope nLc ["_law_word_here"] (defScope sLc) := ⟨rfl, rfl, rfl, by decide +kernel, rfl, by decide +kernel, by decide +kernel⟩
theorem scBy : FnScope nBy ["_law_row"] (defScope sBy) := ⟨rfl, rfl, rfl, by decide +kernel, rfl, by decide +kernel, by decide +kernel⟩
section
variable {P : Program} {w : World} {K : PySem.W.Frag} {mg : Str → Option Value} {base : Heap}
theorem ok_ca {f : Addr} {fd : FuncData} (F : Fun K "_law_cell_at" "_law_cell_at" sCa f fd) (N : Nm mg) : FnOk P w K mg base CX0 1 f fd ["_law_script", "_law_k"] (spCa K) := by
  refine F.ok scCa (fun vs H Q E h => ?_) (fun cdv A outer s H vs Q E hr h => ?_)
  · obtain ⟨a, ns, k, rfl, _⟩ := h
    rfl
  · obtain ⟨a, ns, k, rfl, hS, q⟩ := h
    refine ⟨_, pss_cons (ps_if (pt_cmpR op_lt (pv 1) (pe_callB call_len_seq (by rfl) N.len PySem.boot_len (pa_cons (pv 0) pa_nil)) (nomark _)) (pss_one (ps_ret (pe_ix ix_list (pv 0) (pv 1) (fun _ _ => rfl)))) pss_nil) (pss_one (ps_ret pe_int)), ?_⟩
    refine ⟨_, rfl, _, rfl, a, _, rfl, .inl hS, ?_⟩
    refine ⟨_, _, rfl, rfl, _, rfl, ?_⟩
    refine ite2 (fun hd => ?_) (fun hd => ?_)
    · have hk : k < ns.length := by
        have h := of_decide_eq_true hd
        rw [List.length_map] at h
        exact Int.ofNat_lt.mp h
      refine ⟨_, rfl, _, rfl, a, _, _, _, rfl, rfl, hS, atI_nat (v := V.int ns[k]) (by simp [hk]), ?_⟩
      have e : ns.getD k 0 = ns[k] := by simp [List.getD, hk]
      rw [e] at q
      exact q
    · have hk : ¬ k < ns.length := fun h => hd (decide_eq_true (by rw [List.length_map]; exact Int.ofNat_lt.mpr h))
      have e : ns.getD k 0 = 0 := by
        rw [List.getD_eq_getElem?_getD, List.getElem?_eq_none (Nat.le_of_not_lt hk)]; rfl
      rw [e] at q
      exact q
theorem ok_dr {f : Addr} {fd : FuncData} (F : Fun K "_law_draw" "_law_draw" sDr f fd) (N : Nm mg) : FnOk P w K mg base CX0 1 f fd ["_law_cell", "_law_k", "_law_many"] spDr := by
  refine F.ok scDr (fun vs H Q E h => ?_) (fun cdv A outer s H vs Q E hr h => ?_)
  · obtain ⟨c, k, m, rfl, _⟩ := h
    rfl
  · obtain ⟨c, k, m, rfl, hk, hm, q⟩ := h
    refine ⟨_, pss_cons (ps_set (i := 3) scDr.nd rfl (.inl rfl) (pe_tup (pa_cons pe_int (pa_cons pe_int (pa_cons pe_int (pa_cons pe_int (pa_cons pe_int (pa_cons pe_int (pa_cons pe_int (pa_cons pe_int (pa_cons pe_int (pa_cons pe_int (pa_cons pe_int (pa_cons pe_int (pa_cons pe_int (pa_cons pe_int (pa_cons pe_int (pa_cons pe_int pa_nil))))))))))))))))))
      (pss_one (ps_ret (pe_op op_modN (pe_op op_modN (pe_op op_add (pe_op op_mul (pv 0) pe_int) (pe_op op_mul (pv 1) pe_int)) (pe_ix ix_tup (pv 3) (pe_op op_modN (pv 1) pe_int) (fun _ _ => rfl))) (pv 2)))), ?_⟩
    refine ⟨by decide, fun t nt => ?_⟩
    refine ⟨_, rfl, _, _, rfl, rfl, .inr ⟨by decide, by decide⟩, ?_⟩
    refine ⟨_, rfl, _, _, rfl, rfl, .inr ⟨by decide, by decide⟩, ?_⟩
    refine ⟨_, _, rfl, rfl, _, rfl, _, rfl, _, _, rfl, rfl, (show (16 : Int) ≠ 0 by decide), ?_⟩
    have e16 : ((k : Int)).fmod 16 = (k : Int) := by rw [Int.fmod_eq_emod_of_nonneg _ (by decide)]; omega
    have hl : pr16.length = 16 := rfl
    have hpos : ∀ x ∈ pr16, x ≠ 0 := by decide
    have hk2 : k < pr16.length := by rw [hl]; exact hk
    refine ⟨t, pr16.map V.int, ((k : Int)).fmod 16, V.int pr16[k], rfl, rfl, SqT.of (by rw [upd_same]; rfl), by rw [e16]; exact atI_nat (by simp [hk2]), ?_⟩
    refine ⟨_, _, rfl, rfl, hpos _ (List.getElem_mem hk2), ?_⟩
    refine ⟨_, rfl, _, _, rfl, rfl, Int.ne_of_gt hm, ?_⟩
    refine q _ _ ?_ ?_ (same_upd nt)
    · rw [Int.fmod_eq_emod_of_nonneg _ (Int.le_of_lt hm)]; exact Int.emod_nonneg _ (Int.ne_of_gt hm)
    · exact Int.fmod_lt_of_pos _ hm
theorem ok_wh {f : Addr} {fd : FuncData} (F : Fun K "_law_whole" "_law_whole" sWh f fd) (N : Nm mg) : FnOk P w K mg base CX0 1 f fd ["_law_number"] spWh := by
  refine F.ok scWh (fun vs H Q E h => ?_) (fun cdv A outer s H vs Q E hr h => ?_)
  · obtain ⟨a, rfl, _⟩ := h
    rfl
  · obtain ⟨n, rfl, q⟩ := h
    refine ⟨_, pss_one (ps_ret (pe_and (pe_callB call_isi (by rfl) N.isi boot_isinstance (pa_cons (pv 0) (pa_cons (pe_bltn (by rfl) N.int (u := .type "int") (v := .ty "int") (by decide +kernel) rfl) pa_nil)))
      (pe_one (pe_not (pe_callB call_isi (by rfl) N.isi boot_isinstance (pa_cons (pv 0) (pa_cons (pe_bltn (by rfl) N.bool (u := .type "bool") (v := .ty "bool") (by decide +kernel) rfl) pa_nil))))))), ?_⟩
    refine ⟨_, rfl, _, _, _, _, true, rfl, .ty "int", .base (.int _), kit_ty (by decide +kernel), true, rfl, ?_⟩
    refine iteT ?_
    refine ⟨_, rfl, _, _, _, _, false, rfl, .ty "bool", .base (.int _), kit_ty (by decide +kernel), false, rfl, q⟩
theorem ok_lc {f : Addr} {fd : FuncData} (F : Fun K "_law_count" "_law_count" sLc f fd) (N : Nm mg) : FnOk P w K mg base CX0 1 f fd ["_law_word_here"] spLc := by
  refine F.ok scLc (fun vs H Q E h => ?_) (fun cdv A outer s H vs Q E hr h => ?_)
  · obtain ⟨l, rfl, _⟩ := h
    rfl
  · obtain ⟨l, rfl, hl, q⟩ := h
    have nd := scLc.nd
    refine ⟨_, pss_cons (ps_set (i := 1) nd rfl (.inl rfl) (pe_lst (pa_cons pe_int pa_nil)))
      (pss_cons (ps_for PassesOwn.never rfl (pi_str (pv 0)) (pg_name (i := 2) nd rfl (.inl rfl))
        (pss_cons (ps_set (i := 3) nd rfl (.inr rfl) (pe_lst (pa_cons pe_int pa_nil)))
        (pss_cons (ps_for PassesOwn.never rfl (pi_list (pv 1)) (pg_name (i := 4) nd rfl (.inl rfl))
          (pss_one (ps_expr (pe_bm PySem.F.plainAttrs_list PySem.F.slot_list_append PySem.F.type_list_append mt_append (pv 3) (pa_cons (pe_op op_add (pe_ix ix_list (pv 3) (pe_un un_neg pe_int) (fun _ _ => rfl)) (pv 4)) pa_nil)))))
        (pss_one (ps_set (i := 1) nd rfl (.inl rfl) (pe_ifExp (pt_cmpR op_eq (pv 2) pe_str (nomark _)) (pv 3)
          (pe_lc (own := [("_law_many", 4)]) (g := gName 4) rfl nd (pi_list (pv 3)) (blkOk_by (N := nLc) (sc := defScope sLc) (by decide +kernel)) (fun _ _ _ _ _ => pg_name (i := 4) nd rfl (Or.inl rfl)) (fun _ _ _ _ _ => pts_nil)
            (fun _ _ _ _ _ => pe_op op_sub (pe_ix (r := rIxL K) ix_list (pv 3) (pe_un un_neg pe_int) (fun _ _ => rfl)) (pv 4)))))))))
      (pss_one (ps_ret (pe_callB (cr_sum rfl) (by rfl) N.sum (by decide +kernel) (pa_cons (pv 1) pa_nil))))), ?_⟩
    have hsm : (2000 : Nat) ≤ sizeLine := by decide
    refine ⟨by decide, fun o no => ?_⟩
    refine ⟨_, rfl, _, rfl, for_word (fun i σ H3 => ∃ p v2 v3 v4, σ = [some (.str (wd l)), some (.ref p), v2, v3, v4] ∧ Same H H3 ∧ H3 p = some (.lst ((RF.run (l.take i) [1]).map V.int)))
      ⟨o, none, none, none, rfl, same_upd no, by rw [upd_same]; rfl⟩ (fun i b σ H3 hb hW => ?_) (fun σ H3 hW => ?_)⟩
    · obtain ⟨p, v2, v3, v4, rfl, sm, hp⟩ := hW
      have hi : i < l.length := (List.getElem?_eq_some_iff.mp hb).1
      generalize hws : RF.run (l.take i) [1] = ws at hp
      have hwl : ws.length ≤ 1000 := by
        rw [← hws, RF.run_len, List.length_take]
        show 1 + min i l.length ≤ 1000
        omega
      refine ⟨by decide, fun o2 no2 => ?_⟩
      refine ⟨_, rfl, p, rfl, ⟨_, (same_upd no2).seq (.inl (.inl hp))⟩, for_list (xs := ws.map V.int) (fun j σ H4 => ∃ v4, σ = [some (.str (wd l)), some (.ref p), some (.str (wd [b])), some (.ref o2), v4] ∧ Same H3 H4 ∧ H4 o2 = some (.lst ((0 :: RF.pre 0 (ws.take j)).map V.int)))
        ⟨v4, rfl, same_upd no2, by rw [upd_same]; rfl⟩ (fun j σ H4 _ hW => ?_) (fun j x σ H4 hx hW => ?_) (fun σ H4 hW => ?_)⟩
      · obtain ⟨v4, rfl, s4, _⟩ := hW
        exact s4.seq (.inl (.inl hp))
      · obtain ⟨v4, rfl, s4, ho⟩ := hW
        rw [List.getElem?_map] at hx
        cases ex : ws[j]? with
        | none => rw [ex] at hx; cases hx
        | some m =>
          rw [ex] at hx
          cases hx
          refine ⟨_, rfl, .inl ⟨rfl, _, .inl (.inl ho)⟩, _, rfl, _, rfl, o2, _, _, _, rfl, rfl, .inl (.inl ho), at_last _, ?_⟩
          refine ⟨_, rfl, _, _, rfl, rfl, o2, _, _, rfl, rfl, ho, ?_, ?_⟩
          · rw [List.length_map, List.length_cons, RF.pre_len, List.length_take]
            exact Nat.lt_of_lt_of_le (show min j ws.length + 1 < 2000 by omega) hsm
          · refine ⟨_, rfl, ?_, ?_⟩
            · intro b2 x2 e2
              have nb : b2 ≠ o2 := fun z => by
                have h1 : b2 ≠ o2 := ne_of_none e2 no2
                exact h1 z
              rw [upd_ne nb]
              exact s4 b2 x2 e2
            · rw [upd_same, pre_snoc ex]
              show some (HO.lst (_ ++ [V.int _])) = some (HO.lst ((0 :: (_ ++ [_])).map V.int))
              rw [← List.cons_append, List.map_append]
              rfl
      · obtain ⟨v4, rfl, s4, ho⟩ := hW
        rw [List.length_map, List.take_of_length_le (Nat.le_refl _)] at ho
        have S : Same H H4 := sm.trans s4
        have ho' : H4 o2 = some (.lst ((RF.stepU ws).map V.int)) := ho
        refine ⟨_, rfl, rfl, _, rfl, ite2 (fun e => ?_) (fun e => ?_)⟩
        · have hb1 : b = true := by
            cases b
            · exact absurd (of_decide_eq_true e) (by decide +kernel)
            · rfl
          subst hb1
          exact ⟨_, rfl, o2, _, some (.ref o2), v4, rfl, S, by rw [ho', run_take hb, hws]; rfl⟩
        · have hb0 : b = false := by
            cases b
            · rfl
            · exact absurd (decide_eq_true (by decide +kernel)) e
          subst hb0
          refine ⟨_, rfl, o2, rfl, ⟨_, .inl (.inl ho)⟩, fun D nD => lc_list (xs := (RF.stepU ws).map V.int) (fun j H5 => H5 D = some (.lst (((RF.stepU ws).take j).map fun v => V.int (ws.sum - v))) ∧ Same H4 H5)
            ⟨by rw [upd_same]; rfl, same_upd nD⟩ (fun j H5 _ hW => ?_) (fun j x H5 hx hW => ?_) (fun H5 hW => ?_)⟩
          · exact hW.2.seq (.inl (.inl ho))
          · obtain ⟨hD, s5⟩ := hW
            rw [List.getElem?_map] at hx
            cases ex : (RF.stepU ws)[j]? with
            | none => rw [ex] at hx; cases hx
            | some m =>
              rw [ex] at hx
              cases hx
              refine ⟨rfl, _, rfl, _, rfl, o2, _, _, _, rfl, rfl, .inl (.inl (s5 _ _ ho)), at_last _, ?_⟩
              refine ⟨_, rfl, _, _, rfl, rfl, _, hD, ?_, ?_, ?_⟩
              · rw [List.length_map, List.length_take, RF.stepU_len]
                exact Nat.lt_of_lt_of_le (show min j (ws.length + 1) < 2000 by omega) hsm
              · rw [upd_same, List.take_add_one, ex, List.map_append]
                rfl
              · intro b2 x2 e2
                have nb : b2 ≠ D := ne_of_none e2 nD
                rw [upd_ne nb]
                exact s5 b2 x2 e2
          · obtain ⟨hD, s5⟩ := hW
            refine ⟨D, _, _, _, rfl, S.trans s5, ?_⟩
            rw [List.length_map, List.take_of_length_le (Nat.le_refl _)] at hD
            rw [hD, run_take hb, hws]
            show _ = some (HO.lst ((RF.stepD ws).map V.int))
            rw [RF.stepD_map, List.map_map]
            rfl
    · obtain ⟨p, v2, v3, v4, rfl, sm, hp⟩ := hW
      refine ⟨_, rfl, p, _, rfl, .inl (.inl hp), ?_⟩
      rw [List.take_of_length_le (Nat.le_refl _)]
      exact q H3 sm
theorem ok_by {f : Addr} {fd : FuncData} (F : Fun K "_law_by" "_law_by" sBy f fd) (N : Nm mg) : FnOk P w K mg base CX0 1 f fd ["_law_row"] (spBy K) := by
  refine F.ok scBy (fun vs H Q E h => ?_) (fun cdv A outer s H vs Q E hr h => ?_)
  · obtain ⟨a, ns, rfl, _⟩ := h
    rfl
  · obtain ⟨a, ns, rfl, hS, hl, q⟩ := h
    have nd := scBy.nd
    refine ⟨_, pss_one (ps_ret (pe_join pe_str
      (pe_lc (own := [("_law_k", 1)]) (g := gName 1) rfl nd (pi_range1 (by rfl) N.range (pa_cons (pe_op op_sub (pe_callB call_len_seq (by rfl) N.len PySem.boot_len (pa_cons (pv 0) pa_nil)) pe_int) pa_nil)) (blkOk_by (N := nBy) (sc := defScope sBy) (by decide +kernel)) (fun _ _ _ _ _ => pg_name (i := 1) nd rfl (Or.inl rfl)) (fun _ _ _ _ _ => pts_nil)
        (fun _ _ _ _ _ => pe_ifExp (pt_cmpR op_lt (pe_ix (r := rIxL K) ix_list (pv 0) (pv 1) (fun _ _ => rfl)) (pe_ix (r := rIxL K) ix_list (pv 0) (pe_op op_add (pv 1) pe_int) (fun _ _ => rfl)) (nomark _)) pe_str pe_str)))), ?_⟩
    have hsm : (2000 : Nat) ≤ sizeLine := by decide
    refine ⟨⟨_, rfl⟩, _, rfl, a, _, rfl, .inl hS, _, _, rfl, rfl, _, rfl, ?_, ?_, ?_⟩
    · show -(2 ^ 62) ≤ ((ns.map V.int).length : Int) - 1
      omega
    · show ((ns.map V.int).length : Int) - 1 < 2 ^ 62
      rw [List.length_map]; omega
    intro D nD
    have hn : ((((ns.map V.int).length : Int) - 1).toNat) = (byOf ns).length := by rw [List.length_map, byOf_len]; omega
    refine lc_range (n := (((ns.map V.int).length : Int) - 1).toNat) (fun j H5 => H5 D = some (.lst (((byOf ns).take j).map fun b => V.str (wd [b]))) ∧ Same H H5) ⟨by rw [upd_same]; rfl, same_upd nD⟩ (fun j H5 hj hW => ?_) (fun H5 hW => ?_)
    · obtain ⟨hD, s5⟩ := hW
      rw [hn] at hj
      rw [byOf_len] at hj
      have h0 : ns[j]? = some (ns[j]'(by omega)) := List.getElem?_eq_getElem (by omega)
      have h1 : ns[j + 1]? = some (ns[j + 1]'(by omega)) := List.getElem?_eq_getElem (by omega)
      have fin : ∀ z, z = V.str (wd [decide ((ns[j]'(by omega)) < (ns[j + 1]'(by omega)))]) → ∃ acc, H5 D = some (.lst acc) ∧ acc.length < sizeLine ∧ ((upd H5 D (.lst (acc ++ [z]))) D = some (.lst (((byOf ns).take (j + 1)).map fun b => V.str (wd [b]))) ∧ Same H (upd H5 D (.lst (acc ++ [z])))) := by
        intro z ez
        refine ⟨_, hD, ?_, ?_, ?_⟩
        · rw [List.length_map, List.length_take, byOf_len]
          exact Nat.lt_of_lt_of_le (show min j (ns.length - 1) < 2000 by omega) hsm
        · rw [upd_same, List.take_add_one, byOf_get ns j _ _ h0 h1, List.map_append, ez]
          rfl
        · intro b2 x2 e2
          rw [upd_ne (ne_of_none e2 nD)]
          exact s5 b2 x2 e2
      refine ⟨rfl, _, rfl, _, rfl, a, ns.map V.int, _, V.int (ns[j]'(by omega)), rfl, rfl, s5.seq hS, ?_, ?_⟩
      · rw [Int.zero_add]; exact atI_nat (by simp [h0])
      refine ⟨_, rfl, _, rfl, _, _, rfl, rfl, a, ns.map V.int, _, V.int (ns[j + 1]'(by omega)), rfl, rfl, s5.seq hS, ?_, ?_⟩
      · rw [Int.zero_add]; exact atI_nat (j := j + 1) (by simp [h1])
      refine ⟨_, _, rfl, rfl, _, rfl, ite2 (fun e => ?_) (fun e => ?_)⟩
      · exact fin _ (by rw [show decide ((ns[j]'(by omega)) < (ns[j + 1]'(by omega))) = true from e]; rfl)
      · exact fin _ (by rw [show decide ((ns[j]'(by omega)) < (ns[j + 1]'(by omega))) = false by simpa using e]; rfl)
    · obtain ⟨hD, s5⟩ := hW
      rw [hn, List.take_of_length_le (Nat.le_refl _)] at hD
      refine ⟨_, D, (byOf ns).map (fun b => wd [b]), rfl, rfl, .inl (.inl (.inl (by rw [hD, List.map_map]; rfl))), ?_, ?_⟩
      · rw [letters_sum, List.length_map, byOf_len]
        show (ns.length - 1) + (ns.length - 1) * 0 ≤ 16777216
        omega
      · rw [join_wd]
        exact q H5 s5
end
theorem scOr : FnScope nOr ["_law_many"] (defScope sOr) := ⟨rfl, rfl, rfl, by decide +kernel, rfl, by decide +kernel, by decide +kernel⟩
section
variable {P : Program} {w : World} {K : PySem.W.Frag} {mg : Str → Option Value} {base : Heap}
theorem ok_or {f : Addr} {fd : FuncData} (F : Fun K "_law_orders" "_law_orders" sOr f fd) (N : Nm mg) : FnOk P w K mg base CX0 1 f fd ["_law_many"] spOr := by
  refine F.ok scOr (fun vs H Q E h => ?_) (fun cdv A outer s H vs Q E hr h => ?_)
  · obtain ⟨n, rfl, _⟩ := h
    rfl
  · obtain ⟨n, rfl, hn, q⟩ := h
    have nd := scOr.nd
    refine ⟨_, pss_cons (ps_set (i := 1) nd rfl (.inl rfl) (pe_lst (pa_cons (pe_lst pa_nil) pa_nil)))
      (pss_cons (ps_for PassesOwn.never rfl (pi_range1 (by rfl) N.range (pa_cons (pv 0) pa_nil)) (pg_name (i := 2) nd rfl (.inr rfl))
        (pss_cons (ps_set (i := 3) nd rfl (.inl rfl) (pe_lst pa_nil))
        (pss_cons (ps_for PassesOwn.never rfl (pi_list (pv 1)) (pg_name (i := 4) nd rfl (.inr rfl))
          (pss_one (ps_set (i := 3) nd rfl (.inl rfl) (pe_op op_cat (pv 3)
            (pe_lc (own := [("_law_k", 5)]) (g := gName 5) rfl nd (pi_range1 (by rfl) N.range (pa_cons (pe_op op_add (pv 2) pe_int) pa_nil)) (blkOk_by (N := nOr) (sc := defScope sOr) (by decide +kernel)) (fun _ _ _ _ _ => pg_name (i := 5) nd rfl (Or.inl rfl)) (fun _ _ _ _ _ => pts_nil)
              (fun _ _ _ _ _ => pe_op op_cat (pe_op op_cat (pe_slice (r := rSlL K) sl_list (pv 4) po_none (po_some (pv 5))) (pe_lst (pa_cons (pv 2) pa_nil))) (pe_slice (r := rSlL K) sl_list (pv 4) (po_some (pv 5)) po_none)))))))
        (pss_one (ps_set (i := 1) nd rfl (.inl rfl) (pv 3))))))
      (pss_one (ps_ret (pv 1)))), ?_⟩
    have hsm : (2000 : Nat) ≤ sizeLine := by decide
    refine ⟨by decide, fun o0 no0 => ?_⟩
    refine ⟨(show 1 ≤ sizeLine by decide), fun o no => ?_⟩
    have no0' : o0 ≠ o := ne_of_none upd_same no
    refine ⟨_, rfl, _, rfl, by omega, by omega, for_range (n := ((n : Nat) : Int).toNat) (fun i σ H3 => ∃ p v2 v3 v4 v5 as, σ = [some (.int (n : Int)), some (.ref p), v2, v3, v4, v5] ∧ Same H H3 ∧ H3 p = some (.lst (as.map V.ref)) ∧ Rw H3 as (perms i))
      ⟨o, none, none, none, none, [o0], rfl, (same_upd no0).trans (same_upd no), by rw [upd_same]; rfl, .cons (by rw [upd_ne no0', upd_same]; rfl) .nil⟩ (fun i σ H3 hi hW => ?_) (fun σ H3 hW => ?_)⟩
    · obtain ⟨p, v2, v3, v4, v5, as, rfl, sm, hp, hR⟩ := hW
      rw [Int.toNat_natCast] at hi
      refine ⟨by decide, fun o2 no2 => ?_⟩
      refine ⟨_, rfl, p, rfl, ⟨_, (same_upd no2).seq (.inl (.inl hp))⟩, for_list (xs := as.map V.ref) (fun j σ H4 => ∃ q v4 v5 bs, σ = [some (.int (n : Int)), some (.ref p), some (.int (0 + (i : Nat))), some (.ref q), v4, v5] ∧ Same H3 H4 ∧ H4 q = some (.lst (bs.map V.ref)) ∧ Rw H4 bs (((perms i).take j).flatMap (insAll i)))
        ⟨o2, v4, v5, [], rfl, same_upd no2, by rw [upd_same]; rfl, .nil⟩ (fun j σ H4 _ hW => ?_) (fun j x σ H4 hx hW => ?_) (fun σ H4 hW => ?_)⟩
      · obtain ⟨q, v4, v5, bs, rfl, s4, _⟩ := hW
        exact s4.seq (.inl (.inl hp))
      · obtain ⟨q, v4, v5, bs, rfl, s4, hq, hB⟩ := hW
        obtain ⟨a, ea, rfl⟩ := map_get hx
        obtain ⟨r, er, ha⟩ := (hR.same s4).get j a ea
        refine ⟨_, rfl, _, rfl, _, _, rfl, rfl, _, rfl, ?_, ?_, fun D nD => ?_⟩
        · omega
        · omega
        have hlen : (0 + (i : Int) + 1).toNat = i + 1 := by omega
        have hrl : r.length = i := perms_each i (by omega) r (List.mem_of_getElem? er)
        refine lc_range (n := (0 + (i : Int) + 1).toNat) (fun k H5 => Same H4 H5 ∧ ∃ cs, H5 D = some (.lst (cs.map V.ref)) ∧ Rw H5 cs ((List.range k).map (ins i r)) ∧ ∀ c ∈ cs, c ≠ D) ⟨same_upd nD, [], by rw [upd_same]; rfl, .nil, fun c h => absurd h (by simp)⟩ (fun k H5 hk hW => ?_) (fun H5 hW => ?_)
        · obtain ⟨s5, cs, hD, hC, hne⟩ := hW
          rw [hlen] at hk
          have ha5 : H5 a = some (.lst (r.map V.int)) := s5 _ _ ha
          refine ⟨rfl, _, rfl, _, rfl, _, rfl, a, r.map V.int, rfl, .inl (.inl ha5), fun p1 n1 => ?_⟩
          refine ⟨_, rfl, (show 1 ≤ sizeLine by decide), fun p2 n2 => ?_⟩
          have n12 : p1 ≠ p2 := ne_of_none upd_same n2
          refine ⟨p1, p2, _, _, rfl, rfl, by rw [upd_ne n12, upd_same], upd_same, ?_, fun p3 n3 => ?_⟩
          · refine Nat.le_trans (m := r.length + 1) ?_ ?_
            · refine Nat.add_le_add (Nat.le_trans (cutV_length _ _ _) ?_) (Nat.le_refl _)
              rw [List.length_map]
              exact Nat.le_refl _
            · exact Nat.le_trans (show r.length + 1 ≤ 2000 by omega) hsm
          refine ⟨_, rfl, _, rfl, _, rfl, a, r.map V.int, rfl, .inl (.inl ((same_upd n3) _ _ ((same_upd n2) _ _ ((same_upd n1) _ _ ha5)))), fun p4 n4 => ?_⟩
          have n34 : p3 ≠ p4 := ne_of_none upd_same n4
          refine ⟨p3, p4, _, _, rfl, rfl, by rw [upd_ne n34, upd_same], upd_same, ?_, fun p5 n5 => ?_⟩
          · rw [List.length_append]
            have h1 := cutV_length (r.map V.int) none (some (0 + (k : Int)))
            have h2 := cutV_length (r.map V.int) (some (0 + (k : Int))) none
            rw [List.length_map] at h1 h2
            refine Nat.le_trans (Nat.add_le_add (Nat.add_le_add h1 (Nat.le_refl 1)) h2) ?_
            exact Nat.le_trans (show r.length + 1 + r.length ≤ 2000 by omega) hsm
          have S5 := (((same_upd n1).trans (same_upd n2)).trans ((same_upd n3).trans (same_upd n4))).trans (same_upd (o := .lst (cutV (r.map V.int) none (some (0 + (k : Int))) ++ [V.int (0 + (i : Int))] ++ cutV (r.map V.int) (some (0 + (k : Int))) none)) n5)
          have nD5 : p5 ≠ D := fun z => by
            subst z
            rw [(((same_upd n1).trans (same_upd n2)).trans ((same_upd n3).trans (same_upd n4))) _ _ hD] at n5
            cases n5
          refine ⟨_, S5 _ _ hD, ?_, ?_, cs ++ [p5], ?_, ?_, ?_⟩
          · rw [List.length_map, hC.len, List.length_map, List.length_range]
            exact Nat.lt_of_lt_of_le (show k < 2000 by omega) hsm
          · intro b2 x2 e2
            rw [upd_ne (ne_of_none e2 nD)]
            exact S5 _ _ (s5 b2 x2 e2)
          · rw [upd_same, List.map_append]
            rfl
          · rw [List.range_succ, List.map_append]
            refine Rw.app (Rw.upd hne (hC.same S5)) (.cons ?_ .nil)
            rw [upd_ne nD5, upd_same]
            congr 2
            show _ = (r.take k ++ [(i : Int)] ++ r.drop k).map V.int
            rw [Int.zero_add, Int.zero_add, cut_take, cut_drop, List.map_append, List.map_append, List.map_take, List.map_drop]
            rfl
          · intro c hc
            rcases List.mem_append.mp hc with h | h
            · exact hne c h
            · rw [List.mem_singleton.mp h]; exact nD5
        · obtain ⟨s5, cs, hD, hC, hne⟩ := hW
          rw [hlen] at hC
          refine ⟨q, D, _, _, rfl, rfl, s5 _ _ hq, hD, ?_, fun t nt => ?_⟩
          · rw [List.length_map, List.length_map, hB.len, hC.len, ← List.length_append]
            show (((perms i).take j).flatMap (insAll i) ++ insAll i r).length ≤ sizeLine
            rw [← flat_snoc (insAll i) er]
            exact Nat.le_trans (flat_len _ _ _) (Nat.le_trans (perms_few (i + 1) (by omega)) (by decide))
          · refine ⟨t, _, _, bs ++ cs, rfl, (s4.trans s5).trans (same_upd nt), ?_, ?_⟩
            · rw [upd_same, List.map_append]
            · rw [flat_snoc (insAll i) er]
              exact ((hB.same s5).app hC).same (same_upd nt)
      · obtain ⟨q, v4, v5, bs, rfl, s4, hq, hB⟩ := hW
        refine ⟨_, rfl, q, _, _, _, _, bs, rfl, sm.trans s4, hq, ?_⟩
        rw [List.length_map, hR.len, List.take_of_length_le (Nat.le_refl _)] at hB
        exact hB
    · obtain ⟨p, v2, v3, v4, v5, as, rfl, sm, hp, hR⟩ := hW
      rw [Int.toNat_natCast] at hR
      exact ⟨_, rfl, q p as H3 sm hp hR⟩
end
theorem scLw : FnScope nLw ["_law_script"] (defScope sLw) := ⟨rfl, rfl, rfl, by decide +kernel, rfl, by decide +kernel, by decide +kernel⟩
section
variable {P : Program} {w : World} {K : PySem.W.Frag} {mg : Str → Option Value} {base : Heap}
theorem ok_lw {f fC fD : Addr} {fd fdC fdD : FuncData} (F : Fun K "_law_word" "_law_word" sLw f fd) (N : Nm mg) (FC : Fun K "_law_cell_at" "_law_cell_at" sCa fC fdC) (bC : Binds K fdC ["_law_script", "_law_k"] []) (gC : mg "_law_cell_at" = some (.ref fC))
    (FD : Fun K "_law_draw" "_law_draw" sDr fD fdD) (bD : Binds K fdD ["_law_cell", "_law_k", "_law_many"] []) (gD : mg "_law_draw" = some (.ref fD)) : FnOk P w K mg base CX0 2 f fd ["_law_script"] (spLw K) := by
  have GC : FnOk P w K mg base CX0 1 fC fdC ["_law_script", "_law_k"] (spCa K) := ok_ca FC N
  have GD : FnOk P w K mg base CX0 1 fD fdD ["_law_cell", "_law_k", "_law_many"] spDr := ok_dr FD N
  refine F.ok scLw (fun vs H Q E h => ?_) (fun cdv A outer s H vs Q E hr h => ?_)
  · obtain ⟨a, ns, rfl, _⟩ := h
    rfl
  · obtain ⟨a, ns, rfl, hS, q⟩ := h
    have nd := scLw.nd
    refine ⟨_, pss_cons (ps_set (i := 0) nd rfl (.inl rfl) (pe_slice sl_list (pv 0) po_none (po_some pe_int)))
      (pss_cons (ps_set (i := 1) nd rfl (.inl rfl) (pe_call GD hr (by rfl) gD FD.kp bD .nil pass0 (pa_cons (pe_call GC hr (by rfl) gC FC.kp bC .nil pass0 (pa_cons (pv 0) (pa_cons pe_int pa_nil))) (pa_cons pe_int (pa_cons pe_int pa_nil)))))
      (pss_mid (ps_set (i := 2) nd rfl (.inl rfl) (pe_join pe_str (pe_lc (own := [("_law_cell", 5)]) (g := gName 5) rfl nd (pi_list (pv 0)) (blkOk_by (N := nLw) (sc := defScope sLw) (by decide +kernel)) (fun _ _ _ _ _ => pg_name (i := 5) nd rfl (Or.inl rfl)) (fun _ _ _ _ _ => pts_nil)
          (fun _ _ _ _ _ => pe_ix (r := rIxS) ix_str pe_str (pe_op op_mod (pv 5) pe_int) (fun _ _ => rfl)))))
      (pss_mid (ps_if (pt_cmpR op_eq (pv 1) pe_int (nomark _)) (pss_one (ps_set (i := 2) nd rfl (.inl rfl) (pe_join pe_str (pe_lc (own := [("_law_k", 4), ("_law_cell", 5)]) (g := gTup K 2 (gCons (gName 4) (gCons (gName 5) gNil))) rfl nd (pi_enum (by rfl) N.enum (pa_cons (pv 0) pa_nil)) (blkOk_by (N := nLw) (sc := defScope sLw) (by decide +kernel))
          (fun _ _ _ _ _ => pg_tup rfl (pgs_cons (pg_name (i := 4) nd rfl (Or.inl rfl)) (pgs_cons (pg_name (i := 5) nd rfl (Or.inl rfl)) pgs_nil))) (fun _ _ _ _ _ => pts_nil)
          (fun _ _ _ _ _ => pe_ifExp (pt_cmpR op_gt (pe_op op_mod (pv 5) pe_int) pe_int (nomark _)) (pe_ix (r := rIxS) ix_str pe_str (pe_op op_mod (pv 4) pe_int) (fun _ _ => rfl)) (pe_ix (r := rIxS) ix_str pe_str (pe_op op_mod (pv 4) pe_int) (fun _ _ => rfl))))))) pss_nil)
      (pss_mid (ps_if (pt_cmpR op_eq (pv 1) pe_int (nomark _)) (pss_one (ps_set (i := 2) nd rfl (.inl rfl) (pe_slice sl_str (pe_join pe_str (pe_lc (own := [("_law_cell", 5)]) (g := gName 5) rfl nd (pi_list (pv 0)) (blkOk_by (N := nLw) (sc := defScope sLw) (by decide +kernel)) (fun _ _ _ _ _ => pg_name (i := 5) nd rfl (Or.inl rfl)) (fun _ _ _ _ _ => pts_nil)
          (fun _ _ _ _ _ => pe_op op_repS (pe_ix (r := rIxS) ix_str pe_str (pe_op op_mod (pe_op op_fdiv (pv 5) pe_int) pe_int) (fun _ _ => rfl)) (pe_op op_add pe_int (pe_op op_mod (pe_op op_fdiv (pv 5) pe_int) pe_int))))) po_none (po_some pe_int)))) pss_nil)
      (pss_mid (ps_if (PW.pt (pw_and (pt_cmpR op_eq (pv 1) pe_int (nomark _)) (pw_and1 (pt_cmpR (op_neD hr.units) (pv 0) (pe_lst pa_nil) (nomark _)))))
          (pss_cons (ps_set (i := 3) nd rfl (.inl rfl) (pe_op op_fdiv (pe_ix ix_list (pv 0) (pe_un un_neg pe_int) (fun _ _ => rfl)) pe_int))
          (pss_mid (ps_for PassesOwn.never rfl (pi_range1 (by rfl) N.range (pa_cons (pe_call GD hr (by rfl) gD FD.kp bD .nil pass0 (pa_cons (pe_ix ix_list (pv 0) (pe_un un_neg pe_int) (fun _ _ => rfl)) (pa_cons pe_int (pa_cons pe_int pa_nil)))) pa_nil)) (pg_name (i := 4) nd rfl (.inl rfl))
            (pss_cons (ps_set (i := 2) nd rfl (.inl rfl) (pe_op op_add_str (pv 2) (pe_ix ix_str pe_str (pe_op op_mod (pv 3) pe_int) (fun _ _ => rfl))))
            (pss_one (ps_set (i := 3) nd rfl (.inl rfl) (pe_op op_fdiv (pv 3) pe_int)))))
          (pss_one (ps_set (i := 2) nd rfl (.inl rfl) (pe_slice sl_str (pv 2) po_none (po_some pe_int)))))) pss_nil)
      (pss_one (ps_ret (pv 2)))))))), ?_⟩
    have hsm : (2000 : Nat) ≤ sizeLine := by decide
    refine ⟨_, rfl, 63, rfl, a, _, rfl, hS, fun a1 n1 => ?_⟩
    rw [show (63 : Int) = ((63 : Nat) : Int) from rfl, cut_take, ← List.map_take] at *
    generalize hms : ns.take 63 = ms at *
    have hml : ms.length ≤ 63 := by rw [← hms, List.length_take]; exact Nat.min_le_left _ _
    refine ⟨_, rfl, a1, ms, 0, rfl, .inl (.inl upd_same), _, 6, 5, rfl, by decide, by decide, fun kd H2 hk0 hk1 s2 => ?_⟩
    have S2 : Same H H2 := (same_upd n1).trans s2
    have A2 : H2 a1 = some (.lst (ms.map V.int)) := s2 _ _ upd_same
    let M : L2.St → Hp → Prop := fun σ H' => ∃ l v3 v4 v5, σ = [some (.ref a1), some (.int kd), some (.str (wd l)), v3, v4, v5] ∧ l.length ≤ 64 ∧ Same H H' ∧ H' a1 = some (.lst (ms.map V.int))
    refine ⟨M, ?_, fun σ H3 hM => ?_⟩
    · refine ⟨⟨_, rfl⟩, _, rfl, a1, rfl, ⟨_, .inl (.inl A2)⟩, fun D nD => ?_⟩
      refine lc_list (xs := ms.map V.int) (fun j H5 => Same H2 H5 ∧ ∃ bs : List Bool, bs.length = j ∧ H5 D = some (.lst (bs.map fun b => V.str (wd [b])))) ⟨same_upd nD, [], rfl, by rw [upd_same]; rfl⟩ (fun j H5 _ hW => hW.1.seq (.inl (.inl A2))) (fun j x H5 hx hW => ?_) (fun H5 hW => ?_)
      · obtain ⟨s5, bs, hb, hD⟩ := hW
        obtain ⟨c, ec, rfl⟩ := map_get hx
        have hj : j < ms.length := (List.getElem?_eq_some_iff.mp ec).1
        obtain ⟨b, hat⟩ := two_at (.inl ud_two) (i := c % 2) (by omega) (by omega)
        refine ⟨rfl, _, rfl, _, _, rfl, rfl, (show (0 : Int) < 2 by decide), _, _, _, rfl, rfl, (show (2 : Nat) ≤ sizeLine by decide), hat, _, hD, ?_, ?_, bs ++ [b], ?_, ?_⟩
        · rw [List.length_map]
          exact Nat.lt_of_lt_of_le (show bs.length < 2000 by omega) hsm
        · intro b2 x2 e2
          rw [upd_ne (ne_of_none e2 nD)]
          exact s5 b2 x2 e2
        · rw [List.length_append, hb]; rfl
        · rw [upd_same, List.map_append]
          rfl
      · obtain ⟨s5, bs, hb, hD⟩ := hW
        rw [List.length_map] at hb
        refine ⟨_, D, bs.map (fun b => wd [b]), rfl, rfl, .inl (.inl (.inl (by rw [hD, List.map_map]; rfl))), ?_, ?_⟩
        · rw [letters_sum, List.length_map]
          show bs.length + bs.length * 0 ≤ 16777216
          omega
        · rw [join_wd]
          exact ⟨bs, _, _, _, rfl, by omega, S2.trans s5, s5 _ _ A2⟩
    refine ⟨M, ?_, fun σ H3 hM => ?_⟩
    · obtain ⟨l, v3, v4, v5, rfl, hl, S3, A3⟩ := hM
      refine ⟨_, rfl, rfl, _, rfl, ite2 (fun _ => ?_) (fun _ => ⟨l, _, _, _, rfl, hl, S3, A3⟩)⟩
      refine ⟨⟨_, rfl⟩, _, rfl, a1, _, rfl, .inl (.inl A3), fun D nD => ?_⟩
      refine lc_it (walk_enum (xs := ms.map V.int)) (fun j H5 => Same H3 H5 ∧ ∃ bs : List Bool, bs.length = j ∧ H5 D = some (.lst (bs.map fun b => V.str (wd [b])))) ⟨same_upd nD, [], rfl, by rw [upd_same]; rfl⟩ (fun j H5 _ hW => hW.1.seq (.inl (.inl A3))) (fun j x H5 H6 hj hW y => ?_) (fun H5 hW => ?_)
      · obtain ⟨s5, bs, hb, hD⟩ := hW
        obtain ⟨T, x0, x1, rfl, nT, rfl, e0, e1⟩ := y
        cases e0
        obtain ⟨c, ec, rfl⟩ := map_get e1
        rw [List.length_map] at hj
        have s6 := same_upd (o := .tup [.int (j : Nat), .int c]) nT
        have D6 := s6 _ _ hD
        refine ⟨T, _, rfl, .inl (.inl upd_same), rfl, _, _, rfl, _, _, rfl, rfl, ?_⟩
        have fin : ∀ (z : Str), (∃ b, z = wd [b]) → ∃ acc, upd H5 T (.tup [.int (j : Nat), .int c]) D = some (.lst acc) ∧ acc.length < sizeLine ∧ (Same H3 (upd (upd H5 T (.tup [.int (j : Nat), .int c])) D (.lst (acc ++ [.str z]))) ∧
            ∃ bs : List Bool, bs.length = j + 1 ∧ upd (upd H5 T (.tup [.int (j : Nat), .int c])) D (.lst (acc ++ [.str z])) D = some (.lst (bs.map fun b => V.str (wd [b])))) := by
          rintro z ⟨b, rfl⟩
          refine ⟨_, D6, ?_, ?_, bs ++ [b], ?_, ?_⟩
          · rw [List.length_map]
            exact Nat.lt_of_lt_of_le (show bs.length < 2000 by omega) hsm
          · intro b2 x2 e2
            rw [upd_ne (ne_of_none e2 nD)]
            exact s6 _ _ (s5 b2 x2 e2)
          · rw [List.length_append, hb]; rfl
          · rw [upd_same, List.map_append]
            rfl
        obtain ⟨b, hat⟩ := two_at (.inl ud_two) (i := (j : Int) % 2) (by omega) (by omega)
        obtain ⟨b', hat'⟩ := two_at (.inr du_two) (i := (j : Int) % 2) (by omega) (by omega)
        refine ⟨rfl, _, rfl, _, _, rfl, rfl, (show (0 : Int) < 7 by decide), _, _, rfl, rfl, _, rfl, ite2 (fun _ => ?_) (fun _ => ?_)⟩
        · exact ⟨_, rfl, _, _, rfl, rfl, (show (0 : Int) < 2 by decide), _, _, _, rfl, rfl, (show (2 : Nat) ≤ sizeLine by decide), hat, fin _ ⟨b, rfl⟩⟩
        · exact ⟨_, rfl, _, _, rfl, rfl, (show (0 : Int) < 2 by decide), _, _, _, rfl, rfl, (show (2 : Nat) ≤ sizeLine by decide), hat', fin _ ⟨b', rfl⟩⟩
      · obtain ⟨s5, bs, hb, hD⟩ := hW
        rw [List.length_map] at hb
        refine ⟨_, D, bs.map (fun b => wd [b]), rfl, rfl, .inl (.inl (.inl (by rw [hD, List.map_map]; rfl))), ?_, ?_⟩
        · rw [letters_sum, List.length_map]
          show bs.length + bs.length * 0 ≤ 16777216
          omega
        · rw [join_wd]
          exact ⟨bs, _, _, _, rfl, by omega, S3.trans s5, s5 _ _ A3⟩
    refine ⟨M, ?_, fun σ H3 hM => ?_⟩
    · obtain ⟨l, v3, v4, v5, rfl, hl, S3, A3⟩ := hM
      refine ⟨_, rfl, rfl, _, rfl, ite2 (fun _ => ?_) (fun _ => ⟨l, _, _, _, rfl, hl, S3, A3⟩)⟩
      refine ⟨⟨_, rfl⟩, _, rfl, a1, rfl, ⟨_, .inl (.inl A3)⟩, fun D nD => ?_⟩
      refine lc_list (xs := ms.map V.int) (fun j H5 => Same H3 H5 ∧ ∃ ws : List (List Bool), ws.length = j ∧ (∀ x ∈ ws, x.length ≤ 3) ∧ H5 D = some (.lst (ws.map fun x => V.str (wd x)))) ⟨same_upd nD, [], rfl, fun x h => absurd h (by simp), by rw [upd_same]; rfl⟩ (fun j H5 _ hW => hW.1.seq (.inl (.inl A3))) (fun j x H5 hx hW => ?_) (fun H5 hW => ?_)
      · obtain ⟨s5, ws, hb, hw3, hD⟩ := hW
        obtain ⟨c, ec, rfl⟩ := map_get hx
        have hj : j < ms.length := (List.getElem?_eq_some_iff.mp ec).1
        obtain ⟨b, hat⟩ := two_at (.inl ud_two) (i := c / 2 % 2) (by omega) (by omega)
        refine ⟨rfl, _, rfl, _, _, rfl, rfl, (show CDiv c 2 from ⟨by decide, by decide⟩), _, _, rfl, rfl, (show (0 : Int) < 2 by decide), _, _, _, rfl, rfl, (show (2 : Nat) ≤ sizeLine by decide), hat, ?_⟩
        have hn : 0 ≤ 1 + c / 4 % 3 ∧ 1 + c / 4 % 3 ≤ 3 := by omega
        refine ⟨_, rfl, _, _, rfl, rfl, (show CDiv c 4 from ⟨by decide, by decide⟩), _, _, rfl, rfl, (show (0 : Int) < 3 by decide), _, _, rfl, rfl, [sg b], 1 + c / 4 % 3, rfl, rfl, hn.1, by omega, ?_, ?_⟩
        · show 1 * (1 + c / 4 % 3).toNat ≤ 1000000
          omega
        rw [rep_wd]
        refine ⟨_, hD, ?_, ?_, ws ++ [List.replicate (1 + c / 4 % 3).toNat b], ?_, ?_, ?_⟩
        · rw [List.length_map]
          exact Nat.lt_of_lt_of_le (show ws.length < 2000 by omega) hsm
        · intro b2 x2 e2
          rw [upd_ne (ne_of_none e2 nD)]
          exact s5 b2 x2 e2
        · rw [List.length_append, hb]; rfl
        · intro x hx
          rcases List.mem_append.mp hx with h | h
          · exact hw3 x h
          · rw [List.mem_singleton.mp h, List.length_replicate]; omega
        · rw [upd_same, List.map_append]
          rfl
      · obtain ⟨s5, ws, hb, hw3, hD⟩ := hW
        rw [List.length_map] at hb
        have hfl := flat_le ws 3 hw3
        refine ⟨_, D, ws.map wd, rfl, rfl, .inl (.inl (.inl (by rw [hD, List.map_map]; rfl))), ?_, ?_⟩
        · have h1 := words_sum ws 3 hw3
          rw [List.length_map]
          show _ + ws.length * 0 ≤ 16777216
          omega
        · rw [join_wds]
          refine ⟨64, rfl, _, rfl, ?_, ?_⟩
          · rw [wd_len]
            exact Nat.le_trans (show ws.flatten.length ≤ 2000 by omega) hsm
          · rw [show (64 : Int) = ((64 : Nat) : Int) from rfl, cut_word]
            exact ⟨_, _, _, _, rfl, by rw [List.length_take]; exact Nat.min_le_left _ _, S3.trans s5, s5 _ _ A3⟩
    refine ⟨M, ?_, fun σ H3 hM => ?_⟩
    · obtain ⟨l, v3, v4, v5, rfl, hl, S3, A3⟩ := hM
      refine ⟨_, rfl, rfl, _, rfl, ite2 (fun _ => ?_) (fun _ => iteF ⟨l, _, _, _, rfl, hl, S3, A3⟩)⟩
      refine ⟨_, rfl, (show 0 ≤ sizeLine by decide), fun e0 ne0 => ?_⟩
      have s4 := same_upd (o := .lst []) ne0
      have A4 := s4 _ _ A3
      refine ⟨_, _, dp_list (ns := ms) (.inl (.inl A4)), dp_list (a := e0) (ns := []) (.inl (.inl (by rw [upd_same]; rfl))), PySem.W.shaped_ints _, PySem.W.shaped_ints _, _, rfl, ite2 (fun hne => ?_) (fun _ => ⟨l, _, _, _, rfl, hl, S3.trans s4, A4⟩)⟩
      have hms0 : ms ≠ [] := fun z => by
        rw [z, ints_refl] at hne
        cases hne
      obtain ⟨v, hv⟩ := at_end hms0
      refine ⟨_, rfl, _, rfl, a1, _, _, _, rfl, rfl, .inl (.inl A4), hv, _, _, rfl, rfl, (show CDiv v 3 from ⟨by decide, by decide⟩), ?_⟩
      refine ⟨fun σ H' => ∃ l v3 v4 v5, σ = [some (.ref a1), some (.int kd), some (.str (wd l)), v3, v4, v5] ∧ l.length ≤ 200 ∧ Same H H' ∧ H' a1 = some (.lst (ms.map V.int)), ?_, fun σ H5 hW => ?_⟩
      · refine ⟨_, rfl, _, rfl, a1, _, _, _, rfl, rfl, .inl (.inl A4), hv, v, 8, 60, rfl, by decide, by decide, fun r H5 hr0 hr1 s5 => ?_⟩
        refine ⟨r, rfl, by omega, by omega, for_range (n := r.toNat) (fun j σ H' => ∃ l x v4 v5, σ = [some (.ref a1), some (.int kd), some (.str (wd l)), some (.int x), v4, v5] ∧ l.length ≤ 64 + j ∧ Same H H' ∧ H' a1 = some (.lst (ms.map V.int)))
          ⟨l, _, _, _, rfl, by omega, (S3.trans s4).trans s5, s5 _ _ A4⟩ (fun j σ H6 hj hW => ?_) (fun σ H6 hW => ?_)⟩
        · obtain ⟨l, x, v4, v5, rfl, hl6, S6, A6⟩ := hW
          obtain ⟨b, hat⟩ := two_at (.inl ud_two) (i := x % 2) (by omega) (by omega)
          refine ⟨_, rfl, _, rfl, _, _, rfl, rfl, (show (0 : Int) < 2 by decide), _, _, _, rfl, rfl, (show (2 : Nat) ≤ sizeLine by decide), hat, wd l, wd [b], rfl, rfl, ?_, ?_⟩
          · rw [wd_len, wd_len]
            exact Nat.le_trans (show l.length + 1 ≤ 2000 by omega) hsm
          · refine ⟨_, rfl, _, _, rfl, rfl, (show CDiv x 2 from ⟨by decide, by decide⟩), l ++ [b], x / 2, some (.int (0 + (j : Nat))), v5, ?_, ?_, S6, A6⟩
            · rw [← wd_app]
              rfl
            · rw [List.length_append]
              show l.length + 1 ≤ 64 + (j + 1)
              omega
        · obtain ⟨l, x, v4, v5, rfl, hl6, S6, A6⟩ := hW
          exact ⟨l, _, _, _, rfl, by omega, S6, A6⟩
      · obtain ⟨l, v3, v4, v5, rfl, hl5, S5, A5⟩ := hW
        refine ⟨_, rfl, 64, rfl, _, rfl, ?_, ?_⟩
        · rw [wd_len]
          exact Nat.le_trans (show l.length ≤ 2000 by omega) hsm
        · rw [show (64 : Int) = ((64 : Nat) : Int) from rfl, cut_word]
          exact ⟨_, _, _, _, rfl, by rw [List.length_take]; exact Nat.min_le_left _ _, S5, A5⟩
    obtain ⟨l, v3, v4, v5, rfl, hl, S3, _⟩ := hM
    exact ⟨_, rfl, q l H3 hl S3⟩
end
theorem scLaw : FnScope nLaw ["_law_script"] (defScope sLaw) := ⟨rfl, rfl, rfl, by decide +kernel, rfl, by decide +kernel, by decide +kernel⟩
section
variable {P : Program} {w : World} {K : PySem.W.Frag} {mg : Str → Option Value} {base : Heap}
theorem ok_law {T c : Addr} (N : Nm mg) (TB : GxR.TabB base mg c T) (dLaw : Df K mg "law" sLaw ["_law_script"]) (dCw : Df K mg "check_word" sCw ["word"]) (dIw : Df K mg "is_whole" sIw ["value"]) (dCr : Df K mg "check_row" sCr ["row"]) (hc : dCr.fd.code = .ref c)
    (dWb : Df K mg "ways_behind" sWb ["ways", "letter"]) (dWy : Df K mg "ways_of" sWy ["word"]) (dCo : Df K mg "count" sCo ["word"]) (dWo : Df K mg "word_of" sWo ["row"]) (dCa : Df K mg "_law_cell_at" sCa ["_law_script", "_law_k"]) (dDr : Df K mg "_law_draw" sDr ["_law_cell", "_law_k", "_law_many"])
    (dLw : Df K mg "_law_word" sLw ["_law_script"]) (dLc : Df K mg "_law_count" sLc ["_law_word_here"]) (dWh : Df K mg "_law_whole" sWh ["_law_number"]) (dOr : Df K mg "_law_orders" sOr ["_law_many"]) (dBy : Df K mg "_law_by" sBy ["_law_row"]) :
    FnOk P w K mg base CX0 4 dLaw.f dLaw.fd ["_law_script"] (spLaw K T) := by
  have GCo : FnOk P w K mg base CX0 3 dCo.f dCo.fd ["word"] spCo := ok_co dCo.F N dCw.F dCw.b dCw.g dWy.F dWy.b dWy.g dWb.F dWb.b dWb.g
  have GCr : FnOk P w K mg base CX0 2 dCr.f dCr.fd ["row"] (spCr K T) := ok_cr dCr.F N hc TB dIw.F dIw.b dIw.g
  have GWo : FnOk P w K mg base CX0 3 dWo.f dWo.fd ["row"] (spWo K T) := ok_wo dWo.F N dCr.F dCr.b dCr.g GCr
  have GCa : FnOk P w K mg base CX0 1 dCa.f dCa.fd ["_law_script", "_law_k"] (spCa K) := ok_ca dCa.F N
  have GDr : FnOk P w K mg base CX0 1 dDr.f dDr.fd ["_law_cell", "_law_k", "_law_many"] spDr := ok_dr dDr.F N
  have GLw : FnOk P w K mg base CX0 2 dLw.f dLw.fd ["_law_script"] (spLw K) := ok_lw dLw.F N dCa.F dCa.b dCa.g dDr.F dDr.b dDr.g
  have GLc : FnOk P w K mg base CX0 1 dLc.f dLc.fd ["_law_word_here"] spLc := ok_lc dLc.F N
  have GWh : FnOk P w K mg base CX0 1 dWh.f dWh.fd ["_law_number"] spWh := ok_wh dWh.F N
  have GOr : FnOk P w K mg base CX0 1 dOr.f dOr.fd ["_law_many"] spOr := ok_or dOr.F N
  have GBy : FnOk P w K mg base CX0 1 dBy.f dBy.fd ["_law_row"] (spBy K) := ok_by dBy.F N
  refine dLaw.F.ok scLaw (fun vs H Q E h => ?_) (fun cdv A outer s H vs Q E hr h => ?_)
  · obtain ⟨a, ns, rfl, _⟩ := h
    rfl
  · obtain ⟨a, ns, rfl, hS, hC, hT, hn, q⟩ := h
    have nd := scLaw.nd
    have hr1 := hr.mono (show 1 ≤ 3 by decide)
    have hr2 := hr.mono (show 2 ≤ 3 by decide)
    refine ⟨_, (pss_cons (ps_set (i := 1) nd rfl (.inl rfl) (pe_call GLw hr2 (by rfl) dLw.g dLw.F.kp dLw.b .nil pass0 (pa_cons (pv 0) pa_nil)))
      (pss_cons (ps_set (i := 2) nd rfl (.inl rfl) (pe_call GCo hr (by rfl) dCo.g dCo.F.kp dCo.b .nil pass0 (pa_cons (pv 1) pa_nil)))
      (pss_cons (ps_if (PW.pt (pw_or (pt_not (pt_val (pe_call GWh hr1 (by rfl) dWh.g dWh.F.kp dWh.b .nil pass0 (pa_cons (pv 2) pa_nil)))) (pw_or (pt_cmpR op_ne (pv 2) (pe_call GLc hr1 (by rfl) dLc.g dLc.F.kp dLc.b .nil pass0 (pa_cons (pv 1) pa_nil)) (nomark _)) (pw_or1 (pt_cmpR op_lt (pv 2) pe_int (nomark _)))))) (pss_one ps_never) pss_nil)
      (pss_cons (ps_if (pt_cmpR op_ne (pe_op op_add (pe_call GCo hr (by rfl) dCo.g dCo.F.kp dCo.b .nil pass0 (pa_cons (pe_op op_add_str (pv 1) pe_str) pa_nil)) (pe_call GCo hr (by rfl) dCo.g dCo.F.kp dCo.b .nil pass0 (pa_cons (pe_op op_add_str (pv 1) pe_str) pa_nil))) (pe_op op_mul (pe_op op_add (pe_callB call_len_str (by rfl) N.len PySem.boot_len (pa_cons (pv 1) pa_nil)) pe_int) (pv 2)) (nomark _)) (pss_one ps_never) pss_nil)
      (pss_cons (ps_set (i := 3) nd rfl (.inl rfl) (pe_join pe_str (pe_lc (own := [("_law_letter", 7)]) (g := gName 7) rfl nd (pi_str (pv 1)) (blkOk_by (N := nLaw) (sc := defScope sLaw) (by decide +kernel)) (fun _ _ _ _ _ => pg_name (i := 7) nd rfl (Or.inl rfl)) (fun _ _ _ _ _ => pts_nil) (fun _ _ _ _ _ => pe_ifExp (pt_cmpR op_eq (pv 7) pe_str (nomark _)) pe_str pe_str))))
      (pss_cons (ps_if (PW.pt (pw_or (pt_cmpR op_ne (pe_call GCo hr (by rfl) dCo.g dCo.F.kp dCo.b .nil pass0 (pa_cons (pv 3) pa_nil)) (pv 2) (nomark _)) (pw_or (pt_cmpR op_ne (pe_call GCo hr (by rfl) dCo.g dCo.F.kp dCo.b .nil pass0 (pa_cons (pe_revS (pv 1)) pa_nil)) (pv 2) (nomark _)) (pw_or1 (pt_cmpR op_ne (pe_call GCo hr (by rfl) dCo.g dCo.F.kp dCo.b .nil pass0 (pa_cons (pe_revS (pv 3)) pa_nil)) (pv 2) (nomark _)))))) (pss_one ps_never) pss_nil)
      (pss_cons (ps_if (pt_cmpR op_gt (pv 2) (pe_call GCo hr (by rfl) dCo.g dCo.F.kp dCo.b .nil pass0 (pa_cons (pe_slice sl_str (pe_op op_repS pe_str (pe_callB call_len_str (by rfl) N.len PySem.boot_len (pa_cons (pv 1) pa_nil))) po_none (po_some (pe_callB call_len_str (by rfl) N.len PySem.boot_len (pa_cons (pv 1) pa_nil)))) pa_nil)) (nomark _)) (pss_one ps_never) pss_nil)
      (pss_cons (ps_set (i := 4) nd rfl (.inr rfl) (pe_slice sl_str (pv 1) po_none (po_some (pe_call GDr hr1 (by rfl) dDr.g dDr.F.kp dDr.b .nil pass0 (pa_cons (pe_call GCa hr1 (by rfl) dCa.g dCa.F.kp dCa.b .nil pass0 (pa_cons (pv 0) (pa_cons pe_int pa_nil))) (pa_cons pe_int (pa_cons pe_int pa_nil)))))))
      (pss_cons (ps_if (pt_cmpR op_ne (pe_call GCo hr (by rfl) dCo.g dCo.F.kp dCo.b .nil pass0 (pa_cons (pv 4) pa_nil)) (pe_callB call_len_seq (by rfl) N.len PySem.boot_len (pa_cons (pe_lc (own := [("_law_order", 8)]) (g := gName 8) rfl nd (pi_list (pe_call GOr hr1 (by rfl) dOr.g dOr.F.kp dOr.b .nil pass0 (pa_cons (pe_op op_add (pe_callB call_len_str (by rfl) N.len PySem.boot_len (pa_cons (pv 4) pa_nil)) pe_int) pa_nil))) (blkOk_by (N := nLaw) (sc := defScope sLaw) (by decide +kernel)) (fun _ _ _ _ _ => pg_name (i := 8) nd rfl (Or.inl rfl)) (fun _ _ _ _ _ => pts_one (pt_cmpR op_eq (pe_call GBy hr1 (by rfl) dBy.g dBy.F.kp dBy.b .nil pass0 (pa_cons (pv 8) pa_nil)) (pv 4) (nomark _))) (fun _ _ _ _ _ => pv 8)) pa_nil)) (nomark _)) (pss_one ps_never) pss_nil)
      (pss_cons (ps_setLcC (i := 5) (te := tIxC K (tVar 0) (tVar 9)) (own := [("_law_k", 9)]) (g := gName 9) rfl nd rfl rfl (sw_true rfl rfl rfl (by decide +kernel)) (pi_range1 (by rfl) N.range (pa_cons (pe_callB call_len_seq (by rfl) N.len PySem.boot_len (pa_cons (pv 0) pa_nil)) pa_nil)) (blkOk_by (N := nLaw) (sc := defScope sLaw) (by decide +kernel)) (fun _ _ _ _ _ => pg_name (i := 9) nd rfl (Or.inl rfl)) (fun _ _ _ _ _ => pts_one (PW.pt (pw_or (pt_cmpR op_eq (pv 9) pe_int (nomark _)) (pw_or1 (pt_cmpR op_ne (pe_ix (r := rIxL K) ix_list (pv 0) (pv 9) (fun _ _ => rfl)) (pe_ix (r := rIxL K) ix_list (pv 0) (pe_op op_sub (pv 9) pe_int) (fun _ _ => rfl)) (nomark _)))))) (fun _ _ _ _ _ => pec_ix (pv 0) (pv 9) (fun _ _ => rfl)))
      (pss_cons (ps_expr (pe_bm PySem.F.plainAttrs_list PySem.F.slot_list_append PySem.F.type_list_append mt_appC (pv 5) (pa_cons (pe_op op_add pe_int (pe_callB (cr_max rfl) (by rfl) N.max (by decide +kernel) (pa_cons (pe_op op_cat (pe_lst (pa_cons pe_int pa_nil)) (pe_lc (own := [("_law_number", 10)]) (g := gName 10) rfl nd (pi_list (pv 5)) (blkOk_by (N := nLaw) (sc := defScope sLaw) (by decide +kernel)) (fun _ _ _ _ _ => pg_name (i := 10) nd rfl (Or.inl rfl)) (fun _ _ _ _ _ => pts_nil) (fun _ _ _ _ _ => pe_callB call_abs (by rfl) N.abs (by decide +kernel) (pa_cons (pv 10) pa_nil)))) pa_nil))) pa_nil)))
      (pss_cons (ps_set (i := 6) nd rfl (.inl rfl) (pe_callTy call_list_of (by rfl) N.list (by decide +kernel) (pa_cons (pv 5) pa_nil)))
      (pss_one (ps_ret (pe_and (pe_cmpR op_eq (pe_call GWo hr (by rfl) dWo.g dWo.F.kp dWo.b .nil pass0 (pa_cons (pv 5) pa_nil)) (pe_call GBy hr1 (by rfl) dBy.g dBy.F.kp dBy.b .nil pass0 (pa_cons (pv 5) pa_nil)) (nomark _)) (pe_and (pe_cmpR (op_eqD hr.units) (pv 5) (pv 6) (nomark _)) (pe_and (pe_cmpR op_eq (pe_call GCo hr (by rfl) dCo.g dCo.F.kp dCo.b .nil pass0 (pa_cons pe_str pa_nil)) pe_int (nomark _)) (pe_one (pe_cmpR op_eq (pe_call GWo hr (by rfl) dWo.g dWo.F.kp dWo.b .nil pass0 (pa_cons (pe_lst (pa_cons pe_int pa_nil)) pa_nil)) pe_str (nomark _)))))))))))))))))))), ?_⟩
    have hsm : (2000 : Nat) ≤ sizeLine := by decide
    -- the word
    refine ⟨_, rfl, a, ns, rfl, hS, fun l H1 hl S1 => ?_⟩
    -- its count
    refine ⟨_, rfl, l, rfl, by omega, fun H2 S2 => ?_⟩
    refine ⟨_, rfl, _, rfl, true, rfl, iteF ⟨_, rfl, _, rfl, l, rfl, by omega, fun H3 S3 => ?_⟩⟩
    have hpos := RF.cnt_pos l
    refine ⟨rfl, _, rfl, iteNS rfl ⟨_, rfl, _, _, rfl, rfl, _, rfl, ite2 (fun e => absurd (of_decide_eq_true e) (by omega)) (fun _ => ?_)⟩⟩
    -- one letter more
    refine ⟨_, rfl, wd l, wd [true], rfl, rfl, by rw [wd_len, wd_len]; exact Nat.le_trans (show l.length + 1 ≤ 2000 by omega) hsm, l ++ [true], by rw [wd_app]; rfl, by rw [List.length_append]; show l.length + 1 ≤ 900; omega, fun H4 S4 => ?_⟩
    refine ⟨_, rfl, wd l, wd [false], rfl, rfl, by rw [wd_len, wd_len]; exact Nat.le_trans (show l.length + 1 ≤ 2000 by omega) hsm, l ++ [false], by rw [wd_app]; rfl, by rw [List.length_append]; show l.length + 1 ≤ 900; omega, fun H5 S5 => ?_⟩
    refine ⟨_, _, rfl, rfl, _, rfl, _, rfl, by rw [wd_len]; exact Nat.le_trans (show l.length ≤ 2000 by omega) hsm, _, _, rfl, rfl, _, rfl, _, _, rfl, rfl, ?_, ?_⟩
    · exact .inl ⟨by omega, by rw [wd_len]; omega⟩
    refine ⟨rfl, _, rfl, iteNS (congrArg V.int ?_) ?_⟩
    · rw [RF.cnt_more, wd_len]
      congr 1
    -- the other word
    refine ⟨⟨_, rfl⟩, _, rfl, _, rfl, fun D nD => ?_⟩
    have hcs : (wd l).cps.size = l.length := by
      show (wd l).length = _
      rw [wd_len]
    refine lc_it (walk_str (z := wd l)) (fun j H6 => Same H5 H6 ∧ H6 D = some (.lst (((l.take j).map (!·)).map fun b => V.str (wd [b])))) ⟨same_upd nD, by rw [upd_same]; rfl⟩ (fun _ _ _ _ => trivial) (fun j x H6 H7 hj hW y => ?_) (fun H6 hW => ?_)
    · obtain ⟨s6, hD⟩ := hW
      obtain ⟨rfl, c, hc', rfl⟩ := y
      obtain ⟨b, eb, rfl⟩ := wd_at hc'
      rw [hcs] at hj
      have fin : ∀ z, z = V.str (wd [!b]) → ∃ acc, H7 D = some (.lst acc) ∧ acc.length < sizeLine ∧ (Same H5 (upd H7 D (.lst (acc ++ [z]))) ∧ upd H7 D (.lst (acc ++ [z])) D = some (.lst (((l.take (j + 1)).map (!·)).map fun b => V.str (wd [b])))) := by
        rintro z rfl
        refine ⟨_, hD, ?_, ?_, ?_⟩
        · rw [List.length_map, List.length_map, List.length_take]
          exact Nat.lt_of_lt_of_le (show min j l.length < 2000 by omega) hsm
        · intro b2 x2 e2
          rw [upd_ne (ne_of_none e2 nD)]
          exact s6 b2 x2 e2
        · rw [upd_same, List.take_add_one, eb, List.map_append, List.map_append]
          rfl
      refine ⟨rfl, _, rfl, rfl, _, rfl, ite2 (fun e => ?_) (fun e => ?_)⟩
      · refine fin _ ?_
        cases b
        · exact absurd (of_decide_eq_true e) (by decide +kernel)
        · rfl
      · refine fin _ ?_
        cases b
        · rfl
        · exact absurd (decide_eq_true (by decide +kernel)) e
    obtain ⟨s6, hD⟩ := hW
    rw [hcs, List.take_of_length_le (Nat.le_refl _)] at hD
    refine ⟨_, D, (l.map (!·)).map (fun b => wd [b]), rfl, rfl, .inl (.inl (.inl (by rw [hD]; congr 2; rw [List.map_map, List.map_map, List.map_map]; rfl))), ?_, ?_⟩
    · rw [letters_sum, List.length_map, List.length_map]
      show l.length + l.length * 0 ≤ 16777216
      omega
    rw [join_wd]
    -- three counts again
    refine ⟨_, rfl, l.map (!·), rfl, by rw [List.length_map]; omega, fun H7 S7 => ?_⟩
    refine ⟨_, rfl, rfl, _, rfl, iteNS (congrArg V.int (RF.cnt_not l)) ?_⟩
    refine ⟨_, rfl, l.map sg, rfl, by rw [List.length_map]; exact Nat.le_trans (show l.length ≤ 2000 by omega) hsm, l.reverse, by rw [wd_rev]; rfl, by rw [List.length_reverse]; omega, fun H8 S8 => ?_⟩
    refine ⟨_, rfl, rfl, _, rfl, iteNS (congrArg V.int (RF.cnt_rev l)) ?_⟩
    refine ⟨_, rfl, (l.map (!·)).map sg, rfl, by rw [List.length_map, List.length_map]; exact Nat.le_trans (show l.length ≤ 2000 by omega) hsm, (l.map (!·)).reverse, by rw [wd_rev]; rfl, by rw [List.length_reverse, List.length_map]; omega, fun H9 S9 => ?_⟩
    refine ⟨_, rfl, rfl, _, rfl, iteNS (congrArg V.int ((RF.cnt_rev _).trans (RF.cnt_not l))) ?_⟩
    -- by turns
    refine ⟨_, rfl, _, rfl, _, rfl, by rw [wd_len]; exact Nat.le_trans (show l.length ≤ 2000 by omega) hsm, [117, 100], _, by decide +kernel, rfl, by omega, by rw [wd_len]; omega, by rw [wd_len]; show 2 * ((l.length : Int)).toNat ≤ 1000000; omega, ?_⟩
    refine ⟨_, rfl, _, rfl, by rw [wd_len]; exact Nat.le_trans (show l.length ≤ 2000 by omega) hsm, _, rfl, _, rfl, ?_, ?_⟩
    · rw [tx_len, wd_len, Int.toNat_natCast, List.length_flatten, List.map_replicate, List.sum_replicate_nat]
      exact Nat.le_trans (show l.length * 2 ≤ 2000 by omega) hsm
    refine ⟨RF.turns l.length, ?_, by rw [turns_len]; omega, fun H10 S10 => ?_⟩
    · rw [wd_len, Int.toNat_natCast, cut_turns]
      rfl
    have hmost := RF.cnt_most l
    refine ⟨_, _, rfl, rfl, _, rfl, ite2 (fun e => absurd (of_decide_eq_true e) (by omega)) (fun _ => ?_)⟩
    have S10' : Same H H10 := (((S1.trans S2).trans (S3.trans S4)).trans (S5.trans s6)).trans ((S7.trans S8).trans (S9.trans S10))
    -- a few letters
    refine ⟨_, rfl, _, rfl, a, ns, 1, rfl, S10'.seq hS, _, 4, 5, rfl, by decide, by decide, fun r H11 hr0 hr1' S11 => ?_⟩
    refine ⟨r, rfl, _, rfl, by rw [wd_len]; exact Nat.le_trans (show l.length ≤ 2000 by omega) hsm, ?_⟩
    have er : r = ((r.toNat : Nat) : Int) := by omega
    generalize hrn : r.toNat = rn at er
    have hrn5 : rn < 5 := by omega
    subst er
    rw [cut_word]
    generalize hfw : l.take rn = fw
    have hfl : fw.length ≤ 4 := by rw [← hfw, List.length_take]; omega
    have S11' : Same H H11 := S10'.trans S11
    clear S10' S11 S10 S9 S8 S7 s6 S5 S4 S3 S2 S1
    refine ⟨_, rfl, fw, rfl, by omega, fun H12 S12 => ?_⟩
    refine ⟨_, rfl, _, rfl, by rw [wd_len]; exact Nat.le_trans (show fw.length ≤ 2000 by omega) hsm, _, _, rfl, rfl, fw.length + 1, by rw [wd_len]; rfl, by omega, fun p as H13 S13 hp hR => ?_⟩
    refine ⟨p, rfl, ⟨_, .inl (.inl hp)⟩, fun D2 nD2 => ?_⟩
    refine lc_list (xs := as.map V.ref) (fun j H14 => Same H13 H14 ∧ ∃ cs : List Addr, H14 D2 = some (.lst (cs.map V.ref)) ∧ cs.length = (((perms (fw.length + 1)).take j).filter fun r => decide (byOf r = fw)).length) ⟨same_upd nD2, [], by rw [upd_same]; rfl, rfl⟩
      (fun j H14 _ hW => hW.1.seq (.inl (.inl hp))) (fun j x H14 hx hW => ?_) (fun H14 hW => ?_)
    · obtain ⟨s14, cs, hD2, hcl⟩ := hW
      obtain ⟨b, eb, rfl⟩ := map_get hx
      obtain ⟨row, er, hb⟩ := hR.get j b eb
      have hrl := perms_each (fw.length + 1) (by omega) row (List.mem_of_getElem? er)
      have hcsl : cs.length ≤ 120 := by
        rw [hcl]
        refine Nat.le_trans (List.length_filter_le _ _) ?_
        rw [List.length_take]
        exact Nat.le_trans (Nat.min_le_right _ _) (perms_few (fw.length + 1) (by omega))
      refine ⟨rfl, _, rfl, b, row, rfl, .inl (.inl (s14 _ _ hb)), by omega, fun H15 S15 => ?_⟩
      refine ⟨_, rfl, rfl, _, rfl, ?_⟩
      have et : (perms (fw.length + 1)).take (j + 1) = (perms (fw.length + 1)).take j ++ [row] := by rw [List.take_add_one, er]; rfl
      by_cases heq : byOf row = fw
      · rw [heq, decide_eq_true (rfl : V.str (wd fw) = V.str (wd fw))]
        refine iteT ⟨_, rfl, _, S15 _ _ hD2, ?_, ?_, cs ++ [b], ?_, ?_⟩
        · rw [List.length_map]
          exact Nat.lt_of_lt_of_le (show cs.length < 2000 by omega) hsm
        · intro b2 x2 e2
          rw [upd_ne (ne_of_none e2 nD2)]
          exact S15 _ _ (s14 b2 x2 e2)
        · rw [upd_same, List.map_append]
          rfl
        · rw [et, List.filter_append, List.length_append, List.length_append, hcl]
          congr 1
          simp [heq]
      · rw [decide_eq_false (show ¬ V.str (wd (byOf row)) = V.str (wd fw) from fun z => heq (wd_inj (V.str.inj z)))]
        refine iteF ⟨s14.trans S15, cs, S15 _ _ hD2, ?_⟩
        rw [et, List.filter_append, List.length_append, hcl]
        simp [heq]
    obtain ⟨s14, cs, hD2, hcl⟩ := hW
    rw [List.length_map, hR.len, List.take_of_length_le (Nat.le_refl _)] at hcl
    refine ⟨_, _, rfl, .inl (.inl (.inl hD2)), rfl, _, rfl, iteNS (congrArg V.int ?_) ?_⟩
    · rw [few_all fw hfl, List.length_map, hcl]
      rfl
    have S14 : Same H H14 := (S11'.trans S12).trans (S13.trans s14)
    clear S11' S12 S13 s14
    -- the row
    refine ⟨_, rfl, a, _, rfl, .inl (S14.seq hS), _, rfl, by omega, by rw [List.length_map]; omega, fun D nD => ?_⟩
    have hnl : (((ns.map V.int).length : Int)).toNat = ns.length := by rw [Int.toNat_natCast, List.length_map]
    refine lcC_range (fun j H15 => Same H14 H15 ∧ ∃ R : List Int, H15 D = some (.ext (clL D (R.map V.int))) ∧ R.length ≤ j ∧ Un R ∧ ∀ x, 0 < j → ns[j - 1]? = some x → R.getLast? = some x) ⟨same_upd nD, [], by rw [upd_same]; rfl, Nat.le_refl _, un_nil, fun x h => absurd h (by omega)⟩ (fun j H15 hj hW => ?_) (fun H15 hW => ?_)
    · obtain ⟨s15, R, hD, hRl, hU, hlast⟩ := hW
      rw [hnl] at hj
      have ej : ns[j]? = some ns[j] := List.getElem?_eq_getElem hj
      have s15' : Same H H15 := S14.trans s15
      have hat : atI (ns.map V.int) (0 + (j : Int)) = some (V.int ns[j]) := by rw [Int.zero_add]; exact atI_nat (by simp [ej])
      have hix : (ns.map V.int)[(0 + (j : Int)).toNat]? = some (V.int ns[j]) := by
        rw [Int.zero_add, Int.toNat_natCast]
        simp [ej]
      have keep : (∀ x, R.getLast? = some x → x ≠ ns[j]) → ∃ p xs i v, V.ref a = V.ref p ∧ V.int (0 + (j : Int)) = V.int i ∧ SqL K H15 p xs ∧ ClAt K H15 p xs ∧ 0 ≤ i ∧ xs[i.toNat]? = some v ∧
          ∃ acc, H15 D = some (.ext (clL D acc)) ∧ acc.length < sizeLine ∧ (Same H14 (upd H15 D (.ext (clL D (acc ++ [v])))) ∧ ∃ R : List Int, upd H15 D (.ext (clL D (acc ++ [v]))) D = some (.ext (clL D (R.map V.int))) ∧ R.length ≤ j + 1 ∧ Un R ∧ ∀ x, 0 < j + 1 → ns[j + 1 - 1]? = some x → R.getLast? = some x) := by
        intro hne
        refine ⟨a, ns.map V.int, _, V.int ns[j], rfl, rfl, s15'.seq hS, clAt_same hC s15', by omega, hix, _, hD, ?_, ?_, R ++ [ns[j]], ?_, ?_, un_snoc hU hne, fun x _ hx => ?_⟩
        · rw [List.length_map]
          exact Nat.lt_of_lt_of_le (show R.length < 2000 by omega) hsm
        · intro b2 x2 e2
          rw [upd_ne (ne_of_none e2 nD)]
          exact s15 b2 x2 e2
        · rw [upd_same, List.map_append]
          rfl
        · rw [List.length_append]
          exact Nat.succ_le_succ hRl
        · rw [Nat.add_sub_cancel, ej] at hx
          rw [get_last]
          exact hx
      refine ⟨rfl, _, rfl, rfl, _, rfl, ite2 (fun e => ?_) (fun e => ?_)⟩
      · have e0 := V.int.inj (of_decide_eq_true e)
        have hj0 : j = 0 := by omega
        refine iteT ⟨_, rfl, _, rfl, keep fun x hx => ?_⟩
        have hR0 : R = [] := List.length_eq_zero_iff.mp (by omega)
        rw [hR0] at hx
        cases hx
      · have hj0 : 0 < j := by
          refine Nat.pos_of_ne_zero fun z => e (decide_eq_true ?_)
          rw [z]; rfl
        have ej1 : ns[j - 1]? = some (ns[j - 1]'(by omega)) := List.getElem?_eq_getElem (by omega)
        refine ⟨_, rfl, _, rfl, a, _, _, V.int ns[j], rfl, rfl, s15'.seq hS, hat, ?_⟩
        refine ⟨_, rfl, _, rfl, _, _, rfl, rfl, a, _, _, V.int (ns[j - 1]'(by omega)), rfl, rfl, s15'.seq hS, ?_, ?_⟩
        · rw [show 0 + (j : Int) - 1 = ((j - 1 : Nat) : Int) by omega]
          exact atI_nat (by simp [ej1])
        refine ⟨rfl, _, rfl, ?_⟩
        have hl := hlast _ hj0 ej1
        by_cases heq : ns[j] = ns[j - 1]'(by omega)
        · rw [heq, decide_eq_true (rfl : V.int (ns[j - 1]'(by omega)) = V.int (ns[j - 1]'(by omega)))]
          refine iteF ⟨s15, R, hD, Nat.le_succ_of_le hRl, hU, fun x _ hx => ?_⟩
          rw [Nat.add_sub_cancel, ej] at hx
          rw [hl, ← heq]
          exact hx
        · rw [decide_eq_false (show ¬ V.int ns[j] = V.int (ns[j - 1]'(by omega)) from fun z => heq (V.int.inj z))]
          refine iteT ⟨_, rfl, _, rfl, keep fun x hx => ?_⟩
          rw [hl] at hx
          intro z
          exact heq (by rw [← z]; exact (Option.some.inj hx).symm ▸ rfl)
    obtain ⟨s15, R, hD, hRl, hU, _⟩ := hW
    rw [hnl] at hRl
    refine ⟨_, hD, fun o co nf => ?_⟩
    have S15 : Same H H15 := S14.trans s15
    have nDH : H D = none := S14.free nD
    have S16 : ∀ u : HO, Same H (upd H15 D u) := fun u b x e => by
      rw [upd_ne (ne_of_none e nDH)]
      exact S15 b x e
    -- one more number
    refine ⟨_, rfl, .inl ⟨rfl, _, .inl (.inr ⟨o, upd_same⟩)⟩, (show 1 ≤ sizeLine by decide), fun p1 n1 => ?_⟩
    have nDp1 : D ≠ p1 := ne_of_none upd_same n1
    have hDp : upd (upd H15 D (.frz o (.lst (R.map V.int)))) p1 (.lst [V.int 0]) D = some (.frz o (.lst (R.map V.int))) := by rw [upd_ne nDp1, upd_same]
    refine ⟨_, rfl, D, rfl, ⟨_, .inl (.inr ⟨o, hDp⟩)⟩, fun D3 nD3 => ?_⟩
    refine lc_list (xs := R.map V.int) (fun j H17 => Same (upd (upd H15 D (.frz o (.lst (R.map V.int)))) p1 (.lst [V.int 0])) H17 ∧ H17 D3 = some (.lst (((R.take j).map absI).map V.int))) ⟨same_upd nD3, by rw [upd_same]; rfl⟩
      (fun j H17 _ hW => hW.1.seq (.inl (.inr ⟨o, hDp⟩))) (fun j x H17 hx hW => ?_) (fun H17 hW => ?_)
    · obtain ⟨s17, hD3⟩ := hW
      obtain ⟨y, ey, rfl⟩ := map_get hx
      refine ⟨rfl, _, rfl, y, rfl, _, hD3, ?_, ?_, ?_⟩
      · rw [List.length_map, List.length_map, List.length_take]
        exact Nat.lt_of_lt_of_le (show min j R.length < 2000 by omega) hsm
      · intro b2 x2 e2
        rw [upd_ne (ne_of_none e2 nD3)]
        exact s17 b2 x2 e2
      · rw [upd_same, List.take_add_one, ey, List.map_append, List.map_append]
        rfl
    obtain ⟨s17, hD3⟩ := hW
    rw [List.length_map, List.take_of_length_le (Nat.le_refl _)] at hD3
    refine ⟨p1, D3, _, _, rfl, rfl, s17 _ _ upd_same, hD3, ?_, fun p2 n2 => ?_⟩
    · rw [List.length_map, List.length_map]
      show 1 + R.length ≤ sizeLine
      exact Nat.le_trans (show 1 + R.length ≤ 2000 by omega) hsm
    refine ⟨p2, 0 :: R.map absI, rfl, .inl (.inl (by rw [upd_same]; rfl)), Nat.succ_pos _, fun m hm1 hm2 => ?_⟩
    have hm0 : 0 ≤ m := hm2 0 List.mem_cons_self
    refine ⟨_, _, rfl, rfl, D, R.map V.int, 1 + m, o, rfl, rfl, by omega, same_upd n2 _ _ (s17 _ _ hDp), co, nf, ?_, fun o' co' => ?_⟩
    · rw [List.length_map]
      exact Nat.lt_of_lt_of_le (show R.length < 2000 by omega) hsm
    generalize hH18 : upd H17 p2 (.lst ([V.int 0] ++ (R.map absI).map V.int)) = H18
    have S18 : Same H H18 := by
      rw [← hH18]
      exact (((S16 _).trans (same_upd n1)).trans s17).trans (same_upd n2)
    have S19 : ∀ u : HO, Same H (upd H18 D u) := fun u b x e => by
      rw [upd_ne (ne_of_none e nDH)]
      exact S18 b x e
    have eR : R.map V.int ++ [V.int (1 + m)] = (R ++ [1 + m]).map V.int := by rw [List.map_append]; rfl
    rw [eR]
    have hUn : Un (R ++ [1 + m]) := un_snoc hU fun x hx z => by
      have h1 : absI x ∈ 0 :: R.map absI := List.mem_cons_of_mem _ (List.mem_map.mpr ⟨x, List.mem_of_getLast? hx, rfl⟩)
      have h2 := hm2 _ h1
      have h3 := le_abs x
      omega
    have hRR : (R ++ [1 + m]).length = R.length + 1 := List.length_append
    generalize hRm : R ++ [1 + m] = R2 at hUn hRR
    have hD19 : upd H18 D (.frz o' (.lst (R2.map V.int))) D = some (.frz o' (.lst (R2.map V.int))) := upd_same
    have T19 := tab_same hT (S19 (.frz o' (.lst (R2.map V.int))))
    generalize upd H18 D (.frz o' (.lst (R2.map V.int))) = H19 at hD19 T19
    -- kept
    refine ⟨_, rfl, D, _, rfl, .inl (.inl (.inr ⟨o', hD19⟩)), fun p3 n3 => ?_⟩
    have D20 : upd H19 p3 (.lst (R2.map V.int)) D = some (.frz o' (.lst (R2.map V.int))) := same_upd n3 _ _ hD19
    have T20 := tab_same T19 (same_upd (o := .lst (R2.map V.int)) n3)
    have K20 : upd H19 p3 (.lst (R2.map V.int)) p3 = some (.lst (R2.map V.int)) := upd_same
    generalize upd H19 p3 (.lst (R2.map V.int)) = H20 at D20 T20 K20
    -- its word
    refine ⟨_, rfl, D, R2, rfl, .inl (.inr ⟨o', D20⟩), .inl ⟨o', .inl D20, co'⟩, T20, by omega, by omega, hUn, fun H21 s21 t21 => ?_⟩
    have D21 : H21 D = some (.frz o' (.lst (R2.map V.int))) := by
      obtain ⟨ps, hP, _⟩ := T20
      exact s21 _ _ (ne_of D20 hP (fun z => by cases z)) D20
    have K21 : H21 p3 = some (.lst (R2.map V.int)) := by
      obtain ⟨ps, hP, _⟩ := T20
      exact s21 _ _ (ne_of K20 hP (fun z => by cases z)) K20
    refine ⟨_, rfl, D, R2, rfl, .inl (.inr ⟨o', D21⟩), by omega, fun H22 S22 => ?_⟩
    refine ⟨rfl, _, rfl, ?_⟩
    rw [decide_eq_true (rfl : V.str (wd (byOf R2)) = V.str (wd (byOf R2)))]
    refine iteT ⟨_, rfl, _, rfl, _, _, dp_list (ns := R2) (.inl (.inr ⟨o', S22 _ _ D21⟩)), dp_list (ns := R2) (.inl (.inl (S22 _ _ K21))), PySem.W.shaped_ints _, PySem.W.shaped_ints _, _, rfl, ?_⟩
    rw [ints_refl]
    refine iteT ⟨[], by decide +kernel, by decide, fun H23 S23 => ?_⟩
    refine ⟨rfl, _, rfl, ?_⟩
    rw [decide_eq_true (show V.int (RF.cnt []) = V.int 1 by decide)]
    refine iteT ⟨(show 1 ≤ sizeLine by decide), fun p4 n4 => ?_⟩
    have T24 := tab_same t21 ((S22.trans S23).trans (same_upd (o := .lst [V.int 7]) n4))
    refine ⟨p4, [7], rfl, .inl (.inl upd_same), .inr (by intro x hx; rw [List.mem_singleton.mp hx]; intro z; cases z), T24, Nat.le_refl _, by decide, fun i x y h1 h2 => by simp at h2, fun H25 s25 t25 => ?_⟩
    refine ⟨rfl, ?_⟩
    rw [decide_eq_true (show V.str (wd (byOf [7])) = V.str (Str.ofString "") from congrArg V.str (by decide +kernel))]
    exact q H25
end
end K1
end
-- part RZ
section
set_option Elab.async false
set_option linter.all false
set_option maxRecDepth 100000
set_option maxHeartbeats 2000000
/-! The end of a law row whose script's own object is known: its numbers are no raw marks. -/
namespace RFI
open PySem PySem.Spec PySem.Calls PyProof.Rows L2 PySem.W
theorem lay_toks {R : WRecords} {cl : Str → Option Addr} {P : Params} {ord : List DictEntry → List DictEntry} : ∀ (ns : List Int) (s : Shared) (r : List Value × Shared), layAllW R cl P ord (ns.map WData.int) s = some r → r.2.heap = s.heap ∧ ∀ v ∈ r.1, ∃ i t, v = .int i t ∧ s.toks ≤ t
  | [], s, r, e => by
    have : layAllW R cl P ord (List.map WData.int []) s = some ([], s) := by simp [layAllW]
    rw [this] at e
    cases e
    exact ⟨rfl, fun v hv => by cases hv⟩
  | n :: ns, s, r, e => by
    simp only [List.map_cons, layAllW, layW] at e
    cases q : layAllW R cl P ord (List.map WData.int ns) { s with toks := s.toks + 1 } with
    | none => rw [q] at e; cases e
    | some r' =>
      rw [q] at e
      cases e
      obtain ⟨h1, h2⟩ := lay_toks ns { s with toks := s.toks + 1 } r' q
      refine ⟨h1, fun v hv => ?_⟩
      rcases List.mem_cons.mp hv with hv | hv
      · exact ⟨n, s.toks, hv, Nat.le_refl _⟩
      · obtain ⟨i, t, e1, e2⟩ := h2 v hv
        exact ⟨i, t, e1, Nat.le_of_succ_le e2⟩
theorem script_own {R : WRecords} {w : World} {s₀ s₁ : Shared} {ns : List Int} {a : Addr} {as : List Addr} {vs : List Value} (L : Laid R w s₀ s₁ [WData.list (ns.map WData.int)] [.ref a] as) (hL : s₁.heap.get? a = some { cls := .type "list", data := .seq vs.toArray }) :
    a = s₀.heap.objs.size ∧ ∀ v ∈ vs, ∃ i t, v = .int i t ∧ s₀.toks ≤ t := by
  obtain ⟨ord, _, e⟩ := L.laid
  simp only [layAllW, layW] at e
  cases q : layAllW R (classAt s₀.heap) w.params ord (List.map WData.int ns) s₀ with
  | none => rw [q] at e; cases e
  | some r =>
    rw [q] at e
    obtain ⟨hh, ht⟩ := lay_toks ns s₀ r q
    simp only [Option.some.injEq, Prod.mk.injEq, List.cons.injEq, Value.ref.injEq] at e
    obtain ⟨⟨ea, _⟩, es⟩ := e
    have g : s₁.heap.get? a = some { cls := .type "list", data := .seq r.1.toArray } := by
      rw [← es, ← ea]
      exact Heap.get?_push_size _ rfl
    rw [hL] at g
    have g' := Option.some.inj g
    have g2 : vs.toArray = r.1.toArray := by
      have := congrArg Obj.data g'
      simpa using this
    have g3 : vs = r.1 := by simpa using g2
    refine ⟨by rw [← ea, hh], fun v hv => ht v (by rw [← g3]; exact hv)⟩
theorem cl_tok {v : Value} {i : Int} {t k : Nat} (e : v = .int i t) (h : k ≤ t) (hk : 0 < k) : Cl v := cl_of fun z => by
  rw [e] at z
  injection z with _ z2
  have z3 : t = 0 := z2
  omega
theorem attachX {l : OpenLaw} {n N t : Nat} {q : Program} {loose : List Str} {XP : (Str → Option Value) → Heap → Prop} {K : Params → Frag} {as : List Addr} {d : DefRec}
    (hn : l.most = some n) (hdf : d.params.defaults = []) (ek : ∀ P, as = (K P).map (·.1)) (ht : 0 < t)
    (call : ∀ (w : World) (s₁ : Shared) (mg mb : Str → Option Value) (fa : Addr) (o : Obj) (pm cd doc : Value) (a : Addr) (vs : List Value) (ns : List Int) (s₀ : Shared),
      Ground q loose [] XP w s₀ mg mb s₁.heap → (K w.params).In s₁.heap → (K w.params).lookup a = none → (∀ v ∈ vs, Cl v) →
      s₁.heap.get? fa = some o → o.data = .func (docDef d.name d.params d.body d.scope pm cd doc) → s₁.heap.CodeRec cd d.name → mg d.name = some (.ref fa) →
      s₁.heap.get? a = some { cls := .type "list", data := .seq vs.toArray } → IntsAre vs ns → ns.length ≤ n → (∀ z ∈ ns, Builtin.Int.intBits z ≤ 1048576) → s₁.gens = #[] →
      codeAny (model l.prog w) callerA (.call (.ref fa) ⟨[.ref a], []⟩) (fun r s' => r = .ok (.ret (.bool true)) ∧ OldK s₁.heap s'.heap ∧ s'.os = s₁.os ∧ AllBare s'.gens) s₁) :
    WalkX q loose XP (X.obsZ as) (X.valZ K N t) l.row.toRowW d [] (fun f vs => PySem.call f vs) := by
  intro w s₀ s₁ mg mb G Y fa o pm cd doc dV kV ho hd hcd hD hmg hg args vals as' L hpre hlay hrd hwl hlo
  obtain rfl : dV = .none := Dflts.none hD hdf
  obtain rfl : kV = .none := Dflts.noKw hD
  obtain ⟨a, vs, ns, rfl, rfl, hobj, hints, hlen⟩ := Att.script_of hn hpre hwl
  obtain ⟨_, hK, hN, hT⟩ := X.z_facts ek Y
  obtain ⟨ea, htk⟩ := script_own L hobj
  have hK0 : (K w.params).In s₀.heap := hK
  have hlk : (K w.params).lookup a = none := by
    cases e : (K w.params).lookup a with
    | none => rfl
    | some u =>
      have h1 := Heap.lt_size (hK0 a u e)
      rw [ea] at h1
      exact absurd h1 (Nat.lt_irrefl _)
  have hKX : (K w.params).In s₁.heap := InK.keeps w _ _ hK L.keeps
  have hcl : ∀ v ∈ vs, Cl v := fun v hv => by
    obtain ⟨i, t', e1, e2⟩ := htk v hv
    rw [hT] at e2
    exact cl_tok e1 e2 ht
  refine enter_call (codeAny_mono (call w s₁ mg mb fa o pm cd doc a vs ns s₀ G hKX hlk hcl ho (fd_plain hd) hcd hmg hobj hints hlen (Att.script_bits hlay) hg) fun r s' hq => ?_)
  obtain ⟨rfl, h2, h3, h4⟩ := hq
  exact ⟨.inl ⟨.bool true, .bool true, [], rfl, fun _ => rfl, .bool true, Att.post_true l _, fun _ => ⟨List.Pairwise.nil, fun _ hm => (nomatch hm)⟩⟩, h2, h3, h4⟩
/-! ### the known objects with the script among them, without one code object's table -/
def Kx (K : Frag) (a : Addr) (o : Obj) (T : Addr) : Frag := (a, o) :: K.filter fun p => !(p.1 == T)
section
variable {K : Frag} {a T : Addr} {o : Obj} {h : Heap}
theorem look_filter {b T : Addr} (hb : b ≠ T) : ∀ K : Frag, (K.filter fun p => !(p.1 == T)).lookup b = K.lookup b
  | [] => rfl
  | (c, u) :: r => by
    have ih := look_filter hb r
    by_cases hc : c = T
    · subst hc
      rw [List.filter_cons_of_neg (by simp), ih, List.lookup_cons]
      have : (b == c) = false := by simpa using hb
      rw [this]
    · rw [List.filter_cons_of_pos (by simpa using hc), List.lookup_cons, List.lookup_cons, ih]
theorem look_gone (T : Addr) : ∀ K : Frag, (K.filter fun p => !(p.1 == T)).lookup T = none
  | [] => rfl
  | (c, u) :: r => by
    have ih := look_gone T r
    by_cases hc : c = T
    · subst hc
      rw [List.filter_cons_of_neg (by simp), ih]
    · rw [List.filter_cons_of_pos (by simpa using hc), List.lookup_cons, ih]
      have : (T == c) = false := by simpa using fun z => hc z.symm
      rw [this]
theorem kx_self : (Kx K a o T).lookup a = some o := by
  unfold Kx
  rw [List.lookup_cons, beq_self_eq_true]
theorem kx_ne {b : Addr} (h1 : b ≠ a) (h2 : b ≠ T) : (Kx K a o T).lookup b = K.lookup b := by
  unfold Kx
  have : (b == a) = false := by simpa using h1
  rw [List.lookup_cons, this]
  exact look_filter h2 K
theorem kx_tab (h1 : T ≠ a) : (Kx K a o T).lookup T = none := by
  unfold Kx
  have : (T == a) = false := by simpa using h1
  rw [List.lookup_cons, this]
  exact look_gone T K
theorem kx_in (X : K.In h) (ha : h.get? a = some o) : (Kx K a o T).In h := fun b u e => by
  by_cases hb : b = a
  · subst hb
    rw [kx_self] at e
    cases e
    exact ha
  · by_cases hT : b = T
    · subst hT
      rw [kx_tab hb] at e
      cases e
    · rw [kx_ne hb hT] at e
      exact X b u e
/-- where a def's record stands, and its code object -/
theorem fun_kx {x qual : Str} {st : Stmt} {f : Addr} {fd : FuncData} (F : Fun K x qual st f fd) (X : K.In h) (hT : h.get? T = some (tabObj #[])) (ha : K.lookup a = none) : Fun (Kx K a o T) x qual st f fd := by
  obtain ⟨oc, od, kV, doc, pm, an, cdv, ct, osl, rfl, lk, hcd⟩ := F.ex
  have na : ∀ {b : Addr} {u : Obj}, K.lookup b = some u → b ≠ a := fun e z => by
    rw [z, ha] at e
    cases e
  have fT : f ≠ T := fun z => by
    have h1 := X _ _ lk
    rw [z, hT] at h1
    have h2 := congrArg Obj.data (Option.some.inj h1)
    cases h2
  have lk' := (kx_ne (K := K) (o := o) (na lk) fT).trans lk
  refine ⟨⟨oc, od, kV, doc, pm, an, cdv, ct, osl, rfl, lk', ?_⟩, ?_⟩
  · unfold codeIn at hcd ⊢
    cases cdv with
    | ref c =>
      dsimp only at hcd ⊢
      cases e : K.lookup c with
      | none => rw [e] at hcd; cases hcd
      | some u =>
        have cT : c ≠ T := fun z => by
          have h1 := X _ _ e
          rw [z, hT] at h1
          have h2 : u = tabObj #[] := (Option.some.inj h1).symm
          rw [e, h2] at hcd
          cases hcd
        rw [kx_ne (na e) cT, e]
        rw [e] at hcd
        exact hcd
    | _ => cases hcd
  · unfold keepIn
    dsimp only
    rw [lk']
end
end RFI
end
-- part K1H
section
set_option Elab.async false
set_option linter.all false
set_option maxRecDepth 100000
set_option maxHeartbeats 4000000
namespace K1
open PySem PySem.Spec PySem.Calls PyProof.Rows L2 RFI PySem.W
theorem tab_mk {K : Frag} {x : Str} {f c T : Addr} {oc oc2 : Value} {od od2 : Option Addr} {fd : FuncData} {vs : Array Value} {sl sl2 : Array (Option Value)} (a1 : nsIn K mainGlobals x = some (some (.ref f))) (l1 : K.lookup f = some ⟨oc, od, .func fd, sl⟩) (c1 : fd.code = .ref c)
    (l2 : K.lookup c = some ⟨oc2, od2, .fields vs, sl2⟩) (e : (vs[11]? : Option Value) = some (.ref T)) : ∃ c T, tabIn K x = some (c, T) := by
  refine ⟨c, T, ?_⟩
  unfold tabIn
  simp only [a1, l1, c1, l2, e]
/-- a def of the text as the top has left it -/
def Stands (K : Frag) (mg : Str → Option Value) (x : Str) (st : Stmt) : Prop := ∃ f fd, Fun K x x st f fd ∧ mg x = some (.ref f)
theorem stands_mk {x : Str} {st : Stmt} {K : Frag} {h : Heap} {mg : Str → Option Value} {f : Addr} {od an : Option Addr} {sl : Array (Option Value)} {oc kV dc pm cd ct : Value} (X : K.In h) (G : h.Ns mainGlobals mg)
    (a1 : nsIn K mainGlobals x = some (some (.ref f))) (l1 : K.lookup f = some ⟨oc, od, .func (fnOf x x (defArgs st) (defBody st) (defScope st) .none kV dc pm an cd ct), sl⟩) (c1 : codeIn K cd x = true) (k1 : keepIn K (.ref f) = true) : Stands K mg x st :=
  ⟨f, _, fun_mk (st := st) l1 c1 k1, mg_of X G a1⟩
theorem to_df {x : Str} {st : Stmt} {ps : List Str} {K : Frag} {h : Heap} {mg : Str → Option Value} {a T : Addr} {o : Obj} (X : K.In h) (hT : h.get? T = some (tabObj #[])) (ha : K.lookup a = none)
    (hb : ∀ (kV doc pm : Value) (an : Option Addr) (cdv ct : Value) (us : List Value), us.length = ps.length → bindArgs (fnOf x x (defArgs st) (defBody st) (defScope st) .none kV doc pm an cdv ct) ⟨us, []⟩ = pure (ps.zip us)) (S : Stands K mg x st) : Nonempty (Df (Kx K a o T) mg x st ps) := by
  obtain ⟨f, fd, F, g⟩ := S
  have F' : Fun (Kx K a o T) x x st f fd := fun_kx F X hT ha
  exact ⟨⟨f, fd, F', F'.binds hb, g⟩⟩
theorem end_by {q : Program} {loose : List Str} {XP : (Str → Option Value) → Heap → Prop} {K : Params → Frag} {as : List Addr} {N t : Nat} {d : DefRec}
    (hname : d.name = "law") (hdf : d.params.defaults = []) (ek : ∀ P, as = (K P).map (·.1)) (ht : 0 < t) (hrec : ((recsOf q).find? (fun e => e.name == ("check_row" : Str))).isSome = true)
    (facts : ∀ (w : World) (h : Heap) (mg : Str → Option Value), (K w.params).In h → h.Ns mainGlobals mg →
      Nm mg ∧ (∃ c T, tabIn (K w.params) "check_row" = some (c, T)) ∧ Stands (K w.params) mg "check_word" sCw ∧ Stands (K w.params) mg "is_whole" sIw ∧ Stands (K w.params) mg "check_row" sCr ∧ Stands (K w.params) mg "ways_behind" sWb ∧ Stands (K w.params) mg "ways_of" sWy ∧ Stands (K w.params) mg "count" sCo ∧
      Stands (K w.params) mg "word_of" sWo ∧ Stands (K w.params) mg "_law_cell_at" sCa ∧ Stands (K w.params) mg "_law_draw" sDr ∧ Stands (K w.params) mg "_law_word" sLw ∧ Stands (K w.params) mg "_law_count" sLc ∧ Stands (K w.params) mg "_law_whole" sWh ∧ Stands (K w.params) mg "_law_orders" sOr ∧
      Stands (K w.params) mg "_law_by" sBy ∧ Stands (K w.params) mg "law" sLaw) :
    WalkX q loose XP (X.obsZ as) (X.valZ K N t) PySem.Challenge.rw_risefall_k01_whole_counts.row.toRowW d [] (fun f vs => PySem.call f vs) := by
  refine attachX (l := PySem.Challenge.rw_risefall_k01_whole_counts) (n := 63) rfl hdf ek ht fun w s₁ mg mb fa o pm cd doc a vs ns s₀ G KX hlk hcl ho hd hcd hmg hobj hints hlen _ hg => ?_
  obtain ⟨Nn, ⟨c, T, hTab⟩, S1, S2, S3, S4, S4y, S5, S6, S7, S8, S9, S10, S11, S12, S13, S14⟩ := facts w s₁.heap mg KX G.T.g
  obtain ⟨dR, hR⟩ := Option.isSome_iff_exists.mp hrec
  obtain ⟨hC, hT⟩ := tab_of G.T KX hR hTab
  let O : Obj := { cls := .type "list", data := .seq vs.toArray }
  have aT : T ≠ a := fun z => by
    rw [z, hobj] at hT
    have z' := congrArg Obj.data (Option.some.inj hT)
    cases z'
  obtain ⟨D1⟩ := to_df (o := O) (ps := ["word"]) KX hT hlk (fun _ _ _ _ _ _ us hl => match us, hl with | [_], _ => rfl) S1
  obtain ⟨D2⟩ := to_df (o := O) (ps := ["value"]) KX hT hlk (fun _ _ _ _ _ _ us hl => match us, hl with | [_], _ => rfl) S2
  obtain ⟨D3⟩ := to_df (o := O) (ps := ["row"]) KX hT hlk (fun _ _ _ _ _ _ us hl => match us, hl with | [_], _ => rfl) S3
  obtain ⟨D4⟩ := to_df (o := O) (ps := ["ways", "letter"]) KX hT hlk (fun _ _ _ _ _ _ us hl => match us, hl with | [_, _], _ => rfl) S4
  obtain ⟨D4y⟩ := to_df (o := O) (ps := ["word"]) KX hT hlk (fun _ _ _ _ _ _ us hl => match us, hl with | [_], _ => rfl) S4y
  obtain ⟨D5⟩ := to_df (o := O) (ps := ["word"]) KX hT hlk (fun _ _ _ _ _ _ us hl => match us, hl with | [_], _ => rfl) S5
  obtain ⟨D6⟩ := to_df (o := O) (ps := ["row"]) KX hT hlk (fun _ _ _ _ _ _ us hl => match us, hl with | [_], _ => rfl) S6
  obtain ⟨D7⟩ := to_df (o := O) (ps := ["_law_script", "_law_k"]) KX hT hlk (fun _ _ _ _ _ _ us hl => match us, hl with | [_, _], _ => rfl) S7
  obtain ⟨D8⟩ := to_df (o := O) (ps := ["_law_cell", "_law_k", "_law_many"]) KX hT hlk (fun _ _ _ _ _ _ us hl => match us, hl with | [_, _, _], _ => rfl) S8
  obtain ⟨D9⟩ := to_df (o := O) (ps := ["_law_script"]) KX hT hlk (fun _ _ _ _ _ _ us hl => match us, hl with | [_], _ => rfl) S9
  obtain ⟨D10⟩ := to_df (o := O) (ps := ["_law_word_here"]) KX hT hlk (fun _ _ _ _ _ _ us hl => match us, hl with | [_], _ => rfl) S10
  obtain ⟨D11⟩ := to_df (o := O) (ps := ["_law_number"]) KX hT hlk (fun _ _ _ _ _ _ us hl => match us, hl with | [_], _ => rfl) S11
  obtain ⟨D12⟩ := to_df (o := O) (ps := ["_law_many"]) KX hT hlk (fun _ _ _ _ _ _ us hl => match us, hl with | [_], _ => rfl) S12
  obtain ⟨D13⟩ := to_df (o := O) (ps := ["_law_row"]) KX hT hlk (fun _ _ _ _ _ _ us hl => match us, hl with | [_], _ => rfl) S13
  obtain ⟨D14⟩ := to_df (o := O) (ps := ["_law_script"]) KX hT hlk (fun _ _ _ _ _ _ us hl => match us, hl with | [_], _ => rfl) S14
  have KX' : (Kx (K w.params) a O T).In s₁.heap := kx_in KX hobj
  have hfa : fa = D14.f := by
    rw [hname] at hmg
    exact Value.ref.inj (Option.some.inj (hmg.symm.trans D14.g))
  subst hfa
  have hco : D3.fd.code = .ref c := by
    obtain ⟨oc, od, kV, doc', pm', an, cdv, ct, osl, e, lk, _⟩ := D3.F.ex
    exact law_code KX G.T.g hTab D3.g (KX' _ _ lk) rfl
  have hbind : ∀ (s : Shared) (u : Value), BindsTo s D14.fd ⟨[u], []⟩ [("_law_script", u)] := fun s u => by
    obtain ⟨oc, od, kV, doc', pm', an, cdv, ct, osl, e, _, _⟩ := D14.F.ex
    rw [e]
    exact .of_eq rfl
  have clo : ClO O := ⟨vs.toArray, _, rfl, fun v hv => hcl v (by simpa using hv)⟩
  refine LamX.law_callTs (K := Kx (K w.params) a O T) (CX := CX0) (k := 4) (x := "_law_script") (cs := [(c, T)]) (sp := spLaw (Kx (K w.params) a O T) T) KX' G.T.g G.T.b G.T.builtins G.T.nolimit hg
    (fun p hp => by rw [List.mem_singleton.mp hp]; exact hT) (fun p hp => by rw [List.mem_singleton.mp hp]; exact kx_tab aT) (fun p hp => by rw [List.mem_singleton.mp hp]; exact hC) G.T.bmain hobj hints (Nat.le_trans hlen (by decide)) ⟨rfl, by decide, by decide⟩
    (fun base _ _ TB => ?_) hbind (fun H hH hS => ?_) fun H e s' hh => hh
  · have tb := TB (c, T) (List.mem_singleton.mpr rfl)
    exact ok_law Nn ⟨tb.code, tb.bm, tb.gP⟩ D14 D1 D2 D3 hco D4 D4y D5 D6 D7 D8 D9 D10 D11 D12 D13
  · exact ⟨a, ns, rfl, hS, .inl ⟨O, .inr kx_self, clo⟩, ⟨#[], hH (c, T) (List.mem_singleton.mpr rfl), trivial⟩, hlen, fun _ => rfl⟩
end K1
end
-- part K1Z
set_option Elab.async false
set_option linter.all false
set_option maxRecDepth 100000
open PySem PySem.W PySem.W.X PyProof.Rows
set_option maxHeartbeats 0 in
theorem PySem.Challenge.cw_risefall_k01_whole_counts_holds : PySem.Challenge.rw_risefall_k01_whole_counts.Holds := by
  w_on; o_law; z_head; (case hw => w_witness2)
  k_fill
  refine K1.end_by rfl rfl (fun _ => rfl) (by decide) rfl ?facts
  case facts =>
    intro w h mg KX G
    refine ⟨⟨?_, ?_, ?_, ?_, ?_, ?_, ?_, ?_, ?_, ?_, ?_, ?_, ?_, ?_⟩, ?_, ?_, ?_, ?_, ?_, ?_, ?_, ?_, ?_, ?_, ?_, ?_, ?_, ?_, ?_, ?_⟩
    · exact mg_none_of KX G (by k_is)
    · exact mg_none_of KX G (by k_is)
    · exact mg_none_of KX G (by k_is)
    · exact mg_none_of KX G (by k_is)
    · exact mg_none_of KX G (by k_is)
    · exact mg_none_of KX G (by k_is)
    · exact mg_none_of KX G (by k_is)
    · exact mg_none_of KX G (by k_is)
    · exact mg_none_of KX G (by k_is)
    · exact mg_none_of KX G (by k_is)
    · exact mg_none_of KX G (by k_is)
    · exact mg_none_of KX G (by k_is)
    · exact mg_of KX G (by k_is)
    · exact mg_of KX G (by k_is)
    · refine' K1.tab_mk ?a ?l ?c ?m ?e
      (case a => k_is)
      (case l => k_is)
      (case c => exact rfl)
      (case m => k_is)
      (case e => exact rfl)
    all_goals (refine' K1.stands_mk KX G ?a ?l ?c ?k; (case a => k_is); (case l => k_is); (case c => k_is); (case k => k_is))
