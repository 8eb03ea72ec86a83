import PyProof.Rows.All
import Wide.All
import OpenK.AllK
import Wide.FinOn
import HandS.ForMost
import HandS.Rev
import PyProof.JoinWalk
import HandS.Exc
import HandS.ExcOwn
import HandS.ExcIs
import HandS.ExcField
import HandS.ExcInit
import HandS.HotCalls
import HandS.WordsExc
import HandS.IsInst
import HandS.List
import KE.KExcIs
import PyProof.Rows.CountFlat
import PyProof.ReprDict
import HandS.OwnEq
import PyProof.InstEq
import KE.KCallOwn
import HandS.Text
import HandS.Codes
import HandS.Iter
import HandS.Comp
import HandS.Style
import KE.KRevSl
import HandS.Gcd
import HandS.Wide
import HandS.FStr
import HandS.StrMore
import HandS.NoneIn
import HandS.Defaults
import HandS.Spec
import HandS.Walk
import HandS.TupLe
import HandS.CallLocal
import PyProof.StrLawsRepr
import HandS.More
import HandS.TryOnly
import HandS.SortKw
import KE.KSortKey
import HandS.IntHex
import PyProof.StrLawsIn
import PySem.Challenge.RW_casknotes_k02_marks_and_their_numbers
set_option Elab.async false
set_option linter.all false
set_option maxRecDepth 100000
set_option maxHeartbeats 4000000
/-! repr of things, by the abstract heap: what is told of a value, beneath a running body whose guards are known -/
namespace Rp
open PySem PySem.Spec PyProof.Rows L2

/-- beneath X: room for n calls, X's frames, the guards that run -/
structure Low (X : Cx) (n : Nat) (g : List Code) (A : Around) : Prop where
  rm : Room n A
  fr : A.frames = X.A.frames
  gd : A.guards = some g
section
variable {X : Cx} {n m : Nat} {g : List Code} {A : Around} {a : Addr}
theorem Low.in1 (s : Low X (n + 1) g A) : Low X n g A.in1 := ⟨s.rm.in1, s.fr, s.gd⟩
theorem Low.mono (s : Low X n g A) (h : m ≤ n) : Low X m g A := ⟨s.rm.mono h, s.fr, s.gd⟩
theorem Low.guard {id : String} {v : Value} {us : List Value} (s : Low X (n + 1) g A)
    (hg : (Code.builtin id ⟨v :: us, []⟩).guards = [Code.builtin id ⟨v :: us, []⟩]) (hw : (Code.builtin id ⟨v :: us, []⟩).weight = 1) (hu : (Code.builtin id ⟨v :: us, []⟩).cUnits = 1)
    (he : (Code.builtin id ⟨v :: us, []⟩).envs = []) :
    Low X n (Code.builtin id ⟨v :: us, []⟩ :: g) (A.under (Code.builtin id ⟨v :: us, []⟩)) := by
  obtain ⟨⟨r1, r2, r3⟩, f, gd⟩ := s
  refine ⟨⟨r1, ?_, ?_⟩, ?_, ?_⟩
  · show A.depth + (Code.builtin id ⟨v :: us, []⟩).weight + 3 * n + 5 < _
    rw [hw]; omega
  · show A.units + (Code.builtin id ⟨v :: us, []⟩).cUnits + 16 * n + 200 < _
    rw [hu]; omega
  · show pushEnvs (Code.builtin id ⟨v :: us, []⟩).envs A.frames = _
    rw [he]; exact f
  · show pushGuards (Code.builtin id ⟨v :: us, []⟩).guards A.guards = _
    rw [hg, gd]; rfl
end

/-- what repr tells of v, at any heap grown from H -/
structure Says (X : Cx) (n : Nat) (as : List Addr) (H : Hp) (v : V) (t : Str) : Prop where
  und : ∀ (A : Around) (g : List Code) (base : Nat) (pins : List (Addr × Obj)) (s : Shared) (σ : L2.St) (H1 : Hp) (u : Value), Low X n g A → (∀ b ∈ as, Clear g b) → Inv X pins σ H1 s → Same H H1 → RelV v u → base + t.length ≤ sizeLine →
    wpAny (model X.prog X.w) A (pyReprUnder base u) (fun r s' => r = t ∧ ∃ H2, Inv X pins σ H2 s' ∧ Same H1 H2) X.xe s
  top : ∀ (A : Around) (g : List Code) (pins : List (Addr × Obj)) (s : Shared) (σ : L2.St) (H1 : Hp) (u : Value), Low X n g A → (∀ b ∈ as, Clear g b) → Inv X pins σ H1 s → Same H H1 → RelV v u → t.length ≤ sizeLine →
    wpAny (model X.prog X.w) A (call (.builtin "repr") [u]) (fun r s' => (∃ tk, r = .str t tk) ∧ ∃ H2, Inv X pins σ H2 s' ∧ Same H1 H2) X.xe s

section
variable {X : Cx} {n m : Nat} {as as' : List Addr} {H H' : Hp} {v : V} {t : Str} {a : Addr}
theorem Says.grow (h : Says X n as H v t) (e : Same H H') : Says X n as H' v t :=
  ⟨fun A g base pins s σ H1 u lo cl I x => h.und A g base pins s σ H1 u lo cl I (e.trans x), fun A g pins s σ H1 u lo cl I x => h.top A g pins s σ H1 u lo cl I (e.trans x)⟩
theorem Says.mono (h : Says X n as H v t) (hn : n ≤ m) (hs : ∀ b ∈ as, b ∈ as') : Says X m as' H v t :=
  ⟨fun A g base pins s σ H1 u lo cl => h.und A g base pins s σ H1 u (lo.mono hn) fun b hb => cl b (hs b hb), fun A g pins s σ H1 u lo cl => h.top A g pins s σ H1 u (lo.mono hn) fun b hb => cl b (hs b hb)⟩
theorem says_leaf (hi : ∀ u, RelV v u → ReprIs X.prog X.w u t) (ht : ∀ (A : Around) (E : Value → Shared → Prop) (s : Shared) (u : Value) (Q : Value → Shared → Prop), RelV v u → t.length ≤ sizeLine → Q (.str t s.toks) { s with toks := s.toks + 1 } → wpAny (model X.prog X.w) A (call (.builtin "repr") [u]) Q E s) :
    Says X 0 [] H v t :=
  ⟨fun A g base pins s σ H1 u _ _ I _ r hz => hi u r base hz A X.xe s _ fun tk => ⟨rfl, H1, I.tok tk, Same.refl H1⟩,
   fun A g pins s σ H1 u _ _ I _ r hz => ht A X.xe s u _ r hz ⟨⟨_, rfl⟩, H1, I.tok _, Same.refl H1⟩⟩
theorem says_bl (b : Bool) : Says X 0 [] H (.bl b) (if b then "True" else "False" : String) := by
  refine says_leaf (fun u r => ?_) fun A E s u Q r _ q => ?_
  · cases r
    have h := ReprIs.bool (prog := X.prog) (w := X.w) b
    cases b <;> exact h
  · cases r
    refine PySem.P.repr_of_bool ?_
    cases b <;> exact q
theorem says_non : Says X 0 [] H .non ("None" : String) := by
  refine says_leaf (fun u r => ?_) fun A E s u Q r _ q => ?_
  · cases r; exact ReprIs.none
  · cases r; exact PySem.P.repr_of_none q
theorem says_int {i : Int} (hi : i.natAbs.log2 < 1920) : Says X 0 [] H (.int i) (toString i) := by
  refine says_leaf (fun u r => ?_) fun A E s u Q r _ q => ?_
  · obtain ⟨tk, rfl⟩ := r; exact ReprIs.int tk hi
  · obtain ⟨tk, rfl⟩ := r; exact PySem.P.repr_of_int hi q
theorem says_str {x : Str} (hx : (reprText x).length ≤ sizeLine) : Says X 0 [] H (.str x) (reprText x) := by
  refine says_leaf (fun u r => ?_) fun A E s u Q r hz q => ?_
  · obtain ⟨tk, rfl⟩ := r; exact ReprIs.str x tk hx
  · obtain ⟨tk, rfl⟩ := r; exact PySem.P.repr_of_str q hz
end

/-! ### lists -/
section
variable {X : Cx} {n : Nat} {as : List Addr} {H : Hp} {a P : Addr} {xs : List V} {ts : List Str} {base : Nat} {g : List Code} {A : Around} {pins : List (Addr × Obj)} {σ : L2.St}
abbrev loopC (a P : Addr) (i k : Nat) : Code := .builtin "list.__repr__.loop" ⟨[.ref a, rawInt i, .ref P, rawInt (k : Int)], []⟩
theorem low_loop (lo : Low X (n + 1) g A) (i k : Nat) : Low X n (loopC a P i k :: g) (A.under (loopC a P i k)) :=
  lo.guard (by show (if Code.isGuard _ then _ else _) = _; rw [isGuard_list_loop]; rfl)
    (by simp only [Code.weight, isGuard_list_loop]; rfl)
    (by rfl) (by first | rfl | simp [Code.envs, Code.isFrame])
theorem lst_turns (lo : Low X (n + 1) g A) (hcl : ∀ b ∈ as, Clear g b) (hna : a ∉ as) (hit : ∀ (i : Nat) (x : V), xs[i]? = some x → ∃ t, ts[i]? = some t ∧ Says X n as H x t) (hl : ts.length = xs.length)
    (hsz : base + (listText ts).length ≤ sizeLine) (hq : SqL X.K H a xs) (haP : a ≠ P) {R : Result → Shared → Prop}
    (fin : ∀ s H2 u, Inv X pins σ H2 s → Same H H2 → R (.ok (.ret (.str (listText ts) u))) s) (bad : ∀ e s, X.xe e s → R (.error e) s) :
    ∀ (k i : Nat) (s : Shared) (H1 : Hp) (acc : Array Value) (c : Nat) (done : List (Str × Tok)), xs.length - i = k → i ≤ xs.length → Inv X pins σ H1 s → Same H H1 → FpOk X pins H1 P →
      s.heap.get? P = some { cls := .type "list", dict := none, data := .seq acc c, slots := #[] } → acc.toList = strValues done → done.map (·.1) = ts.take i →
      codeAny (model X.prog X.w) A (loopC a P i (base + piled (ts.take i))) R s := by
  have hL := textFrom_len ts 0 "["
  have hX : (listText ts).length = (textFrom 0 "[" ts).length + 1 := by
    unfold listText
    rw [strLen_append]; rfl
  have hsz0 : (listText ts).length ≤ sizeLine := by omega
  have small : ∀ t ∈ ts, t.length ≤ sizeLine := fun t ht => by
    have h2 := hL.2.1 t ht
    omega
  have hp3 := piled_le_listText ts
  have hn1 : xs.length ≤ sizeLine := by
    have h1 := hL.1
    rw [if_neg (Nat.lt_irrefl 0)] at h1
    omega
  intro k
  induction k with
  | zero =>
    intro i s H1 acc c done hk hi I hs fp hP hacc hdone
    have hin : i = xs.length := by omega
    obtain ⟨its, rv, pl, _⟩ := I.list (hs.seq hq)
    obtain ⟨oa, na, ho, _, _, hd⟩ := pl
    refine codeAny_builtin PySem.F.entry_list_repr_loop ?_
    show wpAny _ _ (Builtin.«list.__repr__.loop» ⟨[.ref a, .int i 0, .ref P, .int ((base + piled (ts.take i) : Nat) : Int) 0], []⟩) _ _ s
    rw [repr_loop_tree]
    refine wpAny_bind (wpAny_listItems ho hd ?_)
    have none_ : its.toArray[((i : Int)).toNat]? = none := by
      have := rv.length
      simp; omega
    simp only [none_]
    unfold reprEnd
    refine wpAny_bind (wpAny_listItems hP rfl ?_)
    rw [hacc, repr_fold]
    have hall : done.map (·.1) = ts := by rw [hdone, hin, ← hl, List.take_length]
    refine wpAny_bind (wpAny_pure ?_)
    rw [hall]
    exact wpAny_bind (wpAny_mkStr (wpAny_pure (fin _ H1 _ (I.tok _) hs)) hsz0)
  | succ k ih =>
    intro i s H1 acc c done hk hi I hs fp hP hacc hdone
    have hlt : i < xs.length := by omega
    obtain ⟨its, rv, pl, _⟩ := I.list (hs.seq hq)
    obtain ⟨oa, na, ho, _, _, hd⟩ := pl
    have hlt2 : i < its.length := by rw [← rv.length]; exact hlt
    obtain ⟨t, ht, hsay⟩ := hit i xs[i] (List.getElem?_eq_getElem hlt)
    obtain ⟨u, hu, ru⟩ := rv.get (List.getElem?_eq_getElem hlt)
    have hp1 := piled_take_succ ht
    have hp2 := piled_take_le ts (i + 1)
    refine codeAny_builtin PySem.F.entry_list_repr_loop ?_
    show wpAny _ _ (Builtin.«list.__repr__.loop» ⟨[.ref a, .int i 0, .ref P, .int ((base + piled (ts.take i) : Nat) : Int) 0], []⟩) _ _ s
    rw [repr_loop_tree]
    refine wpAny_bind (wpAny_listItems ho hd ?_)
    have some_ : its.toArray[i]? = some u := by simpa using hu
    simp only [Int.toNat_natCast, some_]
    obtain ⟨f0, f1, f2, f3, f4, f5⟩ := id fp
    have Ip : Inv X ((P, { cls := .type "list", dict := none, data := .seq acc c, slots := #[] }) :: pins) σ H1 s := I.pins_of fun p hp => by
      rcases List.mem_cons.mp hp with e | hp
      · rw [e]
        exact ⟨hP, f0, f1, f2, fun v z => by cases z⟩
      · exact I.pin p (List.mem_append_right _ hp)
    refine wpAny_bind (wpAny_holding (wpAny_mono (hsay.und (A.under (loopC a P i (base + piled (ts.take i)))) (loopC a P i (base + piled (ts.take i)) :: g) (base + piled (ts.take i) + 1) _ s σ H1 u (low_loop lo i _)
      (fun b hb => (hcl b hb).cons (a := a) fun e => hna (e ▸ hb)) Ip hs ru (by omega)) (fun r s2 hr => ?_) fun e s2 he => bad e s2 he))
    obtain ⟨er, H2, I2, e2⟩ := hr
    subst er
    obtain ⟨hP2, n2, _⟩ := I2.pin _ (List.mem_append_right _ List.mem_cons_self)
    have I3 : Inv X pins σ H2 s2 := I2.pins_of fun p hp => I2.pin p (List.mem_append_right _ (List.mem_cons_of_mem _ hp))
    refine wpAny_bind (wpAny_mkStr ?_ (small r (List.mem_of_getElem? ht)))
    refine wpAny_bind ?_
    show wpAny _ _ (updateSeq P _) _ _ _
    have hasz : acc.size ≤ sizeLine := by
      have e1 : acc.toList.length = acc.size := by simp
      have e3 : done.length = (ts.take i).length := by rw [← hdone, List.length_map]
      have e4 : (ts.take i).length ≤ i := by rw [List.length_take]; omega
      have e5 : (strValues done).length = done.length := by simp [strValues]
      rw [hacc] at e1; omega
    refine wpAny_updateSeq hP2 rfl (wpAny_pure ⟨PySem.F.quiet_list_repr_loop _, ?_⟩) hasz
    have e1 : ((i : Int) + 1) = ((i + 1 : Nat) : Int) := by omega
    have e3 : base + piled (ts.take i) + (r.length + 2) = base + piled (ts.take (i + 1)) := by omega
    rw [e1, e3]
    have fp2 : FpOk X pins H2 P := ⟨n2, f1, f2, f3, f4, f5⟩
    refine ih (i + 1) _ H2 (acc.push (.str r s2.toks)) _ (done ++ [(r, s2.toks)]) (by omega) hlt ((I3.tok (s2.toks + 1)).turned (t' := s2.toks + 1) (it := P) (fun b o hb e => ?_) n2 f1 f3 f4 f5) (hs.trans e2) fp2 (Heap.get?_update_self _ hP2 rfl) ?_ ?_
    · exact (Heap.get?_update_other _ _ (fun z : P = b => hb z.symm)).trans e
    · simp [hacc, strValues]
    · rw [List.map_append, hdone, List.take_add_one, ht]
      rfl

/-- the body of list.__repr__, of any base -/
theorem lst_body (lo : Low X (n + 1) g A) (hcl : ∀ b ∈ a :: as, Clear g b) (hna : a ∉ as) (hit : ∀ (i : Nat) (x : V), xs[i]? = some x → ∃ t, ts[i]? = some t ∧ Says X n as H x t) (hl : ts.length = xs.length)
    (hsz : base + (listText ts).length ≤ sizeLine) (hq : SqL X.K H a xs) {s : Shared} {H1 : Hp} (I : Inv X pins σ H1 s) (hs : Same H H1) {R : Result → Shared → Prop}
    (fin : ∀ s H2 u, Inv X pins σ H2 s → Same H1 H2 → R (.ok (.ret (.str (listText ts) u))) s) (bad : ∀ e s, X.xe e s → R (.error e) s) :
    wpAny (model X.prog X.w) A.in1 (Builtin.listReprAt base ⟨[.ref a], []⟩) (fun fin s' => match fin with | .done f => R (.ok f) s' | .again c' => c'.quiet = true ∧ codeAny (model X.prog X.w) A c' R s') (fun e s' => R (.error e) s') s := by
  obtain ⟨its, rv, pl, _⟩ := I.list (hs.seq hq)
  obtain ⟨oa, na, ho, hc, _, hd⟩ := id pl
  have hca : Clear g a := hcl a List.mem_cons_self
  cases its with
  | nil =>
    cases rv
    have e : ts = [] := List.length_eq_zero_iff.mp hl
    subst e
    refine wpAny_list_repr_empty ho hd ?_
    have q := fin _ H1 s.toks (I.tok (s.toks + 1)) (Same.refl H1)
    rw [listText_nil] at q
    exact q
  | cons y its =>
    refine wpAny_list_repr_head (A := A.in1) lo.gd (fun v rest kw hm => listSameRef_of_ne (hca _ _ _ _ hm)) ho hd ?_
    refine wpAny_bind (m := newList []) (wpAny_newObj_type ?_)
    refine wpAny_pure ⟨PySem.F.quiet_list_repr_loop _, ?_⟩
    have fp := I.fpOk (H' := H1) (Nat.le_refl _) (I.hok.fresh (Nat.le_refl _))
    have q := lst_turns (P := s.heap.objs.size) (R := R) lo (fun b hb => hcl b (List.mem_cons_of_mem _ hb)) hna (fun i x h => let ⟨t, h1, h2⟩ := hit i x h; ⟨t, h1, h2.grow hs⟩) hl hsz (hs.seq hq) (Nat.ne_of_lt (Heap.lt_size ho)) fin bad
      xs.length 0 { s with heap := s.heap.push { cls := .type "list", dict := none, data := .seq [].toArray } } H1 #[] _ [] rfl (Nat.zero_le _) (I.kept (t' := s.toks) fun b o e => Heap.get?_push_of_some _ e) (Same.refl H1) fp (Heap.get?_push_size _ rfl) rfl rfl
    rw [show base + piled (List.take 0 ts) = base by simp [piled]] at q
    exact q
theorem says_lst (hq : SqL X.K H a xs) (hna : a ∉ as) (hl : ts.length = xs.length) (hit : ∀ (i : Nat) (x : V), xs[i]? = some x → ∃ t, ts[i]? = some t ∧ Says X n as H x t) : Says X (n + 2) (a :: as) H (.ref a) (listText ts) := by
  refine ⟨fun A g base pins s σ H1 u lo cl I hs ru hz => ?_, fun A g pins s σ H1 u lo cl I hs ru hz => ?_⟩
  · cases ru
    obtain ⟨its, rv, ⟨oa, na, ho, hc, _, hd⟩, _⟩ := I.list (hs.seq hq)
    refine wpAny_pyReprUnder_ref (by omega) (wpAny_pyReprObjUnder_twin (twin := "list.__repr__.under") ⟨oa, ho, hc⟩ PySem.F.slot_list_repr.toG rfl lo.rm.units0
      (call_twin_plain PySem.F.plain_list_repr_under PySem.F.entry_list_repr_under PySem.F.check_list_repr_under ⟨oa, ho, hc⟩ PySem.F.slot_list_repr.toG (PySem.F.args_list_repr_1 _) ?_))
    exact lst_body (R := callEnd _ _) (lo.mono (by omega)) cl hna hit hl hz hq I hs (fun s2 H2 tk I2 e2 => ⟨⟨_, _, rfl⟩, _, _, rfl, rfl, H2, I2, e2⟩) fun e s2 he => he
  · cases ru
    obtain ⟨its, rv, ⟨oa, na, ho, hc, _, hd⟩, _⟩ := I.list (hs.seq hq)
    have h1 := lo.rm.units
    refine call_repr_slot (by omega) ⟨oa, ho, hc⟩ PySem.F.slot_list_repr.toG (wpAny_call (codeAny_call_builtin PySem.F.slot_list_repr.plain PySem.F.entry_list_repr (PySem.F.slot_list_repr.check _ _ _ _ _ _ _ _ ⟨oa, ho, hc⟩ (PySem.F.args_list_repr_1 _) ?_)))
    exact lst_body (A := A.in1) (base := 0) (R := callEnd _ _) lo.in1 cl hna hit hl (by omega) hq I hs (fun s2 H2 tk I2 e2 => ⟨_, _, rfl, ⟨_, rfl⟩, H2, I2, e2⟩) fun e s2 he => he
end

/-! ### instances of an own class with an own __repr__ -/
section
variable {X : Cx} {n : Nat} {H : Hp} {a C dx f : Addr} {fs : List (Str × V)} {fd : FuncData} {ps : List Str} {sp : Sp} {CX : CXT} {E : XK} {t : Str} {g : List Code} {A : Around} {pins : List (Addr × Obj)} {σ : L2.St} {s : Shared}
/-- a method of one argument, called from beneath X -/
theorem own_run (F : FnOk X.prog X.w X.K X.mg X.base CX n f fd ps sp) (hb : Binds X.K fd ps []) (hx : Passes CX X E) (lo : Low X n g A) (I : Inv X pins σ H s) {Q : VK} (hsp : sp [.ref a] H Q E) :
    wpAny (model X.prog X.w) A (call (.ref f) [.ref a]) (EP X pins σ Q) X.xe s := by
  have e := I.env0
  have e0 : Env0 X.prog X.w X.K X.mg X.base A X.stack s H := ⟨lo.fr.trans e.frames, e.mod, e.bs, e.bsz, e.funs, e.frf, e.hok, e.bare⟩
  have hl := F.len _ _ _ _ hsp
  have bt := hb s [.ref a] I.kIn (by simpa using hl)
  rw [List.append_nil] at bt
  refine wpAny_call (codeAny_mono (F.run A X.stack s H ⟨[.ref a], []⟩ [.ref a] [.ref a] Q E lo.rm e0 bt (.cons rfl .nil) hsp) fun r s' hq => ?_)
  match r, hq with
  | .error e, hq => exact hx pins σ H s e s' I hq
  | .ok (.ret w), hq => exact I.after hq
theorem own_by {M : Model} {last : Value → List Value → Sem Value} {Q : Option Value → Shared → Prop} {E : Value → Shared → Prop} {K : PySem.W.Frag} {x : Addr} {ox : Obj} {od : Option Obj} {name : Str} (kx : K.In s.heap) (J : PySem.W.InstAt s.heap x ox C od)
    (hs : PySem.W.findIn K (.ref C) name = some (some (.ref f))) (hf : PySem.W.isFn K (.ref f) = true) (h : wpAny M A (last (.ref f) [.ref x]) (fun v => Q (some v)) E s) : wpAny M A (callSpecialIfBoundBy? last (.ref x) name) Q E s := by
  have done : wpAny M A (last (.ref f) [.ref x] >>= fun v => pure (some v)) Q E s := wpAny_bind (wpAny_mono h (fun _ _ q => wpAny_pure q) fun _ _ q => q)
  have bd := PySem.W.bind_fn (M := M) kx (.ref x) (beq_iff_eq.mp hf)
  simp only [callSpecialIfBoundBy?, bindSpecialIfBound?]
  refine wpAny_holding (wpAny_bind (wpAny_bind (wpAny_bind (J.type.here ((PySem.W.looks_findIn kx hs).here (wpAny_bind (wpAny_askSetting (wpAny_ite ?_))))))))
  split
  · exact wpAny_bind (bd.here (wpAny_pure done))
  · exact wpAny_tryCatch (wpAny_bind (bd.here (wpAny_pure done)))
theorem says_own (F : FnOk X.prog X.w X.K X.mg X.base CX n f fd ps sp) (hs : PySem.W.findIn X.K (.ref C) "__repr__" = some (some (.ref f))) (hf : PySem.W.isFn X.K (.ref f) = true) (hb : Binds X.K fd ps []) (hx : Passes CX X E)
    (ha : H a = some (.ins C dx fs)) (hsp : ∀ H1, Same H H1 → sp [.ref a] H1 (fun v H2 => v = .str t ∧ Same H1 H2) E) : Says X (n + 1) [] H (.ref a) t := by
  have turn : ∀ {A : Around} {g : List Code} {pins : List (Addr × Obj)} {s : Shared} {σ : L2.St} {H1 : Hp}, Low X n g A → Inv X pins σ H1 s → Same H H1 →
      wpAny (model X.prog X.w) A (call (.ref f) [.ref a]) (fun r s' => ∃ tk, r = .str t tk ∧ ∃ H2, Inv X pins σ H2 s' ∧ Same H1 H2) X.xe s := fun lo I e =>
    wpAny_mono (own_run F hb hx lo I (hsp _ e)) (fun r s' q => by
      obtain ⟨v, H2, I2, r2, ev, e2⟩ := q
      subst ev
      obtain ⟨tk, rfl⟩ := r2
      exact ⟨tk, rfl, H2, I2, e2⟩) fun _ _ q => q
  refine ⟨fun A g base pins s σ H1 u lo cl I e ru hz => ?_, fun A g pins s σ H1 u lo cl I e ru hz => ?_⟩
  · cases ru
    obtain ⟨mA, O, _⟩ := ins_get I.hok (e _ _ ha)
    obtain ⟨od, J, _⟩ := O.look
    have hu := lo.rm.units0
    refine wpAny_pyReprUnder_ref (by omega) ?_
    unfold pyReprObjUnder pyReprObjBy
    refine wpAny_bind (wpAny_cRoomFor hu (wpAny_bind (wpAny_bind (J.type.here ((PySem.W.looks_findIn I.kIn hs).here ?_)))))
    show wpAny _ _ (if (some (Value.ref f)).isNone = true then _ else _) _ _ _
    rw [if_neg (by simp)]
    refine wpAny_bind (own_by I.kIn J hs hf ?_)
    show wpAny _ _ (call (.ref f) [.ref a]) _ _ _
    refine wpAny_mono (turn (lo.mono (Nat.le_succ n)) I e) (fun r s2 q => ?_) fun _ _ q => q
    obtain ⟨tk, rfl, q⟩ := q
    exact wpAny_bind (wpAny_isInstance (typeIs_str _ _ _) isSubtype_str_str (wpAny_pure ⟨t, tk, rfl, rfl, q⟩))
  · cases ru
    obtain ⟨mA, O, _⟩ := ins_get I.hok (e _ _ ha)
    obtain ⟨od, J, _⟩ := O.look
    obtain ⟨m, hF⟩ := I.fr
    refine PySem.W.repr_K lo.in1.rm.units0 hF I.ok.mod.kin J hs hf (wpAny_mono (turn lo.in1 I e) (fun r s2 q => ?_) fun _ _ q => q)
    obtain ⟨tk, rfl, q⟩ := q
    exact ⟨⟨tk, rfl⟩, q⟩
end

/-! ### repr(x) in a body whose guards are known to be none -/
section
variable {X : Cx}
def rRepr (X : Cx) (n : Nat) : List V → Hp → VK → Prop := fun vs H Q => ∃ (v : V) (t : Str) (as : List Addr), vs = [v] ∧ Says X n as H v t ∧ t.length ≤ sizeLine ∧ ∀ H2, Same H H2 → Q (.str t) H2
theorem cr_repr {n : Nat} (hr : Room n X.A) (hg : X.A.guards = some []) : CallR X (.builtin "repr") (rRepr X n) := by
  intro pins s σ H vs us Q I r h
  obtain ⟨v, t, as, rfl, hv, hz, q⟩ := h
  obtain ⟨u, rfl, ru⟩ := vals1 r
  refine wpAny_mono (hv.top X.A [] pins s σ H u ⟨hr, rfl, hg⟩ (fun b _ => Clear.nil b) I (Same.refl H) ru hz) (fun w s2 k => ?_) fun _ _ k => k
  obtain ⟨⟨tk, rfl⟩, H2, I2, e2⟩ := k
  exact ⟨.str t, H2, I2, ⟨tk, rfl⟩, q H2 e2⟩
/-- repr(True), repr(False): whatever guards run -/
theorem cr_reprB : CallR X (.builtin "repr") (fun vs H Q => ∃ b : Bool, vs = [.bl b] ∧ Q (.str (if b then "True" else "False" : String)) H) := by
  intro pins s σ H vs us Q I r h
  obtain ⟨b, rfl, q⟩ := h
  obtain ⟨u, rfl, ru⟩ := vals1 r
  cases ru
  refine PySem.P.repr_of_bool ⟨.str (if b then "True" else "False" : String), H, I.tok _, ⟨s.toks, ?_⟩, q⟩
  cases b <;> rfl
end
end Rp
/-! defs that know that no guard runs around them, and the law's end for such a def -/
namespace Rp
open PySem PySem.Spec PyProof.Rows L2
/-- the promise of a def, where no guard runs around the call -/
structure FnG (P : Program) (w : World) (K : PySem.W.Frag) (mg : Str → Option Value) (base : Heap) (CX : CXT) (k : Nat) (f : Addr) (fd : FuncData) (ps : List Str) (sp : Sp) : Prop where
  len : ∀ vs H Q E, sp vs H Q E → vs.length = ps.length
  go : ∀ (A : Around) (outer : List Env) (s : Shared) (H : Hp) (args : Args) (us : List Value) (vs : List V) (Q : VK) (E : XK), A.guards = some [] → Room k A →
    Env0 P w K mg base A outer s H → BindsTo s fd args (ps.zip us) → Vals vs us → sp vs H Q E → codeAny (model P w) A (.call (.ref f) args) (CR CX outer P w H s Q E) s
section
variable {P : Program} {w : World} {K : PySem.W.Frag} {mg : Str → Option Value} {base : Heap} {CX : CXT} {k : Nat} {f : Addr} {fd : FuncData} {ps : List Str} {sp : Sp}
theorem FnG.of (F : FnOk P w K mg base CX k f fd ps sp) : FnG P w K mg base CX k f fd ps sp := ⟨F.len, fun A outer s H args us vs Q E _ => F.run A outer s H args us vs Q E⟩
/-- a def by its body; the body may use that no guard runs -/
theorem fn_bodyG {name qual : Str} {params : Arguments} {body : List Stmt} {scope : Scope} {dV kV doc pm cdv ct oc : Value} {an od : Option Addr} {osl : Array (Option Value)} {N : List Str}
    (lk : K.lookup f = some ⟨oc, od, .func (PySem.W.fnOf name qual params body scope dV kV doc pm an cdv ct), osl⟩) (hcd : PySem.W.codeIn K cdv qual = true) (S : FnScope N ps scope) (len : ∀ vs H Q E, sp vs H Q E → vs.length = ps.length)
    (hbody : ∀ (A : Around) (outer : List Env) (s : Shared) (H : Hp) (vs : List V) (Q : VK) (E : XK), A.guards = some [] → Room k (A.deeper (envOfC qual scope s.heap.objs.size f cdv)) → sp vs H Q E →
      ∃ t, PSs (cxOf CX P w K mg base N qual scope f cdv A outer s H E) body t ∧ t { nx := fun _ H' => Q .non H', rt := Q } (start N vs) H) :
    FnG P w K mg base CX (k + 1) f (PySem.W.fnOf name qual params body scope dV kV doc pm an cdv ct) ps sp := by
  refine ⟨len, fun A outer s H args us vs Q E gd hr e0 hb rv hsp => ?_⟩
  have here : ∀ b o, base.get? b = some o → s.heap.get? b = some o := fun b o e => (e0.bs b o e).1
  have kx : K.In s.heap := e0.mod.kin.keeps here
  have lim : s.heap.NoLimit := e0.mod.nolimit.keeps here
  have kinds : ∀ y ∈ ps.zip us, scope.names.lookup y.1 = some .local ∨ (scope.names.lookup y.1 = some .cell ∧ ((cellsFrom (s.heap.objs.size + 1) scope.names []).lookup y.1).isSome = true) := by
    rintro ⟨n, v⟩ hy
    exact (S.par n (List.of_mem_zip hy).1).imp id fun q => ⟨q, PySem.W.cellsFrom_some _ _ _ (.inl q)⟩
  refine codeAny_call_function hr.depth (kx _ _ lk) rfl S.co S.gen rfl (PySem.W.codeRec_of kx hcd) (hb _ _ _ _ (wpAny_newFunctionEnv_cells S.kind kinds fun env he s1 ic => ?_))
  subst he
  refine ⟨lim.keeps ic.toInCall.keep, codeAny_func ?_⟩
  obtain ⟨t, ht, hq⟩ := hbody A outer s H vs Q E gd (hr.deeper _) hsp
  have I : L2.Inv (cxOf CX P w K mg base N qual scope f cdv A outer s H E) [] (start N vs) H s1 := inv_start S hr.hd e0 (len _ _ _ _ hsp) rv ic
  refine wpAny_mono (ht.run [] s1 (start N vs) H _ I hq) (fun fl s' hs => ?_) fun e s' hs => hs
  cases fl with
  | next =>
    obtain ⟨σ', H', J, q⟩ := hs
    exact ⟨V.non, H', J.os, J.bare, J.base, J.hok, (rfl : RelV .non Value.none), q⟩
  | ret u =>
    obtain ⟨v, σ', H', J, rv, q⟩ := hs
    exact ⟨v, H', J.os, J.bare, J.base, J.hok, rv, q⟩
  | brk => exact hs.elim fun _ z => z.elim fun _ z => z.2.elim
  | cont => exact hs.elim fun _ z => z.elim fun _ z => z.2.elim
theorem Fun_okG {x qual : Str} {st : Stmt} {N : List Str} (F : Fun K x qual st f fd) (S : FnScope N ps (defScope st)) (len : ∀ vs H Q E, sp vs H Q E → vs.length = ps.length)
    (body : ∀ (cdv : Value) (A : Around) (outer : List Env) (s : Shared) (H : Hp) (vs : List V) (Q : VK) (E : XK), A.guards = some [] →
      Room k (A.deeper (envOfC qual (defScope st) s.heap.objs.size f cdv)) → sp vs H Q E →
      ∃ t, PSs (cxOf CX P w K mg base N qual (defScope st) f cdv A outer s H E) (defBody st) t ∧ t { nx := fun _ H' => Q .non H', rt := Q } (start N vs) H) : FnG P w K mg base CX (k + 1) f fd ps sp := by
  obtain ⟨oc, od, kV, doc, pm, an, cdv, ct, osl, rfl, lk, hcd⟩ := F.ex
  exact fn_bodyG lk hcd S len fun A outer s H vs Q E gd hr hsp => body cdv A outer s H vs Q E gd hr hsp
theorem Fun_okG0 {x qual : Str} {st : Stmt} {N : List Str} (F : Fun K x qual st f fd) (S : FnScope N ps (defScope st)) (len : ∀ vs H Q E, sp vs H Q E → vs.length = ps.length)
    (body : ∀ (cdv : Value) (A : Around) (outer : List Env) (s : Shared) (H : Hp) (vs : List V) (Q : VK) (E : XK), A.guards = some [] →
      Room k (A.deeper (envOfC qual (defScope st) s.heap.objs.size f cdv)) → sp vs H Q E →
      ∃ t, PSs (cxOf CX0 P w K mg base N qual (defScope st) f cdv A outer s H E).nox (defBody st) t ∧ t { nx := fun _ H' => Q .non H', rt := Q } (start N vs) H) : FnG P w K mg base CX0 (k + 1) f fd ps sp :=
  Fun_okG F S len fun cdv A outer s H vs Q E gd hr hsp => let ⟨t, h, q⟩ := body cdv A outer s H vs Q E gd hr hsp; ⟨t, h.nox, q⟩
end

/-! ### the call of such a def -/
section
variable {X : Cx} {CX : CXT} {k : Nat} {f : Addr} {fd : FuncData} {ps : List Str} {sp : Sp} {dvs : List V} {ds : List Value} {E : XK} {x : Str} {p pos : Pos} {e : Expr} {es : List Expr} {t : TA}
theorem run_fnG {pins : List (Addr × Obj)} {σ : L2.St} {H : Hp} {s : Shared} {Q : VK} {us : List Value} {vs : List V} (F : FnG X.prog X.w X.K X.mg X.base CX k f fd ps sp) (hg : X.A.guards = some []) (hr : Room k X.A) (hb : Binds X.K fd ps ds) (hd : Vals dvs ds)
    (hx : Passes CX X E) (I : Inv X pins σ H s) (r : Vals vs us) (h : sp (vs ++ dvs) H Q E) : wpAny (model X.prog X.w) X.A (call (.ref f) us) (EP X pins σ Q) X.xe s := by
  have all := r.append hd
  have hl := all.length.symm.trans (F.len _ _ _ _ h)
  refine wpAny_call (codeAny_mono (F.go X.A X.stack s H ⟨us, []⟩ (us ++ ds) (vs ++ dvs) Q E hg hr I.env0 (hb s us I.kIn hl) all h) fun r s' hq => ?_)
  match r, hq with
  | .error e, hq => exact hx pins σ H s e s' I hq
  | .ok (.ret u), hq => exact I.after hq
theorem pe_callG (F : FnG X.prog X.w X.K X.mg X.base CX k f fd ps sp) (hgd : X.A.guards = some []) (hr : Room k X.A) (hg : Gl X x) (hm : X.mg x = some (.ref f)) (hk : PySem.W.keepIn X.K (.ref f) = true) (hb : Binds X.K fd ps ds) (hd : Vals dvs ds) (hx : Passes CX X E)
    (ha : PA X (e :: es) t) (hdb : (x == ("__debug__" : Str)) = false := by decide) (he : starEach (e :: es) X.env = (false, eval e X.env) :: starEach es X.env := by rfl) (hpl : (backTo pos (starEach es X.env)).any (·.1) = false := by rfl) :
    PE X (.Call (.Name x p) (e :: es) [] pos) (tCall sp dvs E t) :=
  ⟨fun pins s σ H Q I h => wpAny_Call_Name_kw (ld_glob I hg hm (PySem.W.callWith_K (h₀ := X.base) I.ok.mod.kin hk (thn (ha.run pos pins s σ H _ I h) fun us s1 ⟨vs, H1, I1, r, q⟩ => ⟨I1.kIn, run_fnG F hgd hr hb hd hx I1 r q⟩) he hpl) hdb)⟩
end

/-! ### the law's end -/
/-- what stands tracked at the law's entry: the script alone, or nothing -/
def atScript (a : Addr) (u : HO) : Hp := fun b => if b = a then some u else none
theorem law_atG {P : Program} {w : World} {K : PySem.W.Frag} {mg mb : Str → Option Value} {CX : CXT} {k : Nat} {fa a : Addr} {fd : FuncData} {x : Str} {sp : Sp} {s₁ : Shared} {vs : List Value} {ns : List Int}
    (KX : K.In s₁.heap) (hns : s₁.heap.Ns mainGlobals mg) (hb : s₁.heap.Ns builtinsNs mb) (hbb : ∀ x : Str, x ≠ "__name__" → mb x = bootBuiltins x) (hlim : s₁.heap.NoLimit) (hg : s₁.gens = #[])
    (ha : s₁.heap.get? a = some { cls := .type "list", data := .seq vs.toArray }) (hr : Room k callerA)
    (F : ∀ base : Heap, K.In base → base.Ns mainGlobals mg → FnG P w K mg base CX k fa fd [x] sp) (hbind : ∀ (s : Shared) (u : Value), BindsTo s fd ⟨[u], []⟩ [(x, u)])
    (hCX : ∀ H e s', CX [] H s₁ (fun _ _ _ => False) e s' → False) (H : Hp) (hA : ∀ b, H b ≠ none → b = a) (hF : ∀ u, H a = some u → ∃ o xs, u = .frz o (.lst xs)) (hok : HOk P w H s₁.heap) (hK : H a ≠ none → K.lookup a = none)
    (hsp : sp [.ref a] H (fun v _ => v = .bl true) fun _ _ _ => False) :
    codeAny (model P w) callerA (.call (.ref fa) ⟨[.ref a], []⟩) (fun r s' => r = .ok (.ret (.bool true)) ∧ OldK s₁.heap s'.heap ∧ s'.os = s₁.os ∧ AllBare s'.gens) s₁ := by
  have split : ∀ b u, H b = some u → b = a := fun b u e => hA b fun z => by rw [z] at e; cases e
  have dictless : ∀ {b : Addr} {o : Obj} {es : Array DictEntry} {ep : Nat}, s₁.heap.get? b = some o → o.data = .dict es ep → H b = none := fun {b o es ep} e d => by
    cases q : H b with
    | none => rfl
    | some u =>
      have z := split b u q
      subst z
      rw [ha] at e
      cases e
      cases (show Data.seq vs.toArray _ = Data.dict es ep from d)
  have names : ∀ {b : Addr} {m : Str → Option Value}, s₁.heap.Ns b m → (hidT s₁.heap H).Ns b m := fun {b m} h => by
    obtain ⟨o, es, ep, e, d, r⟩ := h
    exact ⟨o, es, ep, hidT_get e (dictless e d), d, r⟩
  have kb : K.In (hidT s₁.heap H) := fun b o e => hidT_get (KX b o e) (by
    cases q : H b with
    | none => rfl
    | some u =>
      have z := split b u q
      subst z
      rw [hK fun z => by rw [q] at z; cases z] at e
      cases e)
  have M : Mod K mg (hidT s₁.heap H) := by
    obtain ⟨mc, h1, h2⟩ := hlim
    exact ⟨kb, names hns, ⟨mb, names hb, hbb⟩, ⟨mc, names h1, h2⟩⟩
  have e0 : Env0 P w K mg (hidT s₁.heap H) callerA [] s₁ H :=
    { frames := rfl, mod := M, bs := fun b o e => of_hidT e, bsz := Nat.le_of_eq (hidT_size _ _), funs := trivial, frf := fun b hb => (by simp [frs] at hb), hok := hok, bare := .of_eq hg }
  refine codeAny_mono ((F _ kb (names hns)).go callerA [] s₁ H ⟨[.ref a], []⟩ [.ref a] [.ref a] _ _ rfl hr e0 (hbind s₁ (.ref a)) (.cons rfl .nil) hsp) fun r s' h => ?_
  match r, h with
  | .error e, h => exact (hCX H e s' h).elim
  | .ok (.ret u), ⟨v, H', os, bare, un, hok', rv, q⟩ =>
    have ev : v = .bl true := q
    subst ev
    have eu : u = Value.bool true := rv
    subst eu
    refine ⟨rfl, OldK.of_keep fun b o e => ?_, os, bare⟩
    cases z : H b with
    | none => exact un.keep b o e z (by simp [frs]) (by simp)
    | some u =>
      have eb := split b u z
      subst eb
      obtain ⟨ob, xs, eu⟩ := hF u z
      subst eu
      obtain ⟨e1, _⟩ := hok b _ z
      obtain ⟨e2, _⟩ := hok' b _ (un.frzs b ob _ z)
      rw [e] at e1
      cases e1
      exact e2
theorem law_callG {P : Program} {w : World} {K : PySem.W.Frag} {mg mb : Str → Option Value} {CX : CXT} {k : Nat} {fa a : Addr} {fd : FuncData} {x : Str} {sp : Sp} {s₁ : Shared} {vs : List Value} {ns : List Int}
    (KX : K.In s₁.heap) (hns : s₁.heap.Ns mainGlobals mg) (hb : s₁.heap.Ns builtinsNs mb) (hbb : ∀ x : Str, x ≠ "__name__" → mb x = bootBuiltins x) (hlim : s₁.heap.NoLimit) (hg : s₁.gens = #[])
    (ha : s₁.heap.get? a = some { cls := .type "list", data := .seq vs.toArray }) (hi : IntsAre vs ns) (hl : ns.length ≤ sizeLine) (hr : Room k callerA)
    (F : ∀ base : Heap, K.In base → base.Ns mainGlobals mg → FnG P w K mg base CX k fa fd [x] sp) (hbind : ∀ (s : Shared) (u : Value), BindsTo s fd ⟨[u], []⟩ [(x, u)])
    (hsp : ∀ H : Hp, Only H → SqL K H a (ns.map V.int) → sp [.ref a] H (fun v _ => v = .bl true) fun _ _ _ => False)
    (hCX : ∀ H e s', CX [] H s₁ (fun _ _ _ => False) e s' → False) :
    codeAny (model P w) callerA (.call (.ref fa) ⟨[.ref a], []⟩) (fun r s' => r = .ok (.ret (.bool true)) ∧ OldK s₁.heap s'.heap ∧ s'.os = s₁.os ∧ AllBare s'.gens) s₁ := by
  have rv := vals_ints hi
  have lenV := hi.length
  have main := law_atG (ns := ns) KX hns hb hbb hlim hg ha hr F hbind hCX
  cases hk : K.lookup a with
  | some o =>
    have e := KX a o hk
    rw [ha] at e
    cases e
    have nothing : Only fun _ => none := fun b => .inl rfl
    exact main (fun _ => none) (fun b z => absurd rfl z) (fun u z => by cases z) (fun b u z => by cases z) (fun z => absurd rfl z)
      (hsp _ nothing (.inr ⟨_, vs.toArray, _, hk, rfl, rfl, rfl, by rw [List.size_toArray, lenV]; exact hl, by simpa using rv⟩))
  | none =>
    have at_ : atScript a (.frz { cls := .type "list", data := .seq vs.toArray } (.lst (ns.map V.int))) a = some (.frz { cls := .type "list", data := .seq vs.toArray } (.lst (ns.map V.int))) := if_pos rfl
    have off : ∀ b, b ≠ a → atScript a (.frz { cls := .type "list", data := .seq vs.toArray } (.lst (ns.map V.int))) b = none := fun b hb => if_neg hb
    refine main (atScript a (.frz { cls := .type "list", data := .seq vs.toArray } (.lst (ns.map V.int)))) (fun b z => Classical.byContradiction fun hb => z (off b hb)) (fun u z => ?_) (fun b u z => ?_) (fun _ => hk)
      (hsp _ (fun b => ?_) (.inl (.inr ⟨_, at_⟩)))
    · rw [at_] at z
      cases z
      exact ⟨_, _, rfl⟩
    · by_cases hb : b = a
      · subst hb
        rw [at_] at z
        cases z
        exact ⟨ha, by rw [List.length_map]; exact hl, vs, _, rv, ha⟩
      · rw [off b hb] at z
        cases z
    · by_cases hb : b = a
      · subst hb
        exact .inr ⟨_, _, at_⟩
      · exact .inl (off b hb)
/-- the goal that k_head leaves, from the law's promise where no guard runs -/
theorem walk_ofG {l : PySem.W.OpenLaw} {n k : Nat} {q : Program} {loose : List Str} {XP : (Str → Option Value) → Heap → Prop} {YP : World → Heap → Prop} {d : DefRec} {K : Params → PySem.W.Frag} {CX : World → CXT} {sp : World → Sp} {x : Str}
    (hn : l.most = some n) (hn2 : n ≤ sizeLine) (hdf : d.params.defaults = []) (hr : Room k callerA) (hY : ∀ (w : World) (h : Heap), YP w h → (K w.params).In h)
    (F : ∀ (w : World) (mg : Str → Option Value) (fa : Addr) (h : Heap), (K w.params).In h → h.Ns mainGlobals mg → mg d.name = some (.ref fa) →
      ∃ fd : FuncData, (∀ (s : Shared) (u : Value), BindsTo s fd ⟨[u], []⟩ [(x, u)]) ∧ ∀ base : Heap, (K w.params).In base → base.Ns mainGlobals mg → FnG l.prog w (K w.params) mg base (CX w) k fa fd [x] (sp w))
    (hsp : ∀ (w : World) (H : Hp) (a : Addr) (ns : List Int), ns.length ≤ n → Only H → SqL (K w.params) H a (ns.map V.int) → sp w [.ref a] H (fun v _ => v = .bl true) fun _ _ _ => False)
    (hCX : ∀ (w : World) (H : Hp) (s : Shared) (e : Value) (s' : Shared), CX w [] H s (fun _ _ _ => False) e s' → False) :
    PySem.W.WalkO q loose XP YP l.row.toRowW d [] (fun f vs => PySem.call f vs) :=
  Att.attach_call hn hdf fun w s₀ s₁ mg mb fa o pm cd doc a vs ns G Y ho hd hcd hmg hobj hints hlen hg =>
    let ⟨_, hb, hF⟩ := F w mg fa _ (hY w _ Y) G.T.g hmg
    law_callG (hY w _ Y) G.T.g G.T.b G.T.builtins G.T.nolimit hg hobj hints (Nat.le_trans hlen hn2) hr hF hb (fun H hO hS => hsp w H a ns hlen hO hS) fun H e s' => hCX w H s₁ e s'
end Rp
/-! sep.join(reversed(xs)), xs a list of texts -/
namespace Rp
open PySem PySem.Spec PyProof.Rows L2
section
variable {prog : Program} {w : World} {A : Around} {E : Value → Shared → Prop} {s : Shared} {x : Str} {t : Tok} {Q : Value → Shared → Prop}
theorem join_rev {it l : Addr} {items : Array Value} {ys : List Str} (hh : A.handled = none) (hit : s.heap.IsRevIter it l ((items.size : Int) - 1)) (hl : s.heap.IsList l items) (hne : l ≠ it) (hn : items.size ≤ sizeLine)
    (hi : StrsAre items.toList.reverse ys) (hok : (ys.map (·.length)).sum + ys.length * x.length ≤ 16777216)
    (h : ∀ (h' : Heap) (t' k : Tok), (∀ b o, b ≠ it → s.heap.get? b = some o → h'.get? b = some o) → Q (.str (Txt.join x ys) t') { s with heap := h', toks := k }) :
    wpAny (model prog w) A (call (.builtin "str.join") [.str x t, .ref it]) Q E s := by
  refine wpAny_call (codeAny_call_builtin F.slot_str_join.plain F.entry_str_join (F.slot_str_join.check _ _ _ _ _ _ _ _ (typeIs_str _ _ _) (F.args_str_join_2 _ _) ?_))
  have hT : s.TypeIs (.ref it) "list_reverseiterator" := Heap.IsRevIter.typeIs hit
  have hh1 : A.in1.handled = none := hh
  rw [join_tree_other]
  refine wpAny_bind (wpAny_typeOf hT ?_)
  show wpAny _ A.in1 ((pyIter (.ref it)).tryCatch _ >>= fun j => collect j >>= fun vs => joinTail x vs) _ _ s
  refine wpAny_bind (wpAny_tryCatch (wpAny_pyIter_revIter hit (wpAny_bind (RT.collect_rev (A := A.in1) hh1 hit hl hne hn fun h' tk acc hk hacc => ?_))))
  have el : acc.toList = items.toList.reverse := by
    have hs : items.size = items.toList.length := by simp
    have ha : acc.toList.length = items.toList.length := by rw [Array.length_toList, hacc.1, hs]
    refine List.ext_getElem? fun j => ?_
    by_cases hj : j < items.toList.length
    · have hja : j < acc.toList.length := by omega
      have e1 : acc.toList[j]? = some acc.toList[j] := List.getElem?_eq_getElem hja
      have e2 := hacc.2 j acc.toList[j] (by rw [← Array.getElem?_toList]; exact e1)
      rw [e1, List.getElem?_reverse hj, ← e2, hs] <;> simp
    · rw [List.getElem?_eq_none (by omega), List.getElem?_eq_none (by rw [List.length_reverse]; omega)]
  rw [el]
  obtain ⟨q, hv, ht⟩ := strsAre_values hi
  rw [hv]
  subst ht
  have ok := joinOk_of hok
  have ok' := ok
  unfold JoinOk at ok'
  rw [Bool.not_eq_true'] at ok'
  have g : Gives (joinTail x (strValues q)) (joinMade x q) := by
    have g0 := gives_joinTail x q ok'
    rcases q with _ | ⟨c, _ | ⟨d, r⟩⟩ <;> exact g0
  exact g prog w A (wants Q E) { s with heap := h', toks := tk } (post_join q ⟨joinFit_length ok', fun t' k => h h' t' k hk⟩)
end

section
variable {X : Cx} {o e : Expr} {to te : TE} {p2 apos pos pos2 : Pos}
/-- o.join(reversed(e)) -/
def tJoinRev (K : PySem.W.Frag) (to te : TE) : TE := fun σ H Q => to σ H fun v H1 => ∃ sep : Str, v = .str sep ∧ te σ H1 fun u H2 => ∃ (a : Addr) (ys : List Str), u = .ref a ∧ SqL K H2 a (ys.map V.str) ∧
  (ys.map (·.length)).sum + ys.length * sep.length ≤ 16777216 ∧ Q (.str (Txt.join sep ys.reverse)) H2
theorem pe_joinRev (hc : X.calm = true) (hg : Gl X "reversed") (hm : X.mg "reversed" = none) (ho : PE X o to) (he : PE X e te)
    (hs : starEach [e] X.env = (false, eval e X.env) :: starEach [] X.env := by rfl)
    (hs2 : starEach [.Call (.Name "reversed" p2) [e] [] pos2] X.env = [(false, eval (.Call (.Name "reversed" p2) [e] [] pos2) X.env)] := by rfl)
    (hbase : attributeBase o "join" X.env (eval o X.env) = eval o X.env := by rfl) (hline : (apos.endLine == pos.line) = true := by rfl) :
    PE X (.Call (.Attribute o "join" apos) [.Call (.Name "reversed" p2) [e] [] pos2] [] pos) (tJoinRev X.K to te) := by
  refine ⟨fun pins s σ H Q I h => ?_⟩
  refine PySem.Call_method1 hbase hs2 hline (thn (ho.run pins s σ H _ I h) fun v s1 k => ?_)
  obtain ⟨xv, H1, I1, r1, sep, rfl, q1⟩ := k
  obtain ⟨t, rfl⟩ := r1
  refine ⟨"str", _, F.plainAttrs_str, F.slot_str_join, F.type_str_join, typeIs_str _ _ _, (fun _ e => nomatch e), Calls.callWith_builtin rfl (Calls.evalArgs_plain (Calls.spliced_cons ?_))⟩
  refine Call_ (ld_blt I1 hg hm PyProof.Rows.boot_reversed (PyProof.Rows.callWith_type1 (args_cons (thn (he.run pins s1 σ H1 _ I1 q1) fun u s2 k => args_nil ?_) hs) hs rfl))
  obtain ⟨yv, H2, I2, r2, a, ys, rfl, hq, hz, q2⟩ := k
  obtain rfl : u = Value.ref a := r2
  obtain ⟨its, rv, pl, hsz⟩ := I2.list hq
  refine call_reversed_list pl.isList (Calls.spliced_nil ?_)
  have hl := pl.isList
  obtain ⟨ol, hol, _⟩ := id hl
  have grow : ∀ b o, s2.heap.get? b = some o → (s2.heap.push (revObj a ((its.toArray.size : Int) - 1))).get? b = some o := fun b o e => Heap.get?_push_of_some _ e
  have I3 : L2.Inv X pins σ H2 { s2 with heap := s2.heap.push (revObj a ((its.toArray.size : Int) - 1)) } := I2.kept (t' := s2.toks) grow
  obtain ⟨f0, f1, f2, f3, f4, f5⟩ := I2.fpOk (H' := H2) (b := s2.heap.objs.size) (Nat.le_refl _) (I2.hok.fresh (Nat.le_refl _))
  have st := strs_of_vals (us := its.reverse) (ys := ys.reverse) (by rw [List.map_reverse]; exact rv.reverse)
  refine join_rev (s := { s2 with heap := s2.heap.push (revObj a ((its.toArray.size : Int) - 1)) }) (items := its.toArray) (I1.ok.hd hc) ⟨_, Heap.get?_push_size _ rfl, rfl, rfl⟩ (hl.push _) (Nat.ne_of_lt (Heap.lt_size hol)) (by rw [List.size_toArray, ← rv.length]; exact hsz)
    (by simpa using st) (by simpa [List.sum_reverse] using hz) fun h' t' k hk => ?_
  exact ⟨.str _, H2, I3.turned (t' := k) (fun b o hb e => hk b o hb e) f0 f1 f3 f4 f5, ⟨t', rfl⟩, q2⟩
end
end Rp
/-! repr of tuples, by the abstract heap -/
namespace Rp
open PySem PySem.Spec PyProof.Rows L2
section
variable {X : Cx} {n : Nat} {as : List Addr} {H : Hp} {a : Addr} {xs : List V} {ts : List Str} {base : Nat} {g : List Code} {A : Around} {pins : List (Addr × Obj)} {σ : L2.St}
theorem tup_fold (lo : Low X n g A) (hcl : ∀ b ∈ as, Clear g b) {Q : (Array Str × Nat) → Shared → Prop} : ∀ (xs : List V) (us : List Value) (ts : List Str) (acc : Array Str) (m : Nat) (s : Shared) (H1 : Hp), Vals xs us → ts.length = xs.length →
    (∀ (i : Nat) (x : V), xs[i]? = some x → ∃ t, ts[i]? = some t ∧ Says X n as H x t) → m + piled ts ≤ sizeLine → Inv X pins σ H1 s → Same H H1 →
    (∀ s2 H2, Inv X pins σ H2 s2 → Same H1 H2 → Q ⟨acc ++ ts.toArray, m + piled ts⟩ s2) → wpAny (model X.prog X.w) A (forIn us (⟨acc, m⟩ : (Array Str × Nat)) tupBody) Q X.xe s := by
  intro xs
  induction xs with
  | nil =>
    intro us ts acc m s H1 rv hl _ _ I e h
    cases rv
    have : ts = [] := List.length_eq_zero_iff.mp hl
    subst this
    have q := h s H1 I (Same.refl H1)
    rw [List.forIn_nil]
    exact wpAny_pure (by simpa [piled] using q)
  | cons x xs ih =>
    intro us ts acc m s H1 rv hl hs hz I e h
    cases rv with
    | cons r1 r2 =>
      rename_i u us
      match ts, hl, hs, hz, h with
      | t :: ts, hl, hs, hz, h =>
        obtain ⟨t', ht, hsay⟩ := hs 0 x rfl
        cases ht
        rw [piled_cons] at hz
        rw [List.forIn_cons]
        refine wpAny_bind (wpAny_bind (wpAny_mono (hsay.und A g (m + 1) pins s σ H1 u lo hcl I e r1 (by omega)) (fun r s2 k => ?_) fun _ _ k => k))
        obtain ⟨er, H2, I2, e2⟩ := k
        subst er
        refine wpAny_pure (ih us ts (acc.push r) (m + (r.length + 2)) s2 H2 r2 (by simpa using hl) (fun i y hy => hs (i + 1) y hy) (by omega) I2 (e.trans e2) fun s3 H3 I3 e3 => ?_)
        have q := h s3 H3 I3 (e2.trans e3)
        have eq : m + piled (r :: ts) = m + (r.length + 2) + piled ts := by rw [piled_cons]; omega
        rw [eq] at q
        simpa using q
theorem tup_body {id : String} {rest : List Value} (lo : Low X (n + 1) g A) (hcl : ∀ b ∈ a :: as, Clear g b) (hna : a ∉ as) (hit : ∀ (i : Nat) (x : V), xs[i]? = some x → ∃ t, ts[i]? = some t ∧ Says X n as H x t) (hl : ts.length = xs.length)
    (hsz : base + (tupleText ts).length ≤ sizeLine) (hq : SqT X.K H a xs) {s : Shared} {H1 : Hp} (I : Inv X pins σ H1 s) (hs : Same H H1) {R : Result → Shared → Prop}
    (hg : (Code.builtin id ⟨.ref a :: rest, []⟩).guards = [Code.builtin id ⟨.ref a :: rest, []⟩]) (hw : (Code.builtin id ⟨.ref a :: rest, []⟩).weight = 1) (hu : (Code.builtin id ⟨.ref a :: rest, []⟩).cUnits = 1) (he : (Code.builtin id ⟨.ref a :: rest, []⟩).envs = [])
    (fin : ∀ s H2 u, Inv X pins σ H2 s → Same H1 H2 → R (.ok (.ret (.str (tupleText ts) u))) s) (bad : ∀ e s, X.xe e s → R (.error e) s) :
    wpOwn (model X.prog X.w) A (.builtin id ⟨.ref a :: rest, []⟩) (Builtin.tupleReprAt base ⟨[.ref a], []⟩) (fun fin s' => match fin with | .done f => R (.ok f) s' | .again c' => c'.quiet = true ∧ codeAny (model X.prog X.w) A c' R s') (fun e s' => R (.error e) s') s := by
  have hsq : SqT X.K H1 a xs := hq.elim (fun h => .inl (h.elim (fun h => .inl (hs _ _ h)) fun ⟨o, h⟩ => .inr ⟨o, hs _ _ h⟩)) .inr
  obtain ⟨its, rv, ⟨o, ho, hc, na, hd⟩, _⟩ := I.tuple hsq
  have hp := piled_le_tupleText ts
  have hsz0 : (tupleText ts).length ≤ sizeLine := by omega
  have hlen : ts.length = its.toArray.size := by rw [hl, rv.length]; simp
  rw [tuple_repr_tree, tupleReprUnderWay_eq]
  refine wpOwn_bind (wpOwn_stackTailAny lo.gd (tupGuardF_off _) (tupGuardF_pos _) ?_)
  rw [show (g.any fun c => tupGuardF (.ref a) (c, default)) = false from List.any_eq_false.mpr fun c hc => by
    rw [tupGuardF_of_clear (hcl a List.mem_cons_self) c hc]
    exact Bool.false_ne_true]
  refine wpOwn_of_wpAny ?_
  show wpAny _ _ (tupleReprRest base (.ref a)) _ _ s
  unfold tupleReprRest Builtin.Tuple.tupleItemsOf
  refine wpAny_bind (wpAny_bind (wpAny_seqItems ho hd (wpAny_pure ?_)))
  rw [← Array.forIn_toList]
  refine wpAny_bind (wpAny_mono (tup_fold (lo.guard hg hw hu he) (fun b hb => (hcl b (List.mem_cons_of_mem _ hb)).cons (a := a) fun e => hna (e ▸ hb)) xs its ts #[] base s H1 rv hl hit (by omega) I hs
    (Q := fun r s2 => r = ⟨#[] ++ ts.toArray, base + piled ts⟩ ∧ ∃ H2, Inv X pins σ H2 s2 ∧ Same H1 H2) fun s2 H2 I2 e2 => ⟨rfl, H2, I2, e2⟩) (fun r s2 k => ?_) fun e s2 k => bad e s2 k)
  obtain ⟨er, H2, I2, e2⟩ := k
  subst er
  refine wpAny_bind (wpAny_mkStr (wpAny_pure ?_) (by simpa [tupleText, hlen] using hsz0))
  have h1 := fin _ H2 s2.toks (I2.tok (s2.toks + 1)) e2
  simpa [tupleText, hlen] using h1
theorem says_tup (hq : SqT X.K H a xs) (hna : a ∉ as) (hl : ts.length = xs.length) (hit : ∀ (i : Nat) (x : V), xs[i]? = some x → ∃ t, ts[i]? = some t ∧ Says X n as H x t) : Says X (n + 2) (a :: as) H (.ref a) (tupleText ts) := by
  refine ⟨fun A g base pins s σ H1 u lo cl I hs ru hz => ?_, fun A g pins s σ H1 u lo cl I hs ru hz => ?_⟩
  all_goals
    cases ru
    have hsq : SqT X.K H1 a xs := hq.elim (fun h => .inl (h.elim (fun h => .inl (hs _ _ h)) fun ⟨o, h⟩ => .inr ⟨o, hs _ _ h⟩)) .inr
    obtain ⟨its, rv, ⟨o, ho, hc, na, hd⟩, _⟩ := I.tuple hsq
  · refine wpAny_pyReprUnder_ref (by omega) (wpAny_pyReprObjUnder_twin (twin := "tuple.__repr__.under") ⟨o, ho, hc⟩ PySem.F.slot_tuple_repr rfl lo.rm.units0
      (call_twin_own (PySem.F.quiet_tuple_repr_under _) PySem.F.entry_tuple_repr_under PySem.F.check_tuple_repr_under ⟨o, ho, hc⟩ PySem.F.slot_tuple_repr (PySem.F.args_tuple_repr_1 _)
        (tup_body (R := callEnd _ _) (lo.mono (by omega)) cl hna hit hl hz hq I hs (by show (if Code.isGuard _ then _ else _) = _; rw [isGuard_tuple_repr_under]; rfl) (by simp only [Code.weight, isGuard_tuple_repr_under]; rfl) (by rfl) (by first | rfl | simp [Code.envs, Code.isFrame])
          (fun s2 H2 tk I2 e2 => ⟨⟨_, _, rfl⟩, _, _, rfl, rfl, H2, I2, e2⟩) fun e s2 he => he)))
  · have h1 := lo.rm.units
    refine call_repr_slot (by omega) ⟨o, ho, hc⟩ PySem.F.slot_tuple_repr (wpAny_call (codeAny_call_builtin_own (Code.quiet_builtin _ (by decide +kernel)) PySem.F.entry_tuple_repr (PySem.F.slot_tuple_repr.check _ _ _ _ _ _ _ _ ⟨o, ho, hc⟩ (PySem.F.args_tuple_repr_1 _)
      (tup_body (A := A.in1) (base := 0) (R := callEnd _ _) lo.in1 cl hna hit hl (by omega) hq I hs (by show (if Code.isGuard _ then _ else _) = _; rw [isGuard_tuple_repr]; rfl) (by simp only [Code.weight, isGuard_tuple_repr]; rfl) (by rfl) (by first | rfl | simp [Code.envs, Code.isFrame])
        (fun s2 H2 tk I2 e2 => ⟨_, _, rfl, ⟨_, rfl⟩, H2, I2, e2⟩) fun e s2 he => he))))
end
end Rp
/-! a caught error: isinstance of it, a def that is handed it, its fields; a method that may raise; count of truths -/
namespace Rp
open PySem PySem.Spec PyProof.Rows L2
/-- the dict of an exception that is looked at stands tracked, or there is none -/
def HasD (H : Hp) (d : Option Addr) : Prop := d = none ∨ ∃ dx fs, d = some dx ∧ H dx = some (.xd fs)
theorem exc_inst {X : Cx} {pins : List (Addr × Obj)} {σ : L2.St} {H : Hp} {s : Shared} {a D : Addr} {oe : Obj} {d : Option Addr} (I : Inv X pins σ H s) (hp : (a, oe) ∈ X.pn) (hz : Zc (.ref D) d oe) (hf : ∃ vs, oe.data = .fields vs) (hd : HasD H d) :
    ∃ od, PySem.W.InstAt s.heap a oe D od := by
  obtain ⟨hget, _⟩ := I.pin (a, oe) (List.mem_append_left _ hp)
  obtain ⟨vs, hv⟩ := hf
  rcases hd with rfl | ⟨dx, fs, rfl, hx⟩
  · refine ⟨none, ?_⟩
    obtain ⟨oc, od, oda, osl⟩ := oe
    obtain ⟨h1, h2⟩ := hz
    dsimp only at h1 h2 hv
    subst h1 h2 hv
    exact ⟨hget, rfl, rfl, trivial⟩
  · have hx : ObjOk X.prog X.w H s.heap dx (.xd fs) := I.hok dx _ hx
    obtain ⟨mA, hns, hr⟩ := hx
    obtain ⟨od, ho, hl⟩ := lookIn_ns hns
    exact ⟨some od, hget, hz.1, by unfold PySem.W.notCls; rw [hv] <;> rfl, by rw [hz.2]; exact ho⟩
/-- isinstance(e, c), e the error at a -/
def rIsX (K : PySem.W.Frag) (a : Addr) (cls : Value) (d : Option Addr) : List V → Hp → VK → Prop := fun xs H Q => ∃ (D : Addr) (c : V) (cv : Value) (b : Bool), xs = [.ref a, c] ∧ cls = .ref D ∧ ExcC K D ∧ ClsV c cv ∧ HasD H d ∧ PySem.W.kitOne K (.ref D) cv = some b ∧ Q (.bl b) H
/-- isinstance(e, (c1, c2, ..)) -/
def rIsXT (K : PySem.W.Frag) (a : Addr) (cls : Value) (d : Option Addr) : List V → Hp → VK → Prop := fun xs H Q => ∃ (D tp : Addr) (cs : List V) (us : List Value) (b : Bool), xs = [.ref a, .ref tp] ∧ cls = .ref D ∧ ExcC K D ∧ H tp = some (.tup cs) ∧ Paired ClsV cs us ∧ HasD H d ∧ PySem.W.kitAny K (.ref D) us = some b ∧ Q (.bl b) H
section
variable {X : Cx} {a : Addr} {oe : Obj} {cls : Value} {d : Option Addr}
theorem call_isX (hp : (a, oe) ∈ X.pn) (hz : Zc cls d oe) (hf : ∃ vs, oe.data = .fields vs) : CallR X (.builtin "isinstance") (rIsX X.K a cls d) := by
  intro pins s σ H xs us Q I r h
  obtain ⟨D, c, cv, b, rfl, rfl, C, k, hd, e, q⟩ := h
  obtain ⟨u1, u2, rfl, r1, r2⟩ := vals2 r
  have e2 := k.eq r2
  subst e2
  cases r1
  obtain ⟨od, J⟩ := exc_inst I hp hz hf hd
  have hcl : (PySem.W.clsIn X.K D).isSome = true := by
    obtain ⟨cd, hc, _⟩ := PySem.W.any_some C.hd
    rw [hc]; rfl
  exact PySem.W.kia_one (PySem.W.kitx_exc (ox := oe) (od := od) hcl C.hg C.hk C.hs C.ha C.hn C.ht C.hm) I.kIn J e (fun z => nomatch z) fun tk => ⟨.bl b, H, I.tok tk, rfl, q⟩
theorem call_isXT (hp : (a, oe) ∈ X.pn) (hz : Zc cls d oe) (hf : ∃ vs, oe.data = .fields vs) : CallR X (.builtin "isinstance") (rIsXT X.K a cls d) := by
  intro pins s σ H xs us Q I r h
  obtain ⟨D, tp, cs, ws, b, rfl, rfl, C, hT, k, hd, e, q⟩ := h
  obtain ⟨u1, u2, rfl, r1, r2⟩ := vals2 r
  cases r1
  cases (show u2 = Value.ref tp from r2)
  obtain ⟨od, J⟩ := exc_inst I hp hz hf hd
  have hcl : (PySem.W.clsIn X.K D).isSome = true := by
    obtain ⟨cd, hc, _⟩ := PySem.W.any_some C.hd
    rw [hc]; rfl
  obtain ⟨_, its, rv, o, h1, h2, n, h3⟩ := (show ObjOk X.prog X.w H s.heap tp (.tup cs) from I.hok tp _ hT)
  have e3 := ClsV.all k rv
  subst e3
  obtain ⟨oc, oda, dt, sl⟩ := o
  simp only at h2 h3
  subst h2 h3
  exact PySem.W.kia_tup (PySem.W.kitx_exc (ox := oe) (od := od) hcl C.hg C.hk C.hs C.ha C.hn C.ht C.hm) I.kIn J h1 e (fun z => nomatch z) fun tk => ⟨.bl b, H, I.tok tk, rfl, q⟩
end

/-! ### a def that is handed the error -/
/-- what it promises: a the error, cls its class, d its dict -/
abbrev SpE := Addr → Value → Option Addr → Sp
structure FnE (P : Program) (w : World) (K : PySem.W.Frag) (mg : Str → Option Value) (base : Heap) (CX : CXT) (k : Nat) (f : Addr) (fd : FuncData) (ps : List Str) (sp : SpE) : Prop where
  len : ∀ a cls d vs H Q E, sp a cls d vs H Q E → vs.length = ps.length
  run : ∀ (A : Around) (outer : List Env) (s : Shared) (H : Hp) (args : Args) (us : List Value) (vs : List V) (Q : VK) (E : XK) (p : Addr × Obj) (cls : Value) (d : Option Addr), L2H.RoomH k A → L2H.PinOk outer H s p → Zc cls d p.2 → (∃ vs, p.2.data = .fields vs) →
    Env0 P w K mg base A outer s H → BindsTo s fd args (ps.zip us) → Vals vs us → sp p.1 cls d vs H Q E → codeAny (model P w) A (.call (.ref f) args) (CR CX outer P w H s Q E) s
section
variable {P : Program} {w : World} {K : PySem.W.Frag} {mg : Str → Option Value} {base : Heap} {CX : CXT} {k : Nat} {f : Addr} {fd : FuncData} {ps : List Str} {sp : SpE}
theorem fn_ofE {name qual : Str} {params : Arguments} {body : List Stmt} {scope : Scope} {dV kV doc pm cdv ct oc : Value} {an od : Option Addr}
    {osl : Array (Option Value)} {N : List Str} (lk : K.lookup f = some ⟨oc, od, .func (PySem.W.fnOf name qual params body scope dV kV doc pm an cdv ct), osl⟩) (hcd : PySem.W.codeIn K cdv qual = true) (S : FnScope N ps scope)
    (len : ∀ a cls d vs H Q E, sp a cls d vs H Q E → vs.length = ps.length)
    (hbody : ∀ (A : Around) (outer : List Env) (s : Shared) (H : Hp) (vs : List V) (Q : VK) (E : XK) (p : Addr × Obj) (cls : Value) (d : Option Addr), Zc cls d p.2 → (∃ vs, p.2.data = .fields vs) → L2H.RoomH k (A.deeper (envOfC qual scope s.heap.objs.size f cdv)) → sp p.1 cls d vs H Q E →
      ∃ t, PSs (L2H.cxH CX P w K mg base N qual scope f cdv A outer s H E p) body t ∧ t { nx := fun _ H' => Q .non H', rt := Q } (L2.start N vs) H) :
    FnE P w K mg base CX (k + 1) f (PySem.W.fnOf name qual params body scope dV kV doc pm an cdv ct) ps sp := by
  refine ⟨len, fun A outer s H args us vs Q E p cls d hr hpin hz hf e0 hb r hsp => ?_⟩
  have hl := len _ _ _ _ _ _ _ hsp
  have KX : K.In s.heap := e0.mod.kin.keeps fun b o e => (e0.bs b o e).1
  have lim : s.heap.NoLimit := e0.mod.nolimit.keeps fun b o e => (e0.bs b o e).1
  have kinds : ∀ y ∈ ps.zip us, scope.names.lookup y.1 = some .local ∨ (scope.names.lookup y.1 = some .cell ∧ ((cellsFrom (s.heap.objs.size + 1) scope.names []).lookup y.1).isSome = true) := fun ⟨n, v⟩ hy => by
    rcases S.par n (List.of_mem_zip hy).1 with q | q
    · exact .inl q
    · exact .inr ⟨q, PySem.W.cellsFrom_some _ _ _ (.inl q)⟩
  refine codeAny_call_function hr.depth (KX _ _ lk) rfl S.co S.gen rfl (PySem.W.codeRec_of KX hcd) (hb _ _ _ _ ?_)
  refine wpAny_newFunctionEnv_cells S.kind kinds fun env he s1 x => ?_
  subst he
  refine ⟨lim.keeps x.toInCall.keep, codeAny_func ?_⟩
  obtain ⟨t, ht, hq⟩ := hbody A outer s H vs Q E p cls d hz hf (hr.deeper _) hsp
  have I : Inv (L2H.cxH CX P w K mg base N qual scope f cdv A outer s H E p) [] (L2.start N vs) H s1 := L2H.inv_startH S hpin e0 hl r x
  refine wpAny_mono (ht.run [] s1 (L2.start N vs) H _ I hq) (fun fl s' hs => ?_) fun e s' hs => hs
  cases fl with
  | next =>
    obtain ⟨σ', H', J, q⟩ := hs
    exact ⟨V.non, H', J.os, J.bare, J.base, J.hok, (rfl : RelV .non Value.none), q⟩
  | ret u =>
    obtain ⟨v, σ', H', J, rv, q⟩ := hs
    exact ⟨v, H', J.os, J.bare, J.base, J.hok, rv, q⟩
  | brk => exact hs.elim fun _ z => z.elim fun _ z => z.2.elim
  | cont => exact hs.elim fun _ z => z.elim fun _ z => z.2.elim
theorem Fun_okE {x qual : Str} {st : Stmt} {N : List Str} (F : Fun K x qual st f fd) (S : FnScope N ps (defScope st)) (len : ∀ a cls d vs H Q E, sp a cls d vs H Q E → vs.length = ps.length)
    (body : ∀ (cdv : Value) (A : Around) (outer : List Env) (s : Shared) (H : Hp) (vs : List V) (Q : VK) (E : XK) (p : Addr × Obj) (cls : Value) (d : Option Addr), Zc cls d p.2 → (∃ vs, p.2.data = .fields vs) →
      L2H.RoomH k (A.deeper (envOfC qual (defScope st) s.heap.objs.size f cdv)) → sp p.1 cls d vs H Q E →
      ∃ t, PSs (L2H.cxH CX P w K mg base N qual (defScope st) f cdv A outer s H E p) (defBody st) t ∧ t { nx := fun _ H' => Q .non H', rt := Q } (start N vs) H) : FnE P w K mg base CX (k + 1) f fd ps sp := by
  obtain ⟨oc, od, kV, doc, pm, an, cdv, ct, osl, rfl, lk, hcd⟩ := F.ex
  exact fn_ofE lk hcd S len fun A outer s H vs Q E p cls d hz hf hr hsp => body cdv A outer s H vs Q E p cls d hz hf hr hsp
end
section
variable {X : Cx} {CX : CXT} {k : Nat} {f : Addr} {fd : FuncData} {ps : List Str} {sp : SpE} {E : XK} {x : Str} {p pos : Pos} {e : Expr} {es : List Expr} {t : TA} {a : Addr} {oe : Obj} {cls : Value} {d : Option Addr}
theorem pe_callE (F : FnE X.prog X.w X.K X.mg X.base CX k f fd ps sp) (hr : L2H.RoomH k X.A) (hp : (a, oe) ∈ X.pn) (hz : Zc cls d oe) (hf : ∃ vs, oe.data = .fields vs) (hg : Gl X x) (hm : X.mg x = some (.ref f)) (hk : PySem.W.keepIn X.K (.ref f) = true) (hb : Binds X.K fd ps []) (hx : Passes CX X E)
    (ha : PA X (e :: es) t) (hdb : (x == ("__debug__" : Str)) = false := by decide) (he : starEach (e :: es) X.env = (false, eval e X.env) :: starEach es X.env := by rfl) (hpl : (backTo pos (starEach es X.env)).any (·.1) = false := by rfl) :
    PE X (.Call (.Name x p) (e :: es) [] pos) (tCall (sp a cls d) [] E t) := by
  refine ⟨fun pins s σ H Q I h => ?_⟩
  refine wpAny_Call_Name_kw (ld_glob I hg hm ?_ hdb)
  refine PySem.W.callWith_K (h₀ := X.base) I.ok.mod.kin hk (thn (ha.run pos pins s σ H _ I h) fun us s1 ⟨vs, H1, I1, r, q⟩ => ⟨I1.kIn, ?_⟩) he hpl
  have q : sp a cls d (vs ++ []) H1 Q E := q
  rw [List.append_nil] at q
  have hl : us.length = ps.length := by rw [← r.length]; exact F.len _ _ _ _ _ _ _ q
  have b := hb s1 us I1.kIn (by rw [List.append_nil]; exact hl)
  rw [List.append_nil] at b
  have P1 := I1.pin (a, oe) (List.mem_append_left _ hp)
  have hpin : L2H.PinOk X.stack H1 s1 (a, oe) := ⟨P1.1, P1.2.1, fun hm => (List.mem_cons.mp (I1.stkSub a hm)).elim P1.2.2.1 P1.2.2.2.1, P1.2.2.2.2⟩
  refine wpAny_call (codeAny_mono (F.run X.A X.stack s1 H1 ⟨us, []⟩ us vs Q E (a, oe) cls d hr hpin hz hf I1.env0 b r q) fun r s' hq => ?_)
  match r, hq with
  | .error e, hq => exact hx pins σ H1 s1 e s' I1 hq
  | .ok (.ret u), hq => exact I1.after hq
end

/-! ### o.m(e, ..) that may raise, in a try -/
def tMethE (C : Addr) (m : Str) (sp : Sp) (E : L2.St → XK) (ta : TE) (t : TA) : TE := fun σ H Q => ta σ H fun x H1 => ∃ a dx fs, x = .ref a ∧ H1 a = some (.ins C dx fs) ∧ fs.lookup m = none ∧ t σ H1 fun vs H2 => sp (x :: vs) H2 Q (E σ)
theorem pe_methE {X : Cx} {CX : CXT} {k : Nat} {C f : Addr} {fd : FuncData} {ps : List Str} {m : Str} {sp : Sp} {E : L2.St → XK} {o e : Expr} {es : List Expr} {ta : TE} {t : TA} {apos pos : Pos} {pl : Sem Bool} (he : PE X o ta) (c : Cls X.K C) (hm : Meth X.K C m f)
    (F : FnOk X.prog X.w X.K X.mg X.base CX k f fd ps sp) (hr : Room k X.A) (hb : Binds X.K fd ps []) (hx : ∀ σ, PassesAt CX X σ (E σ)) (ha : PA X (e :: es) t)
    (hst : starEach (e :: es) X.env = (false, eval e X.env) :: starEach es X.env := by rfl) (hpl : (backTo pos (starEach es X.env)).any (·.1) = false := by rfl)
    (ht : eval (.Call (.Attribute o m apos) (e :: es) [] pos) X.env = (do
      let ov ← eval o X.env
      standAt apos.atName
      let (f, first) ← holding [ov] (getMethod ov m pl)
      callWith pos f first (backTo pos (starEach (e :: es) X.env)) (backToKw pos (keywordEach [] X.env))) := by rfl) :
    PE X (.Call (.Attribute o m apos) (e :: es) [] pos) (tMethE C m sp E ta t) := by
  refine ⟨fun pins s σ H Q I h => ?_⟩
  refine PySem.W.methodCall_KW (pl := pl) (thn (he.run pins s σ H _ I h) fun u s1 ⟨x, H1, I1, rx, a, dx, fs, ex, ea, l, q⟩ => ?_) ht
  subst ex
  obtain rfl : u = Value.ref a := rx
  refine getmeth_ok I1 ea c hm l ?_
  refine PySem.W.callWith_K (first := [.ref a]) (h₀ := X.base) I.ok.mod.kin hm.kp (thn (ha.run pos pins s1 σ H1 _ I1 q) fun us s2 ⟨vs, H2, I2, r, q2⟩ => ⟨I2.kIn, ?_⟩) hst hpl
  exact run_fnS (us := .ref a :: us) (vs := .ref a :: vs) F hr hb (hx σ) I2 (.cons rfl r) q2

/-! ### xs.count(b) of truths -/
theorem vals_bl_eq : ∀ {bs : List Bool} {us : List Value}, Vals (bs.map V.bl) us → us = bs.map Value.bool
  | [], _, .nil => rfl
  | b :: bs, _, .cons r t => by
    rw [vals_bl_eq t]
    cases r
    rfl
def rCntB (K : PySem.W.Frag) : V → List V → Hp → VK → Prop := fun x xs H Q => ∃ (p : Addr) (bs : List Bool) (k : Bool), x = .ref p ∧ xs = [.bl k] ∧ SqL K H p (bs.map V.bl) ∧ Q (.int (bs.count k : Nat)) H
theorem count_bl (k : Bool) : ∀ bs : List Bool, (bs.map Value.bool).countP (PyProof.Rows.isBoolOf k) = bs.count k
  | [] => rfl
  | b :: bs => by
    rw [List.map_cons, List.countP_cons, List.count_cons, count_bl k bs]
    rfl
theorem mt_bcount {X : Cx} : MtR X "list.count" (rCntB X.K) := by
  intro pins s σ H x xs v us Q I rx rxs h
  obtain ⟨p, bs, k, rfl, rfl, hs, q⟩ := h
  cases rx
  obtain ⟨u, rfl, ru⟩ := rxs.one
  cases ru
  obtain ⟨its, rv, ⟨⟨cls, dd, data, sl⟩, n, ho, hc, hdn, hd⟩, hlen⟩ := I.list hs
  simp only at hc hd
  subst hc hd
  have hi := vals_bl_eq rv
  subst hi
  refine call_meets PySem.F.slot_list_count ⟨_, ho, rfl⟩ PySem.F.entry_list_count (PySem.F.args_list_count_2 _ _)
    (SeqAt.list_countAt p (bs.map Value.bool).toArray n dd sl (.bool k) (PyProof.Rows.isBoolOf k)) ⟨ho, fun y hy => ?_, ?_⟩
  · obtain ⟨b, _, rfl⟩ := List.mem_map.mp (show y ∈ bs.map Value.bool by simpa using hy)
    exact SeqAt.EqAt.bool_bool b k
  · refine ⟨.int (bs.count k : Nat), H, I.tok _, ⟨s.toks, ?_⟩, q⟩
    show Value.int (((bs.map Value.bool).toArray.toList.countP (PyProof.Rows.isBoolOf k) : Nat) : Int) s.toks = Value.int ((bs.count k : Nat) : Int) s.toks
    rw [show (bs.map Value.bool).toArray.toList = bs.map Value.bool from rfl, count_bl]
end Rp
/-! rules for an except suite whose readings speak of the outer context -/
namespace Rp
open PySem PySem.Spec PyProof.Rows L2
theorem call_isS {X : Cx} {a : Addr} {oe : Obj} {cls : Value} {d : Option Addr} {pn : List (Addr × Obj)} (hz : Zc cls d oe) (hf : ∃ vs, oe.data = .fields vs) : CallR (X.suite a ((a, oe) :: pn)) (.builtin "isinstance") (rIsX X.K a cls d) :=
  call_isX (X := X.suite a ((a, oe) :: pn)) List.mem_cons_self hz hf
theorem ix_listS {X : Cx} {a : Addr} {pn : List (Addr × Obj)} : IxR (X.suite a pn) (rIxL X.K) := ix_list (X := X.suite a pn)
theorem pe_bmS {X : Cx} {a : Addr} {pn : List (Addr × Obj)} {T id : String} {name : Str} {r : V → List V → Hp → VK → Prop} {o e : Expr} {es : List Expr} {to : TE} {t : TA} {apos cpos : Pos} (pa : PlainAttrs T) (slot : Slot T name id) (hty : typeOf (.builtin id) = pure (.type "method_descriptor")) (hm : MtR (X.suite a pn) id r) (ho : PE (X.suite a pn) o to) (ha : PA (X.suite a pn) (e :: es) t)
    (hbase : attributeBase o name X.env (eval o X.env) = eval o X.env := by rfl)
    (hfew : ((backTo cpos (starEach (e :: es) X.env)).all (fun x => !x.1) && (backToKw cpos (keywordEach [] X.env)).all (fun x => x.1.isSome)
      && decide ((e :: es).length + ([] : List Keyword).length + (if ([] : List Keyword).isEmpty then 0 else 1) < 30)) = true := by rfl)
    (hline : (apos.endLine == cpos.line) = true := by rfl) (hs : starEach (e :: es) X.env = (false, eval e X.env) :: starEach es X.env := by rfl) (hplain : (backTo cpos (starEach es X.env)).any (·.1) = false := by rfl) :
    PE (X.suite a pn) (.Call (.Attribute o name apos) (e :: es) [] cpos) (tBM X.K T r to t) := pe_bm (X := X.suite a pn) pa slot hty hm ho ha hbase hfew hline hs hplain
end Rp
/-! repr of dicts, by the abstract heap: the dict is locked while its parts are told -/
namespace Rp
open PySem PySem.Spec PyProof.Rows L2
theorem pairs_at {P : Program} {w : World} : ∀ {es : List DictEntry} {vs : List (Key × Value)} {kvs : List (Key × V)}, Pairs (mixKind P w) es vs → KV kvs vs → ∀ (i : Nat) (e : DictEntry), es[i]? = some e → ∃ k v, kvs[i]? = some (k, v) ∧ RelV (kV k) e.key ∧ RelV v e.val := by
  intro es
  induction es with
  | nil => intro vs kvs _ _ i e h; cases h
  | cons x es ih =>
    intro vs kvs p r i e h
    cases p with
    | @cons _ kv _ vs' hk hv p' =>
      cases r with
      | @cons q _ qs _ h1 r' =>
        cases i with
        | zero =>
          cases h
          exact ⟨q.1, q.2, rfl, h1.1 ▸ relV_key hk, hv ▸ h1.2⟩
        | succ j =>
          exact ih p' r' j e h
section
variable {X : Cx} {n : Nat} {as : List Addr} {H : Hp} {a : Addr} {kvs : List (Key × V)} {ts : List Str} {base : Nat} {g : List Code} {A : Around} {pins : List (Addr × Obj)} {σ : L2.St}
/-- what is told of the parts, the dict locked -/
def Parts (X : Cx) (n : Nat) (as : List Addr) (H : Hp) (kvs : List (Key × V)) (ts : List Str) : Prop := ts.length = kvs.length ∧ ∀ (i : Nat) (k : Key) (v : V), kvs[i]? = some (k, v) → ∃ t1 t2 : Str, ts[i]? = some (t1 ++ ": " ++ t2) ∧ Says X n as H (kV k) t1 ∧ Says X n as H v t2
theorem dict_body {id : String} {rest : List Value} {od : Obj} (lo : Low X (n + 1) g A) (hcl : ∀ b ∈ a :: as, Clear g b) (hna : a ∉ as) (hp : Parts X n as H kvs ts)
    (hsz : base + (dictText ts).length ≤ sizeLine) (hq : H a = some (.frz od (.dK kvs))) {s : Shared} {H1 : Hp} (I : Inv X pins σ H1 s) (hs : Same H H1) {R : Result → Shared → Prop}
    (hg : (Code.builtin id ⟨.ref a :: rest, []⟩).guards = [Code.builtin id ⟨.ref a :: rest, []⟩]) (hw : (Code.builtin id ⟨.ref a :: rest, []⟩).weight = 1) (hu : (Code.builtin id ⟨.ref a :: rest, []⟩).cUnits = 1) (he : (Code.builtin id ⟨.ref a :: rest, []⟩).envs = [])
    (fin : ∀ s H2 u, Inv X pins σ H2 s → Same H1 H2 → R (.ok (.ret (.str (dictText ts) u))) s) (bad : ∀ e s, X.xe e s → R (.error e) s) :
    wpOwn (model X.prog X.w) A (.builtin id ⟨.ref a :: rest, []⟩) (Builtin.dictReprAt base ⟨[.ref a], []⟩) (fun fin s' => match fin with | .done f => R (.ok f) s' | .again c' => c'.quiet = true ∧ codeAny (model X.prog X.w) A c' R s') (fun e s' => R (.error e) s') s := by
  obtain ⟨hl, hit⟩ := hp
  obtain ⟨sys, ho, hx, es, ep, vs, hd, len, kv, _, es2, ho2, _, hd2, _, pr, _⟩ := I.frzK (hs _ _ hq)
  cases ho.symm.trans ho2
  cases hd.symm.trans hd2
  have ent := pairs_at pr kv
  have still : ∀ {H2 : Hp} {s2 : Shared}, Inv X pins σ H2 s2 → Same H1 H2 → s2.heap.get? a = some od := fun {H2 s2} I2 e2 => (I2.frzK (e2 _ _ (hs _ _ hq))).2.1
  have ty : s.TypeIs (.ref a) "dict" := ⟨od, ho, hx.1⟩
  have big := piled_le_dictText ts
  have small : (dictText ts).length ≤ sizeLine := by omega
  have lts : ts.length = es.size := by omega
  unfold Builtin.dictReprAt Builtin.Dict.dictSlotNone
  refine wpOwn_bind (wpOwn_of_wpAny (wpAny_bind (wpAny_notOrdered_dict ty ?_)))
  show wpAny (model X.prog X.w) _ (pure (Value.ref a)) _ _ s
  refine wpAny_pure ?_
  rw [dictReprRunning_eq]
  refine wpOwn_bind (wpOwn_stackTailAny lo.gd (dictGuardF_off _) (dictGuardF_pos _) ?_)
  have none_ : (g.any fun c => dictGuardF (.ref a) (c, default)) = false := List.any_eq_false.mpr fun c hc => by
    rw [dictGuardF_of_clear (hcl a List.mem_cons_self) c hc]
    exact Bool.false_ne_true
  rw [none_]
  refine wpOwn_of_wpAny ?_
  have lo2 := lo.guard hg hw hu he
  have cl2 : ∀ b ∈ as, Clear (Code.builtin id ⟨.ref a :: rest, []⟩ :: g) b := fun b hb => (hcl b (List.mem_cons_of_mem _ hb)).cons (a := a) fun e => hna (e ▸ hb)
  show wpAny (model X.prog X.w) _ (Builtin.Dict.addrOf (.ref a) >>= _) _ _ s
  refine wpAny_bind (wpAny_pure ?_)
  show wpAny (model X.prog X.w) _ (Builtin.Dict.showsAll a >>= _) _ _ s
  unfold Builtin.Dict.showsAll
  rw [sys]
  refine wpAny_bind (wpAny_pure (wpAny_bind (wpAny_dictEpoch ho hd (wpAny_bind (wpAny_dictEntries ho hd (wpAny_bind ?_))))))
  rw [Std.Legacy.Range.forIn_eq_forIn_range']
  simp only [Std.Legacy.Range.size, Nat.sub_zero, Nat.add_sub_cancel, Nat.div_one]
  refine wpAny_mono (E := X.xe) (wpAny_forIn_list _ (fun l r s2 => ∃ i H2, l = List.range' i (es.size - i) ∧ i ≤ es.size ∧ r = (⟨(ts.take i).toArray, base + piled (ts.take i)⟩ : (Array Str × Nat)) ∧ Inv X pins σ H2 s2 ∧ Same H1 H2)
    (fun r s2 => ∃ H2, r = (⟨ts.toArray, base + piled ts⟩ : (Array Str × Nat)) ∧ Inv X pins σ H2 s2 ∧ Same H1 H2) ?_ ?_ _ _ ⟨0, H1, by simp, Nat.zero_le _, by simp [piled], I, Same.refl _⟩) (fun r s2 k => ?_) fun e s2 k => bad e s2 k
  · rintro x l _ s2 ⟨i, H2, hr, hi, rfl, I2, e2⟩
    have lt : i < es.size := by
      rcases Nat.lt_or_ge i es.size with z | z
      · exact z
      · rw [Nat.sub_eq_zero_of_le z] at hr; cases hr
    have step : es.size - i = (es.size - (i + 1)) + 1 := by omega
    rw [step, List.range'_succ] at hr
    injection hr with h1 h2
    subst h1 h2
    have ge : es.toList[x]? = some es[x] := by simp [lt]
    obtain ⟨k, v, gk, rk, rv⟩ := ent x _ ge
    obtain ⟨t1, t2, gt, sk, sv⟩ := hit x k v gk
    have l3 : (t1 ++ ": " ++ t2 : Str).length = t1.length + 2 + t2.length := by rw [strLen_append, strLen_append]; rfl
    have p1 := piled_take_succ gt
    have p2 := piled_take_le ts (x + 1)
    rw [l3] at p1
    refine wpAny_bind (wpAny_dictEntries (still I2 e2) hd ?_)
    rw [Array.getElem?_eq_getElem lt]
    refine wpAny_bind (wpAny_holding (wpAny_bind (wpAny_mono (sk.und _ _ (base + piled (ts.take x) + 1) pins s2 σ H2 _ lo2 cl2 I2 (hs.trans e2) rk (by omega)) (fun r3 s3 k3 => ?_) fun _ _ q => q)))
    obtain ⟨rfl, H3, I3, e3⟩ := k3
    refine wpAny_bind (wpAny_mono (sv.und _ _ (base + piled (ts.take x) + (r3.length + 3)) pins s3 σ H3 _ lo2 cl2 I3 (hs.trans (e2.trans e3)) rv (by omega)) (fun r4 s4 k4 => ?_) fun _ _ q => q)
    obtain ⟨rfl, H4, I4, e4⟩ := k4
    have e5 := e2.trans (e3.trans e4)
    refine wpAny_pure (wpAny_bind (wpAny_dictEpoch (still I4 e5) hd ?_))
    rw [if_neg (by simp)]
    refine wpAny_pure ⟨x + 1, H4, rfl, lt, ?_, I4, e5⟩
    have q1 : (ts.take x).toArray.push (r3 ++ ": " ++ r4) = (ts.take (x + 1)).toArray := by simp [List.take_add_one, gt]
    have q2 : base + piled (ts.take x) + (r3.length + r4.length + 4) = base + piled (ts.take (x + 1)) := by omega
    rw [q1, q2]
  · rintro r s2 ⟨i, H2, hr, hi, rfl, I2, e2⟩
    have ei : i = ts.length := by
      rcases Nat.lt_or_ge i es.size with z | z
      · have step : es.size - i = (es.size - (i + 1)) + 1 := by omega
        rw [step, List.range'_succ] at hr; cases hr
      · omega
    rw [ei, List.take_length]
    exact ⟨H2, rfl, I2, e2⟩
  · obtain ⟨H2, rfl, I2, e2⟩ := k
    refine wpAny_bind (wpAny_mkStr (wpAny_pure ?_) (by simpa [dictText] using small))
    have q := fin _ H2 s2.toks (I2.tok (s2.toks + 1)) e2
    simpa [dictText] using q
theorem same_over {H1 : Hp} {u : HO} (e : Same H H1) : Same (upd H a u) (upd H1 a u) := fun y o h => by
  by_cases z : y = a
  · rw [z, upd_same] at h ⊢
    exact h
  · rw [upd_ne z] at h ⊢
    exact e _ _ h
theorem says_dict (hq : H a = some (.dK kvs)) (hna : a ∉ as) (hp : ∀ od, Parts X n as (upd H a (.frz od (.dK kvs))) kvs ts) : Says X (n + 2) (a :: as) H (.ref a) (dictText ts) := by
  have mu : Mut (some (.dK kvs)) := trivial
  have open_ : ∀ {H1 H2 : Hp} {od : Obj}, Same H H1 → Same (upd H1 a (.frz od (.dK kvs))) H2 → Same H1 (upd H2 a (.dK kvs)) := fun {H1 H2 od} e e2 y o h => by
    by_cases z : y = a
    · rw [z, e _ _ hq] at h
      rw [z, upd_same]
      exact h
    · rw [upd_ne z]
      exact e2 _ _ (by rw [upd_ne z]; exact h)
  refine ⟨fun A g base pins s σ H1 u lo cl I hs ru hz => ?_, fun A g pins s σ H1 u lo cl I hs ru hz => ?_⟩
  all_goals
    cases ru
    have h1 := hs _ _ hq
    have hn := I.nofrz h1 mu
    obtain ⟨od, IL⟩ := I.lock h1 mu
    obtain ⟨_, ho, hx, _⟩ := IL.frzK upd_same
    have ps : Parts X n as (upd H1 a (.frz od (.dK kvs))) kvs ts := ⟨(hp od).1, fun i k v hv => let ⟨t1, t2, a1, a2, a3⟩ := (hp od).2 i k v hv; ⟨t1, t2, a1, a2.grow (same_over hs), a3.grow (same_over hs)⟩⟩
  · refine wpAny_pyReprUnder_ref (by omega) (wpAny_pyReprObjUnder_twin (twin := "dict.__repr__.under") ⟨od, ho, hx.1⟩ PySem.F.slot_dict_repr rfl lo.rm.units0
      (call_twin_own (PySem.F.quiet_dict_repr_under _) PySem.F.entry_dict_repr_under PySem.F.check_dict_repr_under ⟨od, ho, hx.1⟩ PySem.F.slot_dict_repr (PySem.F.args_dict_repr_1 _)
        (dict_body (R := callEnd _ _) (lo.mono (by omega)) cl hna ps hz upd_same IL (Same.refl _) (by show (if Code.isGuard _ then _ else _) = _; rw [isGuard_dict_repr_under]; rfl) (by simp only [Code.weight, isGuard_dict_repr_under]; rfl) (by rfl) (by first | rfl | simp [Code.envs, Code.isFrame])
          (fun s2 H2 tk I2 e2 => ⟨⟨_, _, rfl⟩, _, _, rfl, rfl, _, I2.unlock (e2 _ _ upd_same) hn, open_ hs e2⟩) fun e s2 he => he)))
  · have h2 := lo.rm.units
    refine call_repr_slot (by omega) ⟨od, ho, hx.1⟩ PySem.F.slot_dict_repr (wpAny_call (codeAny_call_builtin_own (Code.quiet_builtin _ (by decide +kernel)) PySem.F.entry_dict_repr (PySem.F.slot_dict_repr.check _ _ _ _ _ _ _ _ ⟨od, ho, hx.1⟩ (PySem.F.args_dict_repr_1 _)
      (dict_body (A := A.in1) (base := 0) (R := callEnd _ _) lo.in1 cl hna ps (by omega) upd_same IL (Same.refl _) (by show (if Code.isGuard _ then _ else _) = _; rw [isGuard_dict_repr]; rfl) (by simp only [Code.weight, isGuard_dict_repr]; rfl) (by rfl) (by first | rfl | simp [Code.envs, Code.isFrame])
        (fun s2 H2 tk I2 e2 => ⟨_, _, rfl, ⟨_, rfl⟩, _, I2.unlock (e2 _ _ upd_same) hn, open_ hs e2⟩) fun e s2 he => he))))
end
end Rp
/-! several except clauses that each keep the exception by a name; nothing else comes out of the body -/
namespace Rp
open PySem PySem.Spec PyProof.Rows L2
/-- the wish of the clauses, made one by one of the wish of a single one -/
inductive Named (X : Cx) : List ExceptHandler → (Ends → WX) → Prop
  | none : Named X [] (fun _ _ _ _ _ => False)
  | more {x n : Str} {c : Value} {i : Nat} {ts : Addr → Value → Option Addr → TS} {st : Stmt} {suite : List Stmt} {np p : Pos} {hds : List ExceptHandler} {f : Ends → WX} (hi : X.N[i]? = some n) (hl : X.env.kindOf n = some .local) (hc : Names X x c)
      (hsu : ∀ (a : Addr) (oe : Obj) (cls : Value) (d : Option Addr) (pn : List (Addr × Obj)), Zc cls d oe → (∃ vs, oe.data = .fields vs) → PSs (X.suite a ((a, oe) :: pn)) (st :: suite) (ts a cls d)) (r : Named X hds f) :
      Named X (.ExceptHandler (some (.Name x np)) (some n) (st :: suite) p :: hds) (fun D => wAs X.K c i ts (f D) D)
/-- no frame is a record -/
theorem no_frame {h B : Heap} {l : List Env} {a : Addr} {o : Obj} {vs : Array Value} (ff : h.FunFrames B l) (ha : h.get? a = some o) (hd : o.data = .fields vs) : a ∉ frs l := by
  intro z
  have ⟨_, o2, g2, nf⟩ := ff.mem z
  cases ha.symm.trans g2
  exact nf _ hd
section
variable {X : Cx} {hds : List ExceptHandler} {f : Ends → WX} {D : Ends} {pins : List (Addr × Obj)} {σ : L2.St} {H : Hp} {a : Addr} {B : Heap} {cls : Value} {d : Option Addr} {s0 s : Shared}
theorem clauses (hh : Named X hds f) (hf : X.env.frame = some X.env.locals) (hN : X.N.Nodup) (I : Inv X pins σ H s0) (ok : X.Ok) (nb : ∀ b o, s0.heap.get? b = some o → b ∉ frs X.stack → B.get? b = some o) (hs : X.stack = X.env :: X.outer)
    (fl : HandSPX.FlyingZ B (X.env :: X.outer) a (Zc cls d) s.heap) (up : s0.heap.UpToSlots s.heap) (na : H a = none) (os : s.os = s0.os) (ag : AllBare s.gens) (w : f D cls d σ H) :
    wpAny (model X.prog X.w) X.A (handleBy (.ref a) X.env hds) (SP X pins D) X.xe s := by
  induction hh with
  | none => exact w.elim
  | @more x n c i ts st suite np p rest g hi hl hc hsu r ih =>
    have ⟨b, eb, yes, no⟩ := w
    have fine : ∀ {h : Heap}, HandSPX.FlyingZ B (X.env :: X.outer) a (Zc cls d) h → s0.heap.UpToSlots h → ∃ oe, h.get? a = some oe ∧ Zc cls d oe ∧ (∃ vs, oe.data = .fields vs) ∧ Inv (X.suite a ((a, oe) :: (X.pn ++ pins))) [] σ H { s with heap := h } := by
      intro h F U
      obtain ⟨oe, vs, ge, ze, de⟩ := F.there
      have out := no_frame F.2.2.1 ge de
      have at_ : ∀ e ∈ X.env :: X.outer, ∀ q, e.frame = some q → a ≠ q := fun e he q hq z => out (List.mem_filterMap.mpr ⟨e, he, by rw [hq, z]⟩)
      refine ⟨oe, ge, ze, ⟨vs, de⟩, (I.landed (s' := { s with heap := h }) nb F.1 U os ag).suite ge de na (at_ _ List.mem_cons_self _ hf) fun hm => ?_⟩
      obtain ⟨e, he, q⟩ := List.mem_filterMap.mp hm
      exact at_ e (List.mem_cons_of_mem _ he) _ q rfl
    obtain ⟨oe, ge, ze, _, S⟩ := fine fl up
    refine wpAny_handleBy_cons (codeAny_handlers_test ?_) (fun z => by cases z)
    have kind : PySem.W.Looks (model X.prog X.w) s.heap (typeOf (.ref a)) cls := fun A Q E s' k q => wpAny_typeOf_ref (k _ _ ge) (ze.1.symm ▸ q)
    have look := PySem.W.exm_one (M := model X.prog X.w) S.kIn kind eb
    have name : ∀ {Q E : Value → Shared → Prop}, Q c s → wpAny (model X.prog X.w) (X.A.mark (some (.ref a))) (eval (.Name x np) X.env) Q E s := by
      intro Q E q
      rcases hc with ⟨g1, g2, g3 | ⟨g3, g4, g5⟩⟩
      · exact ld_glob (X := X.suite a ((a, oe) :: (X.pn ++ pins))) S g1 g3 q g2
      · exact ld_blt (X := X.suite a ((a, oe) :: (X.pn ++ pins))) S g1 g3 g4 q g5 g2
    refine name (look.here ?_)
    cases b
    · show wpAny (model X.prog X.w) X.A (handleBy (.ref a) X.env rest) (SP X pins D) X.xe s
      exact ih (no rfl)
    · refine codeAny_handlers_suite_as (HandSPX.lands_againZ fl fun h2 fl2 up2 => ?_)
      obtain ⟨o2, g2, z2, f2, S2⟩ := fine fl2 (up.trans up2)
      refine store_ok (X := X.suite a ((a, o2) :: (X.pn ++ pins))) (v := .ref a) S2 hN hi (.inl hl) rfl (fun s3 S3 => ?_) (.inr hl)
      refine wpAny_mono ((hsu a o2 cls d _ z2 f2).run [] s3 _ H _ S3 (yes rfl a na)) (fun fw s4 k => ?_) (fun _ _ z => False.elim z)
      have bye : ∀ {σ4 : L2.St} {H4 : Hp} {Q : Shared → Prop}, Inv (X.suite a ((a, o2) :: (X.pn ++ pins))) [] σ4 H4 s4 → (∀ s5, Inv X pins (σ4.set i none) H4 s5 → Q s5) →
          wpAny (model X.prog X.w) X.A (do bindName X.env n .none; unbindBehindTheSuite X.env n p) (fun _ s5 => Q s5) X.xe s4 := fun S4 hq => gone_ok (S4.unsuite ok) hN hi hl hq
      rcases fw with _ | u | _ | _
      · have ⟨σ4, H4, S4, q4⟩ := k
        exact bye S4 fun _ J => ⟨_, _, J, q4⟩
      · first
          | (have ⟨v, σ4, H4, S4, r4, q4⟩ := k; exact bye S4 fun _ J => ⟨_, _, _, J, r4, q4⟩)
          | (have ⟨σ4, H4, S4, q4⟩ := k; exact bye S4 fun _ J => ⟨_, _, J, q4⟩)
      all_goals
        first
          | (have ⟨σ4, H4, S4, q4⟩ := k; exact bye S4 fun _ J => ⟨_, _, J, q4⟩)
          | (have ⟨v, σ4, H4, S4, r4, q4⟩ := k; exact bye S4 fun _ J => ⟨_, _, _, J, r4, q4⟩)
theorem ps_try_named {body : List Stmt} {h₀ : ExceptHandler} {pos : Pos} {tb : WX → TS} (hs : X.stack = X.env :: X.outer) (hf : X.env.frame = some X.env.locals) (hN : X.N.Nodup)
    (hb : ∀ (W : WX) (pn : List (Addr × Obj)) (xe : Value → Shared → Prop), Takes (X.tr pn xe) W → PassesOwn (model X.prog X.w) X.A X.env xe → PSs (X.tr pn xe) body (tb W)) (hh : Named X (h₀ :: hds) f) :
    PS X (.Try body (h₀ :: hds) [] [] pos) (fun D σ H => tb (f D) D σ H) := by
  refine ⟨fun pins s σ H D I h => wpAny_Try_except ?_⟩
  have ok := I.ok
  refine wpAny_mono ((hb (f D) (X.pn ++ pins) _ (fun u s' z => ?_) PassesOwn.looking).run [] s σ H D (I.toTry _) h) (fun fw s1 k => ?_) fun _ _ q => q
  · obtain ⟨a, B, s0, pins', σ', H', cls, d, rfl, J, nb, up, sky, na, os, ag, w⟩ := z
    have J := J.ofTry ok
    have sky2 : Sky B (X.env :: X.outer) a (Zc cls d) X.env.locals s'.heap := hs ▸ sky
    exact sky2.land Zc.steady (ok.frames.trans (congrArg some hs)) hf fun h2 fl up2 => clauses (s := { s' with heap := h2 }) hh hf hN J ok nb hs fl (up.trans up2) na os ag w
  · rcases fw with _ | u | _ | _
    · have ⟨σ', H', J, q⟩ := k
      exact wpAny_execs_nil ⟨σ', H', J.ofTry ok, q⟩
    all_goals
      first
        | (have ⟨σ', H', J, q⟩ := k; exact ⟨σ', H', J.ofTry ok, q⟩)
        | (have ⟨v, σ', H', J, r, q⟩ := k; exact ⟨v, σ', H', J.ofTry ok, r, q⟩)
end
end Rp
/-! an instance whose __init__ may raise, within a try -/
namespace Rp
open PySem PySem.Spec PyProof.Rows L2
section
variable {X : Cx} {CX : CXT} {k : Nat} {f C : Addr} {fd : FuncData} {ps : List Str} {sp : Sp} {E : L2.St → XK} {x : Str} {p pos : Pos} {e : Expr} {es : List Expr} {t : TA}
theorem made_here {pins : List (Addr × Obj)} {σ : L2.St} {H : Hp} {s : Shared} {Q : VK} {us : List Value} {vs : List V} (M : Mk X.K C f) (F : FnOk X.prog X.w X.K X.mg X.base CX k f fd ps sp) (hr : Room (k + 1) X.A) (hb : Binds X.K fd ps []) (hx : PassesAt CX X σ (E σ))
    (I : Inv X pins σ H s) (r : Vals vs us) (h : ∀ x dx, H x = none → H dx = none → dx ≠ x → sp (.ref x :: vs) (upd (upd H dx (.own x)) x (.ins C dx [])) (fun v H2 => v = .non ∧ Q (.ref x) H2) (E σ)) :
    wpAny (model X.prog X.w) X.A (call (.ref C) us) (EP X pins σ Q) X.xe s := by
  have I' := Inv.made (C := C) I
  have rs : Vals (V.ref (s.heap.objs.size + 1) :: vs) (Value.ref (s.heap.objs.size + 1) :: us) := .cons rfl r
  have hsp := h (s.heap.objs.size + 1) s.heap.objs.size (I.hok.fresh (Nat.le_add_right _ _)) (I.hok.fresh (Nat.le_refl _)) (Nat.ne_of_lt (Nat.lt_succ_self _))
  have many : (Value.ref (s.heap.objs.size + 1) :: us).length = ps.length := rs.length ▸ F.len _ _ _ _ hsp
  have bt := hb _ _ I'.kIn (by rw [List.append_nil]; exact many)
  rw [List.append_nil] at bt
  refine wpAny_call (make_map (f := f) I.kIn M.makes M.init (beq_iff_eq.mp M.fn) (codeAny_mono (F.run _ X.stack _ _ _ _ _ _ (E σ) (hr.make C us []) (I'.env0.make C us []) bt rs hsp) fun out s2 k2 => ?_))
  rcases out with er | fl
  rotate_left
  · cases fl with
    | ret u =>
      obtain ⟨v, H2, I2, rv, rfl, q⟩ := I'.after k2
      exact ⟨rv, V.ref (s.heap.objs.size + 1), H2, I2, rfl, q⟩
    | next => exact k2.elim
    | brk => exact k2.elim
    | cont => exact k2.elim
  · exact hx pins _ _ er s2 I' k2
def tMakeS (C : Addr) (sp : Sp) (E : L2.St → XK) (t : TA) : TE := fun σ H Q => t σ H fun vs H1 => ∀ x dx, H1 x = none → H1 dx = none → dx ≠ x →
  sp (.ref x :: vs) (upd (upd H1 dx (.own x)) x (.ins C dx [])) (fun v H2 => v = .non ∧ Q (.ref x) H2) (E σ)
theorem pe_makeS (M : Mk X.K C f) (F : FnOk X.prog X.w X.K X.mg X.base CX k f fd ps sp) (hr : Room (k + 1) X.A) (hg : Gl X x) (hm : X.mg x = some (.ref C)) (hb : Binds X.K fd ps []) (hx : ∀ σ, PassesAt CX X σ (E σ))
    (ha : PA X (e :: es) t) (hdb : (x == ("__debug__" : Str)) = false := by decide) (he : starEach (e :: es) X.env = (false, eval e X.env) :: starEach es X.env := by rfl) (hpl : (backTo pos (starEach es X.env)).any (·.1) = false := by rfl) :
    PE X (.Call (.Name x p) (e :: es) [] pos) (tMakeS C sp E t) :=
  ⟨fun pins s σ H Q I h => wpAny_Call_Name_kw (ld_glob I hg hm (PySem.W.callWith_K (h₀ := X.base) I.ok.mod.kin M.kp (thn (ha.run pos pins s σ H _ I h) fun us s1 ⟨vs, H1, I1, r, q⟩ => ⟨I1.kIn, made_here M F hr hb (hx σ) I1 r q⟩) he hpl) hdb)⟩
end
end Rp
/-! == and != by an own __eq__ that may answer either way -/
namespace Rp
open PySem PySem.Spec PyProof.Rows L2
section
variable {prog : Program} {w : World} {A : Around} {E : Value → Shared → Prop} {s : Shared} {K : PySem.W.Frag} {x C L f : Addr} {h₀ : Heap} {m : Str → Option Value} {ox : Obj} {od : Option Obj} {b tb : Value}
open PySem.W in
/-- x != b where the class says only what == is -/
theorem ne_K {Q : Value → Shared → Prop} (hu : A.units + 1 < cLine) (FR : Fr h₀ L s.heap m) (X₀ : K.In h₀) (I : InstAt s.heap x ox C od) (hb : Looks (model prog w) s.heap (typeOf b) tb) (hn : notFirst K C tb = true)
    (hne : findIn K (.ref C) "__ne__" = some (some (.builtin "object.__ne__"))) (hm : mroIn K C (.type "object") = some true)
    (hs : findIn K (.ref C) "__eq__" = some (some (.ref f))) (hf : isFn K (.ref f) = true)
    (h : wpAny (model prog w) A.in1 (call (.ref f) [.ref x, b]) (fun v s' => ∃ r, v = .bool r ∧ Q (.bool (!r)) s') E s) : wpAny (model prog w) A (richCompare .NotEq (.ref x) b) Q E s := by
  have X := X₀.keeps FR.keep
  have hu1 : A.in1.units < cLine := hu
  have sub : Looks (model prog w) s.heap (isInstance (.ref x) (.type "object")) true := I.type.andThen (looks_mroIn X hm)
  have S := PySem.F.cmp_object.ne
  have one : wpAny (model prog w) A (tryCompare (.ref x) "__ne__" b) (fun r s' => ∃ v, r = some v ∧ Q v s') E s := by
    unfold tryCompare
    have body : wpAny (model prog w) A (call (.builtin "object.__ne__") [.ref x, b]) (fun v s' => ∃ r, v = .bool r ∧ Q (.bool r) s') E s := by
      obtain ⟨hp, g, d, t, os⟩ := s
      refine wpAny_call (codeAny_call_builtin S.plain PySem.F.cmpEntry_ne (@check_slot (model prog w) _ _ ⟨hp, g, d, t, os⟩ "object.__ne__" "object" "__ne__" (.ref x) [b] [] _ PySem.F.cmpKind_ne PySem.F.cmpSplit_ne sub (PySem.F.cmpArgs_ne _ _) ?_))
      unfold Builtin.«object.__ne__»
      refine wpAny_bind (wpAny_of_eq (a := ((Value.ref x : Value), [b])) (by first | rfl | (simp only [Builtin.slotArgs]; rfl)) ?_)
      refine wpAny_bind (wpAny_cRoomFor hu1 ?_)
      refine wpAny_bind (ifBound_K X I hs hf (wpAny_mono h (fun v s' hv => ?_) fun _ _ e => e))
      obtain ⟨r, rfl, q⟩ := hv
      exact wpAny_bind (wpAny_truthy_bool (wpAny_pure ⟨!r, rfl, q⟩))
    have bound : wpAny (model prog w) A (callSpecialIfBound? (.ref x) "__ne__" [b]) (fun o s' => ∃ r, o = some (.bool r) ∧ Q (.bool r) s') E s := by
      simp only [callSpecialIfBound?, bindSpecialIfBound?]
      refine wpAny_holding (wpAny_bind (wpAny_bind (wpAny_bind (I.type.here ((looks_findIn X hne).here ?_)))))
      simp only [S.bind]
      refine wpAny_bind (wpAny_askSetting (wpAny_ite ?_))
      have fin : wpAny (model prog w) A (call (.builtin "object.__ne__") ([.ref x] ++ [b]) >>= fun v => pure (some v)) (fun o s' => ∃ r, o = some (.bool r) ∧ Q (.bool r) s') E s :=
        wpAny_bind (wpAny_mono body (fun v s' h' => by
          obtain ⟨r, rfl, q⟩ := h'
          exact wpAny_pure ⟨r, rfl, q⟩) fun _ _ h' => h')
      split
      · exact wpAny_bind (wpAny_pure (wpAny_pure fin))
      · exact wpAny_tryCatch (wpAny_bind (wpAny_pure (wpAny_pure fin)))
    refine wpAny_bind (wpAny_mono bound (fun v s' hv => ?_) fun _ _ e => e)
    obtain ⟨r, rfl, q⟩ := hv
    exact wpAny_pure ⟨_, rfl, q⟩
  unfold richCompare
  simp only [oneThing_ref]
  refine wpAny_holding (wpAny_bind (wpAny_cRoomFor (Nat.lt_of_succ_lt hu) ?_))
  refine wpAny_bind (I.type.here (wpAny_bind (hb.here ?_)))
  split
  · rename_i q
    have e : subIn K tb (.ref C) = some false := by
      rcases Bool.or_eq_true_iff.mp hn with e | e
      · rw [beq_iff_eq.mp e] at q; simp at q
      · exact beq_iff_eq.mp e
    refine wpAny_bind ((looks_subIn X e).here ?_)
    simp only [Bool.false_eq_true, if_false]
    refine wpAny_bind (wpAny_mono one (fun r s' z => ?_) fun _ _ e => e)
    obtain ⟨v, rfl, hq⟩ := z
    exact wpAny_pure hq
  · refine wpAny_bind (wpAny_pure ?_)
    simp only [Bool.false_eq_true, if_false]
    refine wpAny_bind (wpAny_mono one (fun r s' z => ?_) fun _ _ e => e)
    obtain ⟨v, rfl, hq⟩ := z
    exact wpAny_pure hq
end
/-- what a class with an own == and no own != says -/
structure OwnE (K : PySem.W.Frag) (C f : Addr) : Prop where
  eq : PySem.W.findIn K (.ref C) "__eq__" = some (some (.ref f))
  fn : PySem.W.isFn K (.ref f) = true
  ne : PySem.W.findIn K (.ref C) "__ne__" = some (some (.builtin "object.__ne__"))
  mro : PySem.W.mroIn K C (.type "object") = some true
section
variable {X : Cx} {C f : Addr} {fd : FuncData} {ps : List Str} {sp : Sp} {n : Nat} {E : XK} {CX : CXT}
/-- x == y, x != y: x of the class, y of any type -/
def rOwn (K : PySem.W.Frag) (C : Addr) (sp : Sp) (E : XK) (g : Bool → Bool) : R2 := fun x y H Q => ∃ a dx fs tb, x = .ref a ∧ H a = some (.ins C dx fs) ∧ TyX K H y tb ∧ PySem.W.notFirst K C tb = true ∧ sp [x, y] H (fun v H' => ∃ r, v = .bl r ∧ Q (.bl (g r)) H') E
theorem own_callee {A : Around} {pins : List (Addr × Obj)} {σ : L2.St} {H : Hp} {s : Shared} {x y : V} {u v : Value} {Q : Bool → Hp → Prop} (F : FnOk X.prog X.w X.K X.mg X.base CX n f fd ps sp) (hb : Binds X.K fd ps []) (hx : Passes CX X E) (hr : Room n A) (hfr : A.frames = X.A.frames)
    (I : Inv X pins σ H s) (rx : RelV x u) (ry : RelV y v) (hsp : sp [x, y] H (fun v H' => ∃ r, v = .bl r ∧ Q r H') E) :
    wpAny (model X.prog X.w) A (call (.ref f) [u, v]) (fun v s' => ∃ r, v = .bool r ∧ ∃ H', Inv X pins σ H' s' ∧ Q r H') X.xe s := by
  have e0 : Env0 X.prog X.w X.K X.mg X.base A X.stack s H := by
    have e := I.env0
    exact ⟨by rw [hfr]; exact e.frames, e.mod, e.bs, e.bsz, e.funs, e.frf, e.hok, e.bare⟩
  have hl := F.len _ _ _ _ hsp
  have r2 : Vals [x, y] [u, v] := .cons rx (.cons ry .nil)
  refine wpAny_call (codeAny_mono (F.run A X.stack s H ⟨[u, v], []⟩ [u, v] [x, y] _ E hr e0 (by
    have := hb s [u, v] I.kIn (by simpa using hl)
    simpa using this) r2 hsp) fun r s' hq => ?_)
  match r, hq with
  | .error e, hq => exact hx pins σ H s e s' I hq
  | .ok (.ret w), hq =>
    obtain ⟨z, H', I', rz, b, ez, q⟩ := I.after hq
    subst ez
    cases rz
    exact ⟨b, rfl, H', I', q⟩
theorem op_eqOwn (F : FnOk X.prog X.w X.K X.mg X.base CX n f fd ps sp) (O : OwnE X.K C f) (hb : Binds X.K fd ps []) (hx : Passes CX X E) (hr : Room n X.A) : OpR X (compareOp .Eq) (rOwn X.K C sp E id) := by
  intro pins s σ H x y u v Q I rx ry hq
  obtain ⟨a, dx, fs, tb, rfl, ha, ty, nf, hsp⟩ := hq
  show wpAny (model X.prog X.w) X.A (richCompare .Eq u v) (EP X pins σ Q) X.xe s
  obtain ⟨P, Z, p, hv⟩ := kit_of I ry ty
  have hu : u = .ref a := rx
  subst hu
  obtain ⟨mA, J, _⟩ := ins_get I.hok ha
  obtain ⟨od, J, _⟩ := J.look
  obtain ⟨m, hF⟩ := I.fr
  refine PySem.W.cmp_K (op := .Eq) hr.units0 hF I.ok.mod.kin J (Z.ty _ _ I.kIn p) nf O.eq O.fn ?_
  refine wpAny_mono (own_callee (Q := fun r H' => Q (.bl r) H') F hb hx hr rfl I rx ry hsp) (fun w s' k => ?_) fun _ _ k => k
  obtain ⟨r, rfl, H', I', q⟩ := k
  exact ⟨.bl r, H', I', rfl, q⟩
theorem op_neOwn (F : FnOk X.prog X.w X.K X.mg X.base CX n f fd ps sp) (O : OwnE X.K C f) (hb : Binds X.K fd ps []) (hx : Passes CX X E) (hr : Room (n + 1) X.A) : OpR X (compareOp .NotEq) (rOwn X.K C sp E not) := by
  intro pins s σ H x y u v Q I rx ry hq
  obtain ⟨a, dx, fs, tb, rfl, ha, ty, nf, hsp⟩ := hq
  show wpAny (model X.prog X.w) X.A (richCompare .NotEq u v) (EP X pins σ Q) X.xe s
  obtain ⟨P, Z, p, hv⟩ := kit_of I ry ty
  have hu : u = .ref a := rx
  subst hu
  obtain ⟨mA, J, _⟩ := ins_get I.hok ha
  obtain ⟨od, J, _⟩ := J.look
  obtain ⟨m, hF⟩ := I.fr
  refine ne_K (by have := hr.un; omega) hF I.ok.mod.kin J (Z.ty _ _ I.kIn p) nf O.ne O.mro O.eq O.fn ?_
  refine wpAny_mono (own_callee (Q := fun r H' => Q (.bl (!r)) H') F hb hx hr.in1 rfl I rx ry hsp) (fun w s' k => ?_) fun _ _ k => k
  obtain ⟨r, rfl, H', I', q⟩ := k
  exact ⟨r, rfl, .bl !r, H', I', rfl, q⟩
end
end Rp
/-! str of an own instance; a comprehension over a text; repr of a number whatever runs; figures -/
namespace Rp
open PySem PySem.Spec PyProof.Rows L2
section
variable {X : Cx} {C f : Addr} {fd : FuncData} {ps : List Str} {sp : Sp} {n : Nat} {E : XK} {CX : CXT}
/-- a def of one argument, called from within a builtin -/
theorem callee1 {A : Around} {pins : List (Addr × Obj)} {σ : L2.St} {H : Hp} {s : Shared} {x : V} {u : Value} {Q : V → Hp → Prop} (F : FnOk X.prog X.w X.K X.mg X.base CX n f fd ps sp) (hb : Binds X.K fd ps []) (hx : Passes CX X E) (hr : Room n A) (hfr : A.frames = X.A.frames)
    (I : Inv X pins σ H s) (rx : RelV x u) (hsp : sp [x] H Q E) :
    wpAny (model X.prog X.w) A (call (.ref f) [u]) (fun v s' => ∃ y H', Inv X pins σ H' s' ∧ RelV y v ∧ Q y H') X.xe s := by
  have e0 : Env0 X.prog X.w X.K X.mg X.base A X.stack s H := by
    have e := I.env0
    exact ⟨by rw [hfr]; exact e.frames, e.mod, e.bs, e.bsz, e.funs, e.frf, e.hok, e.bare⟩
  have hl := F.len _ _ _ _ hsp
  have r2 : Vals [x] [u] := .cons rx .nil
  refine wpAny_call (codeAny_mono (F.run A X.stack s H ⟨[u], []⟩ [u] [x] _ E hr e0 (by
    have := hb s [u] I.kIn (by simpa using hl)
    simpa using this) r2 hsp) fun r s' hq => ?_)
  match r, hq with
  | .error e, hq => exact hx pins σ H s e s' I hq
  | .ok (.ret w), hq =>
    obtain ⟨z, H', I', rz, q⟩ := I.after hq
    exact ⟨z, H', I', rz, q⟩
/-- str(x), x of a class with its own __str__ -/
def rStrO (C : Addr) (sp : Sp) (E : XK) : List V → Hp → VK → Prop := fun vs H Q => ∃ a dx fs, vs = [.ref a] ∧ H a = some (.ins C dx fs) ∧ sp [.ref a] H (fun v H' => ∃ t, v = .str t ∧ Q (.str t) H') E
theorem cr_strO (F : FnOk X.prog X.w X.K X.mg X.base CX n f fd ps sp) (hs : PySem.W.findIn X.K (.ref C) "__str__" = some (some (.ref f))) (hf : PySem.W.isFn X.K (.ref f) = true) (hb : Binds X.K fd ps []) (hx : Passes CX X E) (hr : Room (n + 2) X.A) :
    CallR X (.type "str") (rStrO C sp E) := by
  intro pins s σ H vs us Q I r h
  obtain ⟨a, dx, fs, rfl, ha, hsp⟩ := h
  obtain ⟨u, rfl, ru⟩ := vals1 r
  have eu : u = .ref a := ru
  subst eu
  obtain ⟨mA, J, _⟩ := ins_get I.hok ha
  obtain ⟨od, J, _⟩ := J.look
  refine PySem.W.kso_call (by have := hr.un; show X.A.units + 1 + 1 < cLine; omega) I.kIn J hs hf (wpAny_mono (callee1 F hb hx hr.in1.in1 rfl I ru hsp) (fun v s' k => ?_) fun _ _ k => k)
  obtain ⟨y, H', I', ry, t, rfl, q⟩ := k
  obtain ⟨tk, rfl⟩ := ry
  exact ⟨.str t, H', I', ⟨tk, rfl⟩, q⟩
/-- repr(n), whatever guards run -/
theorem cr_reprI : CallR X (.builtin "repr") (fun vs H Q => ∃ i : Int, vs = [.int i] ∧ i.natAbs.log2 < 1920 ∧ Q (.str (Str.ofString (toString i))) H) := by
  intro pins s σ H vs us Q I r h
  obtain ⟨i, rfl, hz, q⟩ := h
  obtain ⟨u, rfl, ru⟩ := vals1 r
  obtain ⟨t, rfl⟩ := ru
  exact PySem.P.repr_of_int hz ⟨.str (Str.ofString (toString i)), H, I.tok _, ⟨s.toks, rfl⟩, q⟩
end
/-- a comprehension over a text's signs -/
theorem lc_str {x : Str} {g : TG} {tt : TT} {te : TE} {vs : List Nat} {σ : L2.St} {H1 : Hp} {D : Addr} {Qd : Hp → Prop} (Pv : Nat → Hp → Prop) (h0 : Pv 0 (upd H1 D (.lst [])))
    (hs : ∀ i c H, x.cps[i]? = some c → Pv i H → g (.str ⟨#[c]⟩) (wipe σ vs) H fun σ2 H2 => wipe σ2 vs = wipe σ vs ∧ tt σ2 H2 fun b H3 =>
      if b = true then te σ2 H3 fun y H4 => ∃ acc, H4 D = some (.lst acc) ∧ acc.length < sizeLine ∧ Pv (i + 1) (upd H4 D (.lst (acc ++ [y]))) else Pv (i + 1) H3) (hd : ∀ H, Pv x.cps.size H → Qd H) :
    ∃ W : Nat → Nat → Hp → Prop, (∃ m, W 0 m (upd H1 D (.lst []))) ∧ ∀ i m H, W i m H →
      ((Its x).stop i H ∧ Qd H) ∨ ((Its x).go i H ∧ ∃ Nx : Hp → Prop, (∀ H', Nx H' → ∃ m', m' < m ∧ W (i + 1) m' H') ∧ ∀ y H', (Its x).yld i H y H' → g y (wipe σ vs) H' fun σ2 H2 => wipe σ2 vs = wipe σ vs ∧ tt σ2 H2 fun b H3 =>
        if b = true then te σ2 H3 fun y H4 => ∃ acc, H4 D = some (.lst acc) ∧ acc.length < sizeLine ∧ Nx (upd H4 D (.lst (acc ++ [y]))) else Nx H3) := by
  refine ⟨fun i m H => m = x.cps.size - i ∧ i ≤ x.cps.size ∧ Pv i H, ⟨x.cps.size, by simp, Nat.zero_le _, h0⟩, ?_⟩
  rintro i m H ⟨rfl, hi, p⟩
  by_cases hlt : i < x.cps.size
  · refine .inr ⟨hlt, Pv (i + 1), fun H' p' => ⟨x.cps.size - (i + 1), by omega, rfl, hlt, p'⟩, fun y H' hy => ?_⟩
    obtain ⟨rfl, c, hc, rfl⟩ := hy
    exact hs i c H' hc p
  · have e : i = x.cps.size := by omega
    subst e
    exact .inl ⟨Nat.le_refl _, hd H p⟩

/-! ### figures -/
/-- a number's figures are more than k where the number is 10 ^ k and more -/
theorem numL_small : ∀ (k n : Nat), (TL.numL n).length ≤ k → n < 10 ^ k
  | 0, n, h => absurd (List.length_eq_zero_iff.mp (Nat.le_zero.mp h)) (TL.numL_ne n)
  | k + 1, n, h => by
    by_cases hn : n < 10
    · have : 1 ≤ 10 ^ k := Nat.one_le_pow _ _ (by decide)
      rw [Nat.pow_succ]
      omega
    · rw [TL.numL_step (by omega), List.length_append] at h
      have e : [48 + n % 10].length = 1 := rfl
      have ih := numL_small k (n / 10) (by omega)
      rw [Nat.pow_succ]
      omega
/-- the first figure is no nought but of 0 -/
theorem numL_head (n : Nat) : 0 < n → ∃ c r, TL.numL n = c :: r ∧ c ≠ 48 := by
  induction n using Nat.strongRecOn with
  | _ n ih =>
    intro h0
    by_cases h : n < 10
    · exact ⟨48 + n, [], TL.numL_lt h, by omega⟩
    · obtain ⟨c, r, e, hc⟩ := ih (n / 10) (by omega) (by omega)
      exact ⟨c, r ++ [48 + n % 10], by rw [TL.numL_step (by omega), e]; rfl, hc⟩
end Rp
/-! text[::-1] -/
namespace Rp
open PySem PySem.Spec PyProof.Rows L2
def revT (z : Str) : Str := ⟨z.cps.toList.reverse.toArray⟩
theorem revT_len (z : Str) : (revT z).length = z.length := by
  show z.cps.toList.reverse.toArray.size = z.cps.size
  simp
theorem rev_pick (z : Str) : (Builtin.Str.strSliceIndices none none (-1) z.length).filterMap (z.cps[·]?) = z.cps.toList.reverse := by
  unfold Builtin.Str.strSliceIndices
  have h1 : ¬ ((-1 : Int) > 0) := by decide
  simp only [h1, if_false]
  rw [PySem.W.krv_sliceRange, PySem.W.krv_range, List.filterMap_reverse]
  exact congrArg List.reverse (PySem.W.krv_all z.cps)
def tRevS (te : TE) : TE := fun σ H Q => te σ H fun x H1 => ∃ z : Str, x = .str z ∧ z.length ≤ sizeLine ∧ Q (.str (revT z)) H1
theorem pe_revS {X : Cx} {e : Expr} {te : TE} {k : Nat} {p1 p2 p3 pos : Pos} (he : PE X e te) : PE X (.Subscript e (.Slice none none (some (.UnaryOp .USub (.Constant (.int 1) k p1) p2)) p3) pos) (tRevS te) := by
  refine ⟨fun pins s σ H Q I h => ?_⟩
  refine Subscript_ (thn (he.run pins s σ H _ I h) fun v s1 ⟨x, H1, I1, r1, q1⟩ => ?_)
  obtain ⟨z, ex, hz, q⟩ := q1
  subst ex
  obtain ⟨t, rfl⟩ := r1
  have hst : PO X (some (.UnaryOp .USub (.Constant (.int 1) k p1) p2)) (tPart (tUn (rU fun i => .int (-i)) (tC (.int 1)))) := po_some (pe_un un_neg pe_int)
  refine wpAny_Slice (thn (po_none.run pins s1 σ H1 (fun o H2 => o = none ∧ H2 = H1) I1 ⟨rfl, rfl⟩) fun vl s2 ⟨l, H2, I2, pl, el, e2⟩ => ?_)
  subst el e2
  refine thn (po_none.run pins s2 σ H2 (fun o H3 => o = none ∧ H3 = H2) I2 ⟨rfl, rfl⟩) fun vu s3 ⟨u, H3, I3, pu, eu, e3⟩ => ?_
  subst eu e3
  refine thn (hst.run pins s3 σ H3 (fun o H4 => o = some (-1) ∧ H4 = H3) I3 ⟨1, rfl, -1, rfl, rfl, rfl⟩) fun vs s4 ⟨o, H4, I4, ps, eo, e4⟩ => ?_
  subst eo e4
  have I5 : Inv X pins σ H4 { s4 with heap := s4.heap.push { cls := .type "slice", data := .fields #[vl, vu, vs] } } := I4.kept (t' := s4.toks) fun b ob q => Heap.get?_push_of_some _ q
  show wpAny (model X.prog X.w) X.A (subscriptTail e (.Slice none none (some (.UnaryOp .USub (.Constant (.int 1) k p1) p2)) p3) (.str z t) (.ref s4.heap.objs.size)) (EP X pins σ Q) X.xe { s4 with heap := s4.heap.push { cls := .type "slice", data := .fields #[vl, vu, vs] } }
  obtain ⟨l', rfl, el⟩ := IsPart.raw pl
  obtain ⟨u', rfl, eu⟩ := IsPart.raw pu
  obtain ⟨w', rfl, ew⟩ := IsPart.raw ps
  cases l' with
  | some _ => cases el
  | none =>
  cases u' with
  | some _ => cases eu
  | none =>
  cases w' with
  | none => cases ew
  | some w' =>
    obtain ⟨i, tk⟩ := w'
    have ei : i = -1 := by
      first
        | exact (Option.some.inj ew)
        | (injection ew)
        | (simpa using ew)
        | (have := ew.symm; simpa using this)
    subst ei
    refine tail_any (ops := [.str z t, .ref s4.heap.objs.size]) (typeIs_str _ _ _) F.slot_str_getitem.lookup ?_ (by with_unfolding_all rfl)
    refine wpAny_getItem_str_slice (l := none) (u := none) (st := some (-1, tk)) ⟨_, Heap.get?_push_size _ rfl, rfl, rfl⟩ rfl ?_
    show Made.post (if ((-1 : Int) == 1 && (Builtin.Str.strSliceIndices none none (-1) z.length).length == z.length) = true then Made.val (.str z t)
      else Made.str ⟨((Builtin.Str.strSliceIndices none none (-1) z.length).filterMap (z.cps[·]?)).toArray⟩) (EP X pins σ Q) _
    rw [if_neg (by simp), rev_pick]
    exact ⟨by show (revT z).length ≤ sizeLine; rw [revT_len]; exact hz, .str (revT z), H4, I5.tok _, ⟨_, rfl⟩, q⟩
end Rp
namespace K
open PySem L2 Rp
/-! ### the text by places -/
/-! ### decks -/
def DeckAt (H : Hp) (d : Addr) : Prop := ∃ a b c : Int, H d = some (.lst [.int a, .int b, .int c])

/-! ### promises -/
def spWhole (K : PySem.W.Frag) : Sp := fun vs H Q _ => ∃ n : Int, vs = [.int n] ∧ Q (.bl true) H
/-- a whole number, or not -/
def isW : V → Bool
  | .int _ => true
  | _ => false
/-- a value whose kind is known -/
def Wh (K : PySem.W.Frag) (H : Hp) (v : V) : Prop := ∃ tv b1 b2, TyX K H v tv ∧ PySem.W.kitOne K tv (.type "int") = some b1 ∧ PySem.W.kitOne K tv (.type "bool") = some b2 ∧ isW v = (b1 && !b2)
theorem wh_int {K : PySem.W.Frag} {H : Hp} {i : Int} : Wh K H (.int i) := ⟨_, true, false, .base (.int i), kit_ty (by decide +kernel), kit_ty (by decide +kernel), rfl⟩
def spWholeV (K : PySem.W.Frag) : Sp := fun vs H Q _ => ∃ v : V, vs = [v] ∧ Wh K H v ∧ Q (.bl (isW v)) H
def spDeck : Sp := fun vs H Q _ => ∃ n : Int, vs = [.int n] ∧ ∀ p, H p = none → ∀ H', DeckAt H' p → (∀ b, b ≠ p → H' b = H b) → Q (.ref p) H'
def spDraw : Sp := fun vs H Q _ => ∃ (d : Addr) (m : Int), vs = [.ref d, .int m] ∧ 0 < m ∧ m < 1073741824 ∧ DeckAt H d ∧ ∀ r : Int, 0 ≤ r → r < m → ∀ H', DeckAt H' d → (∀ b, b ≠ d → H' b = H b) → Q (.int r) H'

/-- what the built-in names hold -/
structure Blt (mg : Str → Option Value) : Prop where
  isi : mg "isinstance" = none
  int : mg "int" = none
  bool : mg "bool" = none

section
variable {P : Program} {w : World} {K : PySem.W.Frag} {mg : Str → Option Value} {base : Heap}
theorem FnOk.ints {n : Nat} {f : Addr} {fd : FuncData} {x : Str} (F : FnOk P w K mg base CX0 n f fd [x] (spWholeV K)) : FnOk P w K mg base CX0 n f fd [x] (spWhole K) :=
  F.imp fun vs H Q E h => let ⟨i, e, q⟩ := h; ⟨.int i, e, wh_int, q⟩
end
section
variable {P : Program} {w : World} {K : PySem.W.Frag} {mg : Str → Option Value} {base : Heap}
theorem ix3 {a b c : V} : atI [a, b, c] (0 : Int) = some a ∧ atI [a, b, c] (1 : Int) = some b ∧ atI [a, b, c] (2 : Int) = some c := ⟨rfl, rfl, rfl⟩
end
/-! ### the law's own gcd -/
theorem gcd_turn {c d : Int} (hc : 0 ≤ c) (hd : 0 ≤ d) : Int.gcd d (c % d) = Int.gcd c d := by
  obtain ⟨m, rfl⟩ := Int.eq_ofNat_of_zero_le hc
  obtain ⟨n, rfl⟩ := Int.eq_ofNat_of_zero_le hd
  show Nat.gcd n (m % n) = Nat.gcd m n
  rw [Nat.gcd_comm n, ← Nat.gcd_rec, Nat.gcd_comm]
def spDiv : Sp := fun vs H Q _ => ∃ a b : Int, vs = [.int a, .int b] ∧ 0 ≤ a ∧ 0 ≤ b ∧ Q (.int (Int.gcd a b : Nat)) H
section
variable {P : Program} {w : World} {K : PySem.W.Frag} {mg : Str → Option Value} {base : Heap}
end
/-! ### sizes -/
/-- below 2 ^ m in size -/
def Sz (m : Nat) (x : Int) : Prop := x.natAbs < 2 ^ m
theorem Sz.mono {a b : Nat} {x : Int} (h : Sz a x) (hab : a ≤ b) : Sz b x := Nat.lt_of_lt_of_le h (Nat.pow_le_pow_right (by decide) hab)
theorem Sz.mul {a b : Nat} {x y : Int} (hx : Sz a x) (hy : Sz b y) : Sz (a + b) (x * y) := wide_lt hx hy
theorem Sz.add {a : Nat} {x y : Int} (hx : Sz a x) (hy : Sz a y) : Sz (a + 1) (x + y) := by
  have h := Int.natAbs_add_le x y
  unfold Sz at *
  rw [Nat.pow_succ]
  omega
theorem Sz.sub {a : Nat} {x y : Int} (hx : Sz a x) (hy : Sz a y) : Sz (a + 1) (x - y) := by
  have h := Int.natAbs_sub_le x y
  unfold Sz at *
  rw [Nat.pow_succ]
  omega
theorem Sz.div {a : Nat} {x : Int} (hx : Sz a x) (y : Int) : Sz a (x / y) := Nat.lt_of_le_of_lt (Int.natAbs_ediv_le_natAbs x y) hx
theorem Sz.log {a : Nat} {x : Int} (hx : Sz a x) (h0 : 0 < a) : x.natAbs.log2 < a := PySem.Flt.log2_lt_of h0 hx
theorem Sz.mulOk {a b : Nat} {x y : Int} (hx : Sz a x) (hy : Sz b y) (h0 : 0 < a) (h1 : 0 < b) (h : a + b ≤ 1000000) : CMulW x y := wide_mul hx hy h0 h1 h
theorem gcd_pos {t b : Int} (hb : 0 < b) : 0 < ((Int.gcd t b : Nat) : Int) := by
  have : Int.gcd t b ≠ 0 := fun z => by
    have := Int.gcd_eq_zero_iff.mp z
    omega
  omega
theorem gcd_le {t b : Int} (hb : 0 < b) : ((Int.gcd t b : Nat) : Int) ≤ b := by
  have h := Int.gcd_dvd_right t b
  exact Int.le_of_dvd hb h
theorem Sz.gcd {a : Nat} {t b : Int} (h : Sz a b) (hb : 0 < b) : Sz a ((Int.gcd t b : Nat) : Int) := by
  have h1 := gcd_le (t := t) hb
  have h2 := gcd_pos (t := t) hb
  unfold Sz at *
  omega

/-! ### Weights -/
theorem tb_ : ¬ (("top" : Str) = "bottom") := by decide +kernel
theorem bt_ : ¬ (("bottom" : Str) = "top") := by decide +kernel
/-- a Weight's fields, as __init__ stores them -/
def wf (t b : Int) : List (Str × V) := putF "bottom" (.int b) (putF "top" (.int t) [])
theorem wf_top (t b : Int) : (wf t b).lookup ("top" : Str) = some (.int t) := by
  unfold wf
  rw [lookup_putF, if_neg tb_, lookup_putF, if_pos rfl]
theorem wf_bottom (t b : Int) : (wf t b).lookup ("bottom" : Str) = some (.int b) := by
  unfold wf
  rw [lookup_putF, if_pos rfl]
theorem wf_no (t b : Int) {m : Str} (h1 : ¬ m = "top") (h2 : ¬ m = "bottom") : (wf t b).lookup m = none := by
  unfold wf
  rw [lookup_putF, if_neg h2, lookup_putF, if_neg h1]
  all_goals rfl
/-- a Weight t / b stands at p -/
def WAt (C : Addr) (H : Hp) (p : Addr) (t b : Int) : Prop := ∃ dx, H p = some (.ins C dx (wf t b))
theorem WAt.same {C : Addr} {H H' : Hp} {p : Addr} {t b : Int} (h : WAt C H p t b) (e : Same H H') : WAt C H' p t b := let ⟨dx, h⟩ := h; ⟨dx, e _ _ h⟩
theorem same_make {H : Hp} {x dx C : Addr} {fs : List (Str × V)} (nx : H x = none) (ndx : H dx = none) : Same H (upd (upd (upd H dx (.own x)) x (.ins C dx [])) x (.ins C dx fs)) := fun b o e => by
  rw [upd_ne (ne_of_none e nx), upd_ne (ne_of_none e nx), upd_ne (ne_of_none e ndx)]
  exact e

/-- what the top holds of the class Weight, at C -/
structure WTxt (K : PySem.W.Frag) (mg : Str → Option Value) (C fW : Addr) : Prop where
  cl : Cls K C
  nT : NoAttr K C "top"
  nB : NoAttr K C "bottom"
  mgC : mg "Weight" = some (.ref C)
  mgW : mg "is_whole" = some (.ref fW)
  kpW : PySem.W.keepIn K (.ref fW) = true
  gcd : mg "gcd" = some (.builtin "math.gcd")

def spInit (C : Addr) : Sp := fun vs H Q _ => ∃ (p dx : Addr) (t b : Int), vs = [.ref p, .int t, .int b] ∧ H p = some (.ins C dx []) ∧ 0 ≤ t ∧ 0 < b ∧ Sz 8000 b ∧
  Q .non (upd H p (.ins C dx (wf (t / (Int.gcd t b : Nat)) (b / (Int.gcd t b : Nat)))))

/-- as FunD.ok, of a def that lets nothing out -/
theorem FunD_ok0 {P : Program} {w : World} {K : PySem.W.Frag} {mg : Str → Option Value} {base : Heap} {x qual : Str} {params : Arguments} {body : List Stmt} {scope : Scope} {dvs : List V} {kws : List (Str × V)} {f : Addr} {fd : FuncData} {N ps : List Str} {k : Nat} {sp : Sp}
    (F : FunD K x qual params body scope dvs kws f fd) (S : FnScope N ps scope) (len : ∀ vs H Q E, sp vs H Q E → vs.length = ps.length)
    (hbody : ∀ (cdv : Value) (A : Around) (outer : List PySem.Env) (s : Shared) (H : Hp) (vs : List V) (Q : VK) (E : XK), Room k (A.deeper (PyProof.Rows.envOfC qual scope s.heap.objs.size f cdv)) → sp vs H Q E →
      ∃ t, PSs (cxOf CX0 P w K mg base N qual scope f cdv A outer s H E).nox body t ∧ t { nx := fun _ H' => Q .non H', rt := Q } (start N vs) H) : FnOk P w K mg base CX0 (k + 1) f fd ps sp :=
  F.ok S len fun cdv A outer s H vs Q E hr h => let ⟨t, h1, h2⟩ := hbody cdv A outer s H vs Q E hr h; ⟨t, h1.nox, h2⟩

section
variable {P : Program} {w : World} {K : PySem.W.Frag} {mg : Str → Option Value} {base : Heap}
end
/-- a Weight's numbers, below 2 ^ m -/
structure Wn (m : Nat) (t b : Int) : Prop where
  t0 : 0 ≤ t
  b0 : 0 < b
  tz : Sz m t
  bz : Sz m b
theorem Wn.mono {m n : Nat} {t b : Int} (h : Wn m t b) (hm : m ≤ n) : Wn n t b := ⟨h.t0, h.b0, h.tz.mono hm, h.bz.mono hm⟩
/-- lowest terms -/
def lowT (t b : Int) : Int := t / ((Int.gcd t b : Nat) : Int)
def lowB (t b : Int) : Int := b / ((Int.gcd t b : Nat) : Int)
theorem Wn.low {m : Nat} {t b : Int} (h : Wn m t b) : Wn m (lowT t b) (lowB t b) := by
  have hg := gcd_pos (t := t) h.b0
  have hd := Int.gcd_dvd_right t b
  refine ⟨Int.ediv_nonneg h.t0 (Int.le_of_lt hg), ?_, h.tz.div _, h.bz.div _⟩
  exact Int.ediv_pos_of_pos_of_dvd h.b0 (Int.le_of_lt hg) hd

/-- a def of the module, as its callers want it -/
structure Cl (K : PySem.W.Frag) (mg : Str → Option Value) (x : Str) (f : Addr) (fd : FuncData) (ps : List Str) : Prop where
  g : mg x = some (.ref f)
  k : PySem.W.keepIn K (.ref f) = true
  b : Binds K fd ps []
/-- what isinstance asks of an own class's instance -/
structure WIns (K : PySem.W.Frag) (C : Addr) : Prop where
  ha : PySem.W.findIn K (.ref C) "__class__" = some (some (.builtin "object.__class__"))
  hn : PySem.W.specialIn K (.builtin "object.__class__") "__get__" = some (some (.builtin "getset_descriptor.__get__"))
  htk : PySem.W.takesIn K (.builtin "object.__class__") = some true
  hm : PySem.W.mroIn K C (.type "object") = some true
theorem kit_self {K : PySem.W.Frag} {C : Addr} : PySem.W.kitOne K (.ref C) (.ref C) = some true := by
  unfold PySem.W.kitOne
  rw [if_pos (by simp)]

def spLow : Sp := fun vs H Q _ => ∃ t b : Int, vs = [.int t, .int b] ∧ 0 ≤ t ∧ 0 < b ∧ Sz 8000 b ∧ ∀ p, H p = none → Q (.ref p) (upd H p (.tup [.int (lowT t b), .int (lowB t b)]))
/-- _law_is of a Weight that is what it should be -/
def spIs (C : Addr) : Sp := fun vs H Q _ => ∃ (p : Addr) (t b : Int), vs = [.ref p, .int t, .int b] ∧ 0 ≤ t ∧ 0 < b ∧ Sz 8000 b ∧ WAt C H p (lowT t b) (lowB t b) ∧ ∀ H', Same H H' → Q (.bl true) H'

section
variable {P : Program} {w : World} {K : PySem.W.Frag} {mg : Str → Option Value} {base : Heap}
end
/-- all but d is kept, what is free was free -/
structure Fw (d : Addr) (H H' : Hp) : Prop where
  kp : ∀ q o, q ≠ d → H q = some o → H' q = some o
  nn : ∀ p, H' p = none → H p = none
theorem Fw.refl (d : Addr) (H : Hp) : Fw d H H := ⟨fun _ _ _ h => h, fun _ h => h⟩
theorem Fw.trans {d : Addr} {H H1 H2 : Hp} (a : Fw d H H1) (b : Fw d H1 H2) : Fw d H H2 := ⟨fun q o n h => b.kp q o n (a.kp q o n h), fun p h => a.nn p (b.nn p h)⟩
theorem Fw.draw {d : Addr} {H H' : Hp} (h : DeckAt H' d) (e : ∀ b, b ≠ d → H' b = H b) : Fw d H H' := ⟨fun q o n h => (e q n).trans h, fun p hp => by
  by_cases z : p = d
  · obtain ⟨_, _, _, h⟩ := h
    rw [z, h] at hp
    cases hp
  · rw [← e p z]; exact hp⟩
theorem Fw.upd {d p : Addr} {H : Hp} {o : HO} (hp : H p = none) : Fw d H (upd H p o) := ⟨fun q u n h => by rw [upd_ne (ne_of_none h hp)]; exact h, fun q h => by
  by_cases z : q = p
  · rw [z, upd_same] at h; cases h
  · rw [upd_ne z] at h; exact h⟩
theorem Fw.same {d : Addr} {H H' : Hp} (e : Same H H') : (∀ p, H' p = none → H p = none) := fun p h => by
  cases q : H p with
  | none => rfl
  | some o => rw [e p o q] at h; cases h
theorem Fw.of_same {d : Addr} {H H' : Hp} (e : Same H H') : Fw d H H' := ⟨fun q o _ h => e q o h, Fw.same (d := d) e⟩
theorem DeckAt.upd {d p : Addr} {H : Hp} {o : HO} (h : DeckAt H d) (hp : H p = none) : DeckAt (upd H p o) d := by
  obtain ⟨a, b, c, h⟩ := h
  exact ⟨a, b, c, by rw [upd_ne (ne_of_none h hp)]; exact h⟩
theorem DeckAt.same {d : Addr} {H H' : Hp} (h : DeckAt H d) (e : Same H H') : DeckAt H' d := let ⟨a, b, c, h⟩ := h; ⟨a, b, c, e _ _ h⟩
theorem DeckAt.ne {d p : Addr} {H : Hp} (h : DeckAt H d) (hp : H p = none) : p ≠ d := fun z => by
  obtain ⟨_, _, _, h⟩ := h
  rw [z, h] at hp
  cases hp

theorem tYes_of {σ : L2.St} {H : Hp} {Q : Bool → Hp → Prop} (h : Q true H) : tYes σ H Q := h

def spTwo : Sp := fun vs H Q _ => ∃ d : Addr, vs = [.ref d] ∧ DeckAt H d ∧ ∀ (p : Addr) (t b : Int) (H' : Hp), 0 ≤ t → t ≤ 1000000000000 → 0 < b → b ≤ 1000000000000 → H p = none → H' p = some (.tup [.int t, .int b]) → DeckAt H' d → Fw d H H' → Q (.ref p) H'

section
variable {P : Program} {w : World} {K : PySem.W.Frag} {mg : Str → Option Value} {base : Heap}
end
/-- a number's text -/
def nT (n : Int) : Str := Str.ofString (toString n)
theorem nT_len {n : Int} (h : Sz 1600 n) : (nT n).length ≤ 1601 := by
  unfold nT
  rw [ofString_length]
  exact int_text_length_le (by decide) (h.log (by decide))
theorem append_len (x y : Str) : (x ++ y).length = x.length + y.length := strLen_append x y
theorem join_one (x : Str) : Txt.join "" [x] = x := rfl
/-- a Weight's text by repr -/
def wT (t b : Int) : Str := if b = 1 then Str.empty ++ "Weight(" ++ nT t ++ ")" else Str.empty ++ "Weight(" ++ nT t ++ ", " ++ nT b ++ ")"
theorem wT_len {t b : Int} (ht : Sz 1600 t) (hb : Sz 1600 b) : (wT t b).length ≤ 4000 := by
  have h1 := nT_len ht
  have h2 := nT_len hb
  have e1 : ("Weight(" : Str).length = 7 := by decide +kernel
  have e2 : (")" : Str).length = 1 := by decide +kernel
  have e3 : (", " : Str).length = 2 := by decide +kernel
  have e4 : (Str.empty : Str).length = 0 := by decide +kernel
  unfold wT
  split <;> simp only [append_len] <;> omega

def spShow : Sp := fun vs H Q _ => ∃ n : Int, vs = [.int n] ∧ 0 ≤ n ∧ Sz 1600 n ∧ ∀ H', Same H H' → Q (.str (nT n)) H'
def spRepr (C : Addr) : Sp := fun vs H Q _ => ∃ (p : Addr) (t b : Int), vs = [.ref p] ∧ WAt C H p t b ∧ Wn 1600 t b ∧ ∀ H', Same H H' → Q (.str (wT t b)) H'

section
variable {P : Program} {w : World} {K : PySem.W.Frag} {mg : Str → Option Value} {base : Heap}
end
theorem same_upd {H : Hp} {p : Addr} {o : HO} (hp : H p = none) : Same H (upd H p o) := fun y u e => by
  rw [upd_ne (ne_of_none e hp)]
  exact e
/-- an exception's class without an __init__ of its own -/
structure XTxt (K : PySem.W.Frag) (mg : Str → Option Value) (x : Str) (C : Addr) (bm : List Value) (newId : String) : Prop where
  g : mg x = some (.ref C)
  q : PySem.W.excIn K C bm newId = true
  k : PySem.W.keepIn K (.ref C) = true
  b : PySem.W.subIn K (.ref C) (.type "BaseException") = some true
  t : PySem.W.typeIn K (.ref C) = some (.type "type")
abbrev bmZ : List Value := [.type "ZeroDivisionError", .type "ArithmeticError", .type "Exception", .type "BaseException", .type "object"]
abbrev bmV : List Value := [.type "ValueError", .type "Exception", .type "BaseException", .type "object"]
def good (x y : V) : Prop := ∃ t b : Int, x = .int t ∧ y = .int b ∧ 0 ≤ t ∧ 0 < b
def spInitV (K : PySem.W.Frag) (C NZ NW : Addr) : Sp := fun vs H Q E => ∃ (p dx : Addr) (x y : V), vs = [.ref p, x, y] ∧ H p = some (.ins C dx []) ∧ Wh K H x ∧ Wh K H y ∧
  (y = .int 0 → E (.ref NZ) none H) ∧ (y ≠ .int 0 → ¬ good x y → E (.ref NW) none H) ∧
  (∀ t b : Int, x = .int t → y = .int b → 0 ≤ t → 0 < b → Sz 8000 b ∧ Q .non (upd H p (.ins C dx (wf (t / (Int.gcd t b : Nat)) (b / (Int.gcd t b : Nat))))))
theorem isW_int {v : V} (h : isW v = true) : ∃ i, v = .int i := by
  cases v <;> first | exact ⟨_, rfl⟩ | cases h
section
variable {P : Program} {w : World} {K : PySem.W.Frag} {mg : Str → Option Value} {base : Heap}
end
/-- the module's x is a class; b: whether S is below it -/
def IsC (K : PySem.W.Frag) (mg : Str → Option Value) (S : Addr) (x : Str) (b : Bool) : Prop := ∃ A, mg x = some (.ref A) ∧ PySem.W.kitOne K (.ref S) (.ref A) = some b
/-- what the marks ask of the error's class S -/
structure MTxt (K : PySem.W.Frag) (mg : Str → Option Value) (S : Addr) : Prop where
  e : ExcC K S
  i : mg "isinstance" = none
  c1 : IsC K mg S "NoName" false
  c2 : IsC K mg S "NoGrains" false
  c3 : IsC K mg S "NoDay" false
  c4 : IsC K mg S "NoWeight" true
  c5 : IsC K mg S "NoDeed" false
  c6 : IsC K mg S "NoRow" false
  c7 : IsC K mg S "NoText" false
  c8 : IsC K mg S "Unknown" false
  c9 : IsC K mg S "Unborne" false
  d1 : IsC K mg S "Twice" false
  d2 : IsC K mg S "TooLate" false
  d3 : IsC K mg S "NoSum" false
  d4 : IsC K mg S "Full" false
  d5 : IsC K mg S "NotAlike" false
  k : IsC K mg S "CaskError" true
  w : IsC K mg S "Wrong" true
  v : mg "ValueError" = none
  kv : PySem.W.kitOne K (.ref S) (.type "ValueError") = some true
theorem HasD.same {H H' : Hp} {d : Option Addr} (h : HasD H d) (e : Same H H') : HasD H' d := h.imp id fun ⟨dx, fs, h1, h2⟩ => ⟨dx, fs, h1, e _ _ h2⟩
def spMarks (S : Addr) : SpE := fun a cls d vs H Q _ => ∃ b : Bool, vs = [.ref a, .bl b] ∧ cls = .ref S ∧ HasD H d ∧ ∀ (m : Addr) (H' : Hp), Same H H' → H m = none → H' m = some (.lst [.bl b, .bl true, .bl true, .int 1]) → Q (.ref m) H'
section
variable {P : Program} {w : World} {K : PySem.W.Frag} {mg : Str → Option Value} {base : Heap}
end
section
variable {P : Program} {w : World} {K : PySem.W.Frag} {mg : Str → Option Value} {base : Heap}
end
/-! things of any kind: what repr tells of them is settled, their kinds are known -/
def Asc (z : Str) : Prop := ∀ c ∈ z.cps.toList, c < 128
theorem asc_lit (x : Str) (h : x.cps.toList.all (fun c => decide (c < 128)) = true) : Asc x := fun c hc => of_decide_eq_true (List.all_eq_true.mp h c hc)
inductive Th (C : Addr) (H : Hp) : Nat → Nat → List Addr → V → Prop where
  | non {n L as} : 4 ≤ L → Th C H n L as .non
  | bl {n L as} (b : Bool) : 5 ≤ L → Th C H n L as (.bl b)
  | int {n L as} {i : Int} : Sz 1600 i → 1601 ≤ L → Th C H n L as (.int i)
  | str {n L as} {x : Str} : Asc x → x.length ≤ 10000 → (reprText x).length ≤ L → (reprText x).length ≤ sizeLine → Th C H n L as (.str x)
  | wt {n L as p t b} : 3 ≤ n → p ∈ as → WAt C H p t b → Wn 1600 t b → 4000 ≤ L → Th C H n L as (.ref p)
  | tup {n L n' L' as as' a xs} : H a = some (.tup xs) → a ∉ as → (∀ v ∈ xs, Th C H n L as v) → n + 2 ≤ n' → xs.length * (L + 2) + 3 ≤ L' → (∀ b, b ∈ a :: as → b ∈ as') → Th C H n' L' as' (.ref a)
  | lst {n L n' L' as as' a xs} : H a = some (.lst xs) → a ∉ as → (∀ v ∈ xs, Th C H n L as v) → n + 2 ≤ n' → xs.length * (L + 2) + 3 ≤ L' → (∀ b, b ∈ a :: as → b ∈ as') → Th C H n' L' as' (.ref a)
  | dic {n L n' L' as as' a} {kvs : List (Key × V)} : H a = some (.dK kvs) → a ∉ as → (∀ kv ∈ kvs, Th C H n L as (kV kv.1)) → (∀ kv ∈ kvs, Th C H n L as kv.2) → n + 2 ≤ n' → kvs.length * (2 * L + 4) + 3 ≤ L' → (∀ b, b ∈ a :: as → b ∈ as') → Th C H n' L' as' (.ref a)
section
variable {C : Addr} {H H' : Hp} {n L m M : Nat} {as as' : List Addr} {v : V}
theorem Th.mono (h : Th C H n L as v) (h1 : n ≤ m) (h2 : L ≤ M) (h3 : ∀ b ∈ as, b ∈ as') : Th C H m M as' v := by
  cases h with
  | non q => exact .non (Nat.le_trans q h2)
  | bl b q => exact .bl b (Nat.le_trans q h2)
  | int i q => exact .int i (Nat.le_trans q h2)
  | str a l q z => exact .str a l (Nat.le_trans q h2) z
  | wt a b c d e => exact .wt (Nat.le_trans a h1) (h3 _ b) c d (Nat.le_trans e h2)
  | tup a b c d e f => exact .tup a b c (Nat.le_trans d h1) (Nat.le_trans e h2) fun x q => h3 _ (f x q)
  | lst a b c d e f => exact .lst a b c (Nat.le_trans d h1) (Nat.le_trans e h2) fun x q => h3 _ (f x q)
  | dic a b c c' d e f => exact .dic a b c c' (Nat.le_trans d h1) (Nat.le_trans e h2) fun x q => h3 _ (f x q)
theorem Th.congr (h : Th C H n L as v) : (∀ b ∈ as, ∀ o, H b = some o → H' b = some o) → Th C H' n L as v := by
  induction h with
  | non q => exact fun _ => .non q
  | bl b q => exact fun _ => .bl b q
  | int i q => exact fun _ => .int i q
  | str a l q z => exact fun _ => .str a l q z
  | wt a b c d e => exact fun x => .wt a b (let ⟨dx, hc⟩ := c; ⟨dx, x _ b _ hc⟩) d e
  | tup a b c d e f ih => exact fun x => .tup (x _ (f _ List.mem_cons_self) _ a) b (fun v hv => ih v hv fun y hy => x y (f y (List.mem_cons_of_mem _ hy))) d e f
  | lst a b c d e f ih => exact fun x => .lst (x _ (f _ List.mem_cons_self) _ a) b (fun v hv => ih v hv fun y hy => x y (f y (List.mem_cons_of_mem _ hy))) d e f
  | dic a b c c' d e f ih1 ih2 => exact fun x => .dic (x _ (f _ List.mem_cons_self) _ a) b (fun v hv => ih1 v hv fun y hy => x y (f y (List.mem_cons_of_mem _ hy))) (fun v hv => ih2 v hv fun y hy => x y (f y (List.mem_cons_of_mem _ hy))) d e f
end
/-! its text -/
theorem pick {α : Type} {p : α → Str → Prop} : ∀ xs : List α, (∀ v ∈ xs, ∃ t, p v t) → ∃ ts : List Str, ts.length = xs.length ∧ (∀ t ∈ ts, ∃ v, v ∈ xs ∧ p v t) ∧ ∀ (i : Nat) (x : α), xs[i]? = some x → ∃ t, ts[i]? = some t ∧ p x t
  | [], _ => ⟨[], rfl, fun t ht => (nomatch ht), fun i x h => by cases h⟩
  | x :: xs, h => by
    obtain ⟨t, ht⟩ := h x List.mem_cons_self
    obtain ⟨ts, h1, h2, h3⟩ := pick xs fun v hv => h v (List.mem_cons_of_mem _ hv)
    refine ⟨t :: ts, by rw [List.length_cons, List.length_cons, h1], fun u hu => ?_, fun i y hy => ?_⟩
    · rcases List.mem_cons.mp hu with rfl | hu
      · exact ⟨x, List.mem_cons_self, ht⟩
      · obtain ⟨v, hv, q⟩ := h2 u hu
        exact ⟨v, List.mem_cons_of_mem _ hv, q⟩
    · cases i with
      | zero => cases hy; exact ⟨t, rfl, ht⟩
      | succ i => exact h3 i y hy
theorem piled_le {B : Nat} : ∀ ts : List Str, (∀ t ∈ ts, t.length ≤ B) → piled ts ≤ ts.length * (B + 2)
  | [], _ => Nat.le_of_eq (by simp [piled])
  | t :: ts, h => by
    have ih := piled_le ts fun u hu => h u (List.mem_cons_of_mem _ hu)
    have h0 := h t List.mem_cons_self
    rw [piled_cons, List.length_cons, Nat.add_mul]
    omega
theorem join_le {B : Nat} {ts : List Str} (h : ∀ t ∈ ts, t.length ≤ B) : (Str.join ", " ts).length ≤ ts.length * (B + 2) := by
  have hp := piled_le ts h
  by_cases e : ts = []
  · subst e
    exact Nat.zero_le _
  · have := join_length_add ts e
    omega
theorem tupleText_le {B : Nat} {ts : List Str} (h : ∀ t ∈ ts, t.length ≤ B) : (tupleText ts).length ≤ ts.length * (B + 2) + 3 := by
  have hj := join_le h
  unfold tupleText
  rw [strLen_append, strLen_append]
  have e1 : ((("(" : String) : Str)).length = 1 := rfl
  have e3 : (((if ts.length == 1 then ",)" else ")" : String) : Str)).length ≤ 2 := by split <;> decide
  omega
theorem dictText_le {B : Nat} {ts : List Str} (h : ∀ t ∈ ts, t.length ≤ B) : (dictText ts).length ≤ ts.length * (B + 2) + 3 := by
  have hj := join_le h
  unfold dictText
  rw [strLen_append, strLen_append]
  have e1 : ((("{" : String) : Str)).length = 1 := rfl
  have e3 : ((("}" : String) : Str)).length = 1 := rfl
  omega
theorem sum_piled : ∀ ts : List Str, (ts.map (·.length)).sum + 2 * ts.length = piled ts
  | [] => rfl
  | t :: ts => by
    have ih := sum_piled ts
    rw [piled_cons, List.map_cons, List.sum_cons, List.length_cons]
    omega
theorem listText_le {B : Nat} {ts : List Str} (h : ∀ t ∈ ts, t.length ≤ B) : (listText ts).length ≤ ts.length * (B + 2) + 3 := by
  have hp := piled_le ts h
  have h1 := textFrom_len_le ts 0 "["
  have h2 := sum_piled ts
  unfold listText
  rw [strLen_append]
  have e1 : ((("[" : String) : Str)).length = 1 := rfl
  have e3 : ((("]" : String) : Str)).length = 1 := rfl
  omega
section
variable {P : Program} {w : World} {K : PySem.W.Frag} {mg : Str → Option Value} {base : Heap}
/-- what is asked of a context -/
structure Ctx (X : Cx) (P : Program) (w : World) (K : PySem.W.Frag) (mg : Str → Option Value) (base : Heap) : Prop where
  p : X.prog = P
  w : X.w = w
  K : X.K = K
  mg : X.mg = mg
  base : X.base = base
/-- v's text is t, wherever the parts named as stand -/
def Tells (P : Program) (w : World) (K : PySem.W.Frag) (mg : Str → Option Value) (base : Heap) (n L : Nat) (as : List Addr) (H : Hp) (v : V) (t : Str) : Prop :=
  t.length ≤ L ∧ ∀ X : Cx, Ctx X P w K mg base → ∀ H', (∀ b ∈ as, ∀ o, H b = some o → H' b = some o) → Says X n as H' v t
theorem Th.tells {C fR : Addr} {fd : FuncData} (aR : PySem.W.findIn K (.ref C) "__repr__" = some (some (.ref fR))) (iR : PySem.W.isFn K (.ref fR) = true) (bR : Binds K fd ["self"] []) (GR : FnOk P w K mg base CX0 2 fR fd ["self"] (spRepr C))
    {H : Hp} {n L : Nat} {as : List Addr} {v : V} (h : Th C H n L as v) : ∃ t, Tells P w K mg base n L as H v t := by
  induction h with
  | non q => exact ⟨("None" : String), q, fun X _ H' _ => says_non.mono (Nat.zero_le _) fun _ z => nomatch z⟩
  | bl b q => exact ⟨(if b then "True" else "False" : String), by cases b <;> first | exact q | exact Nat.le_trans (by decide) q, fun X _ H' _ => (says_bl b).mono (Nat.zero_le _) fun _ z => nomatch z⟩
  | @int n L as i z q =>
    refine ⟨_, Nat.le_trans (nT_len z) q, fun X _ H' _ => (says_int (Nat.lt_trans (z.log (by decide)) (by decide))).mono (Nat.zero_le _) fun _ z => nomatch z⟩
  | str a l q z => exact ⟨_, q, fun X _ H' _ => (says_str z).mono (Nat.zero_le _) fun _ z => nomatch z⟩
  | @wt n L as p t b hn hm hw nn q =>
    refine ⟨wT t b, Nat.le_trans (wT_len nn.tz nn.bz) q, fun X c H' e => ?_⟩
    obtain ⟨rfl, rfl, rfl, rfl, rfl⟩ := c
    obtain ⟨dx, hp⟩ := hw
    refine (says_own (t := wT t b) GR aR iR bR pass0 (e p hm _ hp) fun H1 s1 => ?_).mono hn fun _ z => nomatch z
    exact ⟨p, t, b, rfl, ⟨dx, s1 _ _ (e p hm _ hp)⟩, nn, fun H2 s2 => ⟨rfl, s2⟩⟩
  | @tup n L n' L' as as' a xs h1 h2 h3 h4 h5 h6 ih =>
    obtain ⟨ts, e1, e2, e3⟩ := pick (p := fun v t => Tells P w K mg base n L as H v t) xs ih
    refine ⟨tupleText ts, Nat.le_trans (tupleText_le (B := L) fun t ht => let ⟨_, _, q⟩ := e2 t ht; q.1) (by rw [e1]; exact h5), fun X c H' e => ?_⟩
    refine (says_tup (n := n) (as := as) (ts := ts) (SqT.of (e a (h6 a List.mem_cons_self) _ h1)) h2 e1 fun i x hx => ?_).mono h4 h6
    obtain ⟨t, ht, q⟩ := e3 i x hx
    exact ⟨t, ht, q.2 X c H' fun b hb => e b (h6 b (List.mem_cons_of_mem _ hb))⟩
  | @lst n L n' L' as as' a xs h1 h2 h3 h4 h5 h6 ih =>
    obtain ⟨ts, e1, e2, e3⟩ := pick (p := fun v t => Tells P w K mg base n L as H v t) xs ih
    refine ⟨listText ts, Nat.le_trans (listText_le (B := L) fun t ht => let ⟨_, _, q⟩ := e2 t ht; q.1) (by rw [e1]; exact h5), fun X c H' e => ?_⟩
    refine (says_lst (n := n) (as := as) (ts := ts) (SqL.of (e a (h6 a List.mem_cons_self) _ h1)) h2 e1 fun i x hx => ?_).mono h4 h6
    obtain ⟨t, ht, q⟩ := e3 i x hx
    exact ⟨t, ht, q.2 X c H' fun b hb => e b (h6 b (List.mem_cons_of_mem _ hb))⟩
  | @dic n L n' L' as as' a kvs h1 h2 h3 h3' h4 h5 h6 ih1 ih2 =>
    obtain ⟨ts, e1, e2, e3⟩ := pick (p := fun (kv : Key × V) t => ∃ t1 t2 : Str, t = t1 ++ ": " ++ t2 ∧ Tells P w K mg base n L as H (kV kv.1) t1 ∧ Tells P w K mg base n L as H kv.2 t2) kvs fun kv hk => by
      obtain ⟨t1, q1⟩ := ih1 kv hk
      obtain ⟨t2, q2⟩ := ih2 kv hk
      exact ⟨_, t1, t2, rfl, q1, q2⟩
    have l2 : ((": " : String) : Str).length = 2 := rfl
    refine ⟨dictText ts, Nat.le_trans (dictText_le (B := 2 * L + 2) fun t ht => ?_) (by rw [e1]; exact h5), fun X c H' e => ?_⟩
    · obtain ⟨_, _, t1, t2, rfl, q1, q2⟩ := e2 t ht
      rw [strLen_append, strLen_append]
      have := q1.1
      have := q2.1
      omega
    · refine (says_dict (n := n) (as := as) (ts := ts) (kvs := kvs) (e a (h6 a List.mem_cons_self) _ h1) h2 fun od => ⟨e1, fun i k v hkv => ?_⟩).mono h4 h6
      obtain ⟨t, ht, t1, t2, rfl, q1, q2⟩ := e3 i (k, v) hkv
      have up : ∀ b ∈ as, ∀ o, H b = some o → (upd H' a (.frz od (.dK kvs))) b = some o := fun b hb o ho => by
        rw [upd_ne (fun z : b = a => h2 (z ▸ hb))]
        exact e b (h6 b (List.mem_cons_of_mem _ hb)) o ho
      exact ⟨t1, t2, ht, q1.2 X c _ up, q2.2 X c _ up⟩
/-- its kind -/
theorem Th.wh {C : Addr} {H : Hp} {n L : Nat} {as : List Addr} {v : V} (h : Th C H n L as v) (cl : Cls K C) (N : WIns K C) (ki : PySem.W.kitOne K (.ref C) (.type "int") = some false) (kb : PySem.W.kitOne K (.ref C) (.type "bool") = some false) : Wh K H v := by
  cases h with
  | non q => exact ⟨_, false, false, .base .non, kit_ty (by decide +kernel), kit_ty (by decide +kernel), rfl⟩
  | bl b q => exact ⟨_, true, true, .base (.bl b), kit_ty (by decide +kernel), kit_ty (by decide +kernel), rfl⟩
  | int i q => exact wh_int
  | str a l q z => exact ⟨_, false, false, .base (.str _), kit_ty (by decide +kernel), kit_ty (by decide +kernel), rfl⟩
  | wt a b c d e =>
    obtain ⟨dx, hp⟩ := c
    exact ⟨_, false, false, .base (.ins hp cl N.ha N.hn N.htk N.hm), ki, kb, rfl⟩
  | tup a b c d e f => exact ⟨_, false, false, .base (.tup a), kit_ty (by decide +kernel), kit_ty (by decide +kernel), rfl⟩
  | lst a b c d e f => exact ⟨_, false, false, .base (.lst a), kit_ty (by decide +kernel), kit_ty (by decide +kernel), rfl⟩
  | dic a b c c' d e f => exact ⟨_, false, false, .base (.dK a), kit_ty (by decide +kernel), kit_ty (by decide +kernel), rfl⟩
end
/-! a thing that doesn't speak of the deck d -/
def Od (C d : Addr) (N M : Nat) (H : Hp) (v : V) : Prop := ∃ as, d ∉ as ∧ (∀ b ∈ as, H b ≠ none) ∧ Th C H N M as v
section
variable {C d : Addr} {H H' : Hp} {N M N' M' : Nat} {v : V}
theorem Od.fw {C d : Addr} {H H' : Hp} {N M : Nat} {v : V} (h : Od C d N M H v) (f : Fw d H H') : Od C d N M H' v := by
  obtain ⟨as, h1, h2, h3⟩ := h
  refine ⟨as, h1, fun b hb z => h2 b hb (f.nn b z), h3.congr fun b hb o ho => f.kp b o (fun z => h1 (z ▸ hb)) ho⟩
theorem Od.same (h : Od C d N M H v) (e : Same H H') : Od C d N M H' v := h.fw (Fw.of_same e)
theorem Od.mono (h : Od C d N M H v) (h1 : N ≤ N') (h2 : M ≤ M') : Od C d N' M' H v := by
  obtain ⟨as, a, b, c⟩ := h
  exact ⟨as, a, b, c.mono h1 h2 fun _ z => z⟩
theorem od_non (h : 4 ≤ M) : Od C d N M H .non := ⟨[], List.not_mem_nil, (fun b hb => nomatch hb), .non h⟩
theorem od_bl {b : Bool} (h : 5 ≤ M) : Od C d N M H (.bl b) := ⟨[], List.not_mem_nil, (fun b hb => nomatch hb), .bl b h⟩
theorem od_int {i : Int} (z : Sz 1600 i) (h : 1601 ≤ M) : Od C d N M H (.int i) := ⟨[], List.not_mem_nil, (fun b hb => nomatch hb), .int z h⟩
theorem od_str {x : Str} (a : Asc x) (l : x.length ≤ 10000) (h : (reprText x).length ≤ M) (z : (reprText x).length ≤ sizeLine) : Od C d N M H (.str x) := ⟨[], List.not_mem_nil, (fun b hb => nomatch hb), .str a l h z⟩
theorem od_wt {p : Addr} {t b : Int} (h : WAt C H p t b) (n : Wn 1600 t b) (nd : p ≠ d) (h1 : 3 ≤ N) (h2 : 4000 ≤ M) : Od C d N M H (.ref p) := by
  refine ⟨[p], fun z => nd (List.mem_singleton.mp z).symm, fun b hb e => ?_, .wt h1 List.mem_cons_self h n h2⟩
  obtain ⟨dx, hp⟩ := h
  rw [List.mem_singleton.mp hb, hp] at e
  cases e
/-- several at once -/
theorem od_all {xs : List V} (h : ∀ v ∈ xs, Od C d N M H v) : ∃ as, d ∉ as ∧ (∀ b ∈ as, H b ≠ none) ∧ ∀ v ∈ xs, Th C H N M as v := by
  induction xs with
  | nil => exact ⟨[], List.not_mem_nil, fun b hb => (nomatch hb), fun v hv => nomatch hv⟩
  | cons x xs ih =>
    obtain ⟨as, a1, a2, a3⟩ := ih fun v hv => h v (List.mem_cons_of_mem _ hv)
    obtain ⟨bs, b1, b2, b3⟩ := h x List.mem_cons_self
    refine ⟨bs ++ as, fun z => (List.mem_append.mp z).elim b1 a1, fun b hb => (List.mem_append.mp hb).elim (b2 b) (a2 b), fun v hv => ?_⟩
    rcases List.mem_cons.mp hv with rfl | hv
    · exact b3.mono (Nat.le_refl _) (Nat.le_refl _) fun b hb => List.mem_append_left _ hb
    · exact (a3 v hv).mono (Nat.le_refl _) (Nat.le_refl _) fun b hb => List.mem_append_right _ hb
theorem od_tup {a : Addr} {xs : List V} (ha : H a = none) (nd : a ≠ d) (h : ∀ v ∈ xs, Od C d N M H v) (h1 : N + 2 ≤ N') (h2 : xs.length * (M + 2) + 3 ≤ M') : Od C d N' M' (upd H a (.tup xs)) (.ref a) := by
  obtain ⟨as, a1, a2, a3⟩ := od_all h
  have na : a ∉ as := fun z => a2 a z ha
  have up : ∀ b ∈ as, ∀ o, H b = some o → (upd H a (.tup xs)) b = some o := fun b hb o ho => by
    rw [upd_ne (fun z : b = a => na (z ▸ hb))]
    exact ho
  refine ⟨a :: as, fun z => (List.mem_cons.mp z).elim (fun z => nd z.symm) a1, fun b hb z => ?_, .tup upd_same na (fun v hv => (a3 v hv).congr up) h1 h2 fun b hb => hb⟩
  by_cases e : b = a
  · rw [e, upd_same] at z
    cases z
  · rw [upd_ne e] at z
    exact a2 b ((List.mem_cons.mp hb).resolve_left e) z
theorem od_lst {a : Addr} {xs : List V} (ha : H a = none) (nd : a ≠ d) (h : ∀ v ∈ xs, Od C d N M H v) (h1 : N + 2 ≤ N') (h2 : xs.length * (M + 2) + 3 ≤ M') : Od C d N' M' (upd H a (.lst xs)) (.ref a) := by
  obtain ⟨as, a1, a2, a3⟩ := od_all h
  have na : a ∉ as := fun z => a2 a z ha
  have up : ∀ b ∈ as, ∀ o, H b = some o → (upd H a (.lst xs)) b = some o := fun b hb o ho => by
    rw [upd_ne (fun z : b = a => na (z ▸ hb))]
    exact ho
  refine ⟨a :: as, fun z => (List.mem_cons.mp z).elim (fun z => nd z.symm) a1, fun b hb z => ?_, .lst upd_same na (fun v hv => (a3 v hv).congr up) h1 h2 fun b hb => hb⟩
  by_cases e : b = a
  · rw [e, upd_same] at z
    cases z
  · rw [upd_ne e] at z
    exact a2 b ((List.mem_cons.mp hb).resolve_left e) z
theorem od_dic {a : Addr} {kvs : List (Key × V)} (ha : H a = none) (nd : a ≠ d) (h : ∀ kv ∈ kvs, Od C d N M H kv.2 ∧ ∃ k : Int, kv.1 = .inl k ∧ Sz 1600 k) (hM : 1601 ≤ M) (h1 : N + 2 ≤ N') (h2 : kvs.length * (2 * M + 4) + 3 ≤ M') : Od C d N' M' (upd H a (.dK kvs)) (.ref a) := by
  obtain ⟨as, a1, a2, a3⟩ := od_all (xs := kvs.map (·.2)) fun v hv => by
    obtain ⟨kv, hk, rfl⟩ := List.mem_map.mp hv
    exact (h kv hk).1
  have na : a ∉ as := fun z => a2 a z ha
  have up : ∀ b ∈ as, ∀ o, H b = some o → (upd H a (.dK kvs)) b = some o := fun b hb o ho => by
    rw [upd_ne (fun z : b = a => na (z ▸ hb))]
    exact ho
  refine ⟨a :: as, fun z => (List.mem_cons.mp z).elim (fun z => nd z.symm) a1, fun b hb z => ?_, .dic upd_same na (fun kv hk => ?_) (fun kv hk => (a3 _ (List.mem_map.mpr ⟨kv, hk, rfl⟩)).congr up) h1 h2 fun b hb => hb⟩
  · by_cases e : b = a
    · rw [e, upd_same] at z
      cases z
    · rw [upd_ne e] at z
      exact a2 b ((List.mem_cons.mp hb).resolve_left e) z
  · obtain ⟨_, k, ek, zk⟩ := h kv hk
    rw [ek]
    exact .int zk hM
end
theorem al0 {p : V → Prop} : ∀ v ∈ ([] : List V), p v := fun _ h => nomatch h
theorem al {p : V → Prop} {x : V} {xs : List V} (h : p x) (t : ∀ v ∈ xs, p v) : ∀ v ∈ x :: xs, p v := fun v hv => (List.mem_cons.mp hv).elim (fun e => e ▸ h) (t v)
theorem at_in {xs : List V} {q : Int} (h0 : 0 ≤ q) (h1 : q < (xs.length : Int)) : ∃ v, atI xs q = some v ∧ v ∈ xs := by
  have h2 : q.toNat < xs.length := by omega
  have e : xs[q.toNat]? = some xs[q.toNat] := List.getElem?_eq_getElem h2
  refine ⟨_, ?_, List.getElem_mem h2⟩
  have e2 := atI_nat e
  rwa [Int.toNat_of_nonneg h0] at e2
def spOdd (C : Addr) : Sp := fun vs H Q _ => ∃ d : Addr, vs = [.ref d] ∧ DeckAt H d ∧ ∀ (v : V) (H' : Hp), Od C d 20 300000 H' v → DeckAt H' d → Fw d H H' → Q v H'
def Ld : Nat → Nat
  | 0 => 1601
  | n + 1 => 2 * Ld n + 7
theorem Ld_big : ∀ n, 1601 ≤ Ld n
  | 0 => Nat.le_refl _
  | n + 1 => by
    have := Ld_big n
    show 1601 ≤ 2 * Ld n + 7
    omega
section
variable {P : Program} {w : World} {K : PySem.W.Frag} {mg : Str → Option Value} {base : Heap}
end
def WhS (K : PySem.W.Frag) (H : Hp) (v : V) : Prop := ∀ H', Same H H' → Wh K H' v
theorem WhS.same {K : PySem.W.Frag} {H H' : Hp} {v : V} (h : WhS K H v) (e : Same H H') : WhS K H' v := fun H2 e2 => h H2 (e.trans e2)
def spHeard (K : PySem.W.Frag) (C : Addr) : Sp := fun vs H Q _ => ∃ x y : V, vs = [x, y] ∧ WhS K H x ∧ WhS K H y ∧
  (y = .int 0 → ∀ (r m : Addr) (H' : Hp), Same H H' → H' r = some (.lst [.non, .ref m]) → H' m = some (.lst [.str "whole", .bl true, .bl false]) → Q (.ref r) H') ∧
  (y ≠ .int 0 → ¬ good x y → ∀ (r m n : Addr) (H' : Hp), Same H H' → H' r = some (.lst [.non, .ref m]) → H' m = some (.lst [.str "weight", .bl true, .ref n]) → H' n = some (.lst [.bl true, .bl true, .bl true, .int 1]) → Q (.ref r) H') ∧
  (∀ t b : Int, x = .int t → y = .int b → 0 ≤ t → 0 < b → Sz 8000 b ∧ ∀ (r m p : Addr) (H' : Hp), Same H H' → H' r = some (.lst [.ref p, .ref m]) → H' m = some (.lst []) → WAt C H' p (lowT t b) (lowB t b) → Q (.ref r) H')
section
variable {P : Program} {w : World} {K : PySem.W.Frag} {mg : Str → Option Value} {base : Heap}
end
/-- two things that are told of -/
def Pr (C : Addr) (H : Hp) (x y : V) : Prop := ∃ as, (∀ b ∈ as, H b ≠ none) ∧ Th C H 20 300000 as x ∧ Th C H 20 300000 as y
def spRight (C : Addr) : Sp := fun vs H Q _ => ∃ x y : V, vs = [x, y] ∧ Pr C H x y ∧ ∀ H', Same H H' → Q (.bl true) H'
theorem Th.small {C : Addr} {H : Hp} {n L : Nat} {as : List Addr} {i : Int} (h : Th C H n L as (.int i)) : Sz 1600 i := by
  cases h with
  | int z _ => exact z
section
variable {P : Program} {w : World} {K : PySem.W.Frag} {mg : Str → Option Value} {base : Heap}
theorem pair_says {X : Cx} {H H' : Hp} {as : List Addr} {x y : V} {tx ty : Str} {p : Addr} (c : Ctx X P w K mg base) (h1 : Tells P w K mg base 20 300000 as H x tx) (h2 : Tells P w K mg base 20 300000 as H y ty) (e : Same H H') (hb : ∀ b ∈ as, H b ≠ none) (hp : H' p = none) :
    Says X 22 (p :: as) (upd H' p (.tup [x, y])) (.ref p) (tupleText [tx, ty]) := by
  have e2 : ∀ b ∈ as, ∀ o, H b = some o → (upd H' p (.tup [x, y])) b = some o := fun b _ o ho => same_upd hp _ _ (e _ _ ho)
  refine says_tup (n := 20) (ts := [tx, ty]) (SqT.of upd_same) (fun z => ?_) rfl fun i v hv => ?_
  · have := hb p z
    exact this (Fw.same (d := p) e p hp)
  · match i, hv with
    | 0, hv => cases hv; exact ⟨tx, rfl, h1.2 X c _ e2⟩
    | 1, hv => cases hv; exact ⟨ty, rfl, h2.2 X c _ e2⟩
    | i + 2, hv => cases hv
end
/-- pairs of things -/
def PrsO (C d : Addr) (H : Hp) (xs : List V) : Prop := ∀ v ∈ xs, ∃ (a : Addr) (x y : V), v = .ref a ∧ a ≠ d ∧ H a = some (.tup [x, y]) ∧ Od C d 20 300000 H x ∧ Od C d 20 300000 H y
/-- pairs of things that are no objects -/
def PrsA (C d : Addr) (H : Hp) (xs : List V) : Prop := ∀ v ∈ xs, ∃ (a : Addr) (x y : V), v = .ref a ∧ a ≠ d ∧ H a = some (.tup [x, y]) ∧ (∀ H, Od C d 20 300000 H x) ∧ (∀ H, Od C d 20 300000 H y)
section
variable {C d : Addr} {H H' : Hp} {xs ys : List V} {a : Addr} {x y : V}
theorem PrsO.fw (h : PrsO C d H xs) (f : Fw d H H') : PrsO C d H' xs := fun v hv => let ⟨a, x, y, h1, h2, h3, h4, h5⟩ := h v hv; ⟨a, x, y, h1, h2, f.kp a _ h2 h3, h4.fw f, h5.fw f⟩
theorem PrsO.add (h : PrsO C d H xs) (ha : H a = none) (nd : a ≠ d) (ox : Od C d 20 300000 H x) (oy : Od C d 20 300000 H y) : PrsO C d (upd H a (.tup [x, y])) (xs ++ [.ref a]) := fun v hv => by
  have f := Fw.upd (d := d) (o := .tup [x, y]) ha
  rcases List.mem_append.mp hv with z | z
  · exact h.fw f v z
  · exact ⟨a, x, y, List.mem_singleton.mp z, nd, upd_same, ox.fw f, oy.fw f⟩
theorem PrsO.cat (h : PrsO C d H xs) (h2 : PrsO C d H ys) : PrsO C d H (xs ++ ys) := fun v hv => (List.mem_append.mp hv).elim (h v) (h2 v)
theorem PrsA.fw (h : PrsA C d H xs) (f : Fw d H H') : PrsA C d H' xs := fun v hv => let ⟨a, x, y, h1, h2, h3, h4, h5⟩ := h v hv; ⟨a, x, y, h1, h2, f.kp a _ h2 h3, h4, h5⟩
theorem PrsA.add (h : PrsA C d H xs) (ha : H a = none) (nd : a ≠ d) (ox : ∀ H, Od C d 20 300000 H x) (oy : ∀ H, Od C d 20 300000 H y) : PrsA C d (upd H a (.tup [x, y])) (xs ++ [.ref a]) := fun v hv => by
  have f := Fw.upd (d := d) (o := .tup [x, y]) ha
  rcases List.mem_append.mp hv with z | z
  · exact h.fw f v z
  · exact ⟨a, x, y, List.mem_singleton.mp z, nd, upd_same, ox, oy⟩
theorem PrsA.cat (h : PrsA C d H xs) (h2 : PrsA C d H ys) : PrsA C d H (xs ++ ys) := fun v hv => (List.mem_append.mp hv).elim (h v) (h2 v)
theorem PrsA.write {l : Addr} {zs us : List V} (h : PrsA C d H xs) (hl : H l = some (.lst zs)) : PrsA C d (upd H l (.lst us)) xs := fun v hv => by
  obtain ⟨a, x, y, h1, h2, h3, h4, h5⟩ := h v hv
  refine ⟨a, x, y, h1, h2, ?_, h4, h5⟩
  rw [upd_ne (fun z => by rw [z, hl] at h3; cases h3)]
  exact h3
theorem PrsA.o (h : PrsA C d H xs) : PrsO C d H xs := fun v hv => let ⟨a, x, y, h1, h2, h3, h4, h5⟩ := h v hv; ⟨a, x, y, h1, h2, h3, h4 _, h5 _⟩
end
theorem Fw.at {d l : Addr} {H H' : Hp} {o : HO} (f : Fw d H H') (h0 : H l = none) : Fw d H (L2.upd H' l o) := ⟨fun q u n h => by
  rw [upd_ne (ne_of_none h h0)]
  exact f.kp q u n h, fun q h => by
  by_cases z : q = l
  · rw [z, upd_same] at h
    cases h
  · rw [upd_ne z] at h
    exact f.nn q h⟩
def spPairs (C : Addr) : Sp := fun vs H Q _ => ∃ d : Addr, vs = [.ref d] ∧ DeckAt H d ∧ ∀ (l : Addr) (xs : List V) (H' : Hp), DeckAt H' d → Fw d H H' → H' l = some (.lst xs) → PrsO C d H' xs → Q (.ref l) H'
section
variable {P : Program} {w : World} {K : PySem.W.Frag} {mg : Str → Option Value} {base : Heap}
end
def spLaw (K : PySem.W.Frag) : Sp := fun vs H Q _ => ∃ (a : Addr) (ns : List Int), vs = [.ref a] ∧ SqL K H a (ns.map V.int) ∧ ns.length ≤ 63 ∧ ∀ H', Q (.bl true) H'
theorem pr_of {C d : Addr} {H : Hp} {x y : V} (h1 : Od C d 20 300000 H x) (h2 : Od C d 20 300000 H y) : Pr C H x y := by
  obtain ⟨as, _, a2, a3⟩ := od_all (al (p := fun v => Od C d 20 300000 H v) h1 (al h2 al0))
  exact ⟨as, a2, a3 x (by simp), a3 y (by simp)⟩
section
variable {P : Program} {w : World} {K : PySem.W.Frag} {mg : Str → Option Value} {base : Heap}
end
def TOk (v : V) : Prop := ∀ z, v = .str z → Asc z ∧ z.length ≤ 10000
theorem Th.tok {C : Addr} {H : Hp} {n L : Nat} {as : List Addr} {v : V} (h : Th C H n L as v) : TOk v := fun z e => by
  subst e
  cases h with
  | str a l _ _ => exact ⟨a, l⟩
theorem Od.tok {C d : Addr} {N M : Nat} {H : Hp} {v : V} (h : Od C d N M H v) : TOk v := let ⟨_, _, _, t⟩ := h; t.tok
end K
/-! texts of plain signs -/
namespace K
open PySem PySem.Spec PyProof.Rows L2 Rp
theorem asc_app {x y : Str} (h1 : Asc x) (h2 : Asc y) : Asc (x ++ y) := fun c hc => by
  have e : (x ++ y).cps.toList = x.cps.toList ++ y.cps.toList := TL.tl_append x y
  rw [e] at hc
  exact (List.mem_append.mp hc).elim (h1 c) (h2 c)
theorem asc_cut {z : Str} (h : Asc z) (lo hi : Option Int) : Asc (cutS z lo hi) := fun c hc => by
  unfold cutS at hc
  exact h c (List.mem_of_mem_drop (List.mem_of_mem_take (by simpa using hc)))
theorem asc_rev {z : Str} (h : Asc z) : Asc (revT z) := fun c hc => by
  unfold revT at hc
  exact h c (by simpa using hc)
theorem up_asc : ∀ c, c < 128 → ∀ x ∈ Unicode.upperOf c, x < 128 := by decide +kernel
theorem asc_upper {z : Str} (h : Asc z) : Asc (Txt.upper z) := fun c hc => by
  unfold Txt.upper placed at hc
  have hc : ∃ l, (∃ a, (∃ (i : Nat) (h : i < z.cps.size), (Unicode.upperOf z.cps[i]).toArray = a) ∧ a.toList = l) ∧ c ∈ l := by simpa using hc
  obtain ⟨_, ⟨_, ⟨i, hi, rfl⟩, rfl⟩, hm⟩ := hc
  have hd := h (z.cps[i]) (by simp)
  exact up_asc _ hd c (by simpa using hm)
theorem asc_one {c : Nat} (h : c < 128) : Asc ⟨#[c]⟩ := fun d hd => by
  have : d = c := by simpa using hd
  omega
theorem join_cons (x y : Str) (r : List Str) : Txt.join "" (x :: y :: r) = x ++ "" ++ Txt.join "" (y :: r) := by
  rw [TL.join_eq, TL.join_eq]
  rfl
theorem join_asc : ∀ ys : List Str, (∀ y ∈ ys, Asc y) → Asc (Txt.join "" ys)
  | [], _ => by rw [TL.join_eq]; exact asc_lit _ (by decide +kernel)
  | [x], h => by rw [TL.join_eq]; exact h x List.mem_cons_self
  | x :: y :: r, h => by
    rw [join_cons]
    exact asc_app (asc_app (h x List.mem_cons_self) (asc_lit _ (by decide +kernel))) (join_asc (y :: r) fun u hu => h u (List.mem_cons_of_mem _ hu))
theorem join_len1 : ∀ ys : List Str, (∀ y ∈ ys, y.length = 1) → (Txt.join "" ys).length = ys.length
  | [], _ => by rw [TL.join_eq]; rfl
  | [x], h => by rw [TL.join_eq]; exact h x List.mem_cons_self
  | x :: y :: r, h => by
    have e0 : ("" : Str).length = 0 := by decide +kernel
    rw [join_cons, append_len, append_len, e0, h x List.mem_cons_self, join_len1 (y :: r) fun u hu => h u (List.mem_cons_of_mem _ hu)]
    show 1 + 0 + (y :: r).length = (y :: r).length + 1
    omega
theorem sum_ones : ∀ ys : List Str, (∀ y ∈ ys, y.length = 1) → (ys.map (·.length)).sum = ys.length
  | [], _ => rfl
  | y :: ys, h => by
    rw [List.map_cons, List.sum_cons, sum_ones ys fun u hu => h u (List.mem_cons_of_mem _ hu), h y List.mem_cons_self, List.length_cons]
    omega
theorem od_text {C d : Addr} {N : Nat} {H : Hp} {z : Str} (h : Asc z) (hl : z.length ≤ 10000) : Od C d N 300000 H (.str z) := by
  have h1 := StrLaws.reprText_len z fun c hc => Nat.lt_trans (h c hc) (by decide)
  exact od_str h hl (Nat.le_trans h1 (by omega)) (Nat.le_trans h1 (Nat.le_trans (show _ ≤ 200000 by omega) (by decide)))
theorem tok_ref {p : Addr} : TOk (.ref p) := fun z e => by cases e
theorem tok_int {i : Int} : TOk (.int i) := fun z e => by cases e
theorem tok_bl {i : Bool} : TOk (.bl i) := fun z e => by cases e
theorem tok_non : TOk .non := fun z e => by cases e
theorem tok_str {z : Str} (h : Asc z) (hl : z.length ≤ 10000) : TOk (.str z) := fun y e => by cases e; exact ⟨h, hl⟩
/-! text * number -/
theorem op_mulS {X : Cx} : OpR X (binaryOp .Mult) (fun x y H Q => ∃ (a : Str) (n : Int), x = .str a ∧ y = .int n ∧ MulOk a n ∧ Q (.str (Txt.mul a n)) H) := by
  intro pins s σ H x y v u Q I rx ry h
  obtain ⟨a, n, rfl, rfl, hz, q⟩ := h
  obtain ⟨t, rfl⟩ := rx
  obtain ⟨t', rfl⟩ := ry
  exact SB.mul hz fun t' k => ⟨.str (Txt.mul a n), H, I.tok _, ⟨_, rfl⟩, q⟩
/-! kinds: a text or not -/
def isS : V → Bool
  | .str _ => true
  | _ => false
def Ws (K : PySem.W.Frag) (H : Hp) (v : V) : Prop := ∃ tv, TyX K H v tv ∧ PySem.W.kitOne K tv (.type "str") = some (isS v)
theorem Th.ws {K : PySem.W.Frag} {C : Addr} {H : Hp} {n L : Nat} {as : List Addr} {v : V} (h : Th C H n L as v) (cl : Cls K C) (N : WIns K C) (ks : PySem.W.kitOne K (.ref C) (.type "str") = some false) : Ws K H v := by
  cases h with
  | non q => exact ⟨_, .base .non, kit_ty (by decide +kernel)⟩
  | bl b q => exact ⟨_, .base (.bl b), (kit_ty (by decide +kernel) : PySem.W.kitOne K (.type "bool") (.type "str") = some false)⟩
  | int i q => exact ⟨_, .base (.int _), (kit_ty (by decide +kernel) : PySem.W.kitOne K (.type "int") (.type "str") = some false)⟩
  | str a l q z => exact ⟨_, .base (.str _), (kit_ty (by decide +kernel) : PySem.W.kitOne K (.type "str") (.type "str") = some true)⟩
  | wt a b c d e =>
    obtain ⟨dx, hp⟩ := c
    exact ⟨_, .base (.ins hp cl N.ha N.hn N.htk N.hm), ks⟩
  | tup a b c d e f => exact ⟨_, .base (.tup a), (kit_ty (by decide +kernel) : PySem.W.kitOne K (.type "tuple") (.type "str") = some false)⟩
  | lst a b c d e f => exact ⟨_, .base (.lst a), (kit_ty (by decide +kernel) : PySem.W.kitOne K (.type "list") (.type "str") = some false)⟩
  | dic a b c c' d e f => exact ⟨_, .base (.dK a), (kit_ty (by decide +kernel) : PySem.W.kitOne K (.type "dict") (.type "str") = some false)⟩
/-! a local name that holds one of several defs -/
def tCallV (i : Nat) (R : Addr → Sp → Prop) (t : TA) : TE := fun σ H Q => ∃ f sp, σ[i]? = some (some (.ref f)) ∧ R f sp ∧ t σ H fun vs H1 => sp vs H1 Q (fun _ _ _ => False)
theorem pe_callV {X : Cx} {k i : Nat} {x : Str} {p pos : Pos} {e : Expr} {es : List Expr} {t : TA} {R : Addr → Sp → Prop} (A : ∀ f sp, R f sp → Held X.prog X.w X.K X.mg X.base k f sp) (hr : Room k X.A) (hN : X.N[i]? = some x) (hv : Vis X.env.scope x) (ha : PA X (e :: es) t)
    (hdb : (x == ("__debug__" : Str)) = false := by decide) (hcd : (x == ("__classdict__" : Str)) = false := by decide)
    (he : starEach (e :: es) X.env = (false, eval e X.env) :: starEach es X.env := by rfl) (hpl : (backTo pos (starEach es X.env)).any (·.1) = false := by rfl) : PE X (.Call (.Name x p) (e :: es) [] pos) (tCallV i R t) := by
  refine ⟨fun pins s σ H Q I h => ?_⟩
  obtain ⟨f, sp, hs, hS, ht⟩ := h
  obtain ⟨fd, ps, F, hk, hb⟩ := (A f sp hS).ex
  refine (pe_callL (i := i) (f := f) (sp := sp) (dvs := []) (E := fun _ _ _ => False) F hr hN hv hk hb .nil (fun _ _ _ _ _ _ _ z => z.elim) ha hdb hcd he hpl).run pins s σ H Q I ⟨hs, ?_⟩
  have e0 : (fun (vs : List V) (H1 : Hp) => sp (vs ++ []) H1 Q (fun _ _ _ => False)) = fun vs H1 => sp vs H1 Q (fun _ _ _ => False) := by
    funext vs H1
    rw [List.append_nil]
  show t σ H (fun vs H1 => sp (vs ++ []) H1 Q (fun _ _ _ => False))
  rw [e0]
  exact ht
/-! one thing -/
def Pr1 (C : Addr) (H : Hp) (x : V) : Prop := ∃ as, (∀ b ∈ as, H b ≠ none) ∧ Th C H 20 300000 as x
theorem pr1_of {C d : Addr} {H : Hp} {x : V} (h : Od C d 20 300000 H x) : Pr1 C H x := let ⟨as, _, a2, a3⟩ := h; ⟨as, a2, a3⟩
theorem Pr1.same {C : Addr} {H H' : Hp} {x : V} (h : Pr1 C H x) (e : Same H H') : Pr1 C H' x := by
  obtain ⟨as, a2, a3⟩ := h
  refine ⟨as, fun b hb z => ?_, a3.congr fun b _ o ho => e b o ho⟩
  exact a2 b hb (Fw.same (d := b) e b z)
theorem Od.over {C d l : Addr} {N M : Nat} {H0 H1 : Hp} {v : V} {o : HO} (h : Od C d N M H0 v) (h0 : H0 l = none) (f : Fw d H0 H1) : Od C d N M (upd H1 l o) v := by
  obtain ⟨as, a1, a2, a3⟩ := h
  have nl : ∀ b ∈ as, b ≠ l := fun b hb z => a2 b hb (z ▸ h0)
  refine ⟨as, a1, fun b hb z => ?_, a3.congr fun b hb o ho => ?_⟩
  · rw [upd_ne (nl b hb)] at z
    exact a2 b hb (f.nn b z)
  · rw [upd_ne (nl b hb)]
    exact f.kp b o (fun z => a1 (z ▸ hb)) ho
end K
namespace K
open PySem L2 Rp
section
variable {P : Program} {w : World} {K : PySem.W.Frag} {mg : Str → Option Value} {base : Heap}
end
section
variable {P : Program} {w : World} {K : PySem.W.Frag} {mg : Str → Option Value} {base : Heap}
end
abbrev LETS : Str := "abcdefghijklmnopqrstuvwxyz"
def inL (y : Str) (c : Nat) : Bool := decide (c ∈ y.cps.toList)
def nmV : V → Bool
  | .str z => decide (1 ≤ (z.length : Int)) && (decide ((z.length : Int) ≤ 8) && z.cps.toList.all (inL LETS))
  | _ => false
def grV : V → Bool
  | .int i => decide (1 ≤ i)
  | _ => false
def dyV : V → Bool
  | .int i => decide (0 ≤ i) && decide (i ≤ 1200)
  | _ => false
def spMade : Sp := fun vs H Q _ => ∃ z y : Str, vs = [.str z, .str y] ∧ z.length ≤ 10000 ∧ ∀ H', Same H H' → Q (.bl (z.cps.toList.all (inL y))) H'
/-- a question about a thing -/
def spQ (K : PySem.W.Frag) (q : V → Bool) : Sp := fun vs H Q _ => ∃ v : V, vs = [v] ∧ Wh K H v ∧ Ws K H v ∧ TOk v ∧ ∀ H', Same H H' → Q (.bl (q v)) H'
section
variable {P : Program} {w : World} {K : PySem.W.Frag} {mg : Str → Option Value} {base : Heap}
end
theorem eqvAll_strs : ∀ fs : List Str, PyData.eqvAll (fs.map PyData.str) [] = decide (fs = [])
  | [] => rfl
  | _ :: _ => rfl
theorem canLay_strs : ∀ fs : List Str, (∀ f ∈ fs, Asc f) → PyData.canLayAll0 (fs.map PyData.str) = true
  | [], _ => rfl
  | f :: fs, h => by
    have ih := canLay_strs fs fun g hg => h g (List.mem_cons_of_mem _ hg)
    have h0 : PySem.PyData.strOk f = true := by
      unfold PySem.PyData.strOk
      rw [Array.all_eq_true]
      intro i hi
      exact decide_eq_true (Nat.lt_trans (h f List.mem_cons_self _ (by simp)) (by decide))
    show (PyData.canLay0 (.str f) && PyData.canLayAll0 (fs.map PyData.str)) = true
    rw [ih]
    simpa [PyData.canLay0] using h0
theorem depth_strs : ∀ fs : List Str, PyData.depthAll (fs.map PyData.str) = 0
  | [] => rfl
  | f :: fs => by simp [PyData.depthAll, PyData.depth, depth_strs fs]
theorem shaped_strs {fs : List Str} (h : ∀ f ∈ fs, Asc f) : SeqAt.shaped (.list (fs.map PyData.str)) = true := by
  simp [SeqAt.shaped, PyData.canLay0, PyData.depth, canLay_strs fs h, depth_strs]
theorem dp_strs {K : PySem.W.Frag} {H : Hp} : ∀ fs : List Str, DpAll K H (fs.map V.str) (fs.map PyData.str)
  | [] => .nil
  | f :: fs => .cons (.str f) (dp_strs fs)
def spSign : Sp := fun vs H Q _ => ∃ d : Addr, vs = [.ref d] ∧ DeckAt H d ∧ ∀ (z : Str) (H' : Hp), Asc z → z.length = 1 → DeckAt H' d → Fw d H H' → Q (.str z) H'
def spLName : Sp := fun vs H Q _ => ∃ d : Addr, vs = [.ref d] ∧ DeckAt H d ∧ ∀ (z : Str) (H' : Hp), Asc z → z.length ≤ 8 → DeckAt H' d → Fw d H H' → Q (.str z) H'
def spBent : Sp := fun vs H Q _ => ∃ (d : Addr) (z : Str), vs = [.ref d, .str z] ∧ DeckAt H d ∧ Asc z ∧ z.length ≤ 1000 ∧ ∀ (z' : Str) (H' : Hp), Asc z' → z'.length ≤ 3 * z.length + 3 → DeckAt H' d → Fw d H H' → Q (.str z') H'
section
variable {P : Program} {w : World} {K : PySem.W.Frag} {mg : Str → Option Value} {base : Heap}
end
theorem od_dicK {C d : Addr} {H : Hp} {N M N' M' : Nat} {a : Addr} {kvs : List (Key × V)} (ha : H a = none) (nd : a ≠ d) (h : ∀ kv ∈ kvs, Od C d N M H kv.2 ∧ Od C d N M H (kV kv.1)) (h1 : N + 2 ≤ N') (h2 : kvs.length * (2 * M + 4) + 3 ≤ M') : Od C d N' M' (upd H a (.dK kvs)) (.ref a) := by
  obtain ⟨as, a1, a2, a3⟩ := od_all (xs := kvs.map (·.2) ++ kvs.map (fun kv => kV kv.1)) fun v hv => by
    rcases List.mem_append.mp hv with hv | hv
    · obtain ⟨kv, hk, rfl⟩ := List.mem_map.mp hv
      exact (h kv hk).1
    · obtain ⟨kv, hk, rfl⟩ := List.mem_map.mp hv
      exact (h kv hk).2
  have na : a ∉ as := fun z => a2 a z ha
  have up : ∀ b ∈ as, ∀ o, H b = some o → (upd H a (.dK kvs)) b = some o := fun b hb o ho => by
    rw [upd_ne (fun z : b = a => na (z ▸ hb))]
    exact ho
  refine ⟨a :: as, fun z => (List.mem_cons.mp z).elim (fun z => nd z.symm) a1, fun b hb z => ?_, .dic upd_same na (fun kv hk => (a3 _ (List.mem_append_right _ (List.mem_map.mpr ⟨kv, hk, rfl⟩))).congr up) (fun kv hk => (a3 _ (List.mem_append_left _ (List.mem_map.mpr ⟨kv, hk, rfl⟩))).congr up) h1 h2 fun b hb => hb⟩
  by_cases e : b = a
  · rw [e, upd_same] at z
    cases z
  · rw [upd_ne e] at z
    exact a2 b ((List.mem_cons.mp hb).resolve_left e) z
def spTold (K : PySem.W.Frag) (C : Addr) (R : Addr → Sp → Prop) : Sp := fun vs H Q _ => ∃ (f : Addr) (v : V) (b : Bool) (q : V → Bool), vs = [.ref f, v, .bl b] ∧ R f (spQ K q) ∧ b = q v ∧ Pr1 C H v ∧ TOk v ∧ ∀ H', Same H H' → Q (.bl true) H'
theorem al2 {p : V → Prop} {x : V} {xs : List V} (h : p x) (t : ∀ v ∈ xs, p v) : ∀ v ∈ x :: xs, p v := al h t
section
variable {P : Program} {w : World} {K : PySem.W.Frag} {mg : Str → Option Value} {base : Heap}
end
section
variable {P : Program} {w : World} {K : PySem.W.Frag} {mg : Str → Option Value} {base : Heap}
end
end K
/-! figures of numbers; texts of Weights -/
namespace K
open PySem L2 Rp
theorem low_mul {t b : Int} (hb : 0 < b) : lowT t b * ((Int.gcd t b : Nat) : Int) = t ∧ lowB t b * ((Int.gcd t b : Nat) : Int) = b :=
  ⟨Int.ediv_mul_cancel (Int.gcd_dvd_left t b), Int.ediv_mul_cancel (Int.gcd_dvd_right t b)⟩
theorem low_scale {g x y : Int} (hg : 0 < g) (hy : 0 < y) : lowT (g * x) (g * y) = lowT x y ∧ lowB (g * x) (g * y) = lowB x y := by
  have e : ((Int.gcd (g * x) (g * y) : Nat) : Int) = g * ((Int.gcd x y : Nat) : Int) := by
    rw [Int.gcd_mul_left, Int.natCast_mul]
    congr 1
    omega
  unfold lowT lowB
  rw [e]
  exact ⟨Int.mul_ediv_mul_of_pos _ _ hg, Int.mul_ediv_mul_of_pos _ _ hg⟩
theorem low_low {t b : Int} (hb : 0 < b) : lowT (lowT t b) (lowB t b) = lowT t b ∧ lowB (lowT t b) (lowB t b) = lowB t b := by
  have hg := gcd_pos (t := t) hb
  obtain ⟨e1, e2⟩ := low_mul (t := t) hb
  have hl : 0 < lowB t b := Int.ediv_pos_of_pos_of_dvd hb (Int.le_of_lt hg) (Int.gcd_dvd_right _ _)
  obtain ⟨r1, r2⟩ := low_scale (x := lowT t b) (y := lowB t b) hg hl
  rw [← r1, ← r2, Int.mul_comm _ (lowT t b), Int.mul_comm _ (lowB t b), e1, e2]
  exact ⟨rfl, rfl⟩
theorem low_one (t : Int) : lowT t 1 = t ∧ lowB t 1 = 1 := by
  unfold lowT lowB
  rw [Int.gcd_one_right]
  exact ⟨Int.ediv_one t, rfl⟩
theorem low_gcd {t b : Int} (h : ((Int.gcd t b : Nat) : Int) = 1) : lowT t b = t ∧ lowB t b = b := by
  unfold lowT lowB
  rw [h]
  exact ⟨Int.ediv_one t, Int.ediv_one b⟩
theorem gcd_low {t b : Int} (hb : 0 < b) (h : lowB t b = b) : ((Int.gcd t b : Nat) : Int) = 1 := by
  have hg := gcd_pos (t := t) hb
  obtain ⟨_, e2⟩ := low_mul (t := t) hb
  rw [h] at e2
  have : b * ((Int.gcd t b : Nat) : Int) = b * 1 := by rw [e2]; omega
  exact Int.eq_of_mul_eq_mul_left (by omega) this
theorem emp (x : Str) : Str.empty ++ x = x := TL.ext_tl (by rw [TL.tl_append]; rfl)
/-- a Weight's text -/
def wS (t b : Int) : Str := if b = 1 then nT t else nT t ++ "/" ++ nT b
theorem wS_len {t b : Int} (ht : Sz 1600 t) (hb : Sz 1600 b) : (wS t b).length ≤ 4000 := by
  have h1 := nT_len ht
  have h2 := nT_len hb
  have e3 : ("/" : Str).length = 1 := by decide +kernel
  unfold wS
  split
  · omega
  · simp only [append_len, e3]
    omega
theorem nT_tl {n : Int} (h : 0 ≤ n) : TL.tl (nT n) = TL.numL n.toNat := by
  obtain ⟨k, rfl⟩ := Int.eq_ofNat_of_zero_le h
  exact TL.tl_num k
theorem nT_int {n : Int} (h : 0 ≤ n) (hl : (nT n).length ≤ 640) : intText? (nT n) = some n := by
  obtain ⟨k, rfl⟩ := Int.eq_ofNat_of_zero_le h
  have e : (nT (k : Int)).length = (TL.numL k).length := by
    rw [TL.len_tl]
    exact congrArg List.length (TL.tl_num k)
  exact TL.int_num (by omega)
theorem nT_long {n : Int} {k : Nat} (h : 0 ≤ n) : (nT n).length ≤ k ↔ n < (10 : Int) ^ k ∧ 0 < k := by
  obtain ⟨m, rfl⟩ := Int.eq_ofNat_of_zero_le h
  have e : (nT (m : Int)).length = (TL.numL m).length := by
    rw [TL.len_tl]
    exact congrArg List.length (TL.tl_num m)
  have ep : ((10 : Int) ^ k) = ((10 ^ k : Nat) : Int) := by simp
  rw [e, ep]
  constructor
  · intro h1
    refine ⟨Int.ofNat_lt.mpr (numL_small k m h1), ?_⟩
    rcases Nat.eq_zero_or_pos k with z | z
    · subst z
      exact absurd (List.length_eq_zero_iff.mp (Nat.le_zero.mp h1)) (TL.numL_ne m)
    · exact z
  · rintro ⟨h1, h2⟩
    exact TL.numL_len h2 (Int.ofNat_lt.mp h1)
theorem nT_ne {n : Int} (h : 0 ≤ n) : 1 ≤ (nT n).length := by
  rw [TL.len_tl, nT_tl h]
  exact List.length_pos_iff.mpr (TL.numL_ne _)
theorem nT_zero : nT 0 = "0" := by decide +kernel
theorem nT_one : nT 1 = "1" := by decide +kernel
theorem nT_inj {m n : Int} (hm : 0 ≤ m) (hn : 0 ≤ n) (h : nT m = nT n) : m = n := by
  have e := congrArg TL.tl h
  rw [nT_tl hm, nT_tl hn] at e
  have := TL.numL_inj e
  omega
abbrev TENS : Str := "0123456789"
theorem tens_list : (TENS : Str).cps.toList = [48, 49, 50, 51, 52, 53, 54, 55, 56, 57] := by decide +kernel
theorem tens_mem {c : Nat} (h1 : 48 ≤ c) (h2 : c ≤ 57) : c ∈ (TENS : Str).cps.toList := by
  rw [tens_list]
  simp only [List.mem_cons, List.not_mem_nil, or_false]
  omega
theorem tens_of {c : Nat} (h : c ∈ (TENS : Str).cps.toList) : 48 ≤ c ∧ c ≤ 57 := by
  rw [tens_list] at h
  simp only [List.mem_cons, List.not_mem_nil, or_false] at h
  omega
theorem nT_mem {n : Int} (h : 0 ≤ n) {c : Nat} (hc : c ∈ (nT n).cps.toList) : c ∈ (TENS : Str).cps.toList := by
  have hm : c ∈ TL.tl (nT n) := hc
  rw [nT_tl h] at hm
  obtain ⟨h1, h2⟩ := TL.numL_digits _ c hm
  exact tens_mem h1 h2
theorem nT_stroke {n : Int} (h : 0 ≤ n) : 47 ∉ TL.tl (nT n) := by
  rw [nT_tl h]
  exact TL.numL_free (.inl (by decide))
theorem stroke_tl : TL.tl ("/" : Str) = [47] := by decide +kernel
theorem digits_num : ∀ (m : Nat) (l : List Nat), l.length = m → l ≠ [] → (∀ c ∈ l, 48 ≤ c ∧ c ≤ 57) → (l.head? = some 48 → l = [48]) → ∃ n : Nat, l = TL.numL n
  | 0, l, h, h1, _, _ => absurd (List.length_eq_zero_iff.mp h) h1
  | m + 1, l, h, h1, hd, h0 => by
    obtain ⟨l', c, rfl⟩ : ∃ l' c, l = l' ++ [c] := ⟨l.dropLast, l.getLast h1, (List.dropLast_concat_getLast h1).symm⟩
    have hc := hd c (by simp)
    by_cases e : l' = []
    · subst e
      refine ⟨c - 48, ?_⟩
      rw [TL.numL_lt (by omega)]
      have : 48 + (c - 48) = c := by omega
      rw [this]
      rfl
    · have hh : l'.head? ≠ some 48 := fun z => by
        have z2 : (l' ++ [c]).head? = some 48 := by
          rw [List.head?_append, z]
          rfl
        have z3 := congrArg List.length (h0 z2)
        rw [List.length_append] at z3
        have z4 : l'.length = 0 := by
          have : [c].length = 1 := rfl
          have : [48].length = 1 := rfl
          omega
        exact e (List.length_eq_zero_iff.mp z4)
      obtain ⟨k, hk⟩ := digits_num m l' (by simpa using h) e (fun x hx => hd x (by simp [hx])) (fun z => absurd z hh)
      have kp : 0 < k := by
        rcases Nat.eq_zero_or_pos k with z | z
        · subst z
          rw [hk, TL.numL_lt (by decide)] at hh
          exact absurd rfl hh
        · exact z
      refine ⟨10 * k + (c - 48), ?_⟩
      rw [TL.numL_step (by omega), show (10 * k + (c - 48)) / 10 = k by omega, show (10 * k + (c - 48)) % 10 = c - 48 by omega, ← hk, show 48 + (c - 48) = c by omega]
/-- the text of a whole number of at most twelve figures -/
def NumX (z : Str) : Prop := ∃ n : Int, 0 ≤ n ∧ n < 1000000000000 ∧ z = nT n
theorem nT_head {n : Int} (h : 0 ≤ n) (h0 : (nT n).cps.toList.head? = some 48) : nT n = "0" := by
  have hz : n = 0 := by
    refine Classical.byContradiction fun hne => ?_
    obtain ⟨c, r, e, hc⟩ := numL_head n.toNat (by omega)
    have e2 : (TL.tl (nT n)).head? = some 48 := h0
    rw [nT_tl h, e] at e2
    exact hc (Option.some.inj e2)
  rw [hz, nT_zero]
theorem e12 : (10 : Int) ^ 12 = 1000000000000 := by decide
theorem NumX.len {z : Str} (h : NumX z) : 1 ≤ z.length ∧ z.length ≤ 12 := by
  obtain ⟨n, h0, h1, rfl⟩ := h
  exact ⟨nT_ne h0, (nT_long h0).mpr ⟨by rw [e12]; exact h1, by decide⟩⟩
theorem NumX.head {z : Str} (h : NumX z) (h0 : z.cps.toList.head? = some 48) : z = "0" := by
  obtain ⟨n, n0, _, rfl⟩ := h
  exact nT_head n0 h0
theorem NumX.all {z : Str} (h : NumX z) : z.cps.toList.all (inL TENS) = true := by
  obtain ⟨n, n0, _, rfl⟩ := h
  exact List.all_eq_true.mpr fun c hc => decide_eq_true (nT_mem n0 hc)
theorem num_of {z : Str} (h1 : 1 ≤ z.length) (h2 : z.length ≤ 12) (h3 : z.cps.toList.head? = some 48 → z = "0") (h : z.cps.toList.all (inL TENS) = true) : NumX z := by
  have hd : ∀ c ∈ z.cps.toList, 48 ≤ c ∧ c ≤ 57 := fun c hc => tens_of (of_decide_eq_true (List.all_eq_true.mp h c hc))
  have ne : z.cps.toList ≠ [] := fun e => by
    rw [TL.len_tl] at h1
    have z0 : TL.tl z = [] := e
    rw [z0] at h1
    exact absurd h1 (by decide)
  obtain ⟨n, hn⟩ := digits_num _ _ rfl ne hd (fun e => by rw [h3 e]; decide +kernel)
  have n0 : (0 : Int) ≤ (n : Int) := by omega
  have ez : z = nT (n : Int) := TL.ext_tl (by rw [nT_tl n0]; exact hn)
  refine ⟨n, n0, ?_, ez⟩
  rw [ez] at h2
  have := ((nT_long (n := (n : Int)) (k := 12) n0).mp h2).1
  rw [e12] at this
  exact this
theorem num_iff {z : Str} (h1 : 1 ≤ z.length) (h2 : z.length ≤ 12) (h3 : z.cps.toList.head? = some 48 → z = "0") : z.cps.toList.all (inL TENS) = true ↔ NumX z := ⟨num_of h1 h2 h3, NumX.all⟩
theorem num_nT {n : Int} (h0 : 0 ≤ n) (h1 : n < 1000000000000) : NumX (nT n) := ⟨n, h0, h1, rfl⟩
/-- the first sign -/
theorem first_of {z : Str} (h : 1 ≤ z.length) : ∃ c r, z.cps.toList = c :: r := by
  cases e : z.cps.toList with
  | nil =>
    rw [TL.len_tl] at h
    have : TL.tl z = [] := e
    rw [this] at h
    exact absurd h (by decide)
  | cons c r => exact ⟨c, r, rfl⟩
theorem zero_sign {c : Nat} (h : (⟨#[c]⟩ : Str) = "0") : c = 48 := by
  have := congrArg TL.tl h
  have e0 : TL.tl ("0" : Str) = [48] := by decide +kernel
  rw [e0] at this
  exact (List.cons.inj (show [c] = [48] from this)).1
theorem sign_zero : (⟨#[48]⟩ : Str) = "0" := by decide +kernel

/-! ### a text that is a Weight's -/
structure IsW (z : Str) (t b : Int) : Prop where
  t0 : 0 ≤ t
  b0 : 0 < b
  t1 : t < 1000000000000
  b1 : b < 1000000000000
  l1 : lowT t b = t
  l2 : lowB t b = b
  e : z = wS t b
/-- top and bottom's texts, whatever Weight it is -/
def Pc (z x y : Str) : Prop := ∀ t b, IsW z t b → x = nT t ∧ y = nT b
theorem stroke_cases (z : Str) : 47 ∉ TL.tl z ∨ ∃ a c : Str, z = a ++ "/" ++ c ∧ 47 ∉ TL.tl a := by
  by_cases h : 47 ∈ TL.tl z
  · obtain ⟨s, t, e, hs⟩ := List.eq_append_cons_of_mem h
    refine .inr ⟨⟨s.toArray⟩, ⟨t.toArray⟩, TL.ext_tl ?_, hs⟩
    rw [TL.tl_append, TL.tl_append, stroke_tl]
    show TL.tl z = _
    rw [e]
    show s ++ 47 :: t = s ++ [47] ++ t
    simp
  · exact .inl h
theorem pc_one {z : Str} (h : 47 ∉ TL.tl z) : Pc z z "1" := fun t b w => by
  by_cases hb : b = 1
  · have e := w.e
    unfold wS at e
    rw [if_pos hb] at e
    exact ⟨e, by rw [hb, nT_one]⟩
  · have e := w.e
    unfold wS at e
    rw [if_neg hb] at e
    refine absurd ?_ h
    rw [e, TL.tl_append, TL.tl_append, stroke_tl]
    simp
theorem pc_two {z a c : Str} (e : z = a ++ "/" ++ c) (h : 47 ∉ TL.tl a) : Pc z a c ∧ ∀ t b, IsW z t b → b ≠ 1 := by
  have main : ∀ t b, IsW z t b → b ≠ 1 ∧ a = nT t ∧ c = nT b := fun t b w => by
    have e1 := w.e
    by_cases hb : b = 1
    · unfold wS at e1
      rw [if_pos hb] at e1
      refine absurd ?_ (nT_stroke w.t0)
      rw [← e1, e, TL.tl_append, TL.tl_append, stroke_tl]
      simp
    · unfold wS at e1
      rw [if_neg hb, e] at e1
      have p1 := TL.partition_app (b := c) stroke_tl h
      have p2 := TL.partition_app (b := nT b) stroke_tl (nT_stroke w.t0)
      rw [e1, p2] at p1
      have q := Prod.mk.inj p1
      exact ⟨hb, q.1.symm, (Prod.mk.inj q.2).2.symm⟩
  exact ⟨fun t b w => (main t b w).2, fun t b w => (main t b w).1⟩
theorem IsW.nums {z x y : Str} {t b : Int} (w : IsW z t b) (p : Pc z x y) : NumX x ∧ NumX y ∧ y ≠ "0" := by
  obtain ⟨rfl, rfl⟩ := p t b w
  refine ⟨num_nT w.t0 w.t1, num_nT (Int.le_of_lt w.b0) w.b1, fun e => ?_⟩
  rw [← nT_zero] at e
  have := nT_inj (Int.le_of_lt w.b0) (by decide) e
  have := w.b0
  omega
theorem low_le {t b : Int} (h0 : 0 ≤ t) (hb : 0 < b) : lowT t b ≤ t ∧ lowB t b ≤ b := ⟨Int.ediv_le_self _ h0, Int.ediv_le_self _ (Int.le_of_lt hb)⟩
theorem low_pos {t b : Int} (h0 : 0 ≤ t) (hb : 0 < b) : 0 ≤ lowT t b ∧ 0 < lowB t b := by
  have hg := gcd_pos (t := t) hb
  exact ⟨Int.ediv_nonneg h0 (Int.le_of_lt hg), Int.ediv_pos_of_pos_of_dvd hb (Int.le_of_lt hg) (Int.gcd_dvd_right _ _)⟩
theorem isw_of {z : Str} {n m : Int} (n0 : 0 ≤ n) (n1 : n < 1000000000000) (m0 : 0 < m) (m1 : m < 1000000000000) (e : wS (lowT n m) (lowB n m) = z) : IsW z (lowT n m) (lowB n m) := by
  obtain ⟨a1, a2⟩ := low_le n0 m0
  obtain ⟨b1, b2⟩ := low_pos n0 m0
  obtain ⟨c1, c2⟩ := low_low (t := n) m0
  exact ⟨b1, b2, by omega, by omega, c1, c2, e.symm⟩
theorem not_isw {z : Str} {n m : Int} (n0 : 0 ≤ n) (m0 : 0 < m) (p : Pc z (nT n) (nT m)) (ne : ¬ wS (lowT n m) (lowB n m) = z) (t b : Int) : ¬ IsW z t b := fun w => by
  obtain ⟨e1, e2⟩ := p t b w
  have e1 := nT_inj n0 w.t0 e1
  have e2 := nT_inj (Int.le_of_lt m0) (Int.le_of_lt w.b0) e2
  subst e1 e2
  rw [w.l1, w.l2] at ne
  exact ne w.e.symm
/-! ### split -/
theorem kind_stroke (z : Str) : ¬ Builtin.Str.strKind z < Builtin.Str.strKind "/" := TL.kind_ok (by decide +kernel)
theorem split_tl (z : Str) : (Txt.split z "/").map TL.tl = TL.spl [47] 0 [] (TL.tl z) := by
  have := TL.split_spl z "/" (by rw [stroke_tl]; simp) (kind_stroke z)
  rw [stroke_tl] at this
  exact this
theorem split_one {z : Str} (h : 47 ∉ TL.tl z) : Txt.split z "/" = [z] := TL.map_tl_inj (by
  rw [split_tl, TL.spl_last1 h]
  rfl)
theorem split_cons {a c : Str} (h : 47 ∉ TL.tl a) : (Txt.split (a ++ "/" ++ c) "/").map TL.tl = TL.tl a :: (Txt.split c "/").map TL.tl := by
  rw [split_tl, split_tl, TL.tl_append, TL.tl_append, stroke_tl]
  have e : TL.tl a ++ [47] ++ TL.tl c = TL.tl a ++ ([47] ++ TL.tl c) := by simp
  rw [e]
  exact TL.spl_part1 h
theorem split_ne (z : Str) : 1 ≤ (Txt.split z "/").length := by
  rcases stroke_cases z with h | ⟨a, c, rfl, h⟩
  · rw [split_one h]
    exact Nat.le_refl 1
  · have := congrArg List.length (split_cons (c := c) h)
    rw [List.length_map, List.length_cons] at this
    omega
theorem split_cases (z : Str) : (Txt.split z "/" = [z] ∧ 47 ∉ TL.tl z) ∨ (∃ a c : Str, z = a ++ "/" ++ c ∧ 47 ∉ TL.tl a ∧ Txt.split z "/" = [a, c]) ∨ (2 < (Txt.split z "/").length ∧ ∀ t b, ¬ IsW z t b) := by
  rcases stroke_cases z with h | ⟨a, c, rfl, h⟩
  · exact .inl ⟨split_one h, h⟩
  · refine .inr ?_
    have e := split_cons (c := c) h
    rcases stroke_cases c with h2 | ⟨a2, c2, rfl, h2⟩
    · rw [split_one h2] at e
      exact .inl ⟨a, c, rfl, h, TL.map_tl_inj e⟩
    · refine .inr ⟨?_, fun t b w => ?_⟩
      · have e1 := congrArg List.length e
        have e2 := congrArg List.length (split_cons (c := c2) h2)
        have e3 := split_ne c2
        simp only [List.length_map, List.length_cons] at e1 e2
        omega
      · have e3 := ((pc_two rfl h).1 t b w).2
        refine absurd ?_ (nT_stroke (Int.le_of_lt w.b0))
        rw [← e3, TL.tl_append, TL.tl_append, stroke_tl]
        simp
/-! ### a text, so many times -/
theorem fold_list (a : Array Nat) : ∀ (n : Nat) (acc : Array Nat), ((List.replicate n a).foldl (· ++ ·) acc).toList = acc.toList ++ (List.replicate n a.toList).flatten
  | 0, acc => by simp
  | n + 1, acc => by
    rw [List.replicate_succ, List.foldl_cons, fold_list a n (acc ++ a), List.replicate_succ]
    simp
theorem mul_mem {x : Str} {n : Int} {c : Nat} (h : c ∈ (Txt.mul x n).cps.toList) : c ∈ x.cps.toList := by
  unfold Txt.mul at h
  split at h
  · simp [Str.empty] at h
  · split at h
    · exact h
    · have h2 : c ∈ ((List.replicate n.toNat x.cps).foldl (· ++ ·) #[]).toList := h
      rw [fold_list] at h2
      simp only [List.nil_append, List.mem_flatten, List.mem_replicate] at h2
      obtain ⟨l, ⟨_, rfl⟩, hc⟩ := h2
      exact hc
theorem mul_asc {x : Str} {n : Int} (h : Asc x) : Asc (Txt.mul x n) := fun c hc => h c (mul_mem hc)
theorem mul_len (x : Str) (n : Nat) : (Txt.mul x n).length ≤ n * x.length := by
  unfold Txt.mul
  split
  · exact Nat.zero_le _
  · split
    · rename_i h1 h2
      rcases (Bool.or_eq_true _ _).mp h2 with h | h
      · have : (n : Int) = 1 := by simpa using h
        have : n = 1 := by omega
        subst this
        omega
      · have : x.length = 0 := by simpa using h
        omega
    · have e : (⟨(List.replicate (n : Int).toNat x.cps).foldl (· ++ ·) #[]⟩ : Str).length = ((List.replicate (n : Int).toNat x.cps).foldl (· ++ ·) #[]).toList.length := TL.len_tl _
      rw [e, fold_list]
      have e2 : x.length = x.cps.toList.length := TL.len_tl x
      simp [List.length_flatten, e2]
end K
/-! sorted(xs, key=f), f a def that lets nothing out and writes to nothing that is tracked -/
namespace Rp
open PySem PySem.Spec PyProof.Rows L2
theorem perm_back {α β : Type} {g : α → β} {l r : List β} (h : l.Perm r) : ∀ m : List α, r = m.map g → ∃ m' : List α, m'.Perm m ∧ l = m'.map g := by
  induction h with
  | nil =>
    intro m e
    cases m with
    | nil => exact ⟨[], .nil, rfl⟩
    | cons y m => cases e
  | cons x _ ih =>
    intro m e
    cases m with
    | nil => cases e
    | cons y m =>
      have e2 := List.cons.inj e
      obtain ⟨m', p, e3⟩ := ih m e2.2
      exact ⟨y :: m', p.cons y, by rw [List.map_cons, ← e3, e2.1]⟩
  | swap x y l =>
    intro m e
    match m, e with
    | [], e => cases e
    | [_], e => cases e
    | a :: b :: m, e =>
      have e2 := List.cons.inj e
      have e3 := List.cons.inj e2.2
      exact ⟨b :: a :: m, .swap _ _ _, by rw [List.map_cons, List.map_cons, e2.1, e3.1, e3.2]⟩
  | trans _ _ ih1 ih2 =>
    intro m e
    obtain ⟨m2, p2, e2⟩ := ih2 m e
    obtain ⟨m1, p1, e1⟩ := ih1 m2 e2
    exact ⟨m1, p1.trans p2, e1⟩
theorem vals_pairs : ∀ T : List (V × Value), (∀ p ∈ T, RelV p.1 p.2) → Vals (T.map Prod.fst) (T.map Prod.snd)
  | [], _ => .nil
  | p :: T, h => .cons (h p List.mem_cons_self) (vals_pairs T fun q hq => h q (List.mem_cons_of_mem _ hq))
theorem zip_rel : ∀ {xs : List V} {us : List Value}, Vals xs us → ∀ p ∈ xs.zip us, RelV p.1 p.2
  | _, _, .nil, p, h => by cases h
  | _, _, .cons r t, p, h => by
    rw [List.zip_cons_cons] at h
    rcases List.mem_cons.mp h with rfl | h
    · exact r
    · exact zip_rel t p h
theorem zip_fst : ∀ {xs : List V} {us : List Value}, Vals xs us → (xs.zip us).map Prod.fst = xs
  | _, _, .nil => rfl
  | _, _, .cons r t => by
    rw [List.zip_cons_cons, List.map_cons, zip_fst t]
/-- the sorted values are those of a list that is in order by its keys -/
theorem out_sorted {k : V → Int} {xs : List V} {us out : List Value} (rv : Vals xs us) (h : KskOut false (xs.map k) us out) : ∃ ys, ys.Perm xs ∧ ys.Pairwise (fun x y => k x ≤ k y) ∧ Vals ys out := by
  obtain ⟨ps, hp, rfl, ho⟩ := h
  have e : (xs.map k).zip us = (xs.zip us).map fun p => (k p.1, p.2) := by
    rw [List.zip_map_left]
    exact List.map_congr_left fun ⟨x, y⟩ _ => rfl
  obtain ⟨T, pT, rfl⟩ := perm_back hp (xs.zip us) e
  refine ⟨T.map Prod.fst, ?_, ?_, ?_⟩
  · have := pT.map Prod.fst
    rw [zip_fst rv] at this
    exact this
  · rw [List.pairwise_map] at ho ⊢
    exact ho.imp fun h => by simpa using h
  · have := vals_pairs T fun p hp => zip_rel rv p (pT.mem_iff.mp hp)
    rw [List.map_map]
    exact this
section
variable {X : Cx} {f : Addr} {fd : FuncData} {ps : List Str} {sp : Sp} {n : Nat}
theorem key_call {A : Around} {pins : List (Addr × Obj)} {σ : L2.St} {H : Hp} {s : Shared} {x : V} {u : Value} {Q : VK} {E : Value → Shared → Prop} (F : FnOk X.prog X.w X.K X.mg X.base CX0 n f fd ps sp) (hb : Binds X.K fd ps []) (hr : Room n A) (hfr : A.frames = X.A.frames)
    (I : Inv X pins σ H s) (rx : RelV x u) (hsp : sp [x] H Q E0) :
    wpAny (model X.prog X.w) A (call (.ref f) [u]) (fun v s' => ∃ y H', Inv X pins σ H' s' ∧ RelV y v ∧ Q y H') E s := by
  have e0 : Env0 X.prog X.w X.K X.mg X.base A X.stack s H := by
    have e := I.env0
    exact ⟨by rw [hfr]; exact e.frames, e.mod, e.bs, e.bsz, e.funs, e.frf, e.hok, e.bare⟩
  have hl := F.len _ _ _ _ hsp
  have r2 : Vals [x] [u] := .cons rx .nil
  refine wpAny_call (codeAny_mono (F.run A X.stack s H ⟨[u], []⟩ [u] [x] _ E0 hr e0 (by
    have := hb s [u] I.kIn (by simpa using hl)
    simpa using this) r2 hsp) fun r s' hq => ?_)
  match r, hq with
  | .error e, hq => exact hq.elim
  | .ok (.ret w), hq =>
    obtain ⟨z, H', I', rz, q⟩ := I.after hq
    exact ⟨z, H', I', rz, q⟩
variable {A : Around} {E : Value → Shared → Prop} {P : PySem.Fin → Shared → Prop} {pins : List (Addr × Obj)} {σ : L2.St} {a kS : Addr} {e1 : Nat} {xs : List V} {its : List Value} {k : V → Int}
/-- the end: keys and items are there -/
theorem sort_fin {st : SortSt} {H : Hp} {s : Shared} {keys : Array Value} (I : Inv X pins σ H s) (ha : H a = some (.frz (seqObj "list" #[] e1) (.lst []))) (hS : H kS = some (.lst (xs.map fun x => .int (k x)))) (hn : ∀ o u, X.H_0 a ≠ some (.frz o u)) (rv : Vals xs its)
    (hz : its.length ≤ sizeLine) (hk : IntsAre keys.toList (xs.map k)) (hp : (arrOf st).Perm (keys.zip its.toArray)) (hs : SortedTo (arrOf st) (arrOf st).size) (hf : failedOf st = none)
    (h : ∀ ys s' H', ys.Perm xs → ys.Pairwise (fun x y => k x ≤ k y) → (∀ b o, b ≠ a → b ≠ kS → H b = some o → H' b = some o) → H' a = some (.lst ys) → Inv X pins σ H' s' → P (.done (.ret .none)) s') :
    wpAny (model X.prog X.w) A (ksk_tail a false e1 (.ref kS) st) P E s := by
  have nka : kS ≠ a := fun z => by rw [z, ha] at hS; cases hS
  obtain ⟨zS, itS, nS, rS, lS, hoS⟩ := I.lstM hS
  have I1 := I.lset (ys := []) (its' := []) (f := fun _ => #[]) (t' := s.toks) hS hoS rfl .nil (Nat.zero_le _)
  have ha1 : (upd H kS (.lst [])) a = some (.frz (seqObj "list" #[] e1) (.lst [])) := by rw [upd_ne (Ne.symm nka)]; exact ha
  have ho1 := (I1.hok a _ ha1).1
  have I2 := I1.unlock ha1 hn
  obtain ⟨ys, py, oy, vy⟩ := out_sorted rv (ksk_out (b := false) hk hp hs)
  have ly : ys.length ≤ sizeLine := by rw [py.length_eq, rv.length]; exact hz
  have I3 := I2.lset (ys := ys) (its := []) (its' := ((arrOf st).map (·.2)).toList) (f := fun _ => (arrOf st).map (·.2)) (t' := s.toks) upd_same ho1 (by exact (Array.toArray_toList ..).symm) (by simpa using vy) ly
  unfold ksk_tail
  dsimp only
  refine wpAny_bind (listUpdate_at hoS rfl (wpAny_bind (wpAny_letGo (wpAny_bind (seqEpoch_at ho1 rfl (wpAny_bind (listUpdate_at ho1 rfl ?_ (Nat.zero_le _) ?_)))))) ?_ (Nat.zero_le _))
  · rw [hf]
    simp only [Bool.false_eq_true, if_false, bne_self_eq_false]
    refine wpAny_pure (h ys _ _ py oy (fun b o n1 n2 e => ?_) upd_same I3)
    rw [upd_ne n1, upd_ne n1, upd_ne n2]
    exact e
  · have := vy.length
    simp only [Bool.false_eq_true, if_false] at this ⊢
    rw [← Array.length_toList]
    omega
  · rw [List.size_toArray, ← lS]
    exact zS
theorem sort_keyed {H : Hp} {s : Shared} {keys : Array Value} (I : Inv X pins σ H s) (ha : H a = some (.frz (seqObj "list" #[] e1) (.lst []))) (hS : H kS = some (.lst (xs.map fun x => .int (k x)))) (hn : ∀ o u, X.H_0 a ≠ some (.frz o u)) (rv : Vals xs its)
    (h64 : its.length < 64) (hk : IntsAre keys.toList (xs.map k))
    (h : ∀ ys s' H', ys.Perm xs → ys.Pairwise (fun x y => k x ≤ k y) → (∀ b o, b ≠ a → b ≠ kS → H b = some o → H' b = some o) → H' a = some (.lst ys) → Inv X pins σ H' s' → P (.done (.ret .none)) s') :
    wpAny (model X.prog X.w) A (ksk_end a false its.toArray e1 (.ref kS) keys) P E s := by
  have hz : its.length ≤ sizeLine := Nat.le_trans (Nat.le_of_lt h64) (by decide)
  have lk : keys.size = its.length := by
    have q := hk.length
    rw [Array.length_toList, List.length_map, rv.length] at q
    omega
  have lz : (keys.zip its.toArray).size = its.length := by rw [Array.size_zip, lk, List.size_toArray, Nat.min_self]
  unfold ksk_end
  dsimp only
  simp only [Bool.false_eq_true, if_false]
  by_cases h2 : its.toArray.size < 2
  · rw [if_pos h2, if_pos h2]
    refine wpAny_bind (wpAny_pure ?_)
    rw [StateT.run_pure]
    refine wpAny_bind (wpAny_pure ?_)
    dsimp only
    refine sort_fin (st := SortSt.mk' general' (keys.zip its.toArray) #[] 7 none) I ha hS hn rv hz hk (Array.Perm.refl _) ?_ rfl h
    intro i j hij hj
    have hj : j < (keys.zip its.toArray).size := hj
    rw [lz] at hj
    rw [List.size_toArray] at h2
    have : i = j := by omega
    rw [this]
    exact Int.le_refl _
  · rw [if_neg h2, if_neg h2]
    rw [List.size_toArray] at h2
    rw [ksk_kind hk (by omega)]
    refine wpAny_bind (wpAny_pure (wpAny_bind (wpAny_mono (wpS_sortRuns (a₀ := keys.zip its.toArray) (st := SortSt.mk' oneType' (keys.zip its.toArray) #[] 7 none)
      (Q := fun _ st' => (arrOf st').Perm (keys.zip its.toArray) ∧ failedOf st' = none ∧ SortedTo (arrOf st') (keys.zip its.toArray).size) (ksk_intKeys hk) ⟨Array.Perm.refl _, rfl, rfl, rfl⟩ (by omega) (by omega) fun st' a1 a2 a3 => ⟨a1, a2, a3⟩) ?_ fun _ _ e => e)))
    rintro ⟨⟨⟩, st'⟩ s' ⟨rfl, hp, hf, hs⟩
    dsimp only
    exact sort_fin I ha hS hn rv hz hk hp (by rw [hp.size_eq]; exact hs) hf h
theorem ints_keys {xs : List V} {k : V → Int} : ∀ {us : List Value}, Vals (xs.map fun x => V.int (k x)) us → IntsAre us (xs.map k) := fun {us} h => by
  have e : (xs.map fun x => V.int (k x)) = (xs.map k).map V.int := by rw [List.map_map]; rfl
  rw [e] at h
  exact h.ints
/-- the keys are asked, one by one -/
theorem sort_asks {H : Hp} {s : Shared} (F : FnOk X.prog X.w X.K X.mg X.base CX0 n f fd ps sp) (hb : Binds X.K fd ps []) (hr : Room n A) (hfr : A.frames = X.A.frames) (I : Inv X pins σ H s) (ha : H a = some (.frz (seqObj "list" #[] e1) (.lst []))) (hS : H kS = some (.lst []))
    (hn : ∀ o u, X.H_0 a ≠ some (.frz o u)) (rv : Vals xs its) (h64 : its.length < 64)
    (ask : ∀ x ∈ xs, ∀ H', (∀ b o, b ≠ a → b ≠ kS → H b = some o → H' b = some o) → sp [x] H' (fun y H2 => y = .int (k x) ∧ ∀ b o, H' b = some o → H2 b = some o) E0)
    (h : ∀ ys s' H', ys.Perm xs → ys.Pairwise (fun x y => k x ≤ k y) → (∀ b o, b ≠ a → b ≠ kS → H b = some o → H' b = some o) → H' a = some (.lst ys) → Inv X pins σ H' s' → P (.done (.ret .none)) s') :
    wpAny (model X.prog X.w) A (ksk_rest a (.ref f) false its.toArray e1 (.ref kS)) P E s := by
  have nka : kS ≠ a := fun z => by rw [z, ha] at hS; cases hS
  unfold ksk_rest
  refine wpAny_bind (wpAny_rule ?_)
  rw [List.forIn_toArray]
  refine wpAny_bind (ksk_fold (fun i s' => ∃ H', Inv X pins σ H' s' ∧ (∀ b o, b ≠ kS → H b = some o → H' b = some o) ∧ H' kS = some (.lst ((xs.take i).map fun x => .int (k x)))) its 0 s ⟨H, I, fun _ _ _ e => e, by simpa using hS⟩ ?one ?all)
  case one =>
    rintro j v s' hv ⟨H', I', sm, hS'⟩
    simp only [Nat.zero_add] at hS' ⊢
    have hj : j < xs.length := by rw [rv.length]; exact (List.getElem?_eq_some_iff.mp hv).1
    have hx : xs[j]? = some xs[j] := List.getElem?_eq_getElem hj
    generalize xs[j] = x at hx
    obtain ⟨u, hu, rx⟩ := rv.get hx
    have eu : u = v := Option.some.inj (hu.symm.trans hv)
    subst eu
    refine wpAny_bind (wpAny_attempt (wpAny_mono (key_call (E := fun _ _ => False) F hb hr hfr I' rx (ask x (List.mem_of_getElem? hx) H' fun b o _ n2 e => sm b o n2 e)) (fun w s2 he => ?_) fun _ _ z => z.elim))
    obtain ⟨y, H2, I2, ry, rfl, sm2⟩ := he
    have hS2 := sm2 _ _ hS'
    obtain ⟨zS, itS, nS, rS, lS, hoS⟩ := I2.lstM hS2
    have ek : xs.take (j + 1) = xs.take j ++ [x] := by rw [List.take_add_one, hx]; rfl
    have l1 : (((xs.take j).map fun x => V.int (k x)) ++ [V.int (k x)]).length ≤ 64 := by
      rw [List.length_append, List.length_map, List.length_take]
      have := rv.length
      show _ + 1 ≤ 64
      omega
    have I3 := I2.lset (ys := ((xs.take j).map fun x => V.int (k x)) ++ [V.int (k x)]) (its' := itS ++ [w]) (f := (·.push w)) (t' := s2.toks) hS2 hoS (by simp) (rS.append (.cons ry .nil)) (Nat.le_trans l1 (by decide))
    dsimp only
    have l2 : itS.length ≤ 63 := by
      rw [← lS, List.length_map, List.length_take]
      have := rv.length
      omega
    refine wpAny_bind (listUpdate_at hoS rfl (wpAny_pure ⟨rfl, _, I3, fun b o hne e => ?_, ?_⟩) (by rw [List.size_toArray]; exact Nat.le_trans l2 (by decide)) (by rw [Array.size_push, List.size_toArray]; exact Nat.le_trans (Nat.succ_le_succ l2) (by decide)))
    · rw [upd_ne hne]
      exact sm2 _ _ (sm b o hne e)
    · rw [upd_same, ek, List.map_append]
      rfl
  case all =>
    rintro s' ⟨H', I', sm, hS'⟩
    have et : xs.take (0 + its.length) = xs := List.take_of_length_le (by rw [rv.length]; omega)
    rw [et] at hS'
    obtain ⟨zS, itS, nS, rS, lS, hoS⟩ := I'.lstM hS'
    refine wpAny_bind (listItems_at hoS rfl ?_)
    exact sort_keyed I' (sm _ _ (Ne.symm nka) ha) hS' hn rv h64 (by simpa using ints_keys rS) fun ys s2 H2 p o q e I2 => h ys s2 H2 p o (fun b u n1 n2 z => q b u n1 n2 (sm b u n2 z)) e I2
/-- list.sort(key=f) of a list that is tracked -/
theorem sort_whole {H : Hp} {s : Shared} (F : FnOk X.prog X.w X.K X.mg X.base CX0 n f fd ps sp) (hb : Binds X.K fd ps []) (hr : Room n A) (hfr : A.frames = X.A.frames) (I : Inv X pins σ H s) (ha : H a = some (.lst xs)) (h64 : xs.length < 64)
    (ask : ∀ x ∈ xs, ∀ H', (∀ b o, b ≠ a → H b = some o → H' b = some o) → sp [x] H' (fun y H2 => y = .int (k x) ∧ ∀ b o, H' b = some o → H2 b = some o) E0)
    (h : ∀ ys s' H', ys.Perm xs → ys.Pairwise (fun x y => k x ≤ k y) → (∀ b o, b ≠ a → H b = some o → H' b = some o) → H' a = some (.lst ys) → Inv X pins σ H' s' → P (.done (.ret .none)) s') :
    wpAny (model X.prog X.w) A (ksk_tree a (.ref f) false) P E s := by
  obtain ⟨hz, its, n0, rv, ln, ho⟩ := I.lstM ha
  have hzi : its.length ≤ sizeLine := by rw [← ln]; exact hz
  have I1 := I.lset (ys := []) (its' := []) (f := fun _ => (#[] : Array Value)) (t' := s.toks) ha ho rfl .nil (Nat.zero_le _)
  obtain ⟨_, it1, e1, r1, _, ho1⟩ := I1.lstM upd_same
  have e0 : it1 = [] := by cases r1; rfl
  subst e0
  have hn := I.nofrz ha trivial
  obtain ⟨od, I2⟩ := I1.lock upd_same trivial
  rw [upd_upd] at I2
  have eo : od = seqObj "list" #[] e1 := by
    have q := (I2.hok a _ upd_same).1
    rw [ho1] at q
    exact (Option.some.inj q).symm
  subst eo
  unfold ksk_tree
  refine wpAny_bind (listItems_at ho rfl (wpAny_bind (listUpdate_at ho rfl (wpAny_bind (seqEpoch_at ho1 rfl (wpAny_bind (wpAny_newTuple (wpAny_bind (wpAny_newList (wpAny_holding ?_) (Nat.zero_le _))) (by simpa using hzi))))) (by rw [List.size_toArray]; exact hzi) (Nat.zero_le _))))
  have I3 := I2.kept (t' := s.toks) (h' := (s.heap.update a (Obj.mapSeq fun _ => (#[] : Array Value))).push { cls := .type "tuple", data := .seq its.toArray.toList.toArray }) fun _ _ q => Heap.get?_push_of_some _ q
  have I4 := I3.lnew (ys := []) (its := []) (t' := s.toks) .nil (Nat.zero_le _)
  have fr := I3.fresh
  have old : ∀ b o, b ≠ a → H b = some o → b ≠ ((s.heap.update a (Obj.mapSeq fun _ => (#[] : Array Value))).push { cls := .type "tuple", data := .seq its.toArray.toList.toArray }).objs.size := fun b o nb e z => by
    rw [← z, upd_ne nb] at fr
    rw [e] at fr
    cases fr
  have na : a ≠ ((s.heap.update a (Obj.mapSeq fun _ => (#[] : Array Value))).push { cls := .type "tuple", data := .seq its.toArray.toList.toArray }).objs.size := fun z => by
    rw [← z, upd_same] at fr
    cases fr
  have keep : ∀ b o, b ≠ a → H b = some o → (upd (upd H a (.frz (seqObj "list" #[] e1) (.lst []))) ((s.heap.update a (Obj.mapSeq fun _ => (#[] : Array Value))).push { cls := .type "tuple", data := .seq its.toArray.toList.toArray }).objs.size (.lst [])) b = some o := fun b o nb e => by
    rw [upd_ne (old b o nb e), upd_ne nb]
    exact e
  refine sort_asks (k := k) F hb hr hfr I4 (by rw [upd_ne na]; exact upd_same) upd_same hn rv (by rw [← ln]; exact h64) (fun x hx H' sm => ask x hx H' fun b o nb e => sm b o nb (old b o nb e) (keep b o nb e)) fun ys s' H' p o sm e I' => h ys s' H' p o (fun b u nb z => sm b u nb (old b u nb z) (keep b u nb z)) e I'
def rSortF (K : PySem.W.Frag) (f : Addr) (sp : Sp) : List V → List V → Hp → VK → Prop := fun vs zs H Q => ∃ (a : Addr) (xs : List V) (k : V → Int), vs = [.ref a] ∧ zs = [.ref f] ∧ SqL K H a xs ∧ xs.length < 64 ∧
  (∀ x ∈ xs, ∀ H', (∀ b o, H b = some o → H' b = some o) → sp [x] H' (fun y H2 => y = .int (k x) ∧ ∀ b o, H' b = some o → H2 b = some o) E0) ∧
  ∀ (ys : List V) (p : Addr) (H' : Hp), ys.Perm xs → ys.Pairwise (fun x y => k x ≤ k y) → (∀ b o, H b = some o → H' b = some o) → H p = none → H' p = some (.lst ys) → Q (.ref p) H'
theorem cr_sortedF (F : FnOk X.prog X.w X.K X.mg X.base CX0 n f fd ps sp) (hb : Binds X.K fd ps []) (hr : Room (n + 2) X.A) : CallRK X (.builtin "sorted") [Str.ofString "key"] (rSortF X.K f sp) := by
  intro pins s σ H vs zs us ws Q I r rz h
  obtain ⟨a, xs, k, rfl, rfl, hs, h64, ask, q⟩ := h
  obtain rfl := Vals.ref1 r
  obtain ⟨w1, rfl, e1⟩ := vals1 rz
  obtain rfl : w1 = Value.ref f := e1
  obtain ⟨its, rv, hl, hz⟩ := I.list hs
  have hzi : its.length ≤ sizeLine := by rw [← rv.length]; exact hz
  refine call_function_entry_kw kind_sorted plain_sorted entry_sorted (PyProof.Rows.ksk_s1 _ _) ?_
  unfold Builtin.«sorted»
  refine wpAny_bind (m := checkCount "sorted" 1 1 _) (wpAny_pure (wpAny_bind (collect_list hl.isList (wpAny_bind (wpAny_newList ?_ hzi)) hzi)))
  have I1 : Inv X pins σ H { s with heap := (s.heap.push (seqObj "list" #[] 0)).update s.heap.objs.size (Obj.mapSeq (· ++ its.toArray)), toks := s.toks } := I.kept fun b o e => by
    rw [Heap.get?_update_ne _ _ _ _ (Nat.ne_of_lt (Heap.lt_size e))]
    exact Heap.get?_push_of_some _ e
  have I2 := I1.lnew (t' := s.toks) rv hz
  have fr := I1.fresh
  have ho := (I2.lstM upd_same).2
  generalize hg : (s.heap.push (seqObj "list" #[] 0)).update s.heap.objs.size (Obj.mapSeq (· ++ its.toArray)) = g at *
  obtain ⟨it2, n2, _, _, ho⟩ := ho
  refine wpAny_bind (wpAny_holding (wpAny_call_entry_kw slot_list_sort ⟨_, ho, rfl⟩ entry_list_sort ?_ (PyProof.Rows.ksk_l1 _ _)))
  show wpAny (model X.prog X.w) X.A.in1.in1 (Builtin.«list.sort» ⟨[.ref g.objs.size], [(Str.ofString "key", .ref f)]⟩) _ X.xe _
  rw [ksk_t1]
  have keep : ∀ b o, H b = some o → b ≠ g.objs.size ∧ (upd H g.objs.size (.lst xs)) b = some o := fun b o e => by
    have nb : b ≠ g.objs.size := fun z => by rw [← z, e] at fr; cases fr
    exact ⟨nb, by rw [upd_ne nb]; exact e⟩
  refine sort_whole (k := k) F hb hr.in1.in1 rfl I2 upd_same h64 (fun x hx H' sm => ask x hx H' fun b o e => sm b o (keep b o e).1 (keep b o e).2) fun ys s' H' p o sm e I' => ⟨_, rfl, ?_⟩
  exact wpAny_pure ⟨_, rfl, .ref g.objs.size, H', I', rfl, q ys _ H' p o (fun b u z => sm b u (keep b u z).1 (keep b u z).2) fr e⟩
end
end Rp
/-! marks: figures of sixteen -/
namespace K
open PySem L2 Rp
abbrev SIX : Str := "0123456789abcdef"
theorem six_list : (SIX : Str).cps.toList = [48, 49, 50, 51, 52, 53, 54, 55, 56, 57, 97, 98, 99, 100, 101, 102] := by decide +kernel
def numH (l : List Nat) : Bool := decide (1 ≤ l.length) && (decide (l.length ≤ 6) && (!(decide (l.head? = some 48) && !decide (l = [48])) && l.all (inL SIX)))
def mkL : List Nat → Bool
  | [] => false
  | c :: r => decide (c = 99) && numH r
def mkV : V → Bool
  | .str z => mkL z.cps.toList
  | _ => false
def keyV : V → Int
  | .str z => ((Hx.hexNum (z.cps.toList.drop 1) : Nat) : Int)
  | _ => 0
theorem six_hex {c : Nat} (h : inL SIX c = true) : Hx.IsHex c := by
  have h := of_decide_eq_true h
  rw [six_list] at h
  simp only [List.mem_cons, List.not_mem_nil, or_false] at h
  unfold Hx.IsHex
  omega
theorem numH_hex {l : List Nat} (h : numH l = true) : (∀ c ∈ l, inL SIX c = true) ∧ 1 ≤ l.length ∧ l.length ≤ 6 := by
  unfold numH at h
  simp only [Bool.and_eq_true, decide_eq_true_eq, List.all_eq_true] at h
  exact ⟨h.2.2.2, h.1, h.2.1⟩
theorem cut_one (z : Str) : (cutS z (some 1) none).cps.toList = z.cps.toList.drop 1 := by
  unfold cutS
  have e : z.length = z.cps.toList.length := TL.len_tl z
  have h1 : HT.sIx z.length z.length none = z.length := by first | rfl | simp [HT.sIx]
  have h2 : HT.sIx z.length 0 (some 1) = min 1 z.length := by
    first
      | rfl
      | (unfold HT.sIx; simp; omega)
  rw [h1, h2, e]
  show (z.cps.toList.drop _).take _ = _
  rcases Nat.eq_zero_or_pos z.cps.toList.length with h | h
  · rw [List.length_eq_zero_iff.mp h]
    rfl
  · rw [show min 1 z.cps.toList.length = 1 by omega]
    exact List.take_of_length_le (by rw [List.length_drop]; exact Nat.le_refl _)
theorem starts_c (z : Str) : Txt.startswith z "c" = decide (z.cps.toList.head? = some 99) := by
  have ec : ("c" : Str) = ⟨#[99]⟩ := by decide +kernel
  have h := PySem.StrLaws.subAt_one z 99 0
  rw [ec]
  show (decide (0 + (⟨#[99]⟩ : Str).length ≤ z.length) && _) = _
  rw [Bool.eq_iff_iff, Bool.and_eq_true, decide_eq_true_iff, decide_eq_true_iff, List.head?_eq_getElem?]
  exact h
theorem index_six : ∀ c ∈ [48, 49, 50, 51, 52, 53, 54, 55, 56, 57, 97, 98, 99, 100, 101, 102], Txt.index0 SIX ⟨#[c]⟩ = some (Hx.hv c) := by decide +kernel
theorem for_str {x : Str} {g : TG} {tb : TS} {D : Ends} {σ : L2.St} {H : Hp} (Pv : Nat → L2.St → Hp → Prop) (h0 : Pv 0 σ H)
    (hs : ∀ i c σ H, x.cps[i]? = some c → Pv i σ H → g (.str ⟨#[c]⟩) σ H fun σ2 H2 => tb { D with nx := Pv (i + 1), ct := Pv (i + 1), bk := D.nx } σ2 H2) (hd : ∀ σ H, Pv x.cps.size σ H → D.nx σ H) :
    ∃ W : Nat → Nat → L2.St → Hp → Prop, (∃ m, W 0 m σ H) ∧ ∀ i m σ H, W i m σ H →
      ((Its x).stop i H ∧ D.nx σ H) ∨ ((Its x).go i H ∧ ∃ N : L2.St → Hp → Prop, (∀ σ' H', N σ' H' → ∃ m', m' < m ∧ W (i + 1) m' σ' H') ∧ ∀ y H', (Its x).yld i H y H' → g y σ H' fun σ2 H2 => tb { D with nx := N, ct := N, bk := D.nx } σ2 H2) := by
  refine ⟨fun i m σ H => m = x.cps.size - i ∧ i ≤ x.cps.size ∧ Pv i σ H, ⟨x.cps.size, by simp, Nat.zero_le _, h0⟩, ?_⟩
  rintro i m σ H ⟨rfl, hi, p⟩
  by_cases hlt : i < x.cps.size
  · refine .inr ⟨hlt, Pv (i + 1), fun σ' H' p' => ⟨x.cps.size - (i + 1), by omega, rfl, hlt, p'⟩, fun y H' hy => ?_⟩
    obtain ⟨rfl, c, hc, rfl⟩ := hy
    exact hs i c σ H' hc p
  · have e : i = x.cps.size := by omega
    subst e
    exact .inl ⟨Nat.le_refl _, hd σ H p⟩
theorem hex_take {l : List Nat} {i c : Nat} (h : l[i]? = some c) : Hx.hexNum (l.take (i + 1)) = Hx.hexNum (l.take i) * 16 + Hx.hv c := by
  rw [List.take_add_one, h]
  unfold Hx.hexNum
  rw [List.foldl_append]
  rfl
end K
namespace K
open PySem L2 Rp
def top (i : Nat) : Stmt := PySem.Challenge.pw_casknotes_k02_marks_and_their_numbers.main.body.getD i (.Pass ⟨0, 0, 0, 0⟩)
abbrev sMade : Stmt := top 6
abbrev sNumeral : Stmt := top 7
abbrev sShow : Stmt := top 8
abbrev sWhole : Stmt := top 11
abbrev sMark : Stmt := top 12
abbrev sNumber : Stmt := top 13
abbrev sInit : Stmt := inClass (top 20) 0
abbrev sRepr : Stmt := inClass (top 20) 3
abbrev sDeck : Stmt := top 22
abbrev sDraw : Stmt := top 23
abbrev sLWhole : Stmt := top 24
abbrev sTold : Stmt := top 25
abbrev sSign : Stmt := top 26
abbrev sOdd : Stmt := top 27
abbrev sLMark : Stmt := top 28
abbrev sSix : Stmt := top 29
abbrev sBent : Stmt := top 30
abbrev sLIsMark : Stmt := top 31
abbrev sLNumber : Stmt := top 32
abbrev sRight : Stmt := top 33
abbrev sLaw : Stmt := top 34
section
variable {P : Program} {w : World} {K : PySem.W.Frag} {mg : Str → Option Value} {base : Heap}
theorem scWhole : FnScope ["thing"] ["thing"] (defScope sWhole) := ⟨rfl, rfl, rfl, by decide +kernel, rfl, by decide +kernel, by decide +kernel⟩
theorem ok_wholeV {f : Addr} {fd : FuncData} (F : Fun K "is_whole" "is_whole" sWhole f fd) (B : Blt mg) : FnOk P w K mg base CX0 1 f fd ["thing"] (spWholeV K) := by
  refine F.ok scWhole (fun vs H Q E h => ?_) (fun cdv A outer s H vs Q E hr h => ?_)
  · obtain ⟨v, rfl, _⟩ := h
    rfl
  · obtain ⟨v, rfl, ⟨tv, b1, b2, ty, k1, k2, ev⟩, k⟩ := h
    refine ⟨_, pss_one (ps_ret (pe_and (pe_callB call_isi (by rfl) B.isi (by decide +kernel) (pa_cons (pv 0) (pa_cons (pe_bltn (v := .ty "int") (by rfl) B.int (by decide +kernel) rfl) pa_nil)))
      (pe_one (pe_not (pe_callB call_isi (by rfl) B.isi (by decide +kernel) (pa_cons (pv 0) (pa_cons (pe_bltn (v := .ty "bool") (by rfl) B.bool (by decide +kernel) rfl) pa_nil))))))), ?_⟩
    refine ⟨_, rfl, _, .ty "int", _, _, b1, rfl, .ty _, ty, k1, b1, rfl, ?_⟩
    cases b1 with
    | true =>
      refine iteT ⟨_, rfl, _, .ty "bool", _, _, b2, rfl, .ty _, ty, k2, b2, rfl, ?_⟩
      rw [ev] at k
      exact k
    | false =>
      rw [ev] at k
      exact k
theorem scLWhole : FnScope ["_law_thing"] ["_law_thing"] (defScope sLWhole) := ⟨rfl, rfl, rfl, by decide +kernel, rfl, by decide +kernel, by decide +kernel⟩
theorem ok_lwholeV {f : Addr} {fd : FuncData} (F : Fun K "_law_whole" "_law_whole" sLWhole f fd) (B : Blt mg) : FnOk P w K mg base CX0 1 f fd ["_law_thing"] (spWholeV K) := by
  refine F.ok scLWhole (fun vs H Q E h => ?_) (fun cdv A outer s H vs Q E hr h => ?_)
  · obtain ⟨v, rfl, _⟩ := h
    rfl
  · obtain ⟨v, rfl, ⟨tv, b1, b2, ty, k1, k2, ev⟩, k⟩ := h
    refine ⟨_, pss_one (ps_ret (pe_and (pe_callB call_isi (by rfl) B.isi (by decide +kernel) (pa_cons (pv 0) (pa_cons (pe_bltn (v := .ty "int") (by rfl) B.int (by decide +kernel) rfl) pa_nil)))
      (pe_one (pe_not (pe_callB call_isi (by rfl) B.isi (by decide +kernel) (pa_cons (pv 0) (pa_cons (pe_bltn (v := .ty "bool") (by rfl) B.bool (by decide +kernel) rfl) pa_nil))))))), ?_⟩
    refine ⟨_, rfl, _, .ty "int", _, _, b1, rfl, .ty _, ty, k1, b1, rfl, ?_⟩
    cases b1 with
    | true =>
      refine iteT ⟨_, rfl, _, .ty "bool", _, _, b2, rfl, .ty _, ty, k2, b2, rfl, ?_⟩
      rw [ev] at k
      exact k
    | false =>
      rw [ev] at k
      exact k
theorem scDeck : FnScope ["_law_cell"] ["_law_cell"] (defScope sDeck) := ⟨rfl, rfl, rfl, by decide +kernel, rfl, by decide +kernel, by decide +kernel⟩
theorem ok_deck {f : Addr} {fd : FuncData} (F : Fun K "_law_deck" "_law_deck" sDeck f fd) (B : Blt mg) : FnOk P w K mg base CX0 1 f fd ["_law_cell"] spDeck := by
  refine F.ok scDeck (fun vs H Q E h => ?_) (fun cdv A outer s H vs Q E hr h => ?_)
  · obtain ⟨n, rfl, _⟩ := h
    rfl
  · obtain ⟨n, rfl, k⟩ := h
    refine ⟨_, pss_one (ps_ret (pe_lst (pa_cons (pe_op op_mul (pv 0) (pe_callTy call_int1 (by rfl) B.int (by decide +kernel) (pa_cons (pe_cmpR op_ge (pv 0) (pe_op op_pow pe_int pe_int) (nomark _)) pa_nil)))
      (pa_cons (pe_op op_mod (pv 0) pe_int) (pa_cons pe_int pa_nil))))), ?_⟩
    refine ⟨_, rfl, _, rfl, _, _, rfl, rfl, (by show (0:Int) ≤ 18 ∧ (18:Int) ≤ 1000000 ∧ (10:Int).natAbs < 2 ^ 64; decide), _, _, rfl, rfl, .inr ⟨_, rfl, ?_⟩⟩
    refine ⟨_, _, rfl, rfl, .inr (by split <;> decide), ?_⟩
    refine ⟨_, rfl, _, _, rfl, rfl, (by show (0:Int) < 2147483587; decide), ?_⟩
    refine ⟨(by show 3 ≤ sizeLine; decide), fun p hp => ?_⟩
    exact k p hp _ ⟨_, _, _, upd_same⟩ fun b hb => upd_ne hb
theorem scDraw : FnScope ["_law_deck_here", "_law_most", "_law_got", "_law_mixed"] ["_law_deck_here", "_law_most"] (defScope sDraw) := ⟨rfl, rfl, rfl, by decide +kernel, rfl, by decide +kernel, by decide +kernel⟩
theorem ok_draw {f : Addr} {fd : FuncData} (F : Fun K "_law_draw" "_law_draw" sDraw f fd) : FnOk P w K mg base CX0 1 f fd ["_law_deck_here", "_law_most"] spDraw := by
  refine F.ok scDraw (fun vs H Q E h => ?_) (fun cdv A outer s H vs Q E hr h => ?_)
  · obtain ⟨d, m, rfl, _⟩ := h
    rfl
  · obtain ⟨d, m, rfl, h0, h1, ⟨a, b, c, hd⟩, k⟩ := h
    refine ⟨_, pss_cons (ps_if (pt_cmpR op_gt (pe_ix ix_list (pv 0) pe_int (fun _ _ => rfl)) pe_int (nomark _))
        (pss_cons (ps_set (i := 2) scDraw.nd rfl (Or.inl rfl) (pe_op op_modN (pe_ix ix_list (pv 0) pe_int (fun _ _ => rfl)) (pv 1)))
        (pss_cons (ps_asg (pe_op op_fdivN (pe_ix ix_list (pv 0) pe_int (fun _ _ => rfl)) (pv 1)) (pg_sub (pv 0) pe_int set_list))
        (pss_one (ps_ret (pv 2))))) pss_nil)
      (pss_cons (ps_asg (pe_op op_add (pe_ix ix_list (pv 0) pe_int (fun _ _ => rfl)) pe_int) (pg_sub (pv 0) pe_int set_list))
      (pss_cons (ps_set (i := 3) scDraw.nd rfl (Or.inl rfl) (pe_op op_mod (pe_op op_mul (pe_op op_add (pe_op op_add (pe_ix ix_list (pv 0) pe_int (fun _ _ => rfl)) (pe_op op_mul pe_int (pe_ix ix_list (pv 0) pe_int (fun _ _ => rfl)))) pe_int) pe_int) pe_int))
      (pss_cons (ps_set (i := 3) scDraw.nd rfl (Or.inl rfl) (pe_op op_mod (pe_op op_add (pe_op op_add (pe_op op_mul (pv 3) (pv 3)) (pe_op op_mul pe_int (pv 3))) (pe_ix ix_list (pv 0) pe_int (fun _ _ => rfl))) pe_int))
      (pss_one (ps_ret (pe_op op_modN (pe_op op_fdiv (pe_op op_mod (pe_op op_mul (pv 3) pe_int) pe_int) pe_int) (pv 1))))))), ?_⟩
    refine ⟨_, rfl, d, _, _, _, rfl, rfl, SqL.of hd, ix3.1, _, _, rfl, rfl, _, rfl, ?_⟩
    refine ite2 (fun _ => ?_) (fun _ => ?_)
    · refine ⟨_, rfl, d, _, _, _, rfl, rfl, SqL.of hd, ix3.1, _, rfl, _, _, rfl, rfl, (by show m ≠ 0; omega), ?_⟩
      refine ⟨_, rfl, d, _, _, _, rfl, rfl, SqL.of hd, ix3.1, _, rfl, _, _, rfl, rfl, ⟨by omega, by omega⟩, ?_⟩
      refine ⟨_, rfl, d, _, _, 0, rfl, rfl, hd, rfl, ?_⟩
      refine ⟨_, rfl, ?_⟩
      exact k _ (Int.fmod_nonneg_of_pos a h0) (Int.fmod_lt_of_pos a h0) _ ⟨_, _, _, upd_same⟩ fun b hb => upd_ne hb
    · refine ⟨_, rfl, d, _, _, _, rfl, rfl, SqL.of hd, ix3.2.2, _, _, rfl, rfl, ?_⟩
      refine ⟨_, rfl, d, _, _, 2, rfl, rfl, hd, rfl, ?_⟩
      have hd2 : (upd H d (.lst ([V.int a, V.int b, V.int c].set 2 (.int (c + 1))))) d = some (.lst [.int a, .int b, .int (c + 1)]) := upd_same
      refine ⟨_, rfl, d, _, _, _, rfl, rfl, SqL.of hd2, ix3.2.1, _, rfl, d, _, _, _, rfl, rfl, SqL.of hd2, ix3.2.2, _, _, rfl, rfl, .inl (by decide), _, _, rfl, rfl, _, _, rfl, rfl, _, _, rfl, rfl, .inr (by decide), _, _, rfl, rfl, (by show (0:Int) < 2147483647; decide), ?_⟩
      refine ⟨_, rfl, _, rfl, _, _, rfl, rfl, .inl ⟨by omega, by omega⟩, _, rfl, _, _, rfl, rfl, .inl (by decide), _, _, rfl, rfl, _, rfl, d, _, _, _, rfl, rfl, SqL.of hd2, ix3.2.2, _, _, rfl, rfl, _, _, rfl, rfl, (by show (0:Int) < 2147483629; decide), ?_⟩
      refine ⟨_, rfl, _, _, rfl, rfl, .inr (by decide), _, _, rfl, rfl, (by show (0:Int) < 2147483563; decide), _, _, rfl, rfl, ⟨by decide, by decide⟩, _, rfl, _, _, rfl, rfl, (by show m ≠ 0; omega), ?_⟩
      exact k _ (Int.fmod_nonneg_of_pos _ h0) (Int.fmod_lt_of_pos _ h0) _ ⟨_, _, _, hd2⟩ fun b hb => upd_ne hb
theorem scShow : FnScope ["number", "blocks", "low"] ["number"] (defScope sShow) := ⟨rfl, rfl, rfl, by decide +kernel, rfl, by decide +kernel, by decide +kernel⟩
theorem ok_show {f : Addr} {fd : FuncData} {z : Int} {zt : Tok} (F : Fun K "show_whole" "show_whole" sShow f fd) (hst : mg "str" = none) (hrv : mg "reversed" = none) (hB : mg "BLOCK" = some (.int z zt)) (hz : (2 : Int) ^ 1600 ≤ z) :
    FnOk P w K mg base CX0 1 f fd ["number"] spShow := by
  refine F.ok scShow (fun vs H Q E h => ?_) (fun cdv A outer s H vs Q E hr h => ?_)
  · obtain ⟨n, rfl, _⟩ := h
    rfl
  · obtain ⟨n, rfl, n0, nz, k⟩ := h
    refine ⟨_, pss_cons (ps_set (i := 1) scShow.nd rfl (Or.inl rfl) (pe_lst pa_nil))
      (pss_cons (ps_while PassesOwn.never (pt_cmpR op_ge (pv 0) (pe_glob (v := .int z) rfl hB ⟨_, rfl⟩) (nomark _)) pss_never)
      (pss_cons (ps_expr (pe_bm PySem.F.plainAttrs_list PySem.F.slot_list_append PySem.F.type_list_append mt_append (pv 1) (pa_cons (pe_callTy call_str_int (by rfl) hst (by decide +kernel) (pa_cons (pv 0) pa_nil)) pa_nil)))
      (pss_one (ps_ret (pe_joinRev rfl (by rfl) hrv pe_str (pv 1)))))), ?_⟩
    refine ⟨Nat.zero_le _, fun l hl => ?_⟩
    have hlt : ¬ z ≤ n := by
      have h1 : n.natAbs < 2 ^ 1600 := nz
      have h2 : (n.natAbs : Int) = n := by omega
      have h3 : ((2 ^ 1600 : Nat) : Int) = (2 : Int) ^ 1600 := by norm_cast
      have h4 : (n.natAbs : Int) < ((2 ^ 1600 : Nat) : Int) := Int.ofNat_lt.mpr h1
      rw [h2, h3] at h4
      exact Int.not_le.mpr (Int.lt_of_lt_of_le h4 hz)
    refine while_by (fun σ H' => H' = upd H l (.lst []) ∧ σ = [some (.int n), some (.ref l), none]) (fun _ _ => 0) ⟨rfl, rfl⟩ ?_ ?_
    · rintro σ H' ⟨rfl, rfl⟩
      refine ⟨_, rfl, _, _, rfl, rfl, _, rfl, ?_⟩
      rw [decide_eq_false hlt]
      refine iteF ?_
      refine ⟨_, rfl, .inl ⟨rfl, _, SqL.of upd_same⟩, _, rfl, _, rfl, Nat.lt_trans (nz.log (by decide)) (by decide), l, _, _, rfl, rfl, upd_same, by decide, ?_⟩
      have ln := nT_len nz
      refine ⟨"", rfl, _, rfl, l, [nT n], rfl, SqL.of upd_same, ?_, ?_⟩
      · simp only [List.map_cons, List.map_nil, List.sum_cons, List.sum_nil, List.length_cons, List.length_nil]
        have e0 : ("" : Str).length = 0 := by decide +kernel
        rw [e0]
        omega
      · refine k _ fun b o e => ?_
        rw [upd_ne (ne_of_none e hl), upd_ne (ne_of_none e hl)]
        exact e
    · rintro σ H' Q1 Q2 hQ ⟨v, e, i, j, h1, h2, c, h3, q⟩
      exact ⟨v, e, i, j, h1, h2, c, h3, hQ _ _ q⟩
theorem scRepr : FnScope ["self"] ["self"] (defScope sRepr) := ⟨rfl, rfl, rfl, by decide +kernel, rfl, by decide +kernel, by decide +kernel⟩
theorem ok_repr {f C fW fS : Addr} {fd fdS : FuncData} (F : Fun K "__repr__" "Weight.__repr__" sRepr f fd) (T : WTxt K mg C fW) (cS : Cl K mg "show_whole" fS fdS ["number"]) (GS : FnOk P w K mg base CX0 1 fS fdS ["number"] spShow) :
    FnOk P w K mg base CX0 2 f fd ["self"] (spRepr C) := by
  refine F.ok scRepr (fun vs H Q E h => ?_) (fun cdv A outer s H vs Q E hr h => ?_)
  · obtain ⟨p, t, b, rfl, _⟩ := h
    rfl
  · obtain ⟨p, t, b, rfl, ⟨dx, hp⟩, n1, k⟩ := h
    refine ⟨_, pss_cons (ps_if (pt_cmpR op_eq (pe_fld (pv 0) rfl) pe_int (nomark _)) (pss_one (ps_ret (pe_joined (.cons pe_str (.cons (pe_fmt (pe_call GS hr (by rfl) cS.g cS.k cS.b .nil pass0 (pa_cons (pe_fld (pv 0) rfl) pa_nil))) (.cons pe_str .nil)))))) pss_nil)
      (pss_one (ps_ret (pe_joined (.cons pe_str (.cons (pe_fmt (pe_call GS hr (by rfl) cS.g cS.k cS.b .nil pass0 (pa_cons (pe_fld (pv 0) rfl) pa_nil))) (.cons pe_str (.cons (pe_fmt (pe_call GS hr (by rfl) cS.g cS.k cS.b .nil pass0 (pa_cons (pe_fld (pv 0) rfl) pa_nil))) (.cons pe_str .nil)))))))), ?_⟩
    have l1 := nT_len n1.tz
    have l2 := nT_len n1.bz
    have e1 : ("Weight(" : Str).length = 7 := by decide +kernel
    have e2 : (")" : Str).length = 1 := by decide +kernel
    have e3 : (", " : Str).length = 2 := by decide +kernel
    have e4 : (Str.empty : Str).length = 0 := by decide +kernel
    have big : ∀ n, n ≤ 10000 → n ≤ sizeLine := fun n h => Nat.le_trans h (by decide)
    refine ⟨_, rfl, p, C, dx, _, _, rfl, hp, T.cl, T.nB, wf_bottom _ _, rfl, _, rfl, ?_⟩
    refine ite2 (fun h => ?_) (fun h => ?_)
    · have hb : b = 1 := by
        have := of_decide_eq_true h
        injection this
      refine ⟨"Weight(", rfl, big _ (by rw [append_len]; omega), _, rfl, p, C, dx, _, _, rfl, hp, T.cl, T.nT, wf_top _ _, t, rfl, n1.t0, n1.tz, fun H1 s1 => .inl ⟨_, rfl, big _ (by omega), nT t, rfl, big _ (by simp only [append_len]; omega), ")", rfl, big _ (by simp only [append_len]; omega), ?_⟩⟩
      have ew : wT t b = Str.empty ++ "Weight(" ++ nT t ++ ")" := if_pos hb
      have q := k H1 s1
      rw [ew] at q
      exact q
    · have hb : ¬ b = 1 := fun z => h (decide_eq_true (by rw [z]))
      refine ⟨"Weight(", rfl, big _ (by rw [append_len]; omega), _, rfl, p, C, dx, _, _, rfl, hp, T.cl, T.nT, wf_top _ _, t, rfl, n1.t0, n1.tz, fun H1 s1 => .inl ⟨_, rfl, big _ (by omega), nT t, rfl, big _ (by simp only [append_len]; omega), ", ", rfl, big _ (by simp only [append_len]; omega), ?_⟩⟩
      refine ⟨_, rfl, p, C, dx, _, _, rfl, s1 _ _ hp, T.cl, T.nB, wf_bottom _ _, b, rfl, Int.le_of_lt n1.b0, n1.bz, fun H2 s2 => .inl ⟨_, rfl, big _ (by omega), nT b, rfl, big _ (by simp only [append_len]; omega), ")", rfl, big _ (by simp only [append_len]; omega), ?_⟩⟩
      have ew : wT t b = Str.empty ++ "Weight(" ++ nT t ++ ", " ++ nT b ++ ")" := if_neg hb
      have q := k H2 (s1.trans s2)
      rw [ew] at q
      exact q
theorem scMade : FnScope ["text", "signs", "sign"] ["text", "signs"] (defScope sMade) := ⟨rfl, rfl, rfl, by decide +kernel, rfl, by decide +kernel, by decide +kernel⟩
theorem ok_made {f : Addr} {fd : FuncData} (F : Fun K "made_of" "made_of" sMade f fd) (hal : mg "all" = none) : FnOk P w K mg base CX0 1 f fd ["text", "signs"] spMade := by
  refine F.ok scMade (fun vs H Q E h => ?_) (fun cdv A outer s H vs Q E hr h => ?_)
  · obtain ⟨z, y, rfl, _⟩ := h
    rfl
  · obtain ⟨z, y, rfl, hz, k⟩ := h
    refine ⟨_, (pss_one (ps_ret (pe_callB (cr_all rfl) (by rfl) hal (by decide +kernel) (pa_cons (pe_lc (own := [("sign", 2)]) (g := gName 2) (tt := tYes) (by rfl) scMade.nd (pi_str (pv 0)) (blkOk_by (own := [("sign", 2)]) (N := ["text", "signs", "sign"]) (sc := defScope sMade) (by decide +kernel)) (fun _ _ _ _ _ => (pg_name (i := 2) scMade.nd rfl (Or.inl rfl))) (fun _ _ _ _ _ => pts_nil) (fun _ _ _ _ _ => (pe_cmpR op_in_sign (pv 2) (pv 1) (by with_unfolding_all rfl)))) pa_nil)))), ?_⟩
    refine ⟨_, rfl, z, rfl, fun D hD => ?_⟩
    refine lc_str (fun i H2 => Same H H2 ∧ H2 D = some (.lst (((z.cps.toList.map (inL y)).take i).map V.bl))) ?_ ?_ ?_
    · exact ⟨same_upd hD, upd_same⟩
    · rintro i c H2 hc ⟨s2, hA⟩
      have hi : i < z.cps.size := (Array.getElem?_eq_some_iff.mp hc).1
      have hc' : z.cps.toList[i]? = some c := by rw [Array.getElem?_toList]; exact hc
      refine ⟨rfl, tYes_of ?_⟩
      rw [if_pos rfl]
      refine ⟨_, rfl, _, rfl, c, y, rfl, rfl, _, hA, ?_, ?_, ?_⟩
      · rw [List.length_map, List.length_take]
        exact Nat.lt_of_le_of_lt (Nat.min_le_left _ _) (Nat.lt_of_lt_of_le hi (Nat.le_trans hz (by decide)))
      · exact fun y o e => by
          rw [upd_ne (ne_of_none e hD)]
          exact s2 y o e
      · rw [upd_same, List.take_add_one, List.getElem?_map, hc', List.map_append]
        rfl
    · rintro H2 ⟨s2, hA⟩
      have e : (z.cps.toList.map (inL y)).take z.cps.size = z.cps.toList.map (inL y) := List.take_of_length_le (by rw [List.length_map]; simp)
      rw [e] at hA
      refine ⟨D, z.cps.toList.map (inL y), rfl, SqL.of hA, ?_⟩
      have e2 : (z.cps.toList.map (inL y)).all id = z.cps.toList.all (inL y) := by rw [List.all_map]; rfl
      rw [e2]
      exact k H2 s2
theorem scSign : FnScope ["_law_deck_here", "_law_some"] ["_law_deck_here"] (defScope sSign) := ⟨rfl, rfl, rfl, by decide +kernel, rfl, by decide +kernel, by decide +kernel⟩
theorem ok_sign {f fD : Addr} {fd fdD : FuncData} (F : Fun K "_law_sign" "_law_sign" sSign f fd) (hln : mg "len" = none) (cD : Cl K mg "_law_draw" fD fdD ["_law_deck_here", "_law_most"]) (GD : FnOk P w K mg base CX0 1 fD fdD ["_law_deck_here", "_law_most"] spDraw) : FnOk P w K mg base CX0 2 f fd ["_law_deck_here"] spSign := by
  refine F.ok scSign (fun vs H Q E h => ?_) (fun cdv A outer s H vs Q E hr h => ?_)
  · obtain ⟨d, rfl, _⟩ := h
    rfl
  · obtain ⟨d, rfl, hd, k⟩ := h
    refine ⟨_, (pss_cons (ps_set (i := 1) scSign.nd rfl (Or.inl rfl) pe_str)
    (pss_cons (ps_set (i := 1) scSign.nd rfl (Or.inl rfl) (pe_op op_add_str (pv 1) (pe_op op_mulS pe_str pe_int)))
    (pss_one (ps_ret (pe_ix ix_str (pv 1) (pe_call GD (hr.mono (by decide)) (by rfl) cD.g cD.k cD.b .nil pass0 (pa_cons (pv 0) (pa_cons (pe_callB call_len_str (by rfl) hln PySem.boot_len (pa_cons (pv 1) pa_nil)) pa_nil))) (fun _ _ => rfl)))))), ?_⟩
    refine ⟨_, rfl, _, _, rfl, rfl, by unfold MulOk; decide +kernel, _, _, rfl, rfl, by decide +kernel, ?_⟩
    generalize hz : (_ ++ Txt.mul _ 4 : Str) = z
    have az : Asc z := by rw [← hz]; exact asc_lit _ (by decide +kernel)
    have lz : z.length = 151 := by rw [← hz]; decide +kernel
    refine ⟨_, rfl, _, rfl, _, rfl, z, rfl, by rw [lz]; decide, d, _, rfl, by rw [lz]; decide, by rw [lz]; decide, hd, fun q q0 q1 H1 d1 e1 => ?_⟩
    have hq : q.toNat < z.cps.toList.length := by
      have : z.cps.toList.length = z.length := by simp [Str.length]
      omega
    have hg : z.cps.toList[q.toNat]? = some z.cps.toList[q.toNat] := List.getElem?_eq_getElem hq
    have ha := atI_nat hg
    rw [Int.toNat_of_nonneg q0] at ha
    refine ⟨z, q, _, rfl, rfl, by rw [lz]; decide, ha, ?_⟩
    exact k _ H1 (asc_one (az _ (List.getElem_mem hq))) rfl d1 (Fw.draw d1 e1)
theorem scBent : FnScope ["_law_deck_here", "_law_text", "_law_way", "_law_at"] ["_law_deck_here", "_law_text"] (defScope sBent) := ⟨rfl, rfl, rfl, by decide +kernel, rfl, by decide +kernel, by decide +kernel⟩
theorem ok_bent {f fD fS : Addr} {fd fdD fdS : FuncData} (F : Fun K "_law_text_otherwise" "_law_text_otherwise" sBent f fd) (B : Blt mg) (hln : mg "len" = none) (cD : Cl K mg "_law_draw" fD fdD ["_law_deck_here", "_law_most"]) (GD : FnOk P w K mg base CX0 1 fD fdD ["_law_deck_here", "_law_most"] spDraw)
    (cS : Cl K mg "_law_sign" fS fdS ["_law_deck_here"]) (GS : FnOk P w K mg base CX0 2 fS fdS ["_law_deck_here"] spSign) : FnOk P w K mg base CX0 3 f fd ["_law_deck_here", "_law_text"] spBent := by
  refine F.ok scBent (fun vs H Q E h => ?_) (fun cdv A outer s H vs Q E hr h => ?_)
  · obtain ⟨d, z, rfl, _⟩ := h
    rfl
  · obtain ⟨d, z, rfl, hd, az, lz, k⟩ := h
    refine ⟨_, (pss_cons (ps_set (i := 2) scBent.nd rfl (Or.inl rfl) (pe_call GD (hr.mono (by decide)) (by rfl) cD.g cD.k cD.b .nil pass0 (pa_cons (pv 0) (pa_cons pe_int pa_nil))))
    (pss_cons (ps_set (i := 3) scBent.nd rfl (Or.inl rfl) (pe_call GD (hr.mono (by decide)) (by rfl) cD.g cD.k cD.b .nil pass0 (pa_cons (pv 0) (pa_cons (pe_op op_add (pe_callB call_len_str (by rfl) hln PySem.boot_len (pa_cons (pv 1) pa_nil)) pe_int) pa_nil))))
    (pss_cons (ps_if (pt_cmpR op_lt (pv 2) pe_int (nomark _)) (pss_one (ps_ret (pe_op op_add_str (pe_op op_add_str (pe_slice sl_str (pv 1) po_none (po_some (pv 3))) (pe_ix ix_list (pe_lst (pa_cons (pe_call GS (hr.mono (by decide)) (by rfl) cS.g cS.k cS.b .nil pass0 (pa_cons (pv 0) pa_nil)) (pa_cons (pe_call GS (hr.mono (by decide)) (by rfl) cS.g cS.k cS.b .nil pass0 (pa_cons (pv 0) pa_nil)) (pa_cons pe_str (pa_cons (pe_slice sl_str (pv 1) (po_some (pv 3)) (po_some (pe_op op_add (pv 3) pe_int))) pa_nil))))) (pv 2) (fun _ _ => rfl))) (pe_slice sl_str (pv 1) (po_some (pe_op op_add (pv 3) (pe_callTy call_int1 (by rfl) B.int (by decide +kernel) (pa_cons (pe_chain op_lt op_lt pe_int (pv 2) pe_int) pa_nil)))) po_none)))) pss_nil)
    (pss_one (ps_ret (pe_ix ix_list (pe_lst (pa_cons (pe_op op_add_str (pv 1) (pv 1)) (pa_cons (pe_upper (pv 1)) (pa_cons (pe_revS (pv 1)) (pa_cons (pe_op op_add_str (pv 1) pe_str) pa_nil))))) (pe_op op_sub (pv 2) pe_int) (fun _ _ => rfl))))))), ?_⟩
    have big : ∀ n : Nat, n ≤ 100000 → n ≤ sizeLine := fun n h => Nat.le_trans h (by decide)
    have hz : z.length ≤ sizeLine := big _ (by omega)
    refine ⟨_, rfl, d, 8, rfl, by decide, by decide, hd, fun q q0 q1 H1 d1 e1 => ?_⟩
    refine ⟨_, rfl, _, rfl, z, rfl, hz, _, _, rfl, rfl, d, _, rfl, by omega, by omega, d1, fun r r0 r1 H2 d2 e2 => ?_⟩
    have f2 := (Fw.draw d1 e1).trans (Fw.draw d2 e2)
    refine ⟨_, rfl, _, _, rfl, rfl, _, rfl, ?_⟩
    refine ite2 (fun hw => ?_) (fun hw => ?_)
    · have hw := of_decide_eq_true hw
      refine ⟨_, rfl, _, rfl, r, rfl, z, rfl, hz, ?_⟩
      refine ⟨_, rfl, d, rfl, d2, fun s1 H3 a1 l1 d3 f3 => ?_⟩
      refine ⟨_, rfl, d, rfl, d3, fun s2 H4 a2 l2 d4 f4 => ?_⟩
      refine ⟨_, rfl, _, rfl, r, rfl, _, rfl, _, _, rfl, rfl, _, rfl, z, rfl, hz, (by show 4 ≤ sizeLine; decide), fun l hl => ?_⟩
      obtain ⟨v, hv, mv⟩ := at_in (xs := [.str s1, .str s2, .str "", .str (cutS z (some r) (some (r + 1)))]) q0 (show q < 4 by omega)
      have lc : (cutS z (some r) (some (r + 1))).length ≤ z.length := cutS_length z _ _
      have e0 : ("" : Str).length = 0 := by decide +kernel
      obtain ⟨y, rfl, ay, ly⟩ : ∃ y, v = .str y ∧ Asc y ∧ y.length ≤ z.length + 1 := by
        rcases List.mem_cons.mp mv with rfl | mv
        · exact ⟨_, rfl, a1, by omega⟩
        · rcases List.mem_cons.mp mv with rfl | mv
          · exact ⟨_, rfl, a2, by omega⟩
          · rcases List.mem_cons.mp mv with rfl | mv
            · exact ⟨_, rfl, asc_lit _ (by decide +kernel), by omega⟩
            · rw [List.mem_singleton.mp mv]
              exact ⟨_, rfl, asc_cut az _ _, by omega⟩
      have lA : (cutS z none (some r)).length ≤ z.length := cutS_length z _ _
      refine ⟨_, rfl, l, _, q, _, rfl, rfl, SqL.of upd_same, hv, _, _, rfl, rfl, big _ (by omega), ?_⟩
      have fin : ∀ b : Int, Q (.str (cutS z none (some r) ++ y ++ cutS z (some (r + b)) none)) (upd H4 l (.lst [.str s1, .str s2, .str "", .str (cutS z (some r) (some (r + 1)))])) := fun b => by
        have lB : (cutS z (some (r + b)) none).length ≤ z.length := cutS_length z _ _
        refine k _ _ (asc_app (asc_app (asc_cut az _ _) ay) (asc_cut az _ _)) ?_ (d4.upd hl) (((f2.trans f3).trans f4).trans (Fw.upd hl))
        rw [append_len, append_len]
        omega
      have lB : ∀ b : Int, (cutS z (some (r + b)) none).length ≤ z.length := fun b => cutS_length z _ _
      have sz : ∀ b : Int, (cutS z none (some r) ++ y).length + (cutS z (some (r + b)) none).length ≤ sizeLine := fun b => big _ (by
        have := lB b
        rw [append_len]
        omega)
      refine ⟨_, rfl, _, rfl, _, rfl, _, _, rfl, rfl, _, rfl, ?_⟩
      refine ite2 (fun _ => ?_) (fun _ => ?_)
      · refine ⟨_, _, rfl, rfl, .inr ⟨_, rfl, _, _, rfl, rfl, _, rfl, z, rfl, hz, _, _, rfl, rfl, sz _, fin _⟩⟩
      · refine .inr ⟨_, rfl, _, _, rfl, rfl, _, rfl, z, rfl, hz, _, _, rfl, rfl, sz _, fin _⟩
    · have hw : ¬ q < 4 := fun h => hw (decide_eq_true h)
      have lu := PyProof.Rows.len_upper z
      have lr := revT_len z
      have e1 : ("\n" : Str).length = 1 := by decide +kernel
      refine ⟨_, rfl, _, rfl, _, _, rfl, rfl, big _ (by omega), _, rfl, ⟨_, rfl⟩, z, rfl, rfl, by omega, _, rfl, z, rfl, hz, _, rfl, _, _, rfl, rfl, big _ (by omega), (by show 4 ≤ sizeLine; decide), fun l hl => ?_⟩
      obtain ⟨v, hv, mv⟩ := at_in (q := q - 4) (xs := [.str (z ++ z), .str (Txt.upper z), .str (revT z), .str (z ++ "\n")]) (by omega) (show q - 4 < 4 by omega)
      obtain ⟨y, rfl, ay, ly⟩ : ∃ y, v = .str y ∧ Asc y ∧ y.length ≤ 3 * z.length + 3 := by
        rcases List.mem_cons.mp mv with rfl | mv
        · exact ⟨_, rfl, asc_app az az, by rw [append_len]; omega⟩
        · rcases List.mem_cons.mp mv with rfl | mv
          · exact ⟨_, rfl, asc_upper az, by omega⟩
          · rcases List.mem_cons.mp mv with rfl | mv
            · exact ⟨_, rfl, asc_rev az, by omega⟩
            · rw [List.mem_singleton.mp mv]
              exact ⟨_, rfl, asc_app az (asc_lit _ (by decide +kernel)), by rw [append_len]; omega⟩
      refine ⟨_, rfl, _, _, rfl, rfl, l, _, _, _, rfl, rfl, SqL.of upd_same, hv, ?_⟩
      exact k y _ ay ly (d2.upd hl) (f2.trans (Fw.upd hl))
theorem scTold : FnScope ["_law_query", "_law_thing", "_law_due", "_law_written", "_law_turn", "_law_found"] ["_law_query", "_law_thing", "_law_due"] (defScope sTold) := ⟨rfl, rfl, rfl, by decide +kernel, rfl, by decide +kernel, by decide +kernel⟩
theorem ok_told {f C fW fR : Addr} {fd fdR : FuncData} {R : Addr → Sp → Prop} (F : Fun K "_law_told" "_law_told" sTold f fd) (T : WTxt K mg C fW) (B : Blt mg) (N : WIns K C) (ki : PySem.W.kitOne K (.ref C) (.type "int") = some false) (kb : PySem.W.kitOne K (.ref C) (.type "bool") = some false) (ks : PySem.W.kitOne K (.ref C) (.type "str") = some false)
    (aR : PySem.W.findIn K (.ref C) "__repr__" = some (some (.ref fR))) (iR : PySem.W.isFn K (.ref fR) = true) (bR : Binds K fdR ["self"] []) (GR : FnOk P w K mg base CX0 2 fR fdR ["self"] (spRepr C)) (hrp : mg "repr" = none) (hrg : mg "range" = none)
    (AQ : ∀ f sp, R f sp → Held P w K mg base 3 f sp) : FnG P w K mg base CX0 21 f fd ["_law_query", "_law_thing", "_law_due"] (spTold K C R) := by
  refine Fun_okG0 F scTold (fun vs H Q E h => ?_) (fun cdv A outer s H vs Q E gd hr h => ?_)
  · obtain ⟨f, v, b, q, rfl, _⟩ := h
    rfl
  · obtain ⟨f, v, b, q, rfl, hR, rfl, ⟨as, ab, th⟩, tk, k⟩ := h
    obtain ⟨t, ht⟩ := th.tells aR iR bR GR
    have len : t.length ≤ sizeLine := Nat.le_trans ht.1 (by decide)
    have says : ∀ {X : Cx}, Ctx X P w K mg base → ∀ {H1 : Hp}, Same H H1 → Says X 20 as H1 v t := fun {X} c {H1} e => ht.2 X c H1 fun b _ o h => e b o h
    refine ⟨_, (pss_cons (ps_set (i := 3) scTold.nd rfl (Or.inl rfl) (pe_callB (cr_repr (n := 20) (hr.mono (by decide)) gd) (by rfl) hrp (by decide +kernel) (pa_cons (pv 1) pa_nil)))
    (pss_cons (ps_for PassesOwn.never rfl (pi_range1 (by rfl) hrg (pa_cons pe_int pa_nil)) (pg_name (i := 4) scTold.nd rfl (Or.inl rfl))
      (pss_cons (ps_set (i := 5) scTold.nd rfl (Or.inl rfl) (pe_callV (i := 0) AQ (hr.mono (by decide)) rfl (by first | exact Or.inl rfl | exact Or.inr (Or.inl rfl) | exact Or.inr (Or.inr rfl)) (pa_cons (pv 1) pa_nil)))
    (pss_one (ps_if (PW.pt (pw_or (pt_not (pt_val (pe_callB call_isi (by rfl) B.isi (by decide +kernel) (pa_cons (pv 5) (pa_cons (pe_bltn (v := .ty "bool") (by rfl) B.bool (by decide +kernel) rfl) pa_nil))))) (pw_or1 (pt_cmpR op_ne (pv 5) (pv 2) (nomark _))))) (pss_one (ps_ret pe_bl)) pss_nil))))
    (pss_one (ps_ret (pe_cmpR op_eq (pe_callB (cr_repr (n := 20) (hr.mono (by decide)) gd) (by rfl) hrp (by decide +kernel) (pa_cons (pv 1) pa_nil)) (pv 3) (nomark _)))))), ?_⟩
    refine ⟨_, rfl, v, t, as, rfl, says ⟨rfl, rfl, rfl, rfl, rfl⟩ (Same.refl H), len, fun H1 e1 => ?_⟩
    refine ⟨2, rfl, by decide, by decide, for_range (lo := 0) (n := 2) (fun j σ H2 => Same H H2 ∧ ∃ u1 u2, σ = [some (.ref f), some v, some (.bl (q v)), some (.str t), u1, u2]) ⟨e1, _, _, rfl⟩ ?_ ?_⟩
    · rintro j σ H2 hj ⟨e2, u1, u2, rfl⟩
      refine ⟨f, _, rfl, hR, _, rfl, v, rfl, (th.congr fun b _ o h => e2 b o h).wh T.cl N ki kb, (th.congr fun b _ o h => e2 b o h).ws T.cl N ks, tk, fun H3 e3 => ?_⟩
      refine ⟨_, rfl, _, .ty "bool", _, _, true, rfl, .ty _, .base (.bl _), kit_ty (by decide +kernel), true, rfl, iteF ⟨_, rfl, _, rfl, rfl, _, rfl, ?_⟩⟩
      rw [decide_eq_true rfl]
      exact iteF ⟨e2.trans e3, _, _, rfl⟩
    · rintro σ H2 ⟨e2, u1, u2, rfl⟩
      refine ⟨_, rfl, v, t, as, rfl, says ⟨rfl, rfl, rfl, rfl, rfl⟩ e2, len, fun H3 e3 => ⟨_, rfl, rfl, ?_⟩⟩
      rw [decide_eq_true rfl]
      exact k _ (e2.trans e3)
end
abbrev FunI (K : PySem.W.Frag) (f : Addr) (fd : FuncData) : Prop := FunD K "__init__" "Weight.__init__" (defArgs sInit) (defBody sInit) (defScope sInit) [.int 1] [] f fd
section
variable {P : Program} {w : World} {K : PySem.W.Frag} {mg : Str → Option Value} {base : Heap}
theorem scInit : FnScope ["self", "top", "bottom", "shared"] ["self", "top", "bottom"] (defScope sInit) := ⟨rfl, rfl, rfl, by decide +kernel, rfl, by decide +kernel, by decide +kernel⟩
theorem ok_init {f C fW : Addr} {fd fdW : FuncData} (F : FunI K f fd) (T : WTxt K mg C fW) (GW : FnOk P w K mg base CX0 1 fW fdW ["thing"] (spWhole K)) (bW : Binds K fdW ["thing"] []) : FnOk P w K mg base CX0 2 f fd ["self", "top", "bottom"] (spInit C) := by
  refine FunD_ok0 F scInit (fun vs H Q E h => ?_) (fun cdv A outer s H vs Q E hr h => ?_)
  · obtain ⟨p, dx, t, b, rfl, _⟩ := h
    rfl
  · obtain ⟨p, dx, t, b, rfl, hp, ht, hb, hz, k⟩ := h
    refine ⟨_, pss_cons (ps_if (PW.pt (pw_and (pt_val (pe_call GW hr (by rfl) T.mgW T.kpW bW .nil pass0 (pa_cons (pv 2) pa_nil))) (pw_and1 (pt_cmpR op_eq (pv 2) pe_int (nomark _))))) (pss_one ps_never) pss_nil)
      (pss_cons (ps_if (PW.pt (pw_or (pt_not (pt_val (pe_call GW hr (by rfl) T.mgW T.kpW bW .nil pass0 (pa_cons (pv 1) pa_nil)))) (pw_or (pt_not (pt_val (pe_call GW hr (by rfl) T.mgW T.kpW bW .nil pass0 (pa_cons (pv 2) pa_nil))))
          (pw_or (pt_cmpR op_lt (pv 1) pe_int (nomark _)) (pw_or1 (pt_cmpR op_lt (pv 2) pe_int (nomark _))))))) (pss_one ps_never) pss_nil)
      (pss_cons (ps_set (i := 3) scInit.nd rfl (Or.inl rfl) (pe_callBfun cr_gcd (by rfl) T.gcd (pa_cons (pv 1) (pa_cons (pv 2) pa_nil))))
      (pss_cons (ps_fld (pv 0) (pe_op op_fdivW (pv 1) (pv 3)) rfl)
      (pss_one (ps_fld (pv 0) (pe_op op_fdivW (pv 2) (pv 3)) rfl))))), ?_⟩
    have hg := gcd_pos (t := t) hb
    have hgz : CDivW t ((Int.gcd t b : Nat) : Int) := ⟨hg, Nat.lt_trans ((Sz.gcd (t := t) hz hb).log (by decide)) (by decide)⟩
    have hgz' : CDivW b ((Int.gcd t b : Nat) : Int) := hgz
    refine ⟨_, rfl, b, rfl, true, rfl, iteT ⟨_, rfl, rfl, _, rfl, ?_⟩⟩
    rw [decide_eq_false (show ¬ (V.int b = V.int 0) from fun z => by cases z; omega)]
    refine iteF ?_
    refine ⟨_, rfl, t, rfl, true, rfl, iteF ⟨_, rfl, b, rfl, true, rfl, iteF ⟨_, rfl, _, _, rfl, rfl, _, rfl, ?_⟩⟩⟩
    rw [decide_eq_false (show ¬ t < 0 by omega)]
    refine iteF ⟨_, rfl, _, _, rfl, rfl, _, rfl, ?_⟩
    rw [decide_eq_false (show ¬ b < 0 by omega)]
    refine iteF ?_
    refine ⟨_, rfl, _, rfl, t, b, rfl, ?_⟩
    refine ⟨_, rfl, _, rfl, _, _, rfl, rfl, hgz, _, rfl, p, C, dx, _, rfl, hp, T.cl, T.nT, (by show 0 < 1000; decide), ?_⟩
    refine ⟨_, rfl, _, rfl, _, _, rfl, rfl, hgz', _, rfl, p, C, dx, _, rfl, upd_same, T.cl, T.nB, (by show 1 < 1000; decide), ?_⟩
    show Q .non (upd (upd H p _) p _)
    rw [upd_upd]
    exact k
theorem scOdd : FnScope ["_law_deck_here", "_law_deep", "_law_k", "_law_some"] ["_law_deck_here"] (defScope sOdd) := ⟨rfl, rfl, rfl, by decide +kernel, rfl, by decide +kernel, by decide +kernel⟩
theorem ok_odd {f C fW fI fD : Addr} {fd dI fdD : FuncData} (F : Fun K "_law_odd" "_law_odd" sOdd f fd) (T : WTxt K mg C fW) (hrg : mg "range" = none) (hln : mg "len" = none)
    (M : Mk K C fI) (GI : FnOk P w K mg base CX0 2 fI dI ["self", "top", "bottom"] (spInit C)) (bI : Binds K dI ["self", "top", "bottom"] []) {ds : List Value} (vd : Vals [V.int 1] ds) (bI1 : Binds K dI ["self", "top", "bottom"] ds)
    (cD : Cl K mg "_law_draw" fD fdD ["_law_deck_here", "_law_most"]) (GD : FnOk P w K mg base CX0 1 fD fdD ["_law_deck_here", "_law_most"] spDraw) : FnOk P w K mg base CX0 4 f fd ["_law_deck_here"] (spOdd C) := by
  refine F.ok scOdd (fun vs H Q E h => ?_) (fun cdv A outer s H vs Q E hr h => ?_)
  · obtain ⟨d, rfl, _⟩ := h
    rfl
  · obtain ⟨d, rfl, hd, k⟩ := h
    refine ⟨_, (pss_cons (ps_set (i := 1) scOdd.nd rfl (Or.inl rfl) pe_int)
    (pss_cons (ps_for PassesOwn.never rfl (pi_range1 (by rfl) hrg (pa_cons pe_int pa_nil)) (pg_name (i := 2) scOdd.nd rfl (Or.inl rfl))
      (pss_one (ps_set (i := 1) scOdd.nd rfl (Or.inl rfl) (pe_ix ix_list (pe_lst (pa_cons (pe_tup (pa_cons (pv 1) pa_nil)) (pa_cons (pe_lst (pa_cons (pv 1) pa_nil)) (pa_cons (pe_disp (pps_cons pe_int (pv 1) pps_nil) (by rfl) (by rfl) (fun z => by cases z) (by decide)) pa_nil)))) (pe_call GD (hr.mono (by decide)) (by rfl) cD.g cD.k cD.b .nil pass0 (pa_cons (pv 0) (pa_cons pe_int pa_nil))) (fun _ _ => rfl)))))
    (pss_cons (ps_set (i := 3) scOdd.nd rfl (Or.inl rfl) (pe_lst (pa_cons pe_non (pa_cons pe_bl (pa_cons pe_bl (pa_cons pe_int (pa_cons pe_int (pa_cons pe_int (pa_cons (pe_un un_neg pe_int) (pa_cons (pe_op op_pow pe_int pe_int) (pa_cons (pe_op op_sub pe_int (pe_op op_pow pe_int pe_int)) (pa_cons pe_str (pa_cons pe_str (pa_cons pe_str (pa_cons pe_str (pa_cons pe_str (pa_cons (pe_tup pa_nil) (pa_cons (pe_tup (pa_cons pe_int pa_nil)) (pa_cons (pe_tup (pa_cons pe_int (pa_cons pe_int pa_nil))) (pa_cons (pe_lst pa_nil) pa_nil))))))))))))))))))))
    (pss_cons (ps_set (i := 3) scOdd.nd rfl (Or.inl rfl) (pe_op op_cat (pv 3) (pe_lst (pa_cons (pe_lst (pa_cons pe_int pa_nil)) (pa_cons (pe_lst (pa_cons pe_str pa_nil)) (pa_cons pe_dnewK (pa_cons (pe_disp (pps_cons pe_int pe_int pps_nil) (by rfl) (by rfl) (fun z => by cases z) (by decide)) (pa_cons (pv 1) (pa_cons (pe_make M GI (hr.mono (by decide)) (by rfl) T.mgC bI1 vd pass0 (pa_cons pe_int pa_nil)) (pa_cons (pe_make M GI (hr.mono (by decide)) (by rfl) T.mgC bI .nil pass0 (pa_cons pe_int (pa_cons pe_int pa_nil))) (pa_cons (pe_tup (pa_cons (pe_make M GI (hr.mono (by decide)) (by rfl) T.mgC bI1 vd pass0 (pa_cons pe_int pa_nil)) pa_nil)) (pa_cons pe_str (pa_cons pe_str pa_nil)))))))))))))
    (pss_one (ps_ret (pe_ix ix_list (pv 3) (pe_call GD (hr.mono (by decide)) (by rfl) cD.g cD.k cD.b .nil pass0 (pa_cons (pv 0) (pa_cons (pe_callB call_len_seq (by rfl) hln PySem.boot_len (pa_cons (pv 3) pa_nil)) pa_nil))) (fun _ _ => rfl)))))))), ?_⟩
    have up : ∀ {H p o}, H p = none → Fw d H (upd H p o) := fun h => Fw.upd h
    refine ⟨6, rfl, by decide, by decide, for_range (lo := 0) (n := 6) (fun j σ H2 => ∃ v u, σ = [some (.ref d), some v, u, none] ∧ Od C d (2 * j) (Ld j) H2 v ∧ DeckAt H2 d ∧ Fw d H H2) ?_ ?_ ?_⟩
    · exact ⟨.int 0, none, rfl, od_int (by unfold Sz; decide) (Nat.le_refl _), hd, Fw.refl d H⟩
    · rintro j σ H2 hj ⟨v, u, rfl, ov, d2, f2⟩
      have lb := Ld_big j
      have h1 : 2 * j + 2 ≤ 2 * (j + 1) := by omega
      have h2 : 1 * (Ld j + 2) + 3 ≤ Ld (j + 1) := by show _ ≤ 2 * Ld j + 7; omega
      have h3 : 1 * (2 * Ld j + 4) + 3 ≤ Ld (j + 1) := by show _ ≤ 2 * Ld j + 7; omega
      refine ⟨_, rfl, (by show 1 ≤ sizeLine; decide), fun pa ha => ⟨_, rfl, (by show 1 ≤ sizeLine; decide), fun pb hb pc hc => ⟨_, rfl, upd_same, [(.inl 0, v)], rfl, (by show 1 ≤ 15; decide), (by show 3 ≤ sizeLine; decide), fun l hl => ?_⟩⟩⟩
      have em : mergeK [] [((.inl 0 : Key), v)] = [(.inl 0, v)] := rfl
      rw [upd_upd, em] at hl ⊢
      have da := d2.upd (o := .tup [v]) ha
      have db := da.upd (o := .lst [v]) hb
      have dc := db.upd (o := .dK [(.inl 0, v)]) hc
      have dl := dc.upd (o := .lst [.ref pa, .ref pb, .ref pc]) hl
      have oa := od_tup (xs := [v]) ha (d2.ne ha) (al ov al0) h1 h2
      have ob := od_lst (xs := [v]) hb (da.ne hb) (al (ov.fw (up ha)) al0) h1 h2
      have oc := od_dic (kvs := [(.inl 0, v)]) hc (db.ne hc) (fun kv hk => by
        cases List.mem_singleton.mp hk
        exact ⟨(ov.fw (up ha)).fw (up hb), 0, rfl, by unfold Sz; decide⟩) lb h1 h3
      refine ⟨_, rfl, d, 3, rfl, by decide, by decide, dl, fun q q0 q1 H3 d3 e3 => ?_⟩
      have f3 := Fw.draw d3 e3
      have all := f2.trans (((((up (o := .tup [v]) ha).trans (up (o := .lst [v]) hb)).trans (up (o := .dK [(.inl 0, v)]) hc)).trans (up (o := .lst [.ref pa, .ref pb, .ref pc]) hl)).trans f3)
      have hl3 : H3 l = some (.lst [.ref pa, .ref pb, .ref pc]) := (e3 l (dc.ne hl)).trans upd_same
      have els := al (p := Od C d (2 * (j + 1)) (Ld (j + 1)) H3) ((((oa.fw (up hb)).fw (up hc)).fw (up hl)).fw f3) (al (((ob.fw (up hc)).fw (up hl)).fw f3) (al ((oc.fw (up hl)).fw f3) al0))
      obtain ⟨x, hx, mx⟩ := at_in (xs := [.ref pa, .ref pb, .ref pc]) q0 q1
      exact ⟨l, _, _, x, rfl, rfl, SqL.of hl3, hx, x, _, rfl, els x mx, d3, all⟩
    · rintro σ H2 ⟨v, u, rfl, ov, d2, f2⟩
      have p39 : CPow (10 : Int) (39 : Int) := (by show (0:Int) ≤ 39 ∧ (39:Int) ≤ 1000000 ∧ (10:Int).natAbs < 2 ^ 64; decide)
      refine ⟨_, rfl, _, _, rfl, rfl, p39, _, _, rfl, rfl, p39, _, _, rfl, rfl, (by show 0 ≤ sizeLine; decide), fun p1 h1 => ⟨(by show 1 ≤ sizeLine; decide), fun p2 h2 => ⟨(by show 2 ≤ sizeLine; decide), fun p3 h3 => ⟨(by show 0 ≤ sizeLine; decide), fun p4 h4 => ⟨(by show 18 ≤ sizeLine; decide), fun l1 hl1 => ?_⟩⟩⟩⟩⟩
      generalize hxs1 : [V.non, V.bl true, V.bl false, V.int 0, V.int 1, V.int 2, V.int (-1), V.int (10 ^ (39 : Int).toNat), V.int (1 - 10 ^ (39 : Int).toNat), V.str "", V.str "0", V.str "a", V.str "c0", V.str "7/2", V.ref p1, V.ref p2, V.ref p3, V.ref p4] = xs1 at *
      have z0 : Sz 1600 0 := by unfold Sz; decide
      have z1 : Sz 1600 1 := by unfold Sz; decide
      have z2 : Sz 1600 2 := by unfold Sz; decide
      have d3 := d2.upd (o := .tup []) h1
      have d4 := d3.upd (o := .tup [.int 0]) h2
      have d5 := d4.upd (o := .tup [.int 1, .int 2]) h3
      have d6 := d5.upd (o := .lst []) h4
      have d7 := d6.upd (o := .lst xs1) hl1
      have o1 := od_tup (C := C) (N := 0) (M := 1601) (N' := 20) (M' := 300000) h1 (d2.ne h1) al0 (by decide) (by show 0 * (1601 + 2) + 3 ≤ 300000; decide)
      have o2 := od_tup (C := C) (N := 0) (M := 1601) (N' := 20) (M' := 300000) h2 (d3.ne h2) (al (od_int z0 (Nat.le_refl _)) al0) (by decide) (by show 1 * (1601 + 2) + 3 ≤ 300000; decide)
      have o3 := od_tup (C := C) (N := 0) (M := 1601) (N' := 20) (M' := 300000) h3 (d4.ne h3) (al (od_int z1 (Nat.le_refl _)) (al (od_int z2 (Nat.le_refl _)) al0)) (by decide) (by show 2 * (1601 + 2) + 3 ≤ 300000; decide)
      have o4 := od_lst (C := C) (N := 0) (M := 1601) (N' := 20) (M' := 300000) h4 (d5.ne h4) al0 (by decide) (by show 0 * (1601 + 2) + 3 ≤ 300000; decide)
      have oi : ∀ {H : Hp} {i : Int}, Sz 1600 i → Od C d 20 300000 H (.int i) := fun z => od_int z (by decide)
      have os : ∀ {H : Hp} {x : Str}, (x.cps.toList.all (fun c => decide (c < 128)) = true ∧ x.length ≤ 10000 ∧ (reprText x).length ≤ 100) → Od C d 20 300000 H (.str x) := fun z => od_str (asc_lit _ z.1) z.2.1 (Nat.le_trans z.2.2 (by decide)) (Nat.le_trans z.2.2 (by decide))
      have all1 : ∀ v ∈ xs1, Od C d 20 300000 (upd (upd (upd (upd (upd H2 p1 (.tup [])) p2 (.tup [.int 0])) p3 (.tup [.int 1, .int 2])) p4 (.lst [])) l1 (.lst xs1)) v := by
        rw [← hxs1]
        refine al (od_non (by decide)) (al (od_bl (by decide)) (al (od_bl (by decide)) (al (oi z0) (al (oi z1) (al (oi z2) (al (oi (by unfold Sz; decide)) (al (oi (by unfold Sz; decide +kernel)) (al (oi (by unfold Sz; decide +kernel))
          (al (os (by decide +kernel)) (al (os (by decide +kernel)) (al (os (by decide +kernel)) (al (os (by decide +kernel)) (al (os (by decide +kernel)) (al ?_ (al ?_ (al ?_ (al ?_ al0)))))))))))))))))
        all_goals rw [hxs1]
        · exact (((o1.fw (up h2)).fw (up h3)).fw (up h4)).fw (up hl1)
        · exact ((o2.fw (up h3)).fw (up h4)).fw (up hl1)
        · exact (o3.fw (up h4)).fw (up hl1)
        · exact o4.fw (up hl1)
      have len1 : xs1.length = 18 := by rw [← hxs1]; rfl
      have fA := f2.trans ((((((up (o := .tup []) h1).trans (up (o := .tup [.int 0]) h2)).trans (up (o := .tup [.int 1, .int 2]) h3)).trans (up (o := .lst []) h4)).trans (up (o := .lst xs1) hl1)))
      have ovA := (((((ov.fw (up (o := .tup []) h1)).fw (up (o := .tup [.int 0]) h2)).fw (up (o := .tup [.int 1, .int 2]) h3)).fw (up (o := .lst []) h4)).fw (up (o := .lst xs1) hl1)).mono (N' := 20) (M' := 300000) (by decide) (by decide +kernel)
      have hlA : (upd (upd (upd (upd (upd H2 p1 (.tup [])) p2 (.tup [.int 0])) p3 (.tup [.int 1, .int 2])) p4 (.lst [])) l1 (.lst xs1)) l1 = some (.lst xs1) := upd_same
      have nl1 := d6.ne hl1
      generalize upd (upd (upd (upd (upd H2 p1 (.tup [])) p2 (.tup [.int 0])) p3 (.tup [.int 1, .int 2])) p4 (.lst [])) l1 (.lst xs1) = HA at *
      clear o1 o2 o3 o4 d3 d4 d5 d6 h1 h2 h3 h4 hl1
      -- the second row
      refine ⟨_, rfl, (by show 1 ≤ sizeLine; decide), fun p5 h5 => ⟨(by show 1 ≤ sizeLine; decide), fun p6 h6 p7 h7 p8 h8 => ⟨upd_same, [(.inl 0, .int 1)], rfl, (by show 1 ≤ 15; decide), _, rfl, fun x1 dx1 nx1 ndx1 ne1 => ?_⟩⟩⟩
      have em : mergeK [] [((.inl 0 : Key), V.int 1)] = [(.inl 0, V.int 1)] := rfl
      rw [upd_upd, em] at nx1 ndx1 ⊢
      have e5 := d7.upd (o := .lst [.int 0]) h5
      have e6 := e5.upd (o := .lst [.str "a"]) h6
      have e7 := e6.upd (o := .dK []) h7
      have e8 := e7.upd (o := .dK [(.inl 0, .int 1)]) h8
      have o5 := od_lst (C := C) (N := 0) (M := 1601) (N' := 20) (M' := 300000) h5 (d7.ne h5) (al (od_int z0 (Nat.le_refl _)) al0) (by decide) (by show 1 * (1601 + 2) + 3 ≤ 300000; decide)
      have o6 := od_lst (C := C) (N := 0) (M := 1601) (N' := 20) (M' := 300000) h6 (e5.ne h6) (al (od_str (x := "a") (asc_lit _ (by decide +kernel)) (by decide +kernel) (by decide +kernel) (by decide +kernel)) al0) (by decide) (by show 1 * (1601 + 2) + 3 ≤ 300000; decide)
      have o7 := od_dic (C := C) (kvs := []) (N := 0) (M := 1601) (N' := 20) (M' := 300000) h7 (e6.ne h7) (fun _ z => nomatch z) (by decide) (by decide) (by show 0 * (2 * 1601 + 4) + 3 ≤ 300000; decide)
      have o8 := od_dic (C := C) (kvs := [(.inl 0, .int 1)]) (N := 0) (M := 1601) (N' := 20) (M' := 300000) h8 (e7.ne h8) (fun kv hk => by
        cases List.mem_singleton.mp hk
        exact ⟨od_int z1 (Nat.le_refl _), 0, rfl, z0⟩) (by decide) (by decide) (by show 1 * (2 * 1601 + 4) + 3 ≤ 300000; decide)
      have u58 := (((up (o := .lst [.int 0]) h5).trans (up (o := .lst [.str "a"]) h6)).trans (up (o := .dK []) h7)).trans (up (o := .dK [(.inl 0, .int 1)]) h8)
      have o5 := ((o5.fw (up (o := .lst [.str "a"]) h6)).fw (up (o := .dK []) h7)).fw (up (o := .dK [(.inl 0, .int 1)]) h8)
      have o6 := (o6.fw (up (o := .dK []) h7)).fw (up (o := .dK [(.inl 0, .int 1)]) h8)
      have o7 := o7.fw (up (o := .dK [(.inl 0, .int 1)]) h8)
      have ovB := ovA.fw u58
      have fB := fA.trans u58
      have hlB := u58.kp _ _ nl1 hlA
      have all1B : ∀ v ∈ xs1, Od C d 20 300000 _ v := fun v hv => (all1 v hv).fw u58
      generalize upd (upd (upd (upd HA p5 (.lst [.int 0])) p6 (.lst [.str "a"])) p7 (.dK [])) p8 (.dK [(.inl 0, V.int 1)]) = HB at *
      clear e5 e6 e7 h5 h6 h7 h8 u58 all1 hlA
      have s1 := same_make (C := C) (fs := wf (1 / ((Int.gcd 1 1 : Nat) : Int)) (1 / ((Int.gcd 1 1 : Nat) : Int))) nx1 ndx1
      have w1 : WAt C (upd (upd (upd HB dx1 (.own x1)) x1 (.ins C dx1 [])) x1 (.ins C dx1 (wf (1 / ((Int.gcd 1 1 : Nat) : Int)) (1 / ((Int.gcd 1 1 : Nat) : Int))))) x1 (lowT 1 1) (lowB 1 1) := ⟨dx1, upd_same⟩
      refine ⟨x1, dx1, 1, 1, rfl, upd_same, by decide, by decide, by unfold Sz; decide, rfl, fun x2 dx2 nx2 ndx2 ne2 => ?_⟩
      have n1 := e8.ne nx1
      have e9 := e8.same s1
      generalize upd (upd (upd HB dx1 (.own x1)) x1 (.ins C dx1 [])) x1 (.ins C dx1 (wf (1 / ((Int.gcd 1 1 : Nat) : Int)) (1 / ((Int.gcd 1 1 : Nat) : Int)))) = HC at *
      have s2 := same_make (C := C) (fs := wf (7 / ((Int.gcd 7 2 : Nat) : Int)) (2 / ((Int.gcd 7 2 : Nat) : Int))) nx2 ndx2
      have w2 : WAt C (upd (upd (upd HC dx2 (.own x2)) x2 (.ins C dx2 [])) x2 (.ins C dx2 (wf (7 / ((Int.gcd 7 2 : Nat) : Int)) (2 / ((Int.gcd 7 2 : Nat) : Int))))) x2 (lowT 7 2) (lowB 7 2) := ⟨dx2, upd_same⟩
      refine ⟨x2, dx2, 7, 2, rfl, upd_same, by decide, by decide, by unfold Sz; decide, rfl, fun x3 dx3 nx3 ndx3 ne3 => ?_⟩
      have n2 := e9.ne nx2
      have e10 := DeckAt.same e9 s2
      generalize upd (upd (upd HC dx2 (.own x2)) x2 (.ins C dx2 [])) x2 (.ins C dx2 (wf (7 / ((Int.gcd 7 2 : Nat) : Int)) (2 / ((Int.gcd 7 2 : Nat) : Int)))) = HD at *
      have s3 := same_make (C := C) (fs := wf (0 / ((Int.gcd 0 1 : Nat) : Int)) (1 / ((Int.gcd 0 1 : Nat) : Int))) nx3 ndx3
      have w3 : WAt C (upd (upd (upd HD dx3 (.own x3)) x3 (.ins C dx3 [])) x3 (.ins C dx3 (wf (0 / ((Int.gcd 0 1 : Nat) : Int)) (1 / ((Int.gcd 0 1 : Nat) : Int))))) x3 (lowT 0 1) (lowB 0 1) := ⟨dx3, upd_same⟩
      refine ⟨x3, dx3, 0, 1, rfl, upd_same, by decide, by decide, by unfold Sz; decide, rfl, (by show 1 ≤ sizeLine; decide), fun p9 h9 => ⟨(by show 10 ≤ sizeLine; decide), fun l2 hl2 => ?_⟩⟩
      have n3 := e10.ne nx3
      have e11 := DeckAt.same e10 s3
      generalize upd (upd (upd HD dx3 (.own x3)) x3 (.ins C dx3 [])) x3 (.ins C dx3 (wf (0 / ((Int.gcd 0 1 : Nat) : Int)) (1 / ((Int.gcd 0 1 : Nat) : Int)))) = HE at *
      have e12 := e11.upd (o := .tup [.ref x3]) h9
      have sm : ∀ {t b : Int}, 0 ≤ t → 0 < b → Sz 1600 t → Sz 1600 b → Wn 1600 (lowT t b) (lowB t b) := fun a b c d => Wn.low ⟨a, b, c, d⟩
      have m1 := sm (t := 1) (b := 1) (by decide) (by decide) z1 z1
      have m2 := sm (t := 7) (b := 2) (by decide) (by decide) (by unfold Sz; decide) z2
      have m3 := sm (t := 0) (b := 1) (by decide) (by decide) z0 z1
      have o9 := od_tup (C := C) (N := 3) (M := 4000) (N' := 20) (M' := 300000) h9 (e11.ne h9) (al (od_wt w3 m3 n3 (by decide) (by decide)) al0) (by decide) (by show 1 * (4000 + 2) + 3 ≤ 300000; decide)
      have g3 := up (o := .tup [.ref x3]) h9
      have gall := ((Fw.of_same (d := d) s1).trans (Fw.of_same s2)).trans ((Fw.of_same s3).trans g3)
      have q1 := ((od_wt (N := 20) (M := 300000) (d := d) w1 m1 n1 (by decide) (by decide)).fw (Fw.of_same s2)).fw ((Fw.of_same s3).trans g3)
      have q2 := (od_wt (N := 20) (M := 300000) (d := d) w2 m2 n2 (by decide) (by decide)).fw ((Fw.of_same s3).trans g3)
      have hlC := gall.kp _ _ nl1 hlB
      have fC := fB.trans gall
      have els2 := al (p := fun v => Od C d 20 300000 _ v) (o5.fw gall) (al (o6.fw gall) (al (o7.fw gall) (al (o8.fw gall) (al (ovB.fw gall) (al q1 (al q2 (al o9 (al (os (x := "\n") (by decide +kernel)) (al (os (x := "Weight(1)") (by decide +kernel)) al0)))))))))
      have els1 : ∀ v ∈ xs1, Od C d 20 300000 _ v := fun v hv => (all1B v hv).fw gall
      have nl2 := e12.ne hl2
      have e13 := e12.upd (o := .lst [.ref p5, .ref p6, .ref p7, .ref p8, v, .ref x1, .ref x2, .ref p9, .str "\n", .str "Weight(1)"]) hl2
      have g4 := up (o := .lst [.ref p5, .ref p6, .ref p7, .ref p8, v, .ref x1, .ref x2, .ref p9, .str "\n", .str "Weight(1)"]) hl2
      refine ⟨l1, l2, _, _, rfl, rfl, g4.kp _ _ nl1 hlC, upd_same, (by rw [len1]; show 18 + 10 ≤ sizeLine; decide), fun l3 hl3 => ?_⟩
      have g5 := up (o := .lst (xs1 ++ [.ref p5, .ref p6, .ref p7, .ref p8, v, .ref x1, .ref x2, .ref p9, .str "\n", .str "Weight(1)"])) hl3
      have e14 := e13.upd (o := .lst (xs1 ++ [.ref p5, .ref p6, .ref p7, .ref p8, v, .ref x1, .ref x2, .ref p9, .str "\n", .str "Weight(1)"])) hl3
      have nl3 := e13.ne hl3
      have len3 : (xs1 ++ [V.ref p5, .ref p6, .ref p7, .ref p8, v, .ref x1, .ref x2, .ref p9, .str "\n", .str "Weight(1)"]).length = 28 := by rw [List.length_append, len1]; rfl
      refine ⟨_, rfl, _, rfl, _, rfl, l3, _, rfl, .inl (SqL.of upd_same), d, _, rfl, by rw [len3]; decide, by rw [len3]; decide, e14, fun q q0 q1' H9 d9 e9' => ?_⟩
      have g6 := Fw.draw d9 e9'
      obtain ⟨x, hx, mx⟩ := at_in q0 q1'
      refine ⟨l3, _, _, x, rfl, rfl, SqL.of ((e9' l3 nl3).trans upd_same), hx, k x H9 ?_ d9 (fC.trans ((g4.trans g5).trans g6))⟩
      have g46 := (g4.trans g5).trans g6
      rcases List.mem_append.mp mx with z | z
      · exact (els1 x z).fw g46
      · exact (els2 x z).fw g46
end
def spNumH : Sp := fun vs H Q _ => ∃ z : Str, vs = [.str z, .str SIX, .int 6] ∧ z.length ≤ 10000 ∧ ∀ H' : Hp, Same H H' → Q (.bl (numH z.cps.toList)) H'
def spMkN : Sp := fun vs H Q _ => ∃ v : V, vs = [v] ∧ mkV v = true ∧ ∀ H', Same H H' → Q (.int (keyV v)) H'
section
variable {P : Program} {w : World} {K : PySem.W.Frag} {mg : Str → Option Value} {base : Heap}
theorem scNumeral : FnScope ["text", "signs", "most"] ["text", "signs", "most"] (defScope sNumeral) := ⟨rfl, rfl, rfl, by decide +kernel, rfl, by decide +kernel, by decide +kernel⟩
theorem ok_numeral {f fM : Addr} {fd fdM : FuncData} (F : Fun K "is_numeral" "is_numeral" sNumeral f fd) (hln : mg "len" = none) (cM : Cl K mg "made_of" fM fdM ["text", "signs"]) (GM : FnOk P w K mg base CX0 1 fM fdM ["text", "signs"] spMade) :
    FnOk P w K mg base CX0 2 f fd ["text", "signs", "most"] spNumH := by
  refine F.ok scNumeral (fun vs H Q E h => ?_) (fun cdv A outer s H vs Q E hr h => ?_)
  · obtain ⟨z, rfl, _⟩ := h
    rfl
  · obtain ⟨z, rfl, lz, k⟩ := h
    refine ⟨_, (pss_cons (ps_if (pt_not (pt_chain op_le op_le pe_int (pe_callB call_len_str (by rfl) hln PySem.boot_len (pa_cons (pv 0) pa_nil)) (pv 2))) (pss_one (ps_ret pe_bl)) pss_nil)
    (pss_cons (ps_if (PW.pt (pw_and (pt_cmpR op_eq (pe_ix ix_str (pv 0) pe_int (fun _ _ => rfl)) pe_str (nomark _)) (pw_and1 (pt_cmpR op_ne (pv 0) pe_str (nomark _))))) (pss_one (ps_ret pe_bl)) pss_nil)
    (pss_one (ps_ret (pe_call GM (hr.mono (by decide)) (by rfl) cM.g cM.k cM.b .nil pass0 (pa_cons (pv 0) (pa_cons (pv 1) pa_nil))))))), ?_⟩
    have hz : z.length ≤ sizeLine := Nat.le_trans lz (by decide)
    have el : z.length = z.cps.toList.length := TL.len_tl z
    have kk := k H (Same.refl H)
    unfold numH at k kk
    refine ⟨_, rfl, z, rfl, hz, _, _, rfl, rfl, _, rfl, ?_⟩
    by_cases h1 : 1 ≤ z.length
    · rw [decide_eq_true (show (1 : Int) ≤ (z.length : Nat) by omega)]
      rw [decide_eq_true (show 1 ≤ z.cps.toList.length by omega)] at k kk
      refine iteT ⟨_, rfl, _, _, rfl, rfl, _, rfl, ?_⟩
      by_cases h2 : z.length ≤ 6
      · rw [decide_eq_true (show (z.length : Int) ≤ 6 by omega)]
        rw [decide_eq_true (show z.cps.toList.length ≤ 6 by omega)] at k kk
        refine iteF ?_
        obtain ⟨c, r, hcr⟩ := first_of h1
        refine ⟨_, rfl, z, 0, c, rfl, rfl, hz, atI_nat (j := 0) (by rw [hcr]; rfl), rfl, _, rfl, ?_⟩
        have last : (!(decide (z.cps.toList.head? = some 48) && !decide (z.cps.toList = [48]))) = true → ∀ H', Same H H' → Q (.bl (z.cps.toList.all (inL SIX))) H' := fun e H' s => by
          have q := k H' s
          rw [e] at q
          exact q
        refine ite2 (fun h3 => ?_) (fun h3 => ?_)
        · have hc : c = 48 := zero_sign (by injection of_decide_eq_true h3)
          have hh : z.cps.toList.head? = some 48 := by rw [hcr, hc]; rfl
          refine ⟨_, rfl, rfl, _, rfl, ?_⟩
          by_cases h4 : z = "0"
          · have h5 : z.cps.toList = [48] := by rw [h4]; decide +kernel
            rw [decide_eq_true (show V.str z = V.str "0" by rw [h4])]
            refine iteF ?_
            refine ⟨_, rfl, _, rfl, z, SIX, rfl, lz, last ?_⟩
            rw [decide_eq_true hh, decide_eq_true h5]
            rfl
          · have h5 : ¬ z.cps.toList = [48] := fun e => h4 (TL.ext_tl (by
              have e0 : TL.tl ("0" : Str) = [48] := by decide +kernel
              rw [e0]
              exact e))
            rw [decide_eq_false (show ¬ V.str z = V.str "0" from fun q => h4 (by injection q))]
            refine iteT ?_
            rw [decide_eq_true hh, decide_eq_false h5] at kk
            exact kk
        · refine ⟨_, rfl, _, rfl, z, SIX, rfl, lz, last ?_⟩
          have hh : ¬ z.cps.toList.head? = some 48 := fun e => h3 (by
            have : c = 48 := by rw [hcr] at e; exact Option.some.inj e
            rw [this]
            exact decide_eq_true (by rw [sign_zero]))
          rw [decide_eq_false hh]
          rfl
      · rw [decide_eq_false (show ¬ (z.length : Int) ≤ 6 by omega)]
        rw [decide_eq_false (show ¬ z.cps.toList.length ≤ 6 by omega)] at kk
        exact iteT kk
    · rw [decide_eq_false (show ¬ (1 : Int) ≤ (z.length : Nat) by omega)]
      rw [decide_eq_false (show ¬ 1 ≤ z.cps.toList.length by omega)] at kk
      exact iteF ⟨_, rfl, iteT kk⟩
theorem scMark : FnScope ["thing"] ["thing"] (defScope sMark) := ⟨rfl, rfl, rfl, by decide +kernel, rfl, by decide +kernel, by decide +kernel⟩
theorem ok_mark {f fN : Addr} {fd fdN : FuncData} {zT : Str} {tT tM : Tok} {zM : Int} (F : Fun K "is_mark" "is_mark" sMark f fd) (B : Blt mg) (hst : mg "str" = none) (cN : Cl K mg "is_numeral" fN fdN ["text", "signs", "most"]) (GN : FnOk P w K mg base CX0 2 fN fdN ["text", "signs", "most"] spNumH)
    (hT : mg "SIXTEENS" = some (.str zT tT)) (eT : zT = SIX) (hM : mg "MOST_FIGURES" = some (.int zM tM)) (eM : zM = 6) : FnOk P w K mg base CX0 3 f fd ["thing"] (spQ K mkV) := by
  subst eT eM
  refine F.ok scMark (fun vs H Q E h => ?_) (fun cdv A outer s H vs Q E hr h => ?_)
  · obtain ⟨v, rfl, _⟩ := h
    rfl
  · obtain ⟨v, rfl, wh, ⟨tv, ty, ks⟩, tk, k⟩ := h
    refine ⟨_, (pss_cons (ps_if (pt_not (pt_val (pe_callB call_isi (by rfl) B.isi (by decide +kernel) (pa_cons (pv 0) (pa_cons (pe_bltn (v := .ty "str") (by rfl) hst (by decide +kernel) rfl) pa_nil))))) (pss_one (ps_ret pe_bl)) pss_nil)
    (pss_one (ps_ret (pe_and (pe_bm PySem.F.plainAttrs_str PySem.F.slot_str_startswith PySem.F.type_str_startswith mt_startswith (pv 0) (pa_cons pe_str pa_nil)) (pe_one (pe_call GN (hr.mono (by decide)) (by rfl) cN.g cN.k cN.b .nil pass0 (pa_cons (pe_slice sl_str (pv 0) (po_some pe_int) po_none) (pa_cons (pe_glob (v := .str SIX) rfl hT ⟨_, rfl⟩) (pa_cons (pe_glob (v := .int 6) rfl hM ⟨_, rfl⟩) pa_nil))))))))), ?_⟩
    refine ⟨_, rfl, _, .ty "str", _, _, isS v, rfl, .ty _, ty, ks, isS v, rfl, ?_⟩
    by_cases hs : isS v = true
    · obtain ⟨z, rfl⟩ : ∃ z, v = .str z := by cases v <;> first | exact ⟨_, rfl⟩ | cases hs
      obtain ⟨az, lz⟩ := tk z rfl
      refine iteF ?_
      have hc := cut_one z
      have lc : (cutS z (some 1) none).length ≤ 10000 := Nat.le_trans (cutS_length z _ _) lz
      have big : z.length ≤ sizeLine := Nat.le_trans lz (by decide)
      refine ⟨_, rfl, rfl, z, "c", rfl, rfl, _, rfl, ?_⟩
      rw [starts_c]
      have ev : mkV (.str z) = (decide (z.cps.toList.head? = some 99) && numH (z.cps.toList.drop 1)) := by
        show mkL z.cps.toList = _
        cases e : z.cps.toList with
        | nil => rfl
        | cons c r =>
          show (decide (c = 99) && numH r) = (decide (some c = some 99) && numH r)
          congr 1
          exact decide_eq_decide.mpr ⟨fun h => by rw [h], fun h => Option.some.inj h⟩
      rw [ev] at k
      by_cases h1 : z.cps.toList.head? = some 99
      · rw [decide_eq_true h1] at k ⊢
        refine iteT ⟨_, rfl, 1, rfl, z, rfl, big, _, rfl, lc, fun H1 s1 => ?_⟩
        rw [hc]
        exact k H1 s1
      · rw [decide_eq_false h1] at k ⊢
        exact iteF (k H (Same.refl H))
    · have hs' : isS v = false := by simpa using hs
      rw [hs']
      have e : mkV v = false := by cases v <;> first | rfl | cases hs'
      have kk := k H (Same.refl H)
      rw [e] at kk
      exact iteT kk
end
end K
namespace K
open PySem L2 Rp
theorem iteNT {c A B : Prop} [Decidable c] (hc : ¬ c) (h : A) : if (!decide c) = true then A else B := by
  rw [decide_eq_false hc]
  exact iteT h
theorem numH_of {l : List Nat} (h1 : 1 ≤ l.length) (h2 : l.length ≤ 6) (h3 : l.head? = some 48 → l = [48]) (h4 : l.all (inL SIX) = true) : numH l = true := by
  unfold numH
  rw [decide_eq_true h1, decide_eq_true h2, h4]
  by_cases h : l.head? = some 48
  · rw [decide_eq_true h, decide_eq_true (h3 h)]
    rfl
  · rw [decide_eq_false h]
    rfl
theorem numH_zero {l : List Nat} (h : numH l = true) (h0 : l.head? = some 48) : l = [48] := by
  unfold numH at h
  rw [decide_eq_true h0] at h
  refine Classical.byContradiction fun n => ?_
  rw [decide_eq_false n] at h
  simp at h
theorem sign_of {c d : Nat} (h : (V.str ⟨#[c]⟩) = V.str ⟨#[d]⟩) : c = d := by
  have e : (⟨#[c]⟩ : Str) = ⟨#[d]⟩ := by injection h
  have e2 := congrArg TL.tl e
  exact (List.cons.inj (show [c] = [d] from e2)).1
theorem c_sign : ("c" : Str) = ⟨#[99]⟩ := by decide +kernel
theorem z_sign : ("0" : Str) = ⟨#[48]⟩ := by decide +kernel
theorem mkV_str {v : V} (h : mkV v = true) : ∃ (z : Str) (r : List Nat), v = .str z ∧ z.cps.toList = 99 :: r ∧ numH r = true := by
  cases v with
  | str z =>
    have h : mkL z.cps.toList = true := h
    cases e : z.cps.toList with
    | nil => rw [e] at h; cases h
    | cons c r =>
      rw [e] at h
      have h2 := (Bool.and_eq_true _ _).mp h
      exact ⟨z, r, rfl, by rw [e, of_decide_eq_true h2.1], h2.2⟩
  | _ => cases h
section
variable {P : Program} {w : World} {K : PySem.W.Frag} {mg : Str → Option Value} {base : Heap}
theorem scNumber : FnScope ["mark"] ["mark"] (defScope sNumber) := ⟨rfl, rfl, rfl, by decide +kernel, rfl, by decide +kernel, by decide +kernel⟩
theorem ok_mknum {f : Addr} {fd : FuncData} (F : Fun K "mark_number" "mark_number" sNumber f fd) (B : Blt mg) : FnOk P w K mg base CX0 1 f fd ["mark"] spMkN := by
  refine F.ok scNumber (fun vs H Q E h => ?_) (fun cdv A outer s H vs Q E hr h => ?_)
  · obtain ⟨v, rfl, _⟩ := h
    rfl
  · obtain ⟨v, rfl, hm, k⟩ := h
    obtain ⟨z, r, rfl, ez, hr2⟩ := mkV_str hm
    obtain ⟨hx, l1, l6⟩ := numH_hex hr2
    have hc : (cutS z (some 1) none).cps.toList = r := by rw [cut_one, ez]; rfl
    have lz : z.length ≤ 7 := by
      have := TL.len_tl z
      have e2 : (TL.tl z).length = r.length + 1 := by show z.cps.toList.length = _; rw [ez]; rfl
      omega
    refine ⟨_, (pss_one (ps_ret (pe_callTy call_int_hex (by rfl) B.int (by decide +kernel) (pa_cons (pe_slice sl_str (pv 0) (po_some pe_int) po_none) (pa_cons pe_int pa_nil))))), ?_⟩
    refine ⟨_, rfl, 1, rfl, z, rfl, Nat.le_trans lz (by decide), r, ?_, ?_, by omega, fun c h => six_hex (hx c h), ?_⟩
    · rw [← hc, SX.S_tl]
    · intro e
      rw [e] at l1
      exact absurd l1 (by decide)
    · have q := k H (Same.refl H)
      have ek : keyV (.str z) = ((Hx.hexNum r : Nat) : Int) := by
        show ((Hx.hexNum (z.cps.toList.drop 1) : Nat) : Int) = _
        rw [ez]
        rfl
      rw [ek] at q
      exact q
theorem scLNumber : FnScope ["_law_mark_here", "_law_number_here", "_law_sign_here"] ["_law_mark_here"] (defScope sLNumber) := ⟨rfl, rfl, rfl, by decide +kernel, rfl, by decide +kernel, by decide +kernel⟩
theorem ok_lnum {f : Addr} {fd : FuncData} (F : Fun K "_law_number" "_law_number" sLNumber f fd) : FnOk P w K mg base CX0 1 f fd ["_law_mark_here"] spMkN := by
  refine F.ok scLNumber (fun vs H Q E h => ?_) (fun cdv A outer s H vs Q E hr h => ?_)
  · obtain ⟨v, rfl, _⟩ := h
    rfl
  · obtain ⟨v, rfl, hm, k⟩ := h
    obtain ⟨z, r, rfl, ez, hr2⟩ := mkV_str hm
    obtain ⟨hx, l1, l6⟩ := numH_hex hr2
    have hc : (cutS z (some 1) none).cps.toList = r := by rw [cut_one, ez]; rfl
    have lz : z.length ≤ 7 := by
      have := TL.len_tl z
      have e2 : (TL.tl z).length = r.length + 1 := by show z.cps.toList.length = _; rw [ez]; rfl
      omega
    refine ⟨_, (pss_cons (ps_set (i := 1) scLNumber.nd rfl (Or.inl rfl) pe_int)
    (pss_cons (ps_for PassesOwn.never rfl (pi_str (pe_slice sl_str (pv 0) (po_some pe_int) po_none)) (pg_name (i := 2) scLNumber.nd rfl (Or.inl rfl))
      (pss_one (ps_set (i := 1) scLNumber.nd rfl (Or.inl rfl) (pe_op op_add (pe_op op_mul pe_int (pv 1)) (pe_bmS PySem.F.plainAttrs_str PySem.F.slot_str_index PySem.F.type_str_index (mt_indexX (W := fun _ _ _ _ => False) rfl takes0) pe_str (pa_cons (pv 2) pa_nil))))))
    (pss_one (ps_ret (pv 1))))), ?_⟩
    refine ⟨_, rfl, 1, rfl, z, rfl, Nat.le_trans lz (by decide), ?_⟩
    refine ⟨_, rfl, for_str (fun i σ H2 => H2 = H ∧ ∃ u, σ = [some (.str z), some (.int ((Hx.hexNum (r.take i) : Nat) : Int)), u]) ⟨rfl, none, rfl⟩ ?_ ?_⟩
    · rintro i c σ H2 hc2 ⟨rfl, u, rfl⟩
      have hri : r[i]? = some c := by rw [← hc, Array.getElem?_toList]; exact hc2
      have hcx := hx c (List.mem_of_getElem? hri)
      have hi := index_six c (by have q := of_decide_eq_true hcx; rw [six_list] at q; exact q)
      have e : ((Hx.hexNum (r.take (i + 1)) : Nat) : Int) = 16 * ((Hx.hexNum (r.take i) : Nat) : Int) + ((Hx.hv c : Nat) : Int) := by
        rw [hex_take hri]
        omega
      refine ⟨_, rfl, _, _, rfl, rfl, .inl (by decide), rfl, _, rfl, _, _, rfl, rfl, fun k hk => ?_, fun hn => ?_⟩
      · have ek := Option.some.inj (hi.symm.trans hk)
        subst ek
        exact ⟨_, _, rfl, rfl, rfl, _, by rw [e]; rfl⟩
      · rw [hi] at hn
        cases hn
    · rintro σ H2 ⟨rfl, u, rfl⟩
      have et : r.take (cutS z (some 1) none).cps.size = r := by
        have : (cutS z (some 1) none).cps.size = r.length := by rw [← hc]; simp
        rw [this]
        exact List.take_length
      rw [et]
      have q := k H2 (Same.refl H2)
      have ek : keyV (.str z) = ((Hx.hexNum r : Nat) : Int) := by
        show ((Hx.hexNum (z.cps.toList.drop 1) : Nat) : Int) = _
        rw [ez]
        rfl
      rw [ek] at q
      exact ⟨_, rfl, q⟩
theorem scLIsMark : FnScope ["_law_thing", "_law_sign_here"] ["_law_thing"] (defScope sLIsMark) := ⟨rfl, rfl, rfl, by decide +kernel, rfl, by decide +kernel, by decide +kernel⟩
theorem ok_lismark {f : Addr} {fd : FuncData} (F : Fun K "_law_is_mark" "_law_is_mark" sLIsMark f fd) (B : Blt mg) (hst : mg "str" = none) (hln : mg "len" = none) : FnOk P w K mg base CX0 3 f fd ["_law_thing"] (spQ K mkV) := by
  refine F.ok scLIsMark (fun vs H Q E h => ?_) (fun cdv A outer s H vs Q E hr h => ?_)
  · obtain ⟨v, rfl, _⟩ := h
    rfl
  · obtain ⟨v, rfl, wh, ⟨tv, ty, ks⟩, tk, k⟩ := h
    refine ⟨_, (pss_cons (ps_if (PW.pt (pw_or (pt_not (pt_val (pe_callB call_isi (by rfl) B.isi (by decide +kernel) (pa_cons (pv 0) (pa_cons (pe_bltn (v := .ty "str") (by rfl) hst (by decide +kernel) rfl) pa_nil))))) (pw_or (pt_not (pt_chain op_lt op_lt pe_int (pe_callB call_len_str (by rfl) hln PySem.boot_len (pa_cons (pv 0) pa_nil)) pe_int)) (pw_or1 (pt_cmpR op_ne (pe_ix ix_str (pv 0) pe_int (fun _ _ => rfl)) pe_str (nomark _)))))) (pss_one (ps_ret pe_bl)) pss_nil)
    (pss_cons (ps_if (pt_cmpR (op_neD hr.units) (pe_lc (own := [("_law_sign_here", 1)]) (g := gName 1) (tt := _) (by rfl) scLIsMark.nd (pi_str (pe_slice sl_str (pv 0) (po_some pe_int) po_none)) (blkOk_by (own := [("_law_sign_here", 1)]) (N := ["_law_thing", "_law_sign_here"]) (sc := defScope sLIsMark) (by decide +kernel)) (fun _ _ _ _ _ => (pg_name (i := 1) scLIsMark.nd rfl (Or.inl rfl))) (fun _ _ _ _ _ => pts_one (pt_cmpR op_notIn_sign (pv 1) pe_str (by with_unfolding_all rfl))) (fun _ _ _ _ _ => (pv 1))) (pe_lst pa_nil) (nomark _)) (pss_one (ps_ret pe_bl)) pss_nil)
    (pss_one (ps_ret (pe_or (pe_cmpR op_eq (pv 0) pe_str (nomark _)) (pe_one (pe_cmpR op_ne (pe_ix ix_str (pv 0) pe_int (fun _ _ => rfl)) pe_str (nomark _)))))))), ?_⟩
    refine ⟨_, rfl, _, .ty "str", _, _, isS v, rfl, .ty _, ty, ks, isS v, rfl, ?_⟩
    by_cases hs : isS v = true
    rotate_left
    · have hs' : isS v = false := by simpa using hs
      rw [hs']
      have e : mkV v = false := by cases v <;> first | rfl | cases hs'
      have kk := k H (Same.refl H)
      rw [e] at kk
      exact iteT kk
    obtain ⟨z, rfl⟩ : ∃ z, v = .str z := by cases v <;> first | exact ⟨_, rfl⟩ | cases hs
    obtain ⟨az, lz⟩ := tk z rfl
    have hz : z.length ≤ sizeLine := Nat.le_trans lz (by decide)
    have el : z.length = z.cps.toList.length := TL.len_tl z
    have no : ∀ H', Same H H' → mkL z.cps.toList = false → Q (.bl false) H' := fun H' s e => by
      have q := k H' s
      have e2 : mkV (.str z) = false := e
      rw [e2] at q
      exact q
    have yes : ∀ H', Same H H' → mkL z.cps.toList = true → Q (.bl true) H' := fun H' s e => by
      have q := k H' s
      have e2 : mkV (.str z) = true := e
      rw [e2] at q
      exact q
    have parts : mkL z.cps.toList = true → ∃ r, z.cps.toList = 99 :: r ∧ numH r = true := fun h => by
      obtain ⟨z2, r, e, e2, e3⟩ := mkV_str (v := .str z) h
      cases e
      exact ⟨r, e2, e3⟩
    refine iteF ⟨_, rfl, z, rfl, hz, _, _, rfl, rfl, _, rfl, ?_⟩
    by_cases h1 : 2 ≤ z.length
    rotate_left
    · rw [decide_eq_false (show ¬ (1 : Int) < (z.length : Nat) by omega)]
      refine iteF ⟨_, rfl, iteT (no H (Same.refl H) ?_)⟩
      refine Bool.eq_false_iff.mpr fun h => ?_
      obtain ⟨r, e1, e2⟩ := parts h
      have := (numH_hex e2).2.1
      rw [e1, List.length_cons] at el
      omega
    rw [decide_eq_true (show (1 : Int) < (z.length : Nat) by omega)]
    refine iteT ⟨_, _, rfl, rfl, _, rfl, ?_⟩
    by_cases h2 : z.length ≤ 7
    rotate_left
    · rw [decide_eq_false (show ¬ (z.length : Int) < 8 by omega)]
      refine iteT (no H (Same.refl H) ?_)
      refine Bool.eq_false_iff.mpr fun h => ?_
      obtain ⟨r, e1, e2⟩ := parts h
      have := (numH_hex e2).2.2
      rw [e1, List.length_cons] at el
      omega
    rw [decide_eq_true (show (z.length : Int) < 8 by omega)]
    refine iteF ?_
    obtain ⟨c, r, hcr⟩ := first_of (z := z) (by omega)
    refine ⟨_, rfl, z, 0, c, rfl, rfl, hz, atI_nat (j := 0) (by rw [hcr]; rfl), rfl, ?_⟩
    rw [c_sign]
    refine ⟨_, rfl, ?_⟩
    by_cases h3 : c = 99
    rotate_left
    · refine iteNT (fun q => h3 (sign_of q)) (no H (Same.refl H) ?_)
      rw [hcr]
      show (decide (c = 99) && numH r) = false
      rw [decide_eq_false h3]
      rfl
    subst h3
    refine iteNS rfl ?_
    have hc : (cutS z (some 1) none).cps.toList = r := by rw [cut_one, hcr]; rfl
    have ay := asc_cut az (some 1) none
    have ly : (cutS z (some 1) none).length ≤ 7 := Nat.le_trans (cutS_length z _ _) h2
    refine ⟨_, rfl, 1, rfl, z, rfl, hz, ?_⟩
    generalize cutS z (some 1) none = y at *
    refine ⟨_, rfl, fun D hD => ?_⟩
    have sub : ∀ l : List Nat, (∀ c ∈ l, c < 128) → ∀ g ∈ (l.filter fun c => !inL SIX c).map (fun c => (⟨#[c]⟩ : Str)), Asc g := fun l hl g hg => by
      obtain ⟨c, hc, rfl⟩ := List.mem_map.mp hg
      exact asc_one (hl c (List.mem_filter.mp hc).1)
    refine lc_str (fun i H2 => Same H H2 ∧ H2 D = some (.lst ((((y.cps.toList.take i).filter fun c => !inL SIX c).map (fun c => (⟨#[c]⟩ : Str))).map V.str))) ?_ ?_ ?_
    · exact ⟨same_upd hD, upd_same⟩
    · rintro i c H2 hc ⟨s2, hA⟩
      have hi : i < y.cps.size := (Array.getElem?_eq_some_iff.mp hc).1
      have hc' : y.cps.toList[i]? = some c := by rw [Array.getElem?_toList]; exact hc
      refine ⟨rfl, _, rfl, c, _, rfl, rfl, _, rfl, ?_⟩
      have et : y.cps.toList.take (i + 1) = y.cps.toList.take i ++ [c] := by rw [List.take_add_one, hc']; rfl
      by_cases hm : c ∈ (SIX : Str).cps.toList
      · rw [decide_eq_true hm]
        refine iteF ⟨s2, ?_⟩
        rw [et, List.filter_append]
        have hb : inL SIX c = true := decide_eq_true hm
        have : [c].filter (fun c => !inL SIX c) = [] := by simp [hb]
        rw [this, List.append_nil]
        exact hA
      · rw [decide_eq_false hm]
        refine iteT ⟨_, rfl, _, hA, ?_, ?_, ?_⟩
        · rw [List.length_map, List.length_map]
          have l1 := List.length_filter_le (fun c => !inL SIX c) (y.cps.toList.take i)
          rw [List.length_take] at l1
          have l2 : i < y.length := hi
          have l3 : (sizeLine : Nat) ≥ 10001 := by decide
          omega
        · exact fun u o e => by
            rw [upd_ne (ne_of_none e hD)]
            exact s2 u o e
        · rw [upd_same, et, List.filter_append]
          have hb : inL SIX c = false := decide_eq_false hm
          have : [c].filter (fun c => !inL SIX c) = [c] := by simp [hb]
          rw [this, List.map_append, List.map_append]
          rfl
    · rintro H2 ⟨s2, hA⟩
      have et : y.cps.toList.take y.cps.size = y.cps.toList := List.take_of_length_le (by simp)
      rw [et] at hA
      refine ⟨Nat.zero_le _, fun q hq => ?_⟩
      refine ⟨.list (((y.cps.toList.filter fun c => !inL SIX c).map (fun c => (⟨#[c]⟩ : Str))).map PyData.str), .list [], .lst (SqL.of (same_upd hq _ _ hA)) (dp_strs _), .lst (SqL.of upd_same) .nil, shaped_strs (sub _ ay), rfl, _, rfl, ?_⟩
      have ev : PyData.eqv (.list (((y.cps.toList.filter fun c => !inL SIX c).map (fun c => (⟨#[c]⟩ : Str))).map PyData.str)) (.list []) = r.all (inL SIX) := by
        show PyData.eqvAll _ [] = _
        rw [eqvAll_strs, Bool.eq_iff_iff, decide_eq_true_iff, List.map_eq_nil_iff, List.filter_eq_nil_iff, List.all_eq_true, hc]
        simp
      rw [ev]
      have s3 := s2.trans (same_upd (o := .lst []) hq)
      by_cases h4 : r.all (inL SIX) = true
      rotate_left
      · have h5 : r.all (inL SIX) = false := by simpa using h4
        rw [h5]
        refine iteT (no _ s3 ?_)
        refine Bool.eq_false_iff.mpr fun h => h4 ?_
        obtain ⟨r2, e1, e2⟩ := parts h
        rw [hcr] at e1
        rw [(List.cons.inj e1).2]
        exact List.all_eq_true.mpr (numH_hex e2).1
      rw [h4]
      refine iteF ?_
      have lr : z.length = r.length + 1 := by rw [el, hcr]; rfl
      have ml : ∀ b, numH r = b → mkL z.cps.toList = b := fun b e => by
        rw [hcr]
        show (decide (99 = 99) && numH r) = b
        rw [e]
        rfl
      refine ⟨_, rfl, rfl, _, rfl, ?_⟩
      by_cases h5 : z = "c0"
      · rw [decide_eq_true (show V.str z = V.str "c0" by rw [h5])]
        refine iteT (yes _ s3 (ml true ?_))
        have e0 : ("c0" : Str).cps.toList = [99, 48] := by decide +kernel
        rw [h5, e0] at hcr
        rw [← (List.cons.inj hcr).2]
        decide +kernel
      · rw [decide_eq_false (show ¬ V.str z = V.str "c0" from fun q => h5 (by injection q))]
        refine iteF ?_
        obtain ⟨d, r2, hr2⟩ : ∃ d r2, r = d :: r2 := by
          cases e : r with
          | nil => rw [e] at lr; simp at lr; omega
          | cons d r2 => exact ⟨d, r2, rfl⟩
        refine ⟨_, rfl, z, 1, d, rfl, rfl, hz, atI_nat (j := 1) (by rw [hcr, hr2]; rfl), ?_⟩
        rw [z_sign]
        refine ⟨rfl, ?_⟩
        by_cases h6 : d = 48
        · have q := no _ s3 (ml false (Bool.eq_false_iff.mpr fun h => h5 (TL.ext_tl (by
            have e0 : TL.tl ("c0" : Str) = [99, 48] := by decide +kernel
            have e1 := numH_zero h (by rw [hr2, h6]; rfl)
            rw [e0]
            show z.cps.toList = _
            rw [hcr, e1]))))
          subst h6
          exact q
        · have q := yes _ s3 (ml true (numH_of (by omega) (by omega) (fun e => absurd (by rw [hr2] at e; exact Option.some.inj e) h6) h4))
          have e2 : decide (V.str ⟨#[d]⟩ = V.str ⟨#[48]⟩) = false := decide_eq_false fun q => h6 (sign_of q)
          show Q (.bl (!decide (V.str ⟨#[d]⟩ = V.str ⟨#[48]⟩))) _
          rw [e2]
          exact q
end
end K
namespace K
open PySem L2 Rp
def dg (n : Nat) : Nat := if n < 10 then 48 + n else 87 + n
theorem six_get : ∀ n, n < 16 → (SIX : Str).cps.toList[n]? = some (dg n) := by decide +kernel
theorem dg_in : ∀ n, n < 16 → inL SIX (dg n) = true := by decide +kernel
theorem dg_asc : ∀ n, n < 16 → dg n < 128 := by decide +kernel
theorem dg_zero : ∀ n, n < 16 → dg n = 48 → n = 0 := by decide +kernel
theorem six_at {q : Int} (h0 : 0 ≤ q) (h1 : q < 16) : atI (SIX : Str).cps.toList q = some (dg q.toNat) := by
  have := atI_nat (six_get q.toNat (by omega))
  rw [Int.toNat_of_nonneg h0] at this
  exact this
/-- so many figures, so great a rest -/
def Rest (n : Int) (m : Nat) : Prop := (m = 1 ∧ n < 16777216) ∨ (m = 2 ∧ 1 ≤ n ∧ n < 1048576) ∨ (m = 3 ∧ 1 ≤ n ∧ n < 65536) ∨ (m = 4 ∧ 1 ≤ n ∧ n < 4096) ∨ (m = 5 ∧ 1 ≤ n ∧ n < 256) ∨ (m = 6 ∧ 1 ≤ n ∧ n < 16)
def spSix : Sp := fun vs H Q _ => ∃ n : Int, vs = [.int n] ∧ 0 ≤ n ∧ n < 16777216 ∧ ∀ y : Str, Asc y → numH y.cps.toList = true → Q (.str y) H
def spLMark : Sp := fun vs H Q _ => ∃ d : Addr, vs = [.ref d] ∧ DeckAt H d ∧ ∀ (z : Str) (H' : Hp), Asc z → mkL z.cps.toList = true → z.length ≤ 7 → DeckAt H' d → Fw d H H' → Q (.str z) H'
section
variable {P : Program} {w : World} {K : PySem.W.Frag} {mg : Str → Option Value} {base : Heap}
theorem scSix : FnScope ["_law_number_here", "_law_found"] ["_law_number_here"] (defScope sSix) := ⟨rfl, rfl, rfl, by decide +kernel, rfl, by decide +kernel, by decide +kernel⟩
theorem ok_six {f : Addr} {fd : FuncData} (F : Fun K "_law_sixteens" "_law_sixteens" sSix f fd) : FnOk P w K mg base CX0 1 f fd ["_law_number_here"] spSix := by
  refine F.ok scSix (fun vs H Q E h => ?_) (fun cdv A outer s H vs Q E hr h => ?_)
  · obtain ⟨n, rfl, _⟩ := h
    rfl
  · obtain ⟨n, rfl, n0, n1, k⟩ := h
    refine ⟨_, (pss_cons (ps_set (i := 1) scSix.nd rfl (Or.inl rfl) (pe_ix ix_str pe_str (pe_op op_mod (pv 0) pe_int) (fun _ _ => rfl)))
    (pss_cons (ps_while PassesOwn.never (pt_cmpR op_gt (pv 0) pe_int (nomark _)) (pss_cons (ps_set (i := 0) scSix.nd rfl (Or.inl rfl) (pe_op op_fdiv (pv 0) pe_int))
    (pss_one (ps_set (i := 1) scSix.nd rfl (Or.inl rfl) (pe_op op_add_str (pe_ix ix_str pe_str (pe_op op_mod (pv 0) pe_int) (fun _ _ => rfl)) (pv 1))))))
    (pss_one (ps_ret (pv 1))))), ?_⟩
    have em : ∀ n : Int, n.fmod 16 = n % 16 := fun n => Int.fmod_eq_emod_of_nonneg n (by decide)
    have ed : ∀ n : Int, n.fdiv 16 = n / 16 := fun n => Int.fdiv_eq_ediv_of_nonneg n (by decide)
    have at16 : ∀ n : Int, atI (SIX : Str).cps.toList (n % 16) = some (dg (n % 16).toNat) := fun n => six_at (by omega) (by omega)
    have sl : (SIX : Str).length ≤ sizeLine := by decide +kernel
    refine ⟨_, rfl, _, _, rfl, rfl, (by show (0:Int) < 16; decide), SIX, _, _, rfl, rfl, sl, at16 n, ?_⟩
    refine while_by (fun σ H' => H' = H ∧ ∃ (m : Int) (y : Str), σ = [some (.int m), some (.str y)] ∧ 0 ≤ m ∧ Asc y ∧ y.cps.toList.all (inL SIX) = true ∧ y.cps.toList.head? = some (dg (m % 16).toNat) ∧ Rest m y.length) (fun σ _ => match σ with | [some (.int m), _] => m.toNat | _ => 0)
      ⟨rfl, n, _, rfl, n0, asc_one (dg_asc _ (by omega)), by show (inL SIX (dg (n % 16).toNat) && true) = true; rw [dg_in _ (by omega)]; rfl, rfl, .inl ⟨rfl, n1⟩⟩ ?_ ?_
    · rintro σ H' ⟨rfl, m, y, rfl, m0, ay, al, hh, rs⟩
      refine ⟨_, rfl, _, _, rfl, rfl, _, rfl, ?_⟩
      have ly : y.length ≤ 6 := by
        unfold Rest at rs
        omega
      refine ite2 (fun h => ?_) (fun h => ?_)
      · have h' : 15 < m := by simpa using h
        refine ⟨_, rfl, _, _, rfl, rfl, ⟨by decide, by decide⟩, ?_⟩
        refine ⟨_, rfl, _, _, rfl, rfl, (by show (0:Int) < 16; decide), SIX, _, _, rfl, rfl, sl, at16 (m / 16), _, rfl, _, _, rfl, rfl, Nat.le_trans (show _ ≤ 7 by show 1 + y.length ≤ 7; omega) (by decide), ?_⟩
        have et : ((⟨#[dg (m / 16 % 16).toNat]⟩ : Str) ++ y).cps.toList = dg (m / 16 % 16).toNat :: y.cps.toList := TL.tl_append _ _
        refine ⟨⟨rfl, m / 16, _, rfl, by omega, asc_app (asc_one (dg_asc _ (by omega))) ay, ?_, ?_, ?_⟩, ?_⟩
        · rw [et, List.all_cons, dg_in _ (by omega), al]
          rfl
        · rw [et]
          rfl
        · rw [append_len]
          show Rest (m / 16) (1 + y.length)
          unfold Rest at rs ⊢
          omega
        · show (m / 16).toNat < m.toNat
          omega
      · have h' : m ≤ 15 := by
          have : ¬ 15 < m := by simpa using h
          omega
        refine ⟨_, rfl, k y ay (numH_of ?_ ?_ (fun e => ?_) al)⟩
        · rw [← TL.len_tl y]
          unfold Rest at rs
          omega
        · rw [← TL.len_tl y]
          exact ly
        · rw [hh] at e
          have e1 := dg_zero _ (by omega) (Option.some.inj e)
          have m1 : m = 0 := by omega
          have l1 : y.cps.toList.length = 1 := by
            rw [← TL.len_tl y]
            unfold Rest at rs
            omega
          rw [m1] at hh
          match hy : y.cps.toList, l1 with
          | [c], _ =>
            rw [hy] at hh
            have : c = dg 0 := Option.some.inj hh
            rw [this]
            rfl
    · rintro σ H' Q1 Q2 hQ ⟨v, e, i, j, h1, h2, c, h3, q⟩
      exact ⟨v, e, i, j, h1, h2, c, h3, hQ _ _ q⟩
theorem scLMark : FnScope ["_law_deck_here", "_law_way", "_law_number_here", "_law_some"] ["_law_deck_here"] (defScope sLMark) := ⟨rfl, rfl, rfl, by decide +kernel, rfl, by decide +kernel, by decide +kernel⟩
theorem ok_lmark {f fD fS : Addr} {fd fdD fdS : FuncData} (F : Fun K "_law_mark" "_law_mark" sLMark f fd) (cD : Cl K mg "_law_draw" fD fdD ["_law_deck_here", "_law_most"]) (GD : FnOk P w K mg base CX0 1 fD fdD ["_law_deck_here", "_law_most"] spDraw)
    (cS : Cl K mg "_law_sixteens" fS fdS ["_law_number_here"]) (GS : FnOk P w K mg base CX0 1 fS fdS ["_law_number_here"] spSix) : FnOk P w K mg base CX0 2 f fd ["_law_deck_here"] spLMark := by
  refine F.ok scLMark (fun vs H Q E h => ?_) (fun cdv A outer s H vs Q E hr h => ?_)
  · obtain ⟨d, rfl, _⟩ := h
    rfl
  · obtain ⟨d, rfl, hd, k⟩ := h
    refine ⟨_, (pss_cons (ps_set (i := 1) scLMark.nd rfl (Or.inl rfl) (pe_call GD (hr.mono (by decide)) (by rfl) cD.g cD.k cD.b .nil pass0 (pa_cons (pv 0) (pa_cons pe_int pa_nil))))
    (pss_cons (ps_set (i := 2) scLMark.nd rfl (Or.inl rfl) (pe_call GD (hr.mono (by decide)) (by rfl) cD.g cD.k cD.b .nil pass0 (pa_cons (pv 0) (pa_cons (pe_ix ix_list (pe_lst (pa_cons pe_int (pa_cons pe_int (pa_cons pe_int (pa_cons pe_int (pa_cons pe_int pa_nil)))))) (pv 1) (fun _ _ => rfl)) pa_nil))))
    (pss_cons (ps_set (i := 3) scLMark.nd rfl (Or.inl rfl) (pe_lst (pa_cons (pv 2) (pa_cons pe_int (pa_cons pe_int (pa_cons pe_int (pa_cons pe_int (pa_cons pe_int (pa_cons pe_int (pa_cons pe_int (pa_cons pe_int pa_nil)))))))))))
    (pss_cons (ps_set (i := 2) scLMark.nd rfl (Or.inl rfl) (pe_ix ix_list (pv 3) (pe_op op_mulW (pe_call GD (hr.mono (by decide)) (by rfl) cD.g cD.k cD.b .nil pass0 (pa_cons (pv 0) (pa_cons pe_int pa_nil))) (pe_call GD (hr.mono (by decide)) (by rfl) cD.g cD.k cD.b .nil pass0 (pa_cons (pv 0) (pa_cons pe_int pa_nil)))) (fun _ _ => rfl)))
    (pss_one (ps_ret (pe_op op_add_str pe_str (pe_call GS (hr.mono (by decide)) (by rfl) cS.g cS.k cS.b .nil pass0 (pa_cons (pv 2) pa_nil))))))))), ?_⟩
    refine ⟨_, rfl, d, 5, rfl, by decide, by decide, hd, fun q q0 q1 H1 d1 e1 => ?_⟩
    refine ⟨_, rfl, (by show 5 ≤ sizeLine; decide), fun l hl => ?_⟩
    obtain ⟨v, hv, mv⟩ := at_in (xs := [.int 16, .int 256, .int 4096, .int 65536, .int 16777216]) q0 q1
    obtain ⟨m, rfl, m0, m1⟩ : ∃ m : Int, v = .int m ∧ 16 ≤ m ∧ m ≤ 16777216 := by
      simp only [List.mem_cons, List.not_mem_nil, or_false] at mv
      rcases mv with rfl | rfl | rfl | rfl | rfl <;> exact ⟨_, rfl, by decide, by decide⟩
    have d2 := d1.upd (o := .lst [.int 16, .int 256, .int 4096, .int 65536, .int 16777216]) hl
    have f2 := (Fw.draw d1 e1).trans (Fw.upd (d := d) (o := .lst [.int 16, .int 256, .int 4096, .int 65536, .int 16777216]) hl)
    refine ⟨_, rfl, l, _, _, _, rfl, rfl, SqL.of upd_same, hv, d, m, rfl, by omega, by omega, d2, fun n n0 n1 H3 d3 e3 => ?_⟩
    have f3 := f2.trans (Fw.draw d3 e3)
    refine ⟨_, rfl, (by show 9 ≤ sizeLine; decide), fun l2 hl2 => ?_⟩
    have d4 := d3.upd (o := .lst [.int n, .int 1, .int 15, .int 16, .int 255, .int 256, .int 16777215, .int 0, .int 10]) hl2
    have f4 := f3.trans (Fw.upd (d := d) (o := .lst [.int n, .int 1, .int 15, .int 16, .int 255, .int 256, .int 16777215, .int 0, .int 10]) hl2)
    have n2 := d3.ne hl2
    refine ⟨_, rfl, _, rfl, d, 9, rfl, by decide, by decide, d4, fun r r0 r1 H5 d5 e5 => ⟨_, rfl, d, 2, rfl, by decide, by decide, d5, fun t t0 t1 H6 d6 e6 => ?_⟩⟩
    have f6 := (f4.trans (Fw.draw d5 e5)).trans (Fw.draw d6 e6)
    have hl6 : H6 l2 = some (.lst [.int n, .int 1, .int 15, .int 16, .int 255, .int 256, .int 16777215, .int 0, .int 10]) := (e6 l2 n2).trans ((e5 l2 n2).trans upd_same)
    have rt0 : 0 ≤ r * t ∧ r * t < 9 := by
      have ht : t = 0 ∨ t = 1 := by omega
      rcases ht with rfl | rfl
      · simp
      · rw [Int.mul_one]
        exact ⟨r0, r1⟩
    obtain ⟨v, hv, mv⟩ := at_in (xs := [.int n, .int 1, .int 15, .int 16, .int 255, .int 256, .int 16777215, .int 0, .int 10]) rt0.1 rt0.2
    obtain ⟨u, rfl, u0, u1⟩ : ∃ u : Int, v = .int u ∧ 0 ≤ u ∧ u < 16777216 := by
      simp only [List.mem_cons, List.not_mem_nil, or_false] at mv
      rcases mv with rfl | rfl | rfl | rfl | rfl | rfl | rfl | rfl | rfl
      · exact ⟨n, rfl, n0, by omega⟩
      all_goals exact ⟨_, rfl, by decide, by decide⟩
    have zr : Sz 10 r := by unfold Sz; omega
    have zt : Sz 10 t := by unfold Sz; omega
    refine ⟨_, _, rfl, rfl, zr.mulOk zt (by decide) (by decide) (by decide), l2, _, _, _, rfl, rfl, SqL.of hl6, hv, ?_⟩
    refine ⟨_, rfl, u, rfl, u0, u1, fun y ay hy => ?_⟩
    have ly := (numH_hex hy).2.2
    rw [← TL.len_tl y] at ly
    have ec : ("c" : Str).length = 1 := by decide +kernel
    refine ⟨_, _, rfl, rfl, Nat.le_trans (show _ ≤ 7 by omega) (by decide), ?_⟩
    refine k _ H6 (asc_app (asc_lit _ (by decide +kernel)) ay) ?_ (by rw [append_len]; omega) d6 f6
    have et : (("c" : Str) ++ y).cps.toList = 99 :: y.cps.toList := by
      have := TL.tl_append "c" y
      have e0 : TL.tl ("c" : Str) = [99] := by decide +kernel
      rw [e0] at this
      exact this
    rw [et]
    show (decide (99 = 99) && numH y.cps.toList) = true
    rw [hy]
    rfl
end
end K
namespace K
open PySem L2 Rp
def TxV (v : V) : Prop := ∃ z, v = .str z ∧ Asc z ∧ z.length ≤ 10000
def strsOk (vs : List V) : Bool := vs.all fun v => match v with
  | .str z => z.cps.toList.all (fun c => decide (c < 128)) && decide (z.length ≤ 10000)
  | _ => false
theorem strs_ok {vs : List V} (h : strsOk vs = true) : ∀ v ∈ vs, TxV v := fun v hv => by
  have h1 := List.all_eq_true.mp h v hv
  cases v with
  | str z =>
    have h2 := (Bool.and_eq_true _ _).mp h1
    exact ⟨z, rfl, asc_lit z h2.1, of_decide_eq_true h2.2⟩
  | _ => cases h1
def Rq2 (K : PySem.W.Frag) (fM : Addr) (f : Addr) (sp : Sp) : Prop := f = fM ∧ sp = spQ K mkV
def spRight2 (C : Addr) : Sp := fun vs H Q _ => ∃ v : V, vs = [v] ∧ Pr1 C H v ∧ ∀ H', Same H H' → Q (.bl true) H'
section
variable {P : Program} {w : World} {K : PySem.W.Frag} {mg : Str → Option Value} {base : Heap}
theorem scRight : FnScope ["_law_thing", "_law_found"] ["_law_thing"] (defScope sRight) := ⟨rfl, rfl, rfl, by decide +kernel, rfl, by decide +kernel, by decide +kernel⟩
theorem ok_right {f C fW fM fTo fL fN fLW fLN : Addr} {fd dTo dL dN dLW dLN : FuncData} (F : Fun K "_law_right" "_law_right" sRight f fd) (T : WTxt K mg C fW) (N : WIns K C) (ki : PySem.W.kitOne K (.ref C) (.type "int") = some false) (kb : PySem.W.kitOne K (.ref C) (.type "bool") = some false) (ks : PySem.W.kitOne K (.ref C) (.type "str") = some false)
    (gM : mg "is_mark" = some (.ref fM)) (cTo : Cl K mg "_law_told" fTo dTo ["_law_query", "_law_thing", "_law_due"]) (GTo : FnG P w K mg base CX0 21 fTo dTo ["_law_query", "_law_thing", "_law_due"] (spTold K C (Rq2 K fM)))
    (cL : Cl K mg "_law_is_mark" fL dL ["_law_thing"]) (GL : FnOk P w K mg base CX0 3 fL dL ["_law_thing"] (spQ K mkV)) (cN : Cl K mg "mark_number" fN dN ["mark"]) (GN : FnOk P w K mg base CX0 1 fN dN ["mark"] spMkN)
    (cW : Cl K mg "_law_whole" fLW dLW ["_law_thing"]) (GW : FnOk P w K mg base CX0 1 fLW dLW ["_law_thing"] (spWhole K)) (cLN : Cl K mg "_law_number" fLN dLN ["_law_mark_here"]) (GLN : FnOk P w K mg base CX0 1 fLN dLN ["_law_mark_here"] spMkN) : FnG P w K mg base CX0 22 f fd ["_law_thing"] (spRight2 C) := by
  refine Fun_okG0 F scRight (fun vs H Q E h => ?_) (fun cdv A outer s H vs Q E gd hr h => ?_)
  · obtain ⟨v, rfl, _⟩ := h
    rfl
  · obtain ⟨v, rfl, pr, k⟩ := h
    obtain ⟨as, ab, th⟩ := id pr
    have wh : ∀ H', Same H H' → Wh K H' v := fun H' e => (th.congr fun b _ o h => e b o h).wh T.cl N ki kb
    have ws : ∀ H', Same H H' → Ws K H' v := fun H' e => (th.congr fun b _ o h => e b o h).ws T.cl N ks
    have tk := th.tok
    refine ⟨_, (pss_cons (ps_if (pt_not (pt_val (pe_callG GTo gd (hr.mono (by decide)) (by rfl) cTo.g cTo.k cTo.b .nil pass0 (pa_cons (pe_glob (v := .ref fM) rfl gM rfl) (pa_cons (pv 0) (pa_cons (pe_call GL (hr.mono (by decide)) (by rfl) cL.g cL.k cL.b .nil pass0 (pa_cons (pv 0) pa_nil)) pa_nil)))))) (pss_one (ps_ret pe_bl)) pss_nil)
    (pss_cons (ps_if (pt_not (pt_val (pe_call GL (hr.mono (by decide)) (by rfl) cL.g cL.k cL.b .nil pass0 (pa_cons (pv 0) pa_nil)))) (pss_one (ps_ret pe_bl)) pss_nil)
    (pss_cons (ps_set (i := 1) scRight.nd rfl (Or.inl rfl) (pe_call GN (hr.mono (by decide)) (by rfl) cN.g cN.k cN.b .nil pass0 (pa_cons (pv 0) pa_nil)))
    (pss_one (ps_ret (pe_and (pe_call GW (hr.mono (by decide)) (by rfl) cW.g cW.k cW.b .nil pass0 (pa_cons (pv 1) pa_nil)) (pe_one (pe_cmpR op_eq (pv 1) (pe_call GLN (hr.mono (by decide)) (by rfl) cLN.g cLN.k cLN.b .nil pass0 (pa_cons (pv 0) pa_nil)) (nomark _))))))))), ?_⟩
    refine ⟨_, rfl, _, rfl, v, rfl, wh _ (Same.refl H), ws _ (Same.refl H), tk, fun H1 s1 => ?_⟩
    refine ⟨fM, v, mkV v, mkV, rfl, ⟨rfl, rfl⟩, rfl, pr.same s1, tk, fun H2 s2 => ⟨true, rfl, iteF ?_⟩⟩
    have s12 := s1.trans s2
    refine ⟨_, rfl, v, rfl, wh _ s12, ws _ s12, tk, fun H3 s3 => ⟨_, rfl, ?_⟩⟩
    have s13 := s12.trans s3
    by_cases hm : mkV v = true
    · rw [hm]
      refine iteF ?_
      refine ⟨_, rfl, v, rfl, hm, fun H4 s4 => ?_⟩
      refine ⟨_, rfl, keyV v, rfl, true, rfl, iteT ⟨_, rfl, _, rfl, v, rfl, hm, fun H5 s5 => ⟨rfl, ?_⟩⟩⟩
      rw [decide_eq_true rfl]
      exact k _ ((s13.trans s4).trans s5)
    · have hm' : mkV v = false := by simpa using hm
      rw [hm']
      exact iteT (k _ s13)
end
abbrev someV : List V := [V.str "c0", V.str "c9", V.str "ca", V.str "cf", V.str "c10", V.str "c1f", V.str "c20", V.str "cff", V.str "c100", V.str "cffffff"]
theorem some_keys : ∀ x ∈ someV, ∀ y ∈ someV, keyV x = keyV y → x = y := by decide +kernel
theorem some_marks : ∀ x ∈ someV, mkV x = true := by decide +kernel
theorem some_order : someV.Pairwise (fun x y => keyV x ≤ keyV y) := by decide +kernel
theorem inj_keys {xs : List V} (inj : ∀ x ∈ xs, ∀ y ∈ xs, keyV x = keyV y → x = y) : ∀ as bs : List V, (∀ x ∈ as, x ∈ xs) → (∀ x ∈ bs, x ∈ xs) → as.map keyV = bs.map keyV → as = bs
  | [], [], _, _, _ => rfl
  | [], _ :: _, _, _, e => by cases e
  | _ :: _, [], _, _, e => by cases e
  | a :: as, b :: bs, h1, h2, e => by
    have e2 := List.cons.inj e
    rw [inj a (h1 a List.mem_cons_self) b (h2 b List.mem_cons_self) e2.1, inj_keys inj as bs (fun x h => h1 x (List.mem_cons_of_mem _ h)) (fun x h => h2 x (List.mem_cons_of_mem _ h)) e2.2]
theorem back_in_order {ys : List V} (p : ys.Perm someV.reverse) (o : ys.Pairwise (fun x y => keyV x ≤ keyV y)) : ys = someV := by
  have p2 : ys.Perm someV := p.trans (List.reverse_perm _)
  refine inj_keys some_keys ys someV (fun x h => p2.mem_iff.mp h) (fun x h => h) ?_
  have p3 : (ys.map keyV).Perm (someV.map keyV) := p2.map keyV
  have o1 : (ys.map keyV).Pairwise (fun a b => a ≤ b) := List.pairwise_map.mpr o
  have o2 : (someV.map keyV).Pairwise (fun a b => a ≤ b) := List.pairwise_map.mpr some_order
  exact List.Perm.eq_of_pairwise (fun a b _ _ h1 h2 => Int.le_antisymm h1 h2) o1 o2 p3
section
variable {P : Program} {w : World} {K : PySem.W.Frag} {mg : Str → Option Value} {base : Heap}
theorem scLaw : FnScope ["_law_script", "_law_fixed", "_law_thing", "_law_cell", "_law_deck_here", "_law_k", "_law_mark_here", "_law_bent", "_law_some"] ["_law_script"] (defScope sLaw) := ⟨rfl, rfl, rfl, by decide +kernel, rfl, by decide +kernel, by decide +kernel⟩
theorem ok_law {f C fRi fDk fLM fB fO fM fN : Addr} {fd dRi dDk dLM dB dO dM dN : FuncData} (F : Fun K "law" "law" sLaw f fd) (hrg : mg "range" = none) (hso : mg "sorted" = none)
    (cRi : Cl K mg "_law_right" fRi dRi ["_law_thing"]) (GRi : FnG P w K mg base CX0 22 fRi dRi ["_law_thing"] (spRight2 C))
    (cDk : Cl K mg "_law_deck" fDk dDk ["_law_cell"]) (GDk : FnOk P w K mg base CX0 1 fDk dDk ["_law_cell"] spDeck)
    (cLM : Cl K mg "_law_mark" fLM dLM ["_law_deck_here"]) (GLM : FnOk P w K mg base CX0 2 fLM dLM ["_law_deck_here"] spLMark)
    (cB : Cl K mg "_law_text_otherwise" fB dB ["_law_deck_here", "_law_text"]) (GB : FnOk P w K mg base CX0 3 fB dB ["_law_deck_here", "_law_text"] spBent)
    (cO : Cl K mg "_law_odd" fO dO ["_law_deck_here"]) (GO : FnOk P w K mg base CX0 4 fO dO ["_law_deck_here"] (spOdd C))
    (cM : Cl K mg "is_mark" fM dM ["thing"]) (GM : FnOk P w K mg base CX0 3 fM dM ["thing"] (spQ K mkV))
    (cN : Cl K mg "mark_number" fN dN ["mark"]) (GN : FnOk P w K mg base CX0 1 fN dN ["mark"] spMkN) : FnG P w K mg base CX0 23 f fd ["_law_script"] (spLaw K) := by
  refine Fun_okG0 F scLaw (fun vs H Q E h => ?_) (fun cdv A outer s H vs Q E gd hr h => ?_)
  · obtain ⟨a, ns, rfl, _⟩ := h
    rfl
  · obtain ⟨a, ns, rfl, hS, hlen, k⟩ := h
    refine ⟨_, (pss_cons (ps_set (i := 1) scLaw.nd rfl (Or.inl rfl) (pe_lst (pa_cons pe_str (pa_cons pe_str (pa_cons pe_str (pa_cons pe_str (pa_cons pe_str (pa_cons pe_str (pa_cons pe_str (pa_cons pe_str (pa_cons pe_str (pa_cons pe_str (pa_cons pe_str (pa_cons pe_str (pa_cons pe_str (pa_cons pe_str (pa_cons pe_str pa_nil)))))))))))))))))
    (pss_cons (ps_set (i := 1) scLaw.nd rfl (Or.inl rfl) (pe_op op_cat (pv 1) (pe_lst (pa_cons pe_str (pa_cons pe_str (pa_cons pe_str (pa_cons pe_str (pa_cons pe_str (pa_cons pe_str (pa_cons pe_str (pa_cons pe_str (pa_cons pe_str (pa_cons pe_str (pa_cons (pe_tup (pa_cons pe_str pa_nil)) (pa_cons (pe_lst (pa_cons pe_str pa_nil)) (pa_cons pe_int (pa_cons pe_int pa_nil)))))))))))))))))
    (pss_cons (ps_set (i := 1) scLaw.nd rfl (Or.inl rfl) (pe_op op_cat (pv 1) (pe_lst (pa_cons pe_non (pa_cons (pe_disp (pps_cons pe_str pe_int pps_nil) (by rfl) (by rfl) (fun z => by cases z) (by decide)) pa_nil)))))
    (pss_cons (ps_for PassesOwn.never rfl (pi_list (pv 1)) (pg_name (i := 2) scLaw.nd rfl (Or.inl rfl))
      (pss_one (ps_if (pt_not (pt_val (pe_callG GRi gd (hr.mono (by decide)) (by rfl) cRi.g cRi.k cRi.b .nil pass0 (pa_cons (pv 2) pa_nil)))) (pss_one (ps_ret pe_bl)) pss_nil)))
    (pss_cons (ps_for PassesOwn.never rfl (pi_list (pe_op op_cat (pe_slice sl_list (pv 0) po_none (po_some pe_int)) (pe_lst (pa_cons pe_int pa_nil)))) (pg_name (i := 3) scLaw.nd rfl (Or.inl rfl))
      (pss_cons (ps_set (i := 4) scLaw.nd rfl (Or.inl rfl) (pe_call GDk (hr.mono (by decide)) (by rfl) cDk.g cDk.k cDk.b .nil pass0 (pa_cons (pv 3) pa_nil)))
    (pss_one (ps_for PassesOwn.never rfl (pi_range1 (by rfl) hrg (pa_cons pe_int pa_nil)) (pg_name (i := 5) scLaw.nd rfl (Or.inl rfl))
      (pss_cons (ps_set (i := 6) scLaw.nd rfl (Or.inl rfl) (pe_call GLM (hr.mono (by decide)) (by rfl) cLM.g cLM.k cLM.b .nil pass0 (pa_cons (pv 4) pa_nil)))
    (pss_cons (ps_set (i := 7) scLaw.nd rfl (Or.inl rfl) (pe_call GB (hr.mono (by decide)) (by rfl) cB.g cB.k cB.b .nil pass0 (pa_cons (pv 4) (pa_cons (pv 6) pa_nil))))
    (pss_cons (ps_for PassesOwn.never rfl (pi_list (pe_lst (pa_cons (pv 6) (pa_cons (pv 7) (pa_cons (pe_call GB (hr.mono (by decide)) (by rfl) cB.g cB.k cB.b .nil pass0 (pa_cons (pv 4) (pa_cons (pv 7) pa_nil))) (pa_cons (pe_op op_add_str pe_str (pe_slice sl_str (pv 6) (po_some pe_int) po_none)) (pa_cons (pe_op op_add_str (pv 6) pe_str) (pa_cons (pe_call GO (hr.mono (by decide)) (by rfl) cO.g cO.k cO.b .nil pass0 (pa_cons (pv 4) pa_nil)) pa_nil)))))))) (pg_name (i := 2) scLaw.nd rfl (Or.inl rfl))
      (pss_one (ps_if (pt_not (pt_val (pe_callG GRi gd (hr.mono (by decide)) (by rfl) cRi.g cRi.k cRi.b .nil pass0 (pa_cons (pv 2) pa_nil)))) (pss_one (ps_ret pe_bl)) pss_nil)))
    (pss_one (ps_if (pt_cmpR op_notBl (pe_call GM (hr.mono (by decide)) (by rfl) cM.g cM.k cM.b .nil pass0 (pa_cons (pv 6) pa_nil)) pe_bl (nomark _)) (pss_one (ps_ret pe_bl)) pss_nil)))))))))
    (pss_cons (ps_set (i := 8) scLaw.nd rfl (Or.inl rfl) (pe_lst (pa_cons pe_str (pa_cons pe_str (pa_cons pe_str (pa_cons pe_str (pa_cons pe_str (pa_cons pe_str (pa_cons pe_str (pa_cons pe_str (pa_cons pe_str (pa_cons pe_str pa_nil))))))))))))
    (pss_one (ps_ret (pe_cmpR (op_eqD hr.units) (pe_callBK (cr_sortedF GN cN.b (hr.mono (by decide))) (by rfl) hso (by decide +kernel) (pa_cons (pe_revL (pv 8)) pa_nil) (pk_cons (pe_glob (v := .ref fN) rfl cN.g rfl) pk_nil)) (pv 8) (nomark _)))))))))), ?_⟩
    have up : ∀ {H p o}, H p = none → Same H (upd H p o) := fun h => same_upd h
    refine ⟨(by show 15 ≤ sizeLine; decide), fun p1 h1 => ?_⟩
    have s1 := up (o := .lst [V.str "c", V.str "", V.str "0", V.str "c0", V.str "c00", V.str "c01", V.str "cf", V.str "cg", V.str "C1", V.str "cF", V.str "c1000000", V.str "cffffff", V.str "c0ffff", V.str "c-1", V.str "c 1"]) h1
    have g1 : (upd H p1 (.lst [V.str "c", V.str "", V.str "0", V.str "c0", V.str "c00", V.str "c01", V.str "cf", V.str "cg", V.str "C1", V.str "cF", V.str "c1000000", V.str "cffffff", V.str "c0ffff", V.str "c-1", V.str "c 1"])) p1 = some (.lst [V.str "c", V.str "", V.str "0", V.str "c0", V.str "c00", V.str "c01", V.str "cf", V.str "cg", V.str "C1", V.str "cF", V.str "c1000000", V.str "cffffff", V.str "c0ffff", V.str "c-1", V.str "c 1"]) := upd_same
    generalize upd H p1 (.lst [V.str "c", V.str "", V.str "0", V.str "c0", V.str "c00", V.str "c01", V.str "cf", V.str "cg", V.str "C1", V.str "cF", V.str "c1000000", V.str "cffffff", V.str "c0ffff", V.str "c-1", V.str "c 1"]) = H1 at *
    refine ⟨_, rfl, (by show 1 ≤ sizeLine; decide), fun p2 h2 => ⟨(by show 1 ≤ sizeLine; decide), fun p3 h3 => ⟨(by show 14 ≤ sizeLine; decide), fun p4 h4 => ?_⟩⟩⟩
    have nd : ∀ {H' : Hp} {q : Addr}, Same H1 H' → H' q = none → q ≠ p1 := fun e hp => Ne.symm (ne_of_none (e _ _ g1) hp)
    have os : ∀ {H : Hp}, Od C p1 0 1601 H (.str "c1") := od_str (asc_lit _ (by decide +kernel)) (by decide +kernel) (by decide +kernel) (by decide +kernel)
    have S2 := up (o := .tup [.str "c1"]) h2
    have S3 := S2.trans (up (o := .lst [.str "c1"]) h3)
    have S4 := S3.trans (up (o := .lst [V.str "c_1", V.str "c+1", V.str "c1_0", V.str "c0x1", V.str "1c", V.str "cc", V.str "ccc", V.str "k1", V.str "c\n", V.str "c1\n", .ref p2, .ref p3, .int 12, .int 193]) h4)
    have o2 := od_tup (C := C) (N := 0) (M := 1601) (N' := 20) (M' := 300000) h2 (nd (Same.refl _) h2) (al os al0) (by decide) (by show 1 * (1601 + 2) + 3 ≤ 300000; decide)
    have o3 := od_lst (C := C) (N := 0) (M := 1601) (N' := 20) (M' := 300000) h3 (nd S2 h3) (al os al0) (by decide) (by show 1 * (1601 + 2) + 3 ≤ 300000; decide)
    have o2 := (o2.same (up (o := .lst [.str "c1"]) h3)).same (up (o := .lst [V.str "c_1", V.str "c+1", V.str "c1_0", V.str "c0x1", V.str "1c", V.str "cc", V.str "ccc", V.str "k1", V.str "c\n", V.str "c1\n", .ref p2, .ref p3, .int 12, .int 193]) h4)
    have o3 := o3.same (up (o := .lst [V.str "c_1", V.str "c+1", V.str "c1_0", V.str "c0x1", V.str "1c", V.str "cc", V.str "ccc", V.str "k1", V.str "c\n", V.str "c1\n", .ref p2, .ref p3, .int 12, .int 193]) h4)
    have g4 : (upd (upd (upd H1 p2 (.tup [.str "c1"])) p3 (.lst [.str "c1"])) p4 (.lst [V.str "c_1", V.str "c+1", V.str "c1_0", V.str "c0x1", V.str "1c", V.str "cc", V.str "ccc", V.str "k1", V.str "c\n", V.str "c1\n", .ref p2, .ref p3, .int 12, .int 193])) p4 = some (.lst [V.str "c_1", V.str "c+1", V.str "c1_0", V.str "c0x1", V.str "1c", V.str "cc", V.str "ccc", V.str "k1", V.str "c\n", V.str "c1\n", .ref p2, .ref p3, .int 12, .int 193]) := upd_same
    generalize upd (upd (upd H1 p2 (.tup [.str "c1"])) p3 (.lst [.str "c1"])) p4 (.lst [V.str "c_1", V.str "c+1", V.str "c1_0", V.str "c0x1", V.str "1c", V.str "cc", V.str "ccc", V.str "k1", V.str "c\n", V.str "c1\n", .ref p2, .ref p3, .int 12, .int 193]) = H4 at *
    have od_txts : ∀ {H : Hp} {vs : List V}, strsOk vs = true → ∀ v ∈ vs, Od C p1 20 300000 H v := fun h v hv => by
      obtain ⟨z, rfl, az, lz⟩ := strs_ok h v hv
      exact od_text az lz
    have oi : ∀ {H : Hp} {i : Int}, Sz 1600 i → Od C p1 20 300000 H (.int i) := fun z => od_int z (by decide)
    refine ⟨p1, p4, _, _, rfl, rfl, S4 _ _ g1, g4, (by show 29 ≤ sizeLine; decide), fun p5 h5 => ?_⟩
    have a5 : ∀ v ∈ [V.str "c", V.str "", V.str "0", V.str "c0", V.str "c00", V.str "c01", V.str "cf", V.str "cg", V.str "C1", V.str "cF", V.str "c1000000", V.str "cffffff", V.str "c0ffff", V.str "c-1", V.str "c 1"] ++ [V.str "c_1", V.str "c+1", V.str "c1_0", V.str "c0x1", V.str "1c", V.str "cc", V.str "ccc", V.str "k1", V.str "c\n", V.str "c1\n", V.ref p2, V.ref p3, V.int 12, V.int 193], Od C p1 20 300000 H4 v := fun v hv => by
      rcases List.mem_append.mp hv with hv | hv
      · exact od_txts (by decide +kernel) v hv
      · rcases List.mem_append.mp (show v ∈ [V.str "c_1", V.str "c+1", V.str "c1_0", V.str "c0x1", V.str "1c", V.str "cc", V.str "ccc", V.str "k1", V.str "c\n", V.str "c1\n"] ++ [V.ref p2, V.ref p3, V.int 12, V.int 193] from hv) with hv | hv
        · exact od_txts (by decide +kernel) v hv
        · exact al (p := fun v => Od C p1 20 300000 H4 v) o2 (al o3 (al (oi (by unfold Sz; decide)) (al (oi (by unfold Sz; decide)) al0))) v hv
    have ln5 : ([V.str "c", V.str "", V.str "0", V.str "c0", V.str "c00", V.str "c01", V.str "cf", V.str "cg", V.str "C1", V.str "cF", V.str "c1000000", V.str "cffffff", V.str "c0ffff", V.str "c-1", V.str "c 1"] ++ [V.str "c_1", V.str "c+1", V.str "c1_0", V.str "c0x1", V.str "1c", V.str "cc", V.str "ccc", V.str "k1", V.str "c\n", V.str "c1\n", V.ref p2, V.ref p3, V.int 12, V.int 193]).length = 29 := rfl
    generalize [V.str "c", V.str "", V.str "0", V.str "c0", V.str "c00", V.str "c01", V.str "cf", V.str "cg", V.str "C1", V.str "cF", V.str "c1000000", V.str "cffffff", V.str "c0ffff", V.str "c-1", V.str "c 1"] ++ [V.str "c_1", V.str "c+1", V.str "c1_0", V.str "c0x1", V.str "1c", V.str "cc", V.str "ccc", V.str "k1", V.str "c\n", V.str "c1\n", V.ref p2, V.ref p3, V.int 12, V.int 193] = xs5 at *
    have g5 : (upd H4 p5 (.lst xs5)) p5 = some (.lst xs5) := upd_same
    have S5 := S4.trans (up (o := .lst xs5) h5)
    have a5 : ∀ v ∈ xs5, Od C p1 20 300000 (upd H4 p5 (.lst xs5)) v := fun v hv => (a5 v hv).same (up h5)
    generalize upd H4 p5 (.lst xs5) = H5 at *
    refine ⟨_, rfl, fun p6 h6 => ⟨upd_same, [(.inr "c1", .int 1)], rfl, (by show 1 ≤ 15; decide), (by show 2 ≤ sizeLine; decide), fun p7 h7 => ?_⟩⟩
    have em : mergeK [] [((.inr "c1" : Key), V.int 1)] = [(.inr "c1", .int 1)] := rfl
    rw [upd_upd, em] at h7 ⊢
    have o6 := od_dicK (C := C) (kvs := [(.inr "c1", .int 1)]) (N := 0) (M := 1601) (N' := 20) (M' := 300000) h6 (nd S5 h6) (fun kv hk => by
      cases List.mem_singleton.mp hk
      exact ⟨od_int (by unfold Sz; decide) (Nat.le_refl _), os⟩) (by decide) (by show 1 * (2 * 1601 + 4) + 3 ≤ 300000; decide)
    have S6 := up (o := .dK [(.inr "c1", .int 1)]) h6
    have g6 := S6 _ _ g5
    have a6 : ∀ v ∈ xs5, Od C p1 20 300000 _ v := fun v hv => (a5 v hv).same S6
    generalize upd H5 p6 (.dK [(.inr "c1", V.int 1)]) = H6 at *
    refine ⟨p5, p7, _, _, rfl, rfl, up h7 _ _ g6, upd_same, (by rw [ln5]; show 29 + 2 ≤ sizeLine; decide), fun p8 h8 => ?_⟩
    have S8 := (up (o := .lst [.non, .ref p6]) h7).trans (up (o := .lst (xs5 ++ [.non, .ref p6])) h8)
    have a8 : ∀ v ∈ xs5 ++ [V.non, V.ref p6], Pr1 C (upd (upd H6 p7 (.lst [.non, .ref p6])) p8 (.lst (xs5 ++ [.non, .ref p6]))) v := fun v hv => by
      rcases List.mem_append.mp hv with hv | hv
      · exact pr1_of ((a6 v hv).same S8)
      · exact pr1_of (al (p := fun v => Od C p1 20 300000 _ v) (od_non (by decide)) (al (o6.same S8) al0) v hv)
    have hS8 := (((s1.trans S5).trans S6).trans S8).seq hS
    have g8 : (upd (upd H6 p7 (.lst [.non, .ref p6])) p8 (.lst (xs5 ++ [.non, .ref p6]))) p8 = some (.lst (xs5 ++ [.non, .ref p6])) := upd_same
    generalize upd (upd H6 p7 (.lst [.non, .ref p6])) p8 (.lst (xs5 ++ [.non, .ref p6])) = HF at *
    generalize xs5 ++ [V.non, V.ref p6] = xs at *
    clear h1 h2 h3 h4 h5 h6 h7 h8 a5 a6 g1 g4 g5 g6 S2 S3 S4 S5 S6 S8 o2 o3 o6 nd s1 hS
    refine ⟨_, rfl, p8, rfl, ⟨_, SqL.of g8⟩, for_list (K := K) (a := p8) (xs := xs) (fun i σ H' => Same HF H' ∧ ∃ v2, σ = [some (.ref a), some (.ref p8), v2, none, none, none, none, none, none])
      ⟨Same.refl HF, none, rfl⟩ (fun i σ H' _ ⟨e, _⟩ => e.seq (SqL.of g8)) ?_ ?_⟩
    · rintro i x σ H' hx ⟨e0, v2, rfl⟩
      exact ⟨_, rfl, x, rfl, (a8 x (List.mem_of_getElem? hx)).same e0, fun H2 e2 => ⟨true, rfl, iteF ⟨e0.trans e2, _, rfl⟩⟩⟩
    rintro σ HG ⟨eG, v2, rfl⟩
    have hS := eG.seq hS8
    refine ⟨_, rfl, 10, rfl, a, _, rfl, hS, fun p1 h1 => ⟨(by show 1 ≤ sizeLine; decide), fun p2 h2 => ?_⟩⟩
    have n12 : p1 ≠ p2 := fun z => by rw [← z, upd_same] at h2; cases h2
    have hcut : (cutV (ns.map V.int) none (some 10)).length ≤ 63 := by
      have := cutV_length (ns.map V.int) none (some 10)
      rw [List.length_map] at this
      omega
    refine ⟨p1, p2, _, _, rfl, rfl, by rw [upd_ne n12]; exact upd_same, upd_same, ?_, fun p3 h3 => ?_⟩
    · have e : ([V.int 3] : List V).length = 1 := rfl
      rw [e]
      exact Nat.le_trans (Nat.add_le_add_right hcut 1) (by decide)
    have allz : ∀ (i : Nat) (x : V), (cutV (ns.map V.int) none (some 10) ++ [V.int 3])[i]? = some x → ∃ z, x = .int z := fun i x hx => by
      have hm := List.mem_of_getElem? hx
      rcases List.mem_append.mp hm with z | z
      · have z2 : x ∈ ns.map V.int := List.mem_of_mem_drop (List.mem_of_mem_take z)
        obtain ⟨n, _, e⟩ := List.mem_map.mp z2
        exact ⟨n, e.symm⟩
      · exact ⟨3, List.mem_singleton.mp z⟩
    generalize hH0 : upd (upd (upd HG p1 (.lst (cutV (ns.map V.int) none (some 10)))) p2 (.lst [V.int 3])) p3 (.lst (cutV (ns.map V.int) none (some 10) ++ [V.int 3])) = H0
    generalize hcs : cutV (ns.map V.int) none (some 10) ++ [V.int 3] = cs at *
    have hL0 : H0 p3 = some (.lst cs) := by rw [← hH0]; exact upd_same
    refine ⟨p3, rfl, ⟨_, SqL.of hL0⟩, for_list (K := K) (a := p3) (xs := cs) (fun i σ H' => Same H0 H' ∧ ∃ v1 v2 v3 v4 v5 v6 v7, σ = [some (.ref a), v1, v2, v3, v4, v5, v6, v7, none])
      ⟨Same.refl H0, _, _, _, _, _, _, _, rfl⟩ (fun i σ H' _ ⟨e, _⟩ => e.seq (SqL.of hL0)) ?_ ?_⟩
    · rintro i x σ H' hx ⟨e0, v1, v2, v3, v4, v5, v6, v7, rfl⟩
      obtain ⟨z, rfl⟩ := allz i x hx
      refine ⟨_, rfl, z, rfl, fun d hd H1 d1 q1 => ?_⟩
      have e1 : Same H' H1 := fun y o hy => (q1 y (ne_of_none hy hd)).trans hy
      have frame : ∀ {H2 : Hp}, Fw d H1 H2 → Same H' H2 := fun f y o hy => f.kp y o (ne_of_none hy hd) (e1 _ _ hy)
      refine ⟨6, rfl, by decide, by decide, for_range (lo := 0) (n := 6) (fun j σ H4 => ∃ u1 u2 u5 u6 u7, σ = [some (.ref a), u1, u2, some (.int z), some (.ref d), u5, u6, u7, none] ∧ DeckAt H4 d ∧ Fw d H1 H4) ?_ ?_ ?_⟩
      · exact ⟨_, _, _, _, _, rfl, d1, Fw.refl d H1⟩
      · rintro j σ H4 hj ⟨u1, u2, u5, u6, u7, rfl, d4, f4⟩
        refine ⟨_, rfl, d, rfl, d4, fun m H5 am mm lm d5 f5 => ?_⟩
        refine ⟨_, rfl, _, rfl, d, m, rfl, d5, am, by omega, fun y H6 ay ly d6 f6 => ?_⟩
        refine ⟨_, rfl, _, rfl, _, rfl, _, rfl, d, y, rfl, d6, ay, by omega, fun y2 H7 ay2 ly2 d7 f7 => ?_⟩
        have lcut : (cutS m (some 1) none).length ≤ m.length := cutS_length m _ _
        have e2 : ("c0" : Str).length = 2 := by decide +kernel
        have e3 : ("0" : Str).length = 1 := by decide +kernel
        refine ⟨_, rfl, 1, rfl, m, rfl, Nat.le_trans lm (by decide), _, _, rfl, rfl, Nat.le_trans (show _ ≤ 100 by omega) (by decide), _, rfl, _, _, rfl, rfl, Nat.le_trans (show _ ≤ 100 by omega) (by decide), ?_⟩
        refine ⟨_, rfl, d, rfl, d7, fun ov H8 ho d8 f8 => ⟨(by show 6 ≤ sizeLine; decide), fun l hl => ?_⟩⟩
        have f9 := (((f4.trans f5).trans f6).trans f7).trans f8
        have els : ∀ v ∈ [V.str m, V.str y, V.str y2, V.str ("c0" ++ cutS m (some 1) none), V.str (m ++ "0"), ov], Od C d 20 300000 H8 v :=
          al (p := fun v => Od C d 20 300000 H8 v) (od_text am (by omega)) (al (od_text ay (by omega)) (al (od_text ay2 (by omega)) (al (od_text (asc_app (asc_lit _ (by decide +kernel)) (asc_cut am _ _)) (by rw [append_len]; omega)) (al (od_text (asc_app am (asc_lit _ (by decide +kernel))) (by rw [append_len]; omega)) (al ho al0)))))
        generalize [V.str m, V.str y, V.str y2, V.str ("c0" ++ cutS m (some 1) none), V.str (m ++ "0"), ov] = ys at *
        have f10 := f9.trans (Fw.upd (d := d) (o := .lst ys) hl)
        have d10 := d8.upd (o := .lst ys) hl
        have els : ∀ v ∈ ys, Pr1 C (upd H8 l (.lst ys)) v := fun v hv => pr1_of ((els v hv).same (up hl))
        have hl10 : (upd H8 l (.lst ys)) l = some (.lst ys) := upd_same
        generalize upd H8 l (.lst ys) = H10 at *
        refine ⟨l, rfl, ⟨_, SqL.of hl10⟩, for_list (K := K) (a := l) (xs := ys) (fun i σ H' => Same H10 H' ∧ ∃ w1 w2 w5 w7, σ = [some (.ref a), w1, w2, some (.int z), some (.ref d), w5, some (.str m), w7, none])
          ⟨Same.refl H10, _, _, _, _, rfl⟩ (fun i σ H' _ ⟨e, _⟩ => e.seq (SqL.of hl10)) ?_ ?_⟩
        · rintro i x σ H' hx ⟨e0, w1, w2, w5, w7, rfl⟩
          exact ⟨_, rfl, x, rfl, (els x (List.mem_of_getElem? hx)).same e0, fun H2 e2 => ⟨true, rfl, iteF ⟨e0.trans e2, _, _, _, _, rfl⟩⟩⟩
        · rintro σ H11 ⟨e11, w1, w2, w5, w7, rfl⟩
          refine ⟨_, rfl, .str m, rfl, ⟨_, false, false, .base (.str _), kit_ty (by decide +kernel), kit_ty (by decide +kernel), rfl⟩, ⟨_, .base (.str _), (kit_ty (by decide +kernel) : PySem.W.kitOne K (.type "str") (.type "str") = some true)⟩, tok_str am (by omega), fun H12 e12 => ?_⟩
          refine ⟨_, true, rfl, rfl, _, rfl, ?_⟩
          have hm : mkV (.str m) = true := mm
          rw [hm]
          exact iteF ⟨_, _, _, _, _, rfl, d10.same (e11.trans e12), f10.trans (Fw.of_same (e11.trans e12))⟩
      · rintro σ H4 ⟨u1, u2, u5, u6, u7, rfl, d4, f4⟩
        exact ⟨e0.trans (frame f4), _, _, _, _, _, _, _, rfl⟩
    · rintro σ H' ⟨e0, v1, v2, v3, v4, v5, v6, v7, rfl⟩
      refine ⟨(by show 10 ≤ sizeLine; decide), fun l hl => ?_⟩
      have hlA : (upd H' l (.lst someV)) l = some (.lst someV) := upd_same
      refine ⟨_, rfl, l, someV, rfl, SqL.of hlA, fun q hq => ?_⟩
      have hqA : (upd (upd H' l (.lst someV)) q (.lst someV.reverse)) q = some (.lst someV.reverse) := upd_same
      refine ⟨q, someV.reverse, keyV, rfl, rfl, SqL.of hqA, (by decide), fun x hx H2 e2 => ⟨x, rfl, some_marks x (List.mem_reverse.mp hx), fun H3 e3 => ⟨rfl, e3⟩⟩, fun ys p H2 py oy e2 hp2 hy => ?_⟩
      have ey := back_in_order py oy
      subst ey
      have hl2 := e2 _ _ (same_upd hq _ _ hlA)
      refine ⟨_, rfl, .list [PyData.str "c0", PyData.str "c9", PyData.str "ca", PyData.str "cf", PyData.str "c10", PyData.str "c1f", PyData.str "c20", PyData.str "cff", PyData.str "c100", PyData.str "cffffff"], .list [PyData.str "c0", PyData.str "c9", PyData.str "ca", PyData.str "cf", PyData.str "c10", PyData.str "c1f", PyData.str "c20", PyData.str "cff", PyData.str "c100", PyData.str "cffffff"], .lst (SqL.of hy) (dp_strs [("c0" : Str), ("c9" : Str), ("ca" : Str), ("cf" : Str), ("c10" : Str), ("c1f" : Str), ("c20" : Str), ("cff" : Str), ("c100" : Str), ("cffffff" : Str)]), .lst (SqL.of hl2) (dp_strs [("c0" : Str), ("c9" : Str), ("ca" : Str), ("cf" : Str), ("c10" : Str), ("c1f" : Str), ("c20" : Str), ("cff" : Str), ("c100" : Str), ("cffffff" : Str)]), by decide +kernel, by decide +kernel, ?_⟩
      have ev : PyData.eqv (.list [PyData.str "c0", PyData.str "c9", PyData.str "ca", PyData.str "cf", PyData.str "c10", PyData.str "c1f", PyData.str "c20", PyData.str "cff", PyData.str "c100", PyData.str "cffffff"]) (.list [PyData.str "c0", PyData.str "c9", PyData.str "ca", PyData.str "cf", PyData.str "c10", PyData.str "c1f", PyData.str "c20", PyData.str "cff", PyData.str "c100", PyData.str "cffffff"]) = true := by decide +kernel
      rw [ev]
      exact k _
end
end K
namespace K
open PySem L2 Rp
theorem bindsI {K : PySem.W.Frag} {f : Addr} {fd : FuncData} (F : FunI K f fd) : Binds K fd ["self", "top", "bottom"] [] := by
  obtain ⟨ds, v, b⟩ := F.binds1 (ps := ["self", "top", "bottom"]) 3 1 (by simp) rfl fun T kV dc pm an cd ct us its hu hi => match us, its, hu, hi with | [_, _, _], [_], _, _ => ⟨_, rfl, rfl⟩
  cases v
  exact b
theorem bindsI1 {K : PySem.W.Frag} {f : Addr} {fd : FuncData} (F : FunI K f fd) : ∃ ds, Vals [V.int 1] ds ∧ Binds K fd ["self", "top", "bottom"] ds := by
  obtain ⟨ds, v, b⟩ := F.binds1 (ps := ["self", "top", "bottom"]) 2 0 (by simp) rfl fun T kV dc pm an cd ct us its hu hi => match us, its, hu, hi with | [_, _], [_], _, _ => ⟨_, rfl, rfl⟩
  exact ⟨ds, v, b⟩
theorem all_mk {l : PySem.W.OpenLaw} {w : World} {K : PySem.W.Frag} {h : Heap} {mg : Str → Option Value} {fa C fInit fRepr fMade fNumeral fShow fWhole fMark fNumber fDeck fDraw fLWhole fTold fSign fOdd fLMark fSix fBent fLIsMark fLNumber fRight fLaw : Addr} (X : K.In h) (G : h.Ns mainGlobals mg) (hfa : mg "law" = some (.ref fa))
    {odInit anInit : Option Addr} {slInit : Array (Option Value)} {ocInit kVInit dcInit pmInit cdInit ctInit : Value}
    {ocDInit : Value} {odDInit : Option Addr} {nDInit : Nat} {slDInit : Array (Option Value)} {tkDInit : Tok} {DInit : Addr}
    {odRepr anRepr : Option Addr} {slRepr : Array (Option Value)} {ocRepr kVRepr dcRepr pmRepr cdRepr ctRepr : Value}
    {odMade anMade : Option Addr} {slMade : Array (Option Value)} {ocMade kVMade dcMade pmMade cdMade ctMade : Value}
    {odNumeral anNumeral : Option Addr} {slNumeral : Array (Option Value)} {ocNumeral kVNumeral dcNumeral pmNumeral cdNumeral ctNumeral : Value}
    {odShow anShow : Option Addr} {slShow : Array (Option Value)} {ocShow kVShow dcShow pmShow cdShow ctShow : Value}
    {odWhole anWhole : Option Addr} {slWhole : Array (Option Value)} {ocWhole kVWhole dcWhole pmWhole cdWhole ctWhole : Value}
    {odMark anMark : Option Addr} {slMark : Array (Option Value)} {ocMark kVMark dcMark pmMark cdMark ctMark : Value}
    {odNumber anNumber : Option Addr} {slNumber : Array (Option Value)} {ocNumber kVNumber dcNumber pmNumber cdNumber ctNumber : Value}
    {odDeck anDeck : Option Addr} {slDeck : Array (Option Value)} {ocDeck kVDeck dcDeck pmDeck cdDeck ctDeck : Value}
    {odDraw anDraw : Option Addr} {slDraw : Array (Option Value)} {ocDraw kVDraw dcDraw pmDraw cdDraw ctDraw : Value}
    {odLWhole anLWhole : Option Addr} {slLWhole : Array (Option Value)} {ocLWhole kVLWhole dcLWhole pmLWhole cdLWhole ctLWhole : Value}
    {odTold anTold : Option Addr} {slTold : Array (Option Value)} {ocTold kVTold dcTold pmTold cdTold ctTold : Value}
    {odSign anSign : Option Addr} {slSign : Array (Option Value)} {ocSign kVSign dcSign pmSign cdSign ctSign : Value}
    {odOdd anOdd : Option Addr} {slOdd : Array (Option Value)} {ocOdd kVOdd dcOdd pmOdd cdOdd ctOdd : Value}
    {odLMark anLMark : Option Addr} {slLMark : Array (Option Value)} {ocLMark kVLMark dcLMark pmLMark cdLMark ctLMark : Value}
    {odSix anSix : Option Addr} {slSix : Array (Option Value)} {ocSix kVSix dcSix pmSix cdSix ctSix : Value}
    {odBent anBent : Option Addr} {slBent : Array (Option Value)} {ocBent kVBent dcBent pmBent cdBent ctBent : Value}
    {odLIsMark anLIsMark : Option Addr} {slLIsMark : Array (Option Value)} {ocLIsMark kVLIsMark dcLIsMark pmLIsMark cdLIsMark ctLIsMark : Value}
    {odLNumber anLNumber : Option Addr} {slLNumber : Array (Option Value)} {ocLNumber kVLNumber dcLNumber pmLNumber cdLNumber ctLNumber : Value}
    {odRight anRight : Option Addr} {slRight : Array (Option Value)} {ocRight kVRight dcRight pmRight cdRight ctRight : Value}
    {odLaw anLaw : Option Addr} {slLaw : Array (Option Value)} {ocLaw kVLaw dcLaw pmLaw cdLaw ctLaw : Value}
    {zBLK : Int} {tBLK : Tok}
    {zSX : Str} {tSX : Tok}
    {zMF : Int} {tMF : Tok}
    (aC : PySem.W.nsIn K mainGlobals "Weight" = some (some (.ref C)))
    (pgC : PySem.W.plainGet K C Str.empty = true)
    (hdC : PySem.W.hasDictIn K C = true)
    (poC : PySem.W.plainOver K C = true)
    (saC : PySem.W.findIn K (.ref C) "__setattr__" = some (some (.builtin "object.__setattr__")))
    (mkC : PySem.W.makesIn K C = true)
    (kcC : PySem.W.keepIn K (.ref C) = true)
    (nC_top : PySem.W.findIn K (.ref C) "top" = some none)
    (nC_bottom : PySem.W.findIn K (.ref C) "bottom" = some none)
    (waC : PySem.W.findIn K (.ref C) "__class__" = some (some (.builtin "object.__class__")))
    (wmC : PySem.W.mroIn K C (.type "object") = some true)
    (wneC : PySem.W.findIn K (.ref C) "__ne__" = some (some (.builtin "object.__ne__")))
    (wn : PySem.W.specialIn K (.builtin "object.__class__") "__get__" = some (some (.builtin "getset_descriptor.__get__")))
    (wt : PySem.W.takesIn K (.builtin "object.__class__") = some true)
    (aInit : PySem.W.findIn K (.ref C) "__init__" = some (some (.ref fInit)))
    (iInit : PySem.W.isFn K (.ref fInit) = true)
    (lInit : K.lookup fInit = some ⟨ocInit, odInit, .func (PySem.W.fnOf "__init__" "Weight.__init__" (defArgs sInit) (defBody sInit) (defScope sInit) (.ref DInit) kVInit dcInit pmInit anInit cdInit ctInit), slInit⟩)
    (cInit : PySem.W.codeIn K cdInit "Weight.__init__" = true)
    (kInit : PySem.W.keepIn K (.ref fInit) = true)
    (lDInit : K.lookup DInit = some ⟨ocDInit, odDInit, .seq ([Value.int 1 tkDInit] : List Value).toArray nDInit, slDInit⟩)
    (aRepr : PySem.W.findIn K (.ref C) "__repr__" = some (some (.ref fRepr)))
    (iRepr : PySem.W.isFn K (.ref fRepr) = true)
    (lRepr : K.lookup fRepr = some ⟨ocRepr, odRepr, .func (PySem.W.fnOf "__repr__" "Weight.__repr__" (defArgs sRepr) (defBody sRepr) (defScope sRepr) .none kVRepr dcRepr pmRepr anRepr cdRepr ctRepr), slRepr⟩)
    (cRepr : PySem.W.codeIn K cdRepr "Weight.__repr__" = true)
    (kRepr : PySem.W.keepIn K (.ref fRepr) = true)
    (aMade : PySem.W.nsIn K mainGlobals "made_of" = some (some (.ref fMade)))
    (lMade : K.lookup fMade = some ⟨ocMade, odMade, .func (PySem.W.fnOf "made_of" "made_of" (defArgs sMade) (defBody sMade) (defScope sMade) .none kVMade dcMade pmMade anMade cdMade ctMade), slMade⟩)
    (cMade : PySem.W.codeIn K cdMade "made_of" = true)
    (kMade : PySem.W.keepIn K (.ref fMade) = true)
    (aNumeral : PySem.W.nsIn K mainGlobals "is_numeral" = some (some (.ref fNumeral)))
    (lNumeral : K.lookup fNumeral = some ⟨ocNumeral, odNumeral, .func (PySem.W.fnOf "is_numeral" "is_numeral" (defArgs sNumeral) (defBody sNumeral) (defScope sNumeral) .none kVNumeral dcNumeral pmNumeral anNumeral cdNumeral ctNumeral), slNumeral⟩)
    (cNumeral : PySem.W.codeIn K cdNumeral "is_numeral" = true)
    (kNumeral : PySem.W.keepIn K (.ref fNumeral) = true)
    (aShow : PySem.W.nsIn K mainGlobals "show_whole" = some (some (.ref fShow)))
    (lShow : K.lookup fShow = some ⟨ocShow, odShow, .func (PySem.W.fnOf "show_whole" "show_whole" (defArgs sShow) (defBody sShow) (defScope sShow) .none kVShow dcShow pmShow anShow cdShow ctShow), slShow⟩)
    (cShow : PySem.W.codeIn K cdShow "show_whole" = true)
    (kShow : PySem.W.keepIn K (.ref fShow) = true)
    (aWhole : PySem.W.nsIn K mainGlobals "is_whole" = some (some (.ref fWhole)))
    (lWhole : K.lookup fWhole = some ⟨ocWhole, odWhole, .func (PySem.W.fnOf "is_whole" "is_whole" (defArgs sWhole) (defBody sWhole) (defScope sWhole) .none kVWhole dcWhole pmWhole anWhole cdWhole ctWhole), slWhole⟩)
    (cWhole : PySem.W.codeIn K cdWhole "is_whole" = true)
    (kWhole : PySem.W.keepIn K (.ref fWhole) = true)
    (aMark : PySem.W.nsIn K mainGlobals "is_mark" = some (some (.ref fMark)))
    (lMark : K.lookup fMark = some ⟨ocMark, odMark, .func (PySem.W.fnOf "is_mark" "is_mark" (defArgs sMark) (defBody sMark) (defScope sMark) .none kVMark dcMark pmMark anMark cdMark ctMark), slMark⟩)
    (cMark : PySem.W.codeIn K cdMark "is_mark" = true)
    (kMark : PySem.W.keepIn K (.ref fMark) = true)
    (aNumber : PySem.W.nsIn K mainGlobals "mark_number" = some (some (.ref fNumber)))
    (lNumber : K.lookup fNumber = some ⟨ocNumber, odNumber, .func (PySem.W.fnOf "mark_number" "mark_number" (defArgs sNumber) (defBody sNumber) (defScope sNumber) .none kVNumber dcNumber pmNumber anNumber cdNumber ctNumber), slNumber⟩)
    (cNumber : PySem.W.codeIn K cdNumber "mark_number" = true)
    (kNumber : PySem.W.keepIn K (.ref fNumber) = true)
    (aDeck : PySem.W.nsIn K mainGlobals "_law_deck" = some (some (.ref fDeck)))
    (lDeck : K.lookup fDeck = some ⟨ocDeck, odDeck, .func (PySem.W.fnOf "_law_deck" "_law_deck" (defArgs sDeck) (defBody sDeck) (defScope sDeck) .none kVDeck dcDeck pmDeck anDeck cdDeck ctDeck), slDeck⟩)
    (cDeck : PySem.W.codeIn K cdDeck "_law_deck" = true)
    (kDeck : PySem.W.keepIn K (.ref fDeck) = true)
    (aDraw : PySem.W.nsIn K mainGlobals "_law_draw" = some (some (.ref fDraw)))
    (lDraw : K.lookup fDraw = some ⟨ocDraw, odDraw, .func (PySem.W.fnOf "_law_draw" "_law_draw" (defArgs sDraw) (defBody sDraw) (defScope sDraw) .none kVDraw dcDraw pmDraw anDraw cdDraw ctDraw), slDraw⟩)
    (cDraw : PySem.W.codeIn K cdDraw "_law_draw" = true)
    (kDraw : PySem.W.keepIn K (.ref fDraw) = true)
    (aLWhole : PySem.W.nsIn K mainGlobals "_law_whole" = some (some (.ref fLWhole)))
    (lLWhole : K.lookup fLWhole = some ⟨ocLWhole, odLWhole, .func (PySem.W.fnOf "_law_whole" "_law_whole" (defArgs sLWhole) (defBody sLWhole) (defScope sLWhole) .none kVLWhole dcLWhole pmLWhole anLWhole cdLWhole ctLWhole), slLWhole⟩)
    (cLWhole : PySem.W.codeIn K cdLWhole "_law_whole" = true)
    (kLWhole : PySem.W.keepIn K (.ref fLWhole) = true)
    (aTold : PySem.W.nsIn K mainGlobals "_law_told" = some (some (.ref fTold)))
    (lTold : K.lookup fTold = some ⟨ocTold, odTold, .func (PySem.W.fnOf "_law_told" "_law_told" (defArgs sTold) (defBody sTold) (defScope sTold) .none kVTold dcTold pmTold anTold cdTold ctTold), slTold⟩)
    (cTold : PySem.W.codeIn K cdTold "_law_told" = true)
    (kTold : PySem.W.keepIn K (.ref fTold) = true)
    (aSign : PySem.W.nsIn K mainGlobals "_law_sign" = some (some (.ref fSign)))
    (lSign : K.lookup fSign = some ⟨ocSign, odSign, .func (PySem.W.fnOf "_law_sign" "_law_sign" (defArgs sSign) (defBody sSign) (defScope sSign) .none kVSign dcSign pmSign anSign cdSign ctSign), slSign⟩)
    (cSign : PySem.W.codeIn K cdSign "_law_sign" = true)
    (kSign : PySem.W.keepIn K (.ref fSign) = true)
    (aOdd : PySem.W.nsIn K mainGlobals "_law_odd" = some (some (.ref fOdd)))
    (lOdd : K.lookup fOdd = some ⟨ocOdd, odOdd, .func (PySem.W.fnOf "_law_odd" "_law_odd" (defArgs sOdd) (defBody sOdd) (defScope sOdd) .none kVOdd dcOdd pmOdd anOdd cdOdd ctOdd), slOdd⟩)
    (cOdd : PySem.W.codeIn K cdOdd "_law_odd" = true)
    (kOdd : PySem.W.keepIn K (.ref fOdd) = true)
    (aLMark : PySem.W.nsIn K mainGlobals "_law_mark" = some (some (.ref fLMark)))
    (lLMark : K.lookup fLMark = some ⟨ocLMark, odLMark, .func (PySem.W.fnOf "_law_mark" "_law_mark" (defArgs sLMark) (defBody sLMark) (defScope sLMark) .none kVLMark dcLMark pmLMark anLMark cdLMark ctLMark), slLMark⟩)
    (cLMark : PySem.W.codeIn K cdLMark "_law_mark" = true)
    (kLMark : PySem.W.keepIn K (.ref fLMark) = true)
    (aSix : PySem.W.nsIn K mainGlobals "_law_sixteens" = some (some (.ref fSix)))
    (lSix : K.lookup fSix = some ⟨ocSix, odSix, .func (PySem.W.fnOf "_law_sixteens" "_law_sixteens" (defArgs sSix) (defBody sSix) (defScope sSix) .none kVSix dcSix pmSix anSix cdSix ctSix), slSix⟩)
    (cSix : PySem.W.codeIn K cdSix "_law_sixteens" = true)
    (kSix : PySem.W.keepIn K (.ref fSix) = true)
    (aBent : PySem.W.nsIn K mainGlobals "_law_text_otherwise" = some (some (.ref fBent)))
    (lBent : K.lookup fBent = some ⟨ocBent, odBent, .func (PySem.W.fnOf "_law_text_otherwise" "_law_text_otherwise" (defArgs sBent) (defBody sBent) (defScope sBent) .none kVBent dcBent pmBent anBent cdBent ctBent), slBent⟩)
    (cBent : PySem.W.codeIn K cdBent "_law_text_otherwise" = true)
    (kBent : PySem.W.keepIn K (.ref fBent) = true)
    (aLIsMark : PySem.W.nsIn K mainGlobals "_law_is_mark" = some (some (.ref fLIsMark)))
    (lLIsMark : K.lookup fLIsMark = some ⟨ocLIsMark, odLIsMark, .func (PySem.W.fnOf "_law_is_mark" "_law_is_mark" (defArgs sLIsMark) (defBody sLIsMark) (defScope sLIsMark) .none kVLIsMark dcLIsMark pmLIsMark anLIsMark cdLIsMark ctLIsMark), slLIsMark⟩)
    (cLIsMark : PySem.W.codeIn K cdLIsMark "_law_is_mark" = true)
    (kLIsMark : PySem.W.keepIn K (.ref fLIsMark) = true)
    (aLNumber : PySem.W.nsIn K mainGlobals "_law_number" = some (some (.ref fLNumber)))
    (lLNumber : K.lookup fLNumber = some ⟨ocLNumber, odLNumber, .func (PySem.W.fnOf "_law_number" "_law_number" (defArgs sLNumber) (defBody sLNumber) (defScope sLNumber) .none kVLNumber dcLNumber pmLNumber anLNumber cdLNumber ctLNumber), slLNumber⟩)
    (cLNumber : PySem.W.codeIn K cdLNumber "_law_number" = true)
    (kLNumber : PySem.W.keepIn K (.ref fLNumber) = true)
    (aRight : PySem.W.nsIn K mainGlobals "_law_right" = some (some (.ref fRight)))
    (lRight : K.lookup fRight = some ⟨ocRight, odRight, .func (PySem.W.fnOf "_law_right" "_law_right" (defArgs sRight) (defBody sRight) (defScope sRight) .none kVRight dcRight pmRight anRight cdRight ctRight), slRight⟩)
    (cRight : PySem.W.codeIn K cdRight "_law_right" = true)
    (kRight : PySem.W.keepIn K (.ref fRight) = true)
    (aLaw : PySem.W.nsIn K mainGlobals "law" = some (some (.ref fLaw)))
    (lLaw : K.lookup fLaw = some ⟨ocLaw, odLaw, .func (PySem.W.fnOf "law" "law" (defArgs sLaw) (defBody sLaw) (defScope sLaw) .none kVLaw dcLaw pmLaw anLaw cdLaw ctLaw), slLaw⟩)
    (cLaw : PySem.W.codeIn K cdLaw "law" = true)
    (kLaw : PySem.W.keepIn K (.ref fLaw) = true)
    (gBLK : PySem.W.nsIn K mainGlobals "BLOCK" = some (some (.int zBLK tBLK)))
    (big : (2 : Int) ^ 1600 ≤ zBLK)
    (ggcd : PySem.W.nsIn K mainGlobals "gcd" = some (some (.builtin "math.gcd")))
    (gSX : PySem.W.nsIn K mainGlobals "SIXTEENS" = some (some (.str zSX tSX)))
    (eSX : zSX = SIX)
    (gMF : PySem.W.nsIn K mainGlobals "MOST_FIGURES" = some (some (.int zMF tMF)))
    (eMF : zMF = 6)
    (z_isinstance : PySem.W.nsIn K mainGlobals "isinstance" = some none)
    (z_int : PySem.W.nsIn K mainGlobals "int" = some none)
    (z_bool : PySem.W.nsIn K mainGlobals "bool" = some none)
    (z_range : PySem.W.nsIn K mainGlobals "range" = some none)
    (z_str : PySem.W.nsIn K mainGlobals "str" = some none)
    (z_reversed : PySem.W.nsIn K mainGlobals "reversed" = some none)
    (z_repr : PySem.W.nsIn K mainGlobals "repr" = some none)
    (z_len : PySem.W.nsIn K mainGlobals "len" = some none)
    (z_all : PySem.W.nsIn K mainGlobals "all" = some none)
    (z_sorted : PySem.W.nsIn K mainGlobals "sorted" = some none)
    (wi : PySem.W.kitOne K (.ref C) (.type "int") = some false)
    (wb : PySem.W.kitOne K (.ref C) (.type "bool") = some false)
    (ws : PySem.W.kitOne K (.ref C) (.type "str") = some false) :
    ∃ fd : FuncData, (∀ (s : Shared) (v : Value), BindsTo s fd ⟨[v], []⟩ [("_law_script", v)]) ∧ ∀ base : Heap, K.In base → base.Ns mainGlobals mg → FnG l.prog w K mg base CX0 23 fa fd ["_law_script"] (spLaw K) := by
  have e := hfa.symm.trans (PySem.W.mg_of X G aLaw)
  cases e
  have CLC : Cls K C := ⟨pgC, hdC, poC, saC⟩
  have NC : WIns K C := ⟨waC, wn, wt, wmC⟩
  have FInit : FunD K "__init__" "Weight.__init__" (defArgs sInit) (defBody sInit) (defScope sInit) [.int 1] [] fInit _ := ⟨⟨_, _, _, _, _, _, _, _, _, _, rfl, lInit, cInit, .inr ⟨by simp, DInit, _, [Value.int 1 tkDInit], _, rfl, lDInit, rfl, .cons (⟨_, rfl⟩) .nil⟩, .inl rfl⟩, kInit⟩
  have mInit : Meth K C "__init__" fInit := ⟨aInit, iInit, kInit⟩
  have FRepr := fun_mk (st := sRepr) lRepr cRepr kRepr
  have bRepr := FRepr.binds (ps := ["self"]) fun _ _ _ _ _ _ us hl => match us, hl with | [_], _ => rfl
  have FMade := fun_mk (st := sMade) lMade cMade kMade
  have qMade : Cl K mg "made_of" fMade _ ["text", "signs"] := ⟨PySem.W.mg_of X G aMade, kMade, FMade.binds (ps := ["text", "signs"]) fun _ _ _ _ _ _ us hl => match us, hl with | [_, _], _ => rfl⟩
  have FNumeral := fun_mk (st := sNumeral) lNumeral cNumeral kNumeral
  have qNumeral : Cl K mg "is_numeral" fNumeral _ ["text", "signs", "most"] := ⟨PySem.W.mg_of X G aNumeral, kNumeral, FNumeral.binds (ps := ["text", "signs", "most"]) fun _ _ _ _ _ _ us hl => match us, hl with | [_, _, _], _ => rfl⟩
  have FShow := fun_mk (st := sShow) lShow cShow kShow
  have qShow : Cl K mg "show_whole" fShow _ ["number"] := ⟨PySem.W.mg_of X G aShow, kShow, FShow.binds (ps := ["number"]) fun _ _ _ _ _ _ us hl => match us, hl with | [_], _ => rfl⟩
  have FWhole := fun_mk (st := sWhole) lWhole cWhole kWhole
  have qWhole : Cl K mg "is_whole" fWhole _ ["thing"] := ⟨PySem.W.mg_of X G aWhole, kWhole, FWhole.binds (ps := ["thing"]) fun _ _ _ _ _ _ us hl => match us, hl with | [_], _ => rfl⟩
  have FMark := fun_mk (st := sMark) lMark cMark kMark
  have qMark : Cl K mg "is_mark" fMark _ ["thing"] := ⟨PySem.W.mg_of X G aMark, kMark, FMark.binds (ps := ["thing"]) fun _ _ _ _ _ _ us hl => match us, hl with | [_], _ => rfl⟩
  have FNumber := fun_mk (st := sNumber) lNumber cNumber kNumber
  have qNumber : Cl K mg "mark_number" fNumber _ ["mark"] := ⟨PySem.W.mg_of X G aNumber, kNumber, FNumber.binds (ps := ["mark"]) fun _ _ _ _ _ _ us hl => match us, hl with | [_], _ => rfl⟩
  have FDeck := fun_mk (st := sDeck) lDeck cDeck kDeck
  have qDeck : Cl K mg "_law_deck" fDeck _ ["_law_cell"] := ⟨PySem.W.mg_of X G aDeck, kDeck, FDeck.binds (ps := ["_law_cell"]) fun _ _ _ _ _ _ us hl => match us, hl with | [_], _ => rfl⟩
  have FDraw := fun_mk (st := sDraw) lDraw cDraw kDraw
  have qDraw : Cl K mg "_law_draw" fDraw _ ["_law_deck_here", "_law_most"] := ⟨PySem.W.mg_of X G aDraw, kDraw, FDraw.binds (ps := ["_law_deck_here", "_law_most"]) fun _ _ _ _ _ _ us hl => match us, hl with | [_, _], _ => rfl⟩
  have FLWhole := fun_mk (st := sLWhole) lLWhole cLWhole kLWhole
  have qLWhole : Cl K mg "_law_whole" fLWhole _ ["_law_thing"] := ⟨PySem.W.mg_of X G aLWhole, kLWhole, FLWhole.binds (ps := ["_law_thing"]) fun _ _ _ _ _ _ us hl => match us, hl with | [_], _ => rfl⟩
  have FTold := fun_mk (st := sTold) lTold cTold kTold
  have qTold : Cl K mg "_law_told" fTold _ ["_law_query", "_law_thing", "_law_due"] := ⟨PySem.W.mg_of X G aTold, kTold, FTold.binds (ps := ["_law_query", "_law_thing", "_law_due"]) fun _ _ _ _ _ _ us hl => match us, hl with | [_, _, _], _ => rfl⟩
  have FSign := fun_mk (st := sSign) lSign cSign kSign
  have qSign : Cl K mg "_law_sign" fSign _ ["_law_deck_here"] := ⟨PySem.W.mg_of X G aSign, kSign, FSign.binds (ps := ["_law_deck_here"]) fun _ _ _ _ _ _ us hl => match us, hl with | [_], _ => rfl⟩
  have FOdd := fun_mk (st := sOdd) lOdd cOdd kOdd
  have qOdd : Cl K mg "_law_odd" fOdd _ ["_law_deck_here"] := ⟨PySem.W.mg_of X G aOdd, kOdd, FOdd.binds (ps := ["_law_deck_here"]) fun _ _ _ _ _ _ us hl => match us, hl with | [_], _ => rfl⟩
  have FLMark := fun_mk (st := sLMark) lLMark cLMark kLMark
  have qLMark : Cl K mg "_law_mark" fLMark _ ["_law_deck_here"] := ⟨PySem.W.mg_of X G aLMark, kLMark, FLMark.binds (ps := ["_law_deck_here"]) fun _ _ _ _ _ _ us hl => match us, hl with | [_], _ => rfl⟩
  have FSix := fun_mk (st := sSix) lSix cSix kSix
  have qSix : Cl K mg "_law_sixteens" fSix _ ["_law_number_here"] := ⟨PySem.W.mg_of X G aSix, kSix, FSix.binds (ps := ["_law_number_here"]) fun _ _ _ _ _ _ us hl => match us, hl with | [_], _ => rfl⟩
  have FBent := fun_mk (st := sBent) lBent cBent kBent
  have qBent : Cl K mg "_law_text_otherwise" fBent _ ["_law_deck_here", "_law_text"] := ⟨PySem.W.mg_of X G aBent, kBent, FBent.binds (ps := ["_law_deck_here", "_law_text"]) fun _ _ _ _ _ _ us hl => match us, hl with | [_, _], _ => rfl⟩
  have FLIsMark := fun_mk (st := sLIsMark) lLIsMark cLIsMark kLIsMark
  have qLIsMark : Cl K mg "_law_is_mark" fLIsMark _ ["_law_thing"] := ⟨PySem.W.mg_of X G aLIsMark, kLIsMark, FLIsMark.binds (ps := ["_law_thing"]) fun _ _ _ _ _ _ us hl => match us, hl with | [_], _ => rfl⟩
  have FLNumber := fun_mk (st := sLNumber) lLNumber cLNumber kLNumber
  have qLNumber : Cl K mg "_law_number" fLNumber _ ["_law_mark_here"] := ⟨PySem.W.mg_of X G aLNumber, kLNumber, FLNumber.binds (ps := ["_law_mark_here"]) fun _ _ _ _ _ _ us hl => match us, hl with | [_], _ => rfl⟩
  have FRight := fun_mk (st := sRight) lRight cRight kRight
  have qRight : Cl K mg "_law_right" fRight _ ["_law_thing"] := ⟨PySem.W.mg_of X G aRight, kRight, FRight.binds (ps := ["_law_thing"]) fun _ _ _ _ _ _ us hl => match us, hl with | [_], _ => rfl⟩
  have FLaw := fun_mk (st := sLaw) lLaw cLaw kLaw
  refine ⟨PySem.W.fnOf "law" "law" (defArgs sLaw) (defBody sLaw) (defScope sLaw) .none kVLaw dcLaw pmLaw anLaw cdLaw ctLaw, fun s v => .of_eq rfl, fun base _ _ => ?_⟩
  have T : WTxt K mg C fWhole := ⟨CLC, nC_top, nC_bottom, PySem.W.mg_of X G aC, PySem.W.mg_of X G aWhole, kWhole, PySem.W.mg_of X G ggcd⟩
  have B : Blt mg := ⟨(PySem.W.mg_none_of X G z_isinstance), (PySem.W.mg_none_of X G z_int), (PySem.W.mg_none_of X G z_bool)⟩
  have M : Mk K C fInit := ⟨mkC, aInit, iInit, kcC⟩
  have bI : Binds K _ ["self", "top", "bottom"] [] := bindsI FInit
  obtain ⟨ds, vd, bI1⟩ := bindsI1 FInit
  have GWv := ok_wholeV (P := l.prog) (w := w) (base := base) FWhole B
  have GLW := _root_.K.FnOk.ints (ok_lwholeV (P := l.prog) (w := w) (base := base) FLWhole B)
  have GI := ok_init FInit T (_root_.K.FnOk.ints GWv) qWhole.b
  have GSh := ok_show (P := l.prog) (w := w) (mg := mg) (base := base) FShow (PySem.W.mg_none_of X G z_str) (PySem.W.mg_none_of X G z_reversed) (PySem.W.mg_of X G gBLK) big
  have GR := ok_repr FRepr T qShow GSh
  have GDk := ok_deck (P := l.prog) (w := w) (mg := mg) (base := base) FDeck B
  have GDr := ok_draw (P := l.prog) (w := w) (mg := mg) (base := base) FDraw
  have GOd := ok_odd FOdd T (PySem.W.mg_none_of X G z_range) (PySem.W.mg_none_of X G z_len) M GI bI vd bI1 qDraw GDr
  have GMd := ok_made (P := l.prog) (w := w) (base := base) FMade (PySem.W.mg_none_of X G z_all)
  have GNl := ok_numeral FNumeral (PySem.W.mg_none_of X G z_len) qMade GMd
  have GM := ok_mark FMark B (PySem.W.mg_none_of X G z_str) qNumeral GNl (PySem.W.mg_of X G gSX) eSX (PySem.W.mg_of X G gMF) eMF
  have GN := ok_mknum (P := l.prog) (w := w) (base := base) FNumber B
  have GLN := ok_lnum (P := l.prog) (w := w) (mg := mg) (base := base) FLNumber
  have GLM := ok_lismark (P := l.prog) (w := w) (base := base) FLIsMark B (PySem.W.mg_none_of X G z_str) (PySem.W.mg_none_of X G z_len)
  have GSx := ok_six (P := l.prog) (w := w) (mg := mg) (base := base) FSix
  have GMk := ok_lmark FLMark qDraw GDr qSix GSx
  have GSi := ok_sign FSign (PySem.W.mg_none_of X G z_len) qDraw GDr
  have GBe := ok_bent FBent B (PySem.W.mg_none_of X G z_len) qDraw GDr qSign GSi
  have AQ : ∀ f sp, Rq2 K fMark f sp → Held l.prog w K mg base 3 f sp := fun f sp h => by
    obtain ⟨rfl, rfl⟩ := h
    exact ⟨_, _, GM, kMark, qMark.b⟩
  have GTo := ok_told FTold T B NC wi wb ws aRepr iRepr bRepr GR (PySem.W.mg_none_of X G z_repr) (PySem.W.mg_none_of X G z_range) AQ
  have GRi := ok_right FRight T NC wi wb ws qMark.g qTold GTo qLIsMark GLM qNumber GN qLWhole GLW qLNumber GLN
  exact ok_law FLaw (PySem.W.mg_none_of X G z_range) (PySem.W.mg_none_of X G z_sorted) qRight GRi qDeck GDk qLMark GMk qBent GBe qOdd GOd qMark GM qNumber GN
theorem walk {l : PySem.W.OpenLaw} {q : Program} {loose : List Str} {XP : (Str → Option Value) → Heap → Prop} {YP : World → Heap → Prop} {d : DefRec} {K : Params → PySem.W.Frag} (hn : l.most = some 63) (hdf : d.params.defaults = [])
    (hY : ∀ (w : World) (h : Heap), YP w h → (K w.params).In h)
    (F : ∀ (w : World) (mg : Str → Option Value) (fa : Addr) (h : Heap), (K w.params).In h → h.Ns mainGlobals mg → mg d.name = some (.ref fa) →
      ∃ fd : FuncData, (∀ (s : Shared) (u : Value), BindsTo s fd ⟨[u], []⟩ [("_law_script", u)]) ∧ ∀ base : Heap, (K w.params).In base → base.Ns mainGlobals mg → FnG l.prog w (K w.params) mg base CX0 23 fa fd ["_law_script"] (spLaw (K w.params))) :
    PySem.W.WalkO q loose XP YP l.row.toRowW d [] (fun f vs => PySem.call f vs) :=
  walk_ofG (n := 63) (k := 23) (x := "_law_script") (CX := fun _ => CX0) (sp := fun w => spLaw (K w.params)) hn (by decide) hdf ⟨rfl, by decide, by decide⟩ hY F (fun _ _ a ns hl _ hS => ⟨a, ns, rfl, hS, hl, fun _ => rfl⟩) fun _ _ _ _ _ z => z
end K
open PySem PySem.W PyProof.Rows
set_option maxRecDepth 100000 in
set_option maxHeartbeats 0 in
theorem PySem.Challenge.cw_casknotes_k02_marks_and_their_numbers_holds : PySem.Challenge.rw_casknotes_k02_marks_and_their_numbers.Holds := by
  w_on; o_law; k_head; (case hw => w_witness2)
  k_fill
  refine K.walk (l := PySem.Challenge.rw_casknotes_k02_marks_and_their_numbers) rfl rfl (fun w h Y => PySem.W.kIn_of Y) ?F
  case F =>
    intro w mg fa h KX G hmg
    refine' K.all_mk KX G hmg ?aC ?pgC ?hdC ?poC ?saC ?mkC ?kcC ?nC_top ?nC_bottom ?waC ?wmC ?wneC ?wn ?wt ?aInit ?iInit ?lInit ?cInit ?kInit ?lDInit ?aRepr ?iRepr ?lRepr ?cRepr ?kRepr ?aMade ?lMade ?cMade ?kMade ?aNumeral ?lNumeral ?cNumeral ?kNumeral ?aShow ?lShow ?cShow ?kShow ?aWhole ?lWhole ?cWhole ?kWhole ?aMark ?lMark ?cMark ?kMark ?aNumber ?lNumber ?cNumber ?kNumber ?aDeck ?lDeck ?cDeck ?kDeck ?aDraw ?lDraw ?cDraw ?kDraw ?aLWhole ?lLWhole ?cLWhole ?kLWhole ?aTold ?lTold ?cTold ?kTold ?aSign ?lSign ?cSign ?kSign ?aOdd ?lOdd ?cOdd ?kOdd ?aLMark ?lLMark ?cLMark ?kLMark ?aSix ?lSix ?cSix ?kSix ?aBent ?lBent ?cBent ?kBent ?aLIsMark ?lLIsMark ?cLIsMark ?kLIsMark ?aLNumber ?lLNumber ?cLNumber ?kLNumber ?aRight ?lRight ?cRight ?kRight ?aLaw ?lLaw ?cLaw ?kLaw ?gBLK ?big ?ggcd ?gSX ?eSX ?gMF ?eMF ?z_isinstance ?z_int ?z_bool ?z_range ?z_str ?z_reversed ?z_repr ?z_len ?z_all ?z_sorted ?wi ?wb ?ws
    (case aC => k_is)
    (case pgC => k_is)
    (case hdC => k_is)
    (case poC => k_is)
    (case saC => k_is)
    (case mkC => k_is)
    (case kcC => k_is)
    (case nC_top => k_is)
    (case nC_bottom => k_is)
    (case waC => k_is)
    (case wmC => k_is)
    (case wneC => k_is)
    (case wn => k_is)
    (case wt => k_is)
    (case aInit => k_is)
    (case iInit => k_is)
    (case lInit => k_is)
    (case cInit => k_is)
    (case kInit => k_is)
    (case lDInit => k_is)
    (case aRepr => k_is)
    (case iRepr => k_is)
    (case lRepr => k_is)
    (case cRepr => k_is)
    (case kRepr => k_is)
    (case aMade => k_is)
    (case lMade => k_is)
    (case cMade => k_is)
    (case kMade => k_is)
    (case aNumeral => k_is)
    (case lNumeral => k_is)
    (case cNumeral => k_is)
    (case kNumeral => k_is)
    (case aShow => k_is)
    (case lShow => k_is)
    (case cShow => k_is)
    (case kShow => k_is)
    (case aWhole => k_is)
    (case lWhole => k_is)
    (case cWhole => k_is)
    (case kWhole => k_is)
    (case aMark => k_is)
    (case lMark => k_is)
    (case cMark => k_is)
    (case kMark => k_is)
    (case aNumber => k_is)
    (case lNumber => k_is)
    (case cNumber => k_is)
    (case kNumber => k_is)
    (case aDeck => k_is)
    (case lDeck => k_is)
    (case cDeck => k_is)
    (case kDeck => k_is)
    (case aDraw => k_is)
    (case lDraw => k_is)
    (case cDraw => k_is)
    (case kDraw => k_is)
    (case aLWhole => k_is)
    (case lLWhole => k_is)
    (case cLWhole => k_is)
    (case kLWhole => k_is)
    (case aTold => k_is)
    (case lTold => k_is)
    (case cTold => k_is)
    (case kTold => k_is)
    (case aSign => k_is)
    (case lSign => k_is)
    (case cSign => k_is)
    (case kSign => k_is)
    (case aOdd => k_is)
    (case lOdd => k_is)
    (case cOdd => k_is)
    (case kOdd => k_is)
    (case aLMark => k_is)
    (case lLMark => k_is)
    (case cLMark => k_is)
    (case kLMark => k_is)
    (case aSix => k_is)
    (case lSix => k_is)
    (case cSix => k_is)
    (case kSix => k_is)
    (case aBent => k_is)
    (case lBent => k_is)
    (case cBent => k_is)
    (case kBent => k_is)
    (case aLIsMark => k_is)
    (case lLIsMark => k_is)
    (case cLIsMark => k_is)
    (case kLIsMark => k_is)
    (case aLNumber => k_is)
    (case lLNumber => k_is)
    (case cLNumber => k_is)
    (case kLNumber => k_is)
    (case aRight => k_is)
    (case lRight => k_is)
    (case cRight => k_is)
    (case kRight => k_is)
    (case aLaw => k_is)
    (case lLaw => k_is)
    (case cLaw => k_is)
    (case kLaw => k_is)
    (case gBLK => k_is)
    (case big => decide +kernel)
    (case ggcd => k_is)
    (case gSX => k_is)
    (case eSX => decide +kernel)
    (case gMF => k_is)
    (case eMF => decide +kernel)
    (case z_isinstance => k_is)
    (case z_int => k_is)
    (case z_bool => k_is)
    (case z_range => k_is)
    (case z_str => k_is)
    (case z_reversed => k_is)
    (case z_repr => k_is)
    (case z_len => k_is)
    (case z_all => k_is)
    (case z_sorted => k_is)
    (case wi => kit_is)
    (case wb => kit_is)
    (case ws => kit_is)
