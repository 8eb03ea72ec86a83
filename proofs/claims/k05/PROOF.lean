import PyProof.Rows.All
import Wide.All
import OpenK.AllK
import Wide.FinOn
import HandS.ForMost
import HandS.Rev
import PyProof.JoinWalk
import HandS.Exc
import HandS.ExcOwn
import HandS.ExcIs
import HandS.ExcField
import HandS.ExcInit
import HandS.HotCalls
import HandS.WordsExc
import HandS.IsInst
import HandS.List
import KE.KExcIs
import PyProof.Rows.CountFlat
import HandS.OwnEq
import PyProof.InstEq
import HandS.Gcd
import HandS.Wide
import HandS.FStr
import HandS.StrMore
import HandS.Style
import HandS.NoneIn
import HandS.Defaults
import HandS.TryOnly
import PySem.Challenge.RW_casknotes_k05_weights_reckoned
set_option Elab.async false
set_option linter.all false
set_option maxRecDepth 100000
set_option maxHeartbeats 4000000
/-! repr of things, by the abstract heap: what is told of a value, beneath a running body whose guards are known -/
namespace Rp
open PySem PySem.Spec PyProof.Rows L2

/-- beneath X: room for n calls, X's frames, the guards that run -/
structure Low (X : Cx) (n : Nat) (g : List Code) (A : Around) : Prop where
  rm : Room n A
  fr : A.frames = X.A.frames
  gd : A.guards = some g
section
variable {X : Cx} {n m : Nat} {g : List Code} {A : Around} {a : Addr}
theorem Low.in1 (s : Low X (n + 1) g A) : Low X n g A.in1 := ⟨s.rm.in1, s.fr, s.gd⟩
theorem Low.mono (s : Low X n g A) (h : m ≤ n) : Low X m g A := ⟨s.rm.mono h, s.fr, s.gd⟩
theorem Low.guard {id : String} {v : Value} {us : List Value} (s : Low X (n + 1) g A)
    (hg : (Code.builtin id ⟨v :: us, []⟩).guards = [Code.builtin id ⟨v :: us, []⟩]) (hw : (Code.builtin id ⟨v :: us, []⟩).weight = 1) (hu : (Code.builtin id ⟨v :: us, []⟩).cUnits = 1)
    (he : (Code.builtin id ⟨v :: us, []⟩).envs = []) :
    Low X n (Code.builtin id ⟨v :: us, []⟩ :: g) (A.under (Code.builtin id ⟨v :: us, []⟩)) := by
  obtain ⟨⟨r1, r2, r3⟩, f, gd⟩ := s
  refine ⟨⟨r1, ?_, ?_⟩, ?_, ?_⟩
  · show A.depth + (Code.builtin id ⟨v :: us, []⟩).weight + 3 * n + 5 < _
    rw [hw]; omega
  · show A.units + (Code.builtin id ⟨v :: us, []⟩).cUnits + 16 * n + 200 < _
    rw [hu]; omega
  · show pushEnvs (Code.builtin id ⟨v :: us, []⟩).envs A.frames = _
    rw [he]; exact f
  · show pushGuards (Code.builtin id ⟨v :: us, []⟩).guards A.guards = _
    rw [hg, gd]; rfl
end

/-- what repr tells of v, at any heap grown from H -/
structure Says (X : Cx) (n : Nat) (as : List Addr) (H : Hp) (v : V) (t : Str) : Prop where
  und : ∀ (A : Around) (g : List Code) (base : Nat) (pins : List (Addr × Obj)) (s : Shared) (σ : L2.St) (H1 : Hp) (u : Value), Low X n g A → (∀ b ∈ as, Clear g b) → Inv X pins σ H1 s → Same H H1 → RelV v u → base + t.length ≤ sizeLine →
    wpAny (model X.prog X.w) A (pyReprUnder base u) (fun r s' => r = t ∧ ∃ H2, Inv X pins σ H2 s' ∧ Same H1 H2) X.xe s
  top : ∀ (A : Around) (g : List Code) (pins : List (Addr × Obj)) (s : Shared) (σ : L2.St) (H1 : Hp) (u : Value), Low X n g A → (∀ b ∈ as, Clear g b) → Inv X pins σ H1 s → Same H H1 → RelV v u → t.length ≤ sizeLine →
    wpAny (model X.prog X.w) A (call (.builtin "repr") [u]) (fun r s' => (∃ tk, r = .str t tk) ∧ ∃ H2, Inv X pins σ H2 s' ∧ Same H1 H2) X.xe s

section
variable {X : Cx} {n m : Nat} {as as' : List Addr} {H H' : Hp} {v : V} {t : Str} {a : Addr}
theorem Says.grow (h : Says X n as H v t) (e : Same H H') : Says X n as H' v t :=
  ⟨fun A g base pins s σ H1 u lo cl I x => h.und A g base pins s σ H1 u lo cl I (e.trans x), fun A g pins s σ H1 u lo cl I x => h.top A g pins s σ H1 u lo cl I (e.trans x)⟩
theorem Says.mono (h : Says X n as H v t) (hn : n ≤ m) (hs : ∀ b ∈ as, b ∈ as') : Says X m as' H v t :=
  ⟨fun A g base pins s σ H1 u lo cl => h.und A g base pins s σ H1 u (lo.mono hn) fun b hb => cl b (hs b hb), fun A g pins s σ H1 u lo cl => h.top A g pins s σ H1 u (lo.mono hn) fun b hb => cl b (hs b hb)⟩
theorem says_leaf (hi : ∀ u, RelV v u → ReprIs X.prog X.w u t) (ht : ∀ (A : Around) (E : Value → Shared → Prop) (s : Shared) (u : Value) (Q : Value → Shared → Prop), RelV v u → t.length ≤ sizeLine → Q (.str t s.toks) { s with toks := s.toks + 1 } → wpAny (model X.prog X.w) A (call (.builtin "repr") [u]) Q E s) :
    Says X 0 [] H v t :=
  ⟨fun A g base pins s σ H1 u _ _ I _ r hz => hi u r base hz A X.xe s _ fun tk => ⟨rfl, H1, I.tok tk, Same.refl H1⟩,
   fun A g pins s σ H1 u _ _ I _ r hz => ht A X.xe s u _ r hz ⟨⟨_, rfl⟩, H1, I.tok _, Same.refl H1⟩⟩
theorem says_bl (b : Bool) : Says X 0 [] H (.bl b) (if b then "True" else "False" : String) := by
  refine says_leaf (fun u r => ?_) fun A E s u Q r _ q => ?_
  · cases r
    have h := ReprIs.bool (prog := X.prog) (w := X.w) b
    cases b <;> exact h
  · cases r
    refine PySem.P.repr_of_bool ?_
    cases b <;> exact q
theorem says_non : Says X 0 [] H .non ("None" : String) := by
  refine says_leaf (fun u r => ?_) fun A E s u Q r _ q => ?_
  · cases r; exact ReprIs.none
  · cases r; exact PySem.P.repr_of_none q
theorem says_int {i : Int} (hi : i.natAbs.log2 < 1920) : Says X 0 [] H (.int i) (toString i) := by
  refine says_leaf (fun u r => ?_) fun A E s u Q r _ q => ?_
  · obtain ⟨tk, rfl⟩ := r; exact ReprIs.int tk hi
  · obtain ⟨tk, rfl⟩ := r; exact PySem.P.repr_of_int hi q
theorem says_str {x : Str} (hx : (reprText x).length ≤ sizeLine) : Says X 0 [] H (.str x) (reprText x) := by
  refine says_leaf (fun u r => ?_) fun A E s u Q r hz q => ?_
  · obtain ⟨tk, rfl⟩ := r; exact ReprIs.str x tk hx
  · obtain ⟨tk, rfl⟩ := r; exact PySem.P.repr_of_str q hz
end

/-! ### lists -/
section
variable {X : Cx} {n : Nat} {as : List Addr} {H : Hp} {a P : Addr} {xs : List V} {ts : List Str} {base : Nat} {g : List Code} {A : Around} {pins : List (Addr × Obj)} {σ : L2.St}
abbrev loopC (a P : Addr) (i k : Nat) : Code := .builtin "list.__repr__.loop" ⟨[.ref a, rawInt i, .ref P, rawInt (k : Int)], []⟩
theorem low_loop (lo : Low X (n + 1) g A) (i k : Nat) : Low X n (loopC a P i k :: g) (A.under (loopC a P i k)) :=
  lo.guard (by show (if Code.isGuard _ then _ else _) = _; rw [isGuard_list_loop]; rfl)
    (by simp only [Code.weight, isGuard_list_loop]; rfl)
    (by rfl) (by first | rfl | simp [Code.envs, Code.isFrame])
theorem lst_turns (lo : Low X (n + 1) g A) (hcl : ∀ b ∈ as, Clear g b) (hna : a ∉ as) (hit : ∀ (i : Nat) (x : V), xs[i]? = some x → ∃ t, ts[i]? = some t ∧ Says X n as H x t) (hl : ts.length = xs.length)
    (hsz : base + (listText ts).length ≤ sizeLine) (hq : SqL X.K H a xs) (haP : a ≠ P) {R : Result → Shared → Prop}
    (fin : ∀ s H2 u, Inv X pins σ H2 s → Same H H2 → R (.ok (.ret (.str (listText ts) u))) s) (bad : ∀ e s, X.xe e s → R (.error e) s) :
    ∀ (k i : Nat) (s : Shared) (H1 : Hp) (acc : Array Value) (c : Nat) (done : List (Str × Tok)), xs.length - i = k → i ≤ xs.length → Inv X pins σ H1 s → Same H H1 → FpOk X pins H1 P →
      s.heap.get? P = some { cls := .type "list", dict := none, data := .seq acc c, slots := #[] } → acc.toList = strValues done → done.map (·.1) = ts.take i →
      codeAny (model X.prog X.w) A (loopC a P i (base + piled (ts.take i))) R s := by
  have hL := textFrom_len ts 0 "["
  have hX : (listText ts).length = (textFrom 0 "[" ts).length + 1 := by
    unfold listText
    rw [strLen_append]; rfl
  have hsz0 : (listText ts).length ≤ sizeLine := by omega
  have small : ∀ t ∈ ts, t.length ≤ sizeLine := fun t ht => by
    have h2 := hL.2.1 t ht
    omega
  have hp3 := piled_le_listText ts
  have hn1 : xs.length ≤ sizeLine := by
    have h1 := hL.1
    rw [if_neg (Nat.lt_irrefl 0)] at h1
    omega
  intro k
  induction k with
  | zero =>
    intro i s H1 acc c done hk hi I hs fp hP hacc hdone
    have hin : i = xs.length := by omega
    obtain ⟨its, rv, pl, _⟩ := I.list (hs.seq hq)
    obtain ⟨oa, na, ho, _, _, hd⟩ := pl
    refine codeAny_builtin PySem.F.entry_list_repr_loop ?_
    show wpAny _ _ (Builtin.«list.__repr__.loop» ⟨[.ref a, .int i 0, .ref P, .int ((base + piled (ts.take i) : Nat) : Int) 0], []⟩) _ _ s
    rw [repr_loop_tree]
    refine wpAny_bind (wpAny_listItems ho hd ?_)
    have none_ : its.toArray[((i : Int)).toNat]? = none := by
      have := rv.length
      simp; omega
    simp only [none_]
    unfold reprEnd
    refine wpAny_bind (wpAny_listItems hP rfl ?_)
    rw [hacc, repr_fold]
    have hall : done.map (·.1) = ts := by rw [hdone, hin, ← hl, List.take_length]
    refine wpAny_bind (wpAny_pure ?_)
    rw [hall]
    exact wpAny_bind (wpAny_mkStr (wpAny_pure (fin _ H1 _ (I.tok _) hs)) hsz0)
  | succ k ih =>
    intro i s H1 acc c done hk hi I hs fp hP hacc hdone
    have hlt : i < xs.length := by omega
    obtain ⟨its, rv, pl, _⟩ := I.list (hs.seq hq)
    obtain ⟨oa, na, ho, _, _, hd⟩ := pl
    have hlt2 : i < its.length := by rw [← rv.length]; exact hlt
    obtain ⟨t, ht, hsay⟩ := hit i xs[i] (List.getElem?_eq_getElem hlt)
    obtain ⟨u, hu, ru⟩ := rv.get (List.getElem?_eq_getElem hlt)
    have hp1 := piled_take_succ ht
    have hp2 := piled_take_le ts (i + 1)
    refine codeAny_builtin PySem.F.entry_list_repr_loop ?_
    show wpAny _ _ (Builtin.«list.__repr__.loop» ⟨[.ref a, .int i 0, .ref P, .int ((base + piled (ts.take i) : Nat) : Int) 0], []⟩) _ _ s
    rw [repr_loop_tree]
    refine wpAny_bind (wpAny_listItems ho hd ?_)
    have some_ : its.toArray[i]? = some u := by simpa using hu
    simp only [Int.toNat_natCast, some_]
    obtain ⟨f0, f1, f2, f3, f4, f5⟩ := id fp
    have Ip : Inv X ((P, { cls := .type "list", dict := none, data := .seq acc c, slots := #[] }) :: pins) σ H1 s := I.pins_of fun p hp => by
      rcases List.mem_cons.mp hp with e | hp
      · rw [e]
        exact ⟨hP, f0, f1, f2, fun v z => by cases z⟩
      · exact I.pin p (List.mem_append_right _ hp)
    refine wpAny_bind (wpAny_holding (wpAny_mono (hsay.und (A.under (loopC a P i (base + piled (ts.take i)))) (loopC a P i (base + piled (ts.take i)) :: g) (base + piled (ts.take i) + 1) _ s σ H1 u (low_loop lo i _)
      (fun b hb => (hcl b hb).cons (a := a) fun e => hna (e ▸ hb)) Ip hs ru (by omega)) (fun r s2 hr => ?_) fun e s2 he => bad e s2 he))
    obtain ⟨er, H2, I2, e2⟩ := hr
    subst er
    obtain ⟨hP2, n2, _⟩ := I2.pin _ (List.mem_append_right _ List.mem_cons_self)
    have I3 : Inv X pins σ H2 s2 := I2.pins_of fun p hp => I2.pin p (List.mem_append_right _ (List.mem_cons_of_mem _ hp))
    refine wpAny_bind (wpAny_mkStr ?_ (small r (List.mem_of_getElem? ht)))
    refine wpAny_bind ?_
    show wpAny _ _ (updateSeq P _) _ _ _
    have hasz : acc.size ≤ sizeLine := by
      have e1 : acc.toList.length = acc.size := by simp
      have e3 : done.length = (ts.take i).length := by rw [← hdone, List.length_map]
      have e4 : (ts.take i).length ≤ i := by rw [List.length_take]; omega
      have e5 : (strValues done).length = done.length := by simp [strValues]
      rw [hacc] at e1; omega
    refine wpAny_updateSeq hP2 rfl (wpAny_pure ⟨PySem.F.quiet_list_repr_loop _, ?_⟩) hasz
    have e1 : ((i : Int) + 1) = ((i + 1 : Nat) : Int) := by omega
    have e3 : base + piled (ts.take i) + (r.length + 2) = base + piled (ts.take (i + 1)) := by omega
    rw [e1, e3]
    have fp2 : FpOk X pins H2 P := ⟨n2, f1, f2, f3, f4, f5⟩
    refine ih (i + 1) _ H2 (acc.push (.str r s2.toks)) _ (done ++ [(r, s2.toks)]) (by omega) hlt ((I3.tok (s2.toks + 1)).turned (t' := s2.toks + 1) (it := P) (fun b o hb e => ?_) n2 f1 f3 f4 f5) (hs.trans e2) fp2 (Heap.get?_update_self _ hP2 rfl) ?_ ?_
    · exact (Heap.get?_update_other _ _ (fun z : P = b => hb z.symm)).trans e
    · simp [hacc, strValues]
    · rw [List.map_append, hdone, List.take_add_one, ht]
      rfl

/-- the body of list.__repr__, of any base -/
theorem lst_body (lo : Low X (n + 1) g A) (hcl : ∀ b ∈ a :: as, Clear g b) (hna : a ∉ as) (hit : ∀ (i : Nat) (x : V), xs[i]? = some x → ∃ t, ts[i]? = some t ∧ Says X n as H x t) (hl : ts.length = xs.length)
    (hsz : base + (listText ts).length ≤ sizeLine) (hq : SqL X.K H a xs) {s : Shared} {H1 : Hp} (I : Inv X pins σ H1 s) (hs : Same H H1) {R : Result → Shared → Prop}
    (fin : ∀ s H2 u, Inv X pins σ H2 s → Same H1 H2 → R (.ok (.ret (.str (listText ts) u))) s) (bad : ∀ e s, X.xe e s → R (.error e) s) :
    wpAny (model X.prog X.w) A.in1 (Builtin.listReprAt base ⟨[.ref a], []⟩) (fun fin s' => match fin with | .done f => R (.ok f) s' | .again c' => c'.quiet = true ∧ codeAny (model X.prog X.w) A c' R s') (fun e s' => R (.error e) s') s := by
  obtain ⟨its, rv, pl, _⟩ := I.list (hs.seq hq)
  obtain ⟨oa, na, ho, hc, _, hd⟩ := id pl
  have hca : Clear g a := hcl a List.mem_cons_self
  cases its with
  | nil =>
    cases rv
    have e : ts = [] := List.length_eq_zero_iff.mp hl
    subst e
    refine wpAny_list_repr_empty ho hd ?_
    have q := fin _ H1 s.toks (I.tok (s.toks + 1)) (Same.refl H1)
    rw [listText_nil] at q
    exact q
  | cons y its =>
    refine wpAny_list_repr_head (A := A.in1) lo.gd (fun v rest kw hm => listSameRef_of_ne (hca _ _ _ _ hm)) ho hd ?_
    refine wpAny_bind (m := newList []) (wpAny_newObj_type ?_)
    refine wpAny_pure ⟨PySem.F.quiet_list_repr_loop _, ?_⟩
    have fp := I.fpOk (H' := H1) (Nat.le_refl _) (I.hok.fresh (Nat.le_refl _))
    have q := lst_turns (P := s.heap.objs.size) (R := R) lo (fun b hb => hcl b (List.mem_cons_of_mem _ hb)) hna (fun i x h => let ⟨t, h1, h2⟩ := hit i x h; ⟨t, h1, h2.grow hs⟩) hl hsz (hs.seq hq) (Nat.ne_of_lt (Heap.lt_size ho)) fin bad
      xs.length 0 { s with heap := s.heap.push { cls := .type "list", dict := none, data := .seq [].toArray } } H1 #[] _ [] rfl (Nat.zero_le _) (I.kept (t' := s.toks) fun b o e => Heap.get?_push_of_some _ e) (Same.refl H1) fp (Heap.get?_push_size _ rfl) rfl rfl
    rw [show base + piled (List.take 0 ts) = base by simp [piled]] at q
    exact q
theorem says_lst (hq : SqL X.K H a xs) (hna : a ∉ as) (hl : ts.length = xs.length) (hit : ∀ (i : Nat) (x : V), xs[i]? = some x → ∃ t, ts[i]? = some t ∧ Says X n as H x t) : Says X (n + 2) (a :: as) H (.ref a) (listText ts) := by
  refine ⟨fun A g base pins s σ H1 u lo cl I hs ru hz => ?_, fun A g pins s σ H1 u lo cl I hs ru hz => ?_⟩
  · cases ru
    obtain ⟨its, rv, ⟨oa, na, ho, hc, _, hd⟩, _⟩ := I.list (hs.seq hq)
    refine wpAny_pyReprUnder_ref (by omega) (wpAny_pyReprObjUnder_twin (twin := "list.__repr__.under") ⟨oa, ho, hc⟩ PySem.F.slot_list_repr.toG rfl lo.rm.units0
      (call_twin_plain PySem.F.plain_list_repr_under PySem.F.entry_list_repr_under PySem.F.check_list_repr_under ⟨oa, ho, hc⟩ PySem.F.slot_list_repr.toG (PySem.F.args_list_repr_1 _) ?_))
    exact lst_body (R := callEnd _ _) (lo.mono (by omega)) cl hna hit hl hz hq I hs (fun s2 H2 tk I2 e2 => ⟨⟨_, _, rfl⟩, _, _, rfl, rfl, H2, I2, e2⟩) fun e s2 he => he
  · cases ru
    obtain ⟨its, rv, ⟨oa, na, ho, hc, _, hd⟩, _⟩ := I.list (hs.seq hq)
    have h1 := lo.rm.units
    refine call_repr_slot (by omega) ⟨oa, ho, hc⟩ PySem.F.slot_list_repr.toG (wpAny_call (codeAny_call_builtin PySem.F.slot_list_repr.plain PySem.F.entry_list_repr (PySem.F.slot_list_repr.check _ _ _ _ _ _ _ _ ⟨oa, ho, hc⟩ (PySem.F.args_list_repr_1 _) ?_)))
    exact lst_body (A := A.in1) (base := 0) (R := callEnd _ _) lo.in1 cl hna hit hl (by omega) hq I hs (fun s2 H2 tk I2 e2 => ⟨_, _, rfl, ⟨_, rfl⟩, H2, I2, e2⟩) fun e s2 he => he
end

/-! ### instances of an own class with an own __repr__ -/
section
variable {X : Cx} {n : Nat} {H : Hp} {a C dx f : Addr} {fs : List (Str × V)} {fd : FuncData} {ps : List Str} {sp : Sp} {CX : CXT} {E : XK} {t : Str} {g : List Code} {A : Around} {pins : List (Addr × Obj)} {σ : L2.St} {s : Shared}
/-- a method of one argument, called from beneath X -/
theorem own_run (F : FnOk X.prog X.w X.K X.mg X.base CX n f fd ps sp) (hb : Binds X.K fd ps []) (hx : Passes CX X E) (lo : Low X n g A) (I : Inv X pins σ H s) {Q : VK} (hsp : sp [.ref a] H Q E) :
    wpAny (model X.prog X.w) A (call (.ref f) [.ref a]) (EP X pins σ Q) X.xe s := by
  have e := I.env0
  have e0 : Env0 X.prog X.w X.K X.mg X.base A X.stack s H := ⟨lo.fr.trans e.frames, e.mod, e.bs, e.bsz, e.funs, e.frf, e.hok, e.bare⟩
  have hl := F.len _ _ _ _ hsp
  have bt := hb s [.ref a] I.kIn (by simpa using hl)
  rw [List.append_nil] at bt
  refine wpAny_call (codeAny_mono (F.run A X.stack s H ⟨[.ref a], []⟩ [.ref a] [.ref a] Q E lo.rm e0 bt (.cons rfl .nil) hsp) fun r s' hq => ?_)
  match r, hq with
  | .error e, hq => exact hx pins σ H s e s' I hq
  | .ok (.ret w), hq => exact I.after hq
theorem own_by {M : Model} {last : Value → List Value → Sem Value} {Q : Option Value → Shared → Prop} {E : Value → Shared → Prop} {K : PySem.W.Frag} {x : Addr} {ox : Obj} {od : Option Obj} {name : Str} (kx : K.In s.heap) (J : PySem.W.InstAt s.heap x ox C od)
    (hs : PySem.W.findIn K (.ref C) name = some (some (.ref f))) (hf : PySem.W.isFn K (.ref f) = true) (h : wpAny M A (last (.ref f) [.ref x]) (fun v => Q (some v)) E s) : wpAny M A (callSpecialIfBoundBy? last (.ref x) name) Q E s := by
  have done : wpAny M A (last (.ref f) [.ref x] >>= fun v => pure (some v)) Q E s := wpAny_bind (wpAny_mono h (fun _ _ q => wpAny_pure q) fun _ _ q => q)
  have bd := PySem.W.bind_fn (M := M) kx (.ref x) (beq_iff_eq.mp hf)
  simp only [callSpecialIfBoundBy?, bindSpecialIfBound?]
  refine wpAny_holding (wpAny_bind (wpAny_bind (wpAny_bind (J.type.here ((PySem.W.looks_findIn kx hs).here (wpAny_bind (wpAny_askSetting (wpAny_ite ?_))))))))
  split
  · exact wpAny_bind (bd.here (wpAny_pure done))
  · exact wpAny_tryCatch (wpAny_bind (bd.here (wpAny_pure done)))
theorem says_own (F : FnOk X.prog X.w X.K X.mg X.base CX n f fd ps sp) (hs : PySem.W.findIn X.K (.ref C) "__repr__" = some (some (.ref f))) (hf : PySem.W.isFn X.K (.ref f) = true) (hb : Binds X.K fd ps []) (hx : Passes CX X E)
    (ha : H a = some (.ins C dx fs)) (hsp : ∀ H1, Same H H1 → sp [.ref a] H1 (fun v H2 => v = .str t ∧ Same H1 H2) E) : Says X (n + 1) [] H (.ref a) t := by
  have turn : ∀ {A : Around} {g : List Code} {pins : List (Addr × Obj)} {s : Shared} {σ : L2.St} {H1 : Hp}, Low X n g A → Inv X pins σ H1 s → Same H H1 →
      wpAny (model X.prog X.w) A (call (.ref f) [.ref a]) (fun r s' => ∃ tk, r = .str t tk ∧ ∃ H2, Inv X pins σ H2 s' ∧ Same H1 H2) X.xe s := fun lo I e =>
    wpAny_mono (own_run F hb hx lo I (hsp _ e)) (fun r s' q => by
      obtain ⟨v, H2, I2, r2, ev, e2⟩ := q
      subst ev
      obtain ⟨tk, rfl⟩ := r2
      exact ⟨tk, rfl, H2, I2, e2⟩) fun _ _ q => q
  refine ⟨fun A g base pins s σ H1 u lo cl I e ru hz => ?_, fun A g pins s σ H1 u lo cl I e ru hz => ?_⟩
  · cases ru
    obtain ⟨mA, O, _⟩ := ins_get I.hok (e _ _ ha)
    obtain ⟨od, J, _⟩ := O.look
    have hu := lo.rm.units0
    refine wpAny_pyReprUnder_ref (by omega) ?_
    unfold pyReprObjUnder pyReprObjBy
    refine wpAny_bind (wpAny_cRoomFor hu (wpAny_bind (wpAny_bind (J.type.here ((PySem.W.looks_findIn I.kIn hs).here ?_)))))
    show wpAny _ _ (if (some (Value.ref f)).isNone = true then _ else _) _ _ _
    rw [if_neg (by simp)]
    refine wpAny_bind (own_by I.kIn J hs hf ?_)
    show wpAny _ _ (call (.ref f) [.ref a]) _ _ _
    refine wpAny_mono (turn (lo.mono (Nat.le_succ n)) I e) (fun r s2 q => ?_) fun _ _ q => q
    obtain ⟨tk, rfl, q⟩ := q
    exact wpAny_bind (wpAny_isInstance (typeIs_str _ _ _) isSubtype_str_str (wpAny_pure ⟨t, tk, rfl, rfl, q⟩))
  · cases ru
    obtain ⟨mA, O, _⟩ := ins_get I.hok (e _ _ ha)
    obtain ⟨od, J, _⟩ := O.look
    obtain ⟨m, hF⟩ := I.fr
    refine PySem.W.repr_K lo.in1.rm.units0 hF I.ok.mod.kin J hs hf (wpAny_mono (turn lo.in1 I e) (fun r s2 q => ?_) fun _ _ q => q)
    obtain ⟨tk, rfl, q⟩ := q
    exact ⟨⟨tk, rfl⟩, q⟩
end

/-! ### repr(x) in a body whose guards are known to be none -/
section
variable {X : Cx}
def rRepr (X : Cx) (n : Nat) : List V → Hp → VK → Prop := fun vs H Q => ∃ (v : V) (t : Str) (as : List Addr), vs = [v] ∧ Says X n as H v t ∧ t.length ≤ sizeLine ∧ ∀ H2, Same H H2 → Q (.str t) H2
theorem cr_repr {n : Nat} (hr : Room n X.A) (hg : X.A.guards = some []) : CallR X (.builtin "repr") (rRepr X n) := by
  intro pins s σ H vs us Q I r h
  obtain ⟨v, t, as, rfl, hv, hz, q⟩ := h
  obtain ⟨u, rfl, ru⟩ := vals1 r
  refine wpAny_mono (hv.top X.A [] pins s σ H u ⟨hr, rfl, hg⟩ (fun b _ => Clear.nil b) I (Same.refl H) ru hz) (fun w s2 k => ?_) fun _ _ k => k
  obtain ⟨⟨tk, rfl⟩, H2, I2, e2⟩ := k
  exact ⟨.str t, H2, I2, ⟨tk, rfl⟩, q H2 e2⟩
/-- repr(True), repr(False): whatever guards run -/
theorem cr_reprB : CallR X (.builtin "repr") (fun vs H Q => ∃ b : Bool, vs = [.bl b] ∧ Q (.str (if b then "True" else "False" : String)) H) := by
  intro pins s σ H vs us Q I r h
  obtain ⟨b, rfl, q⟩ := h
  obtain ⟨u, rfl, ru⟩ := vals1 r
  cases ru
  refine PySem.P.repr_of_bool ⟨.str (if b then "True" else "False" : String), H, I.tok _, ⟨s.toks, ?_⟩, q⟩
  cases b <;> rfl
end
end Rp
/-! defs that know that no guard runs around them, and the law's end for such a def -/
namespace Rp
open PySem PySem.Spec PyProof.Rows L2
/-- the promise of a def, where no guard runs around the call -/
structure FnG (P : Program) (w : World) (K : PySem.W.Frag) (mg : Str → Option Value) (base : Heap) (CX : CXT) (k : Nat) (f : Addr) (fd : FuncData) (ps : List Str) (sp : Sp) : Prop where
  len : ∀ vs H Q E, sp vs H Q E → vs.length = ps.length
  go : ∀ (A : Around) (outer : List Env) (s : Shared) (H : Hp) (args : Args) (us : List Value) (vs : List V) (Q : VK) (E : XK), A.guards = some [] → Room k A →
    Env0 P w K mg base A outer s H → BindsTo s fd args (ps.zip us) → Vals vs us → sp vs H Q E → codeAny (model P w) A (.call (.ref f) args) (CR CX outer P w H s Q E) s
section
variable {P : Program} {w : World} {K : PySem.W.Frag} {mg : Str → Option Value} {base : Heap} {CX : CXT} {k : Nat} {f : Addr} {fd : FuncData} {ps : List Str} {sp : Sp}
theorem FnG.of (F : FnOk P w K mg base CX k f fd ps sp) : FnG P w K mg base CX k f fd ps sp := ⟨F.len, fun A outer s H args us vs Q E _ => F.run A outer s H args us vs Q E⟩
/-- a def by its body; the body may use that no guard runs -/
theorem fn_bodyG {name qual : Str} {params : Arguments} {body : List Stmt} {scope : Scope} {dV kV doc pm cdv ct oc : Value} {an od : Option Addr} {osl : Array (Option Value)} {N : List Str}
    (lk : K.lookup f = some ⟨oc, od, .func (PySem.W.fnOf name qual params body scope dV kV doc pm an cdv ct), osl⟩) (hcd : PySem.W.codeIn K cdv qual = true) (S : FnScope N ps scope) (len : ∀ vs H Q E, sp vs H Q E → vs.length = ps.length)
    (hbody : ∀ (A : Around) (outer : List Env) (s : Shared) (H : Hp) (vs : List V) (Q : VK) (E : XK), A.guards = some [] → Room k (A.deeper (envOfC qual scope s.heap.objs.size f cdv)) → sp vs H Q E →
      ∃ t, PSs (cxOf CX P w K mg base N qual scope f cdv A outer s H E) body t ∧ t { nx := fun _ H' => Q .non H', rt := Q } (start N vs) H) :
    FnG P w K mg base CX (k + 1) f (PySem.W.fnOf name qual params body scope dV kV doc pm an cdv ct) ps sp := by
  refine ⟨len, fun A outer s H args us vs Q E gd hr e0 hb rv hsp => ?_⟩
  have here : ∀ b o, base.get? b = some o → s.heap.get? b = some o := fun b o e => (e0.bs b o e).1
  have kx : K.In s.heap := e0.mod.kin.keeps here
  have lim : s.heap.NoLimit := e0.mod.nolimit.keeps here
  have kinds : ∀ y ∈ ps.zip us, scope.names.lookup y.1 = some .local ∨ (scope.names.lookup y.1 = some .cell ∧ ((cellsFrom (s.heap.objs.size + 1) scope.names []).lookup y.1).isSome = true) := by
    rintro ⟨n, v⟩ hy
    exact (S.par n (List.of_mem_zip hy).1).imp id fun q => ⟨q, PySem.W.cellsFrom_some _ _ _ (.inl q)⟩
  refine codeAny_call_function hr.depth (kx _ _ lk) rfl S.co S.gen rfl (PySem.W.codeRec_of kx hcd) (hb _ _ _ _ (wpAny_newFunctionEnv_cells S.kind kinds fun env he s1 ic => ?_))
  subst he
  refine ⟨lim.keeps ic.toInCall.keep, codeAny_func ?_⟩
  obtain ⟨t, ht, hq⟩ := hbody A outer s H vs Q E gd (hr.deeper _) hsp
  have I : L2.Inv (cxOf CX P w K mg base N qual scope f cdv A outer s H E) [] (start N vs) H s1 := inv_start S hr.hd e0 (len _ _ _ _ hsp) rv ic
  refine wpAny_mono (ht.run [] s1 (start N vs) H _ I hq) (fun fl s' hs => ?_) fun e s' hs => hs
  cases fl with
  | next =>
    obtain ⟨σ', H', J, q⟩ := hs
    exact ⟨V.non, H', J.os, J.bare, J.base, J.hok, (rfl : RelV .non Value.none), q⟩
  | ret u =>
    obtain ⟨v, σ', H', J, rv, q⟩ := hs
    exact ⟨v, H', J.os, J.bare, J.base, J.hok, rv, q⟩
  | brk => exact hs.elim fun _ z => z.elim fun _ z => z.2.elim
  | cont => exact hs.elim fun _ z => z.elim fun _ z => z.2.elim
theorem Fun_okG {x qual : Str} {st : Stmt} {N : List Str} (F : Fun K x qual st f fd) (S : FnScope N ps (defScope st)) (len : ∀ vs H Q E, sp vs H Q E → vs.length = ps.length)
    (body : ∀ (cdv : Value) (A : Around) (outer : List Env) (s : Shared) (H : Hp) (vs : List V) (Q : VK) (E : XK), A.guards = some [] →
      Room k (A.deeper (envOfC qual (defScope st) s.heap.objs.size f cdv)) → sp vs H Q E →
      ∃ t, PSs (cxOf CX P w K mg base N qual (defScope st) f cdv A outer s H E) (defBody st) t ∧ t { nx := fun _ H' => Q .non H', rt := Q } (start N vs) H) : FnG P w K mg base CX (k + 1) f fd ps sp := by
  obtain ⟨oc, od, kV, doc, pm, an, cdv, ct, osl, rfl, lk, hcd⟩ := F.ex
  exact fn_bodyG lk hcd S len fun A outer s H vs Q E gd hr hsp => body cdv A outer s H vs Q E gd hr hsp
theorem Fun_okG0 {x qual : Str} {st : Stmt} {N : List Str} (F : Fun K x qual st f fd) (S : FnScope N ps (defScope st)) (len : ∀ vs H Q E, sp vs H Q E → vs.length = ps.length)
    (body : ∀ (cdv : Value) (A : Around) (outer : List Env) (s : Shared) (H : Hp) (vs : List V) (Q : VK) (E : XK), A.guards = some [] →
      Room k (A.deeper (envOfC qual (defScope st) s.heap.objs.size f cdv)) → sp vs H Q E →
      ∃ t, PSs (cxOf CX0 P w K mg base N qual (defScope st) f cdv A outer s H E).nox (defBody st) t ∧ t { nx := fun _ H' => Q .non H', rt := Q } (start N vs) H) : FnG P w K mg base CX0 (k + 1) f fd ps sp :=
  Fun_okG F S len fun cdv A outer s H vs Q E gd hr hsp => let ⟨t, h, q⟩ := body cdv A outer s H vs Q E gd hr hsp; ⟨t, h.nox, q⟩
end

/-! ### the call of such a def -/
section
variable {X : Cx} {CX : CXT} {k : Nat} {f : Addr} {fd : FuncData} {ps : List Str} {sp : Sp} {dvs : List V} {ds : List Value} {E : XK} {x : Str} {p pos : Pos} {e : Expr} {es : List Expr} {t : TA}
theorem run_fnG {pins : List (Addr × Obj)} {σ : L2.St} {H : Hp} {s : Shared} {Q : VK} {us : List Value} {vs : List V} (F : FnG X.prog X.w X.K X.mg X.base CX k f fd ps sp) (hg : X.A.guards = some []) (hr : Room k X.A) (hb : Binds X.K fd ps ds) (hd : Vals dvs ds)
    (hx : Passes CX X E) (I : Inv X pins σ H s) (r : Vals vs us) (h : sp (vs ++ dvs) H Q E) : wpAny (model X.prog X.w) X.A (call (.ref f) us) (EP X pins σ Q) X.xe s := by
  have all := r.append hd
  have hl := all.length.symm.trans (F.len _ _ _ _ h)
  refine wpAny_call (codeAny_mono (F.go X.A X.stack s H ⟨us, []⟩ (us ++ ds) (vs ++ dvs) Q E hg hr I.env0 (hb s us I.kIn hl) all h) fun r s' hq => ?_)
  match r, hq with
  | .error e, hq => exact hx pins σ H s e s' I hq
  | .ok (.ret u), hq => exact I.after hq
theorem pe_callG (F : FnG X.prog X.w X.K X.mg X.base CX k f fd ps sp) (hgd : X.A.guards = some []) (hr : Room k X.A) (hg : Gl X x) (hm : X.mg x = some (.ref f)) (hk : PySem.W.keepIn X.K (.ref f) = true) (hb : Binds X.K fd ps ds) (hd : Vals dvs ds) (hx : Passes CX X E)
    (ha : PA X (e :: es) t) (hdb : (x == ("__debug__" : Str)) = false := by decide) (he : starEach (e :: es) X.env = (false, eval e X.env) :: starEach es X.env := by rfl) (hpl : (backTo pos (starEach es X.env)).any (·.1) = false := by rfl) :
    PE X (.Call (.Name x p) (e :: es) [] pos) (tCall sp dvs E t) :=
  ⟨fun pins s σ H Q I h => wpAny_Call_Name_kw (ld_glob I hg hm (PySem.W.callWith_K (h₀ := X.base) I.ok.mod.kin hk (thn (ha.run pos pins s σ H _ I h) fun us s1 ⟨vs, H1, I1, r, q⟩ => ⟨I1.kIn, run_fnG F hgd hr hb hd hx I1 r q⟩) he hpl) hdb)⟩
end

/-! ### the law's end -/
/-- what stands tracked at the law's entry: the script alone, or nothing -/
def atScript (a : Addr) (u : HO) : Hp := fun b => if b = a then some u else none
theorem law_atG {P : Program} {w : World} {K : PySem.W.Frag} {mg mb : Str → Option Value} {CX : CXT} {k : Nat} {fa a : Addr} {fd : FuncData} {x : Str} {sp : Sp} {s₁ : Shared} {vs : List Value} {ns : List Int}
    (KX : K.In s₁.heap) (hns : s₁.heap.Ns mainGlobals mg) (hb : s₁.heap.Ns builtinsNs mb) (hbb : ∀ x : Str, x ≠ "__name__" → mb x = bootBuiltins x) (hlim : s₁.heap.NoLimit) (hg : s₁.gens = #[])
    (ha : s₁.heap.get? a = some { cls := .type "list", data := .seq vs.toArray }) (hr : Room k callerA)
    (F : ∀ base : Heap, K.In base → base.Ns mainGlobals mg → FnG P w K mg base CX k fa fd [x] sp) (hbind : ∀ (s : Shared) (u : Value), BindsTo s fd ⟨[u], []⟩ [(x, u)])
    (hCX : ∀ H e s', CX [] H s₁ (fun _ _ _ => False) e s' → False) (H : Hp) (hA : ∀ b, H b ≠ none → b = a) (hF : ∀ u, H a = some u → ∃ o xs, u = .frz o (.lst xs)) (hok : HOk P w H s₁.heap) (hK : H a ≠ none → K.lookup a = none)
    (hsp : sp [.ref a] H (fun v _ => v = .bl true) fun _ _ _ => False) :
    codeAny (model P w) callerA (.call (.ref fa) ⟨[.ref a], []⟩) (fun r s' => r = .ok (.ret (.bool true)) ∧ OldK s₁.heap s'.heap ∧ s'.os = s₁.os ∧ AllBare s'.gens) s₁ := by
  have split : ∀ b u, H b = some u → b = a := fun b u e => hA b fun z => by rw [z] at e; cases e
  have dictless : ∀ {b : Addr} {o : Obj} {es : Array DictEntry} {ep : Nat}, s₁.heap.get? b = some o → o.data = .dict es ep → H b = none := fun {b o es ep} e d => by
    cases q : H b with
    | none => rfl
    | some u =>
      have z := split b u q
      subst z
      rw [ha] at e
      cases e
      cases (show Data.seq vs.toArray _ = Data.dict es ep from d)
  have names : ∀ {b : Addr} {m : Str → Option Value}, s₁.heap.Ns b m → (hidT s₁.heap H).Ns b m := fun {b m} h => by
    obtain ⟨o, es, ep, e, d, r⟩ := h
    exact ⟨o, es, ep, hidT_get e (dictless e d), d, r⟩
  have kb : K.In (hidT s₁.heap H) := fun b o e => hidT_get (KX b o e) (by
    cases q : H b with
    | none => rfl
    | some u =>
      have z := split b u q
      subst z
      rw [hK fun z => by rw [q] at z; cases z] at e
      cases e)
  have M : Mod K mg (hidT s₁.heap H) := by
    obtain ⟨mc, h1, h2⟩ := hlim
    exact ⟨kb, names hns, ⟨mb, names hb, hbb⟩, ⟨mc, names h1, h2⟩⟩
  have e0 : Env0 P w K mg (hidT s₁.heap H) callerA [] s₁ H :=
    { frames := rfl, mod := M, bs := fun b o e => of_hidT e, bsz := Nat.le_of_eq (hidT_size _ _), funs := trivial, frf := fun b hb => (by simp [frs] at hb), hok := hok, bare := .of_eq hg }
  refine codeAny_mono ((F _ kb (names hns)).go callerA [] s₁ H ⟨[.ref a], []⟩ [.ref a] [.ref a] _ _ rfl hr e0 (hbind s₁ (.ref a)) (.cons rfl .nil) hsp) fun r s' h => ?_
  match r, h with
  | .error e, h => exact (hCX H e s' h).elim
  | .ok (.ret u), ⟨v, H', os, bare, un, hok', rv, q⟩ =>
    have ev : v = .bl true := q
    subst ev
    have eu : u = Value.bool true := rv
    subst eu
    refine ⟨rfl, OldK.of_keep fun b o e => ?_, os, bare⟩
    cases z : H b with
    | none => exact un.keep b o e z (by simp [frs]) (by simp)
    | some u =>
      have eb := split b u z
      subst eb
      obtain ⟨ob, xs, eu⟩ := hF u z
      subst eu
      obtain ⟨e1, _⟩ := hok b _ z
      obtain ⟨e2, _⟩ := hok' b _ (un.frzs b ob _ z)
      rw [e] at e1
      cases e1
      exact e2
theorem law_callG {P : Program} {w : World} {K : PySem.W.Frag} {mg mb : Str → Option Value} {CX : CXT} {k : Nat} {fa a : Addr} {fd : FuncData} {x : Str} {sp : Sp} {s₁ : Shared} {vs : List Value} {ns : List Int}
    (KX : K.In s₁.heap) (hns : s₁.heap.Ns mainGlobals mg) (hb : s₁.heap.Ns builtinsNs mb) (hbb : ∀ x : Str, x ≠ "__name__" → mb x = bootBuiltins x) (hlim : s₁.heap.NoLimit) (hg : s₁.gens = #[])
    (ha : s₁.heap.get? a = some { cls := .type "list", data := .seq vs.toArray }) (hi : IntsAre vs ns) (hl : ns.length ≤ sizeLine) (hr : Room k callerA)
    (F : ∀ base : Heap, K.In base → base.Ns mainGlobals mg → FnG P w K mg base CX k fa fd [x] sp) (hbind : ∀ (s : Shared) (u : Value), BindsTo s fd ⟨[u], []⟩ [(x, u)])
    (hsp : ∀ H : Hp, Only H → SqL K H a (ns.map V.int) → sp [.ref a] H (fun v _ => v = .bl true) fun _ _ _ => False)
    (hCX : ∀ H e s', CX [] H s₁ (fun _ _ _ => False) e s' → False) :
    codeAny (model P w) callerA (.call (.ref fa) ⟨[.ref a], []⟩) (fun r s' => r = .ok (.ret (.bool true)) ∧ OldK s₁.heap s'.heap ∧ s'.os = s₁.os ∧ AllBare s'.gens) s₁ := by
  have rv := vals_ints hi
  have lenV := hi.length
  have main := law_atG (ns := ns) KX hns hb hbb hlim hg ha hr F hbind hCX
  cases hk : K.lookup a with
  | some o =>
    have e := KX a o hk
    rw [ha] at e
    cases e
    have nothing : Only fun _ => none := fun b => .inl rfl
    exact main (fun _ => none) (fun b z => absurd rfl z) (fun u z => by cases z) (fun b u z => by cases z) (fun z => absurd rfl z)
      (hsp _ nothing (.inr ⟨_, vs.toArray, _, hk, rfl, rfl, rfl, by rw [List.size_toArray, lenV]; exact hl, by simpa using rv⟩))
  | none =>
    have at_ : atScript a (.frz { cls := .type "list", data := .seq vs.toArray } (.lst (ns.map V.int))) a = some (.frz { cls := .type "list", data := .seq vs.toArray } (.lst (ns.map V.int))) := if_pos rfl
    have off : ∀ b, b ≠ a → atScript a (.frz { cls := .type "list", data := .seq vs.toArray } (.lst (ns.map V.int))) b = none := fun b hb => if_neg hb
    refine main (atScript a (.frz { cls := .type "list", data := .seq vs.toArray } (.lst (ns.map V.int)))) (fun b z => Classical.byContradiction fun hb => z (off b hb)) (fun u z => ?_) (fun b u z => ?_) (fun _ => hk)
      (hsp _ (fun b => ?_) (.inl (.inr ⟨_, at_⟩)))
    · rw [at_] at z
      cases z
      exact ⟨_, _, rfl⟩
    · by_cases hb : b = a
      · subst hb
        rw [at_] at z
        cases z
        exact ⟨ha, by rw [List.length_map]; exact hl, vs, _, rv, ha⟩
      · rw [off b hb] at z
        cases z
    · by_cases hb : b = a
      · subst hb
        exact .inr ⟨_, _, at_⟩
      · exact .inl (off b hb)
/-- the goal that k_head leaves, from the law's promise where no guard runs -/
theorem walk_ofG {l : PySem.W.OpenLaw} {n k : Nat} {q : Program} {loose : List Str} {XP : (Str → Option Value) → Heap → Prop} {YP : World → Heap → Prop} {d : DefRec} {K : Params → PySem.W.Frag} {CX : World → CXT} {sp : World → Sp} {x : Str}
    (hn : l.most = some n) (hn2 : n ≤ sizeLine) (hdf : d.params.defaults = []) (hr : Room k callerA) (hY : ∀ (w : World) (h : Heap), YP w h → (K w.params).In h)
    (F : ∀ (w : World) (mg : Str → Option Value) (fa : Addr) (h : Heap), (K w.params).In h → h.Ns mainGlobals mg → mg d.name = some (.ref fa) →
      ∃ fd : FuncData, (∀ (s : Shared) (u : Value), BindsTo s fd ⟨[u], []⟩ [(x, u)]) ∧ ∀ base : Heap, (K w.params).In base → base.Ns mainGlobals mg → FnG l.prog w (K w.params) mg base (CX w) k fa fd [x] (sp w))
    (hsp : ∀ (w : World) (H : Hp) (a : Addr) (ns : List Int), ns.length ≤ n → Only H → SqL (K w.params) H a (ns.map V.int) → sp w [.ref a] H (fun v _ => v = .bl true) fun _ _ _ => False)
    (hCX : ∀ (w : World) (H : Hp) (s : Shared) (e : Value) (s' : Shared), CX w [] H s (fun _ _ _ => False) e s' → False) :
    PySem.W.WalkO q loose XP YP l.row.toRowW d [] (fun f vs => PySem.call f vs) :=
  Att.attach_call hn hdf fun w s₀ s₁ mg mb fa o pm cd doc a vs ns G Y ho hd hcd hmg hobj hints hlen hg =>
    let ⟨_, hb, hF⟩ := F w mg fa _ (hY w _ Y) G.T.g hmg
    law_callG (hY w _ Y) G.T.g G.T.b G.T.builtins G.T.nolimit hg hobj hints (Nat.le_trans hlen hn2) hr hF hb (fun H hO hS => hsp w H a ns hlen hO hS) fun H e s' => hCX w H s₁ e s'
end Rp
/-! sep.join(reversed(xs)), xs a list of texts -/
namespace Rp
open PySem PySem.Spec PyProof.Rows L2
section
variable {prog : Program} {w : World} {A : Around} {E : Value → Shared → Prop} {s : Shared} {x : Str} {t : Tok} {Q : Value → Shared → Prop}
theorem join_rev {it l : Addr} {items : Array Value} {ys : List Str} (hh : A.handled = none) (hit : s.heap.IsRevIter it l ((items.size : Int) - 1)) (hl : s.heap.IsList l items) (hne : l ≠ it) (hn : items.size ≤ sizeLine)
    (hi : StrsAre items.toList.reverse ys) (hok : (ys.map (·.length)).sum + ys.length * x.length ≤ 16777216)
    (h : ∀ (h' : Heap) (t' k : Tok), (∀ b o, b ≠ it → s.heap.get? b = some o → h'.get? b = some o) → Q (.str (Txt.join x ys) t') { s with heap := h', toks := k }) :
    wpAny (model prog w) A (call (.builtin "str.join") [.str x t, .ref it]) Q E s := by
  refine wpAny_call (codeAny_call_builtin F.slot_str_join.plain F.entry_str_join (F.slot_str_join.check _ _ _ _ _ _ _ _ (typeIs_str _ _ _) (F.args_str_join_2 _ _) ?_))
  have hT : s.TypeIs (.ref it) "list_reverseiterator" := Heap.IsRevIter.typeIs hit
  have hh1 : A.in1.handled = none := hh
  rw [join_tree_other]
  refine wpAny_bind (wpAny_typeOf hT ?_)
  show wpAny _ A.in1 ((pyIter (.ref it)).tryCatch _ >>= fun j => collect j >>= fun vs => joinTail x vs) _ _ s
  refine wpAny_bind (wpAny_tryCatch (wpAny_pyIter_revIter hit (wpAny_bind (RT.collect_rev (A := A.in1) hh1 hit hl hne hn fun h' tk acc hk hacc => ?_))))
  have el : acc.toList = items.toList.reverse := by
    have hs : items.size = items.toList.length := by simp
    have ha : acc.toList.length = items.toList.length := by rw [Array.length_toList, hacc.1, hs]
    refine List.ext_getElem? fun j => ?_
    by_cases hj : j < items.toList.length
    · have hja : j < acc.toList.length := by omega
      have e1 : acc.toList[j]? = some acc.toList[j] := List.getElem?_eq_getElem hja
      have e2 := hacc.2 j acc.toList[j] (by rw [← Array.getElem?_toList]; exact e1)
      rw [e1, List.getElem?_reverse hj, ← e2, hs] <;> simp
    · rw [List.getElem?_eq_none (by omega), List.getElem?_eq_none (by rw [List.length_reverse]; omega)]
  rw [el]
  obtain ⟨q, hv, ht⟩ := strsAre_values hi
  rw [hv]
  subst ht
  have ok := joinOk_of hok
  have ok' := ok
  unfold JoinOk at ok'
  rw [Bool.not_eq_true'] at ok'
  have g : Gives (joinTail x (strValues q)) (joinMade x q) := by
    have g0 := gives_joinTail x q ok'
    rcases q with _ | ⟨c, _ | ⟨d, r⟩⟩ <;> exact g0
  exact g prog w A (wants Q E) { s with heap := h', toks := tk } (post_join q ⟨joinFit_length ok', fun t' k => h h' t' k hk⟩)
end

section
variable {X : Cx} {o e : Expr} {to te : TE} {p2 apos pos pos2 : Pos}
/-- o.join(reversed(e)) -/
def tJoinRev (K : PySem.W.Frag) (to te : TE) : TE := fun σ H Q => to σ H fun v H1 => ∃ sep : Str, v = .str sep ∧ te σ H1 fun u H2 => ∃ (a : Addr) (ys : List Str), u = .ref a ∧ SqL K H2 a (ys.map V.str) ∧
  (ys.map (·.length)).sum + ys.length * sep.length ≤ 16777216 ∧ Q (.str (Txt.join sep ys.reverse)) H2
theorem pe_joinRev (hc : X.calm = true) (hg : Gl X "reversed") (hm : X.mg "reversed" = none) (ho : PE X o to) (he : PE X e te)
    (hs : starEach [e] X.env = (false, eval e X.env) :: starEach [] X.env := by rfl)
    (hs2 : starEach [.Call (.Name "reversed" p2) [e] [] pos2] X.env = [(false, eval (.Call (.Name "reversed" p2) [e] [] pos2) X.env)] := by rfl)
    (hbase : attributeBase o "join" X.env (eval o X.env) = eval o X.env := by rfl) (hline : (apos.endLine == pos.line) = true := by rfl) :
    PE X (.Call (.Attribute o "join" apos) [.Call (.Name "reversed" p2) [e] [] pos2] [] pos) (tJoinRev X.K to te) := by
  refine ⟨fun pins s σ H Q I h => ?_⟩
  refine PySem.Call_method1 hbase hs2 hline (thn (ho.run pins s σ H _ I h) fun v s1 k => ?_)
  obtain ⟨xv, H1, I1, r1, sep, rfl, q1⟩ := k
  obtain ⟨t, rfl⟩ := r1
  refine ⟨"str", _, F.plainAttrs_str, F.slot_str_join, F.type_str_join, typeIs_str _ _ _, (fun _ e => nomatch e), Calls.callWith_builtin rfl (Calls.evalArgs_plain (Calls.spliced_cons ?_))⟩
  refine Call_ (ld_blt I1 hg hm PyProof.Rows.boot_reversed (PyProof.Rows.callWith_type1 (args_cons (thn (he.run pins s1 σ H1 _ I1 q1) fun u s2 k => args_nil ?_) hs) hs rfl))
  obtain ⟨yv, H2, I2, r2, a, ys, rfl, hq, hz, q2⟩ := k
  obtain rfl : u = Value.ref a := r2
  obtain ⟨its, rv, pl, hsz⟩ := I2.list hq
  refine call_reversed_list pl.isList (Calls.spliced_nil ?_)
  have hl := pl.isList
  obtain ⟨ol, hol, _⟩ := id hl
  have grow : ∀ b o, s2.heap.get? b = some o → (s2.heap.push (revObj a ((its.toArray.size : Int) - 1))).get? b = some o := fun b o e => Heap.get?_push_of_some _ e
  have I3 : L2.Inv X pins σ H2 { s2 with heap := s2.heap.push (revObj a ((its.toArray.size : Int) - 1)) } := I2.kept (t' := s2.toks) grow
  obtain ⟨f0, f1, f2, f3, f4, f5⟩ := I2.fpOk (H' := H2) (b := s2.heap.objs.size) (Nat.le_refl _) (I2.hok.fresh (Nat.le_refl _))
  have st := strs_of_vals (us := its.reverse) (ys := ys.reverse) (by rw [List.map_reverse]; exact rv.reverse)
  refine join_rev (s := { s2 with heap := s2.heap.push (revObj a ((its.toArray.size : Int) - 1)) }) (items := its.toArray) (I1.ok.hd hc) ⟨_, Heap.get?_push_size _ rfl, rfl, rfl⟩ (hl.push _) (Nat.ne_of_lt (Heap.lt_size hol)) (by rw [List.size_toArray, ← rv.length]; exact hsz)
    (by simpa using st) (by simpa [List.sum_reverse] using hz) fun h' t' k hk => ?_
  exact ⟨.str _, H2, I3.turned (t' := k) (fun b o hb e => hk b o hb e) f0 f1 f3 f4 f5, ⟨t', rfl⟩, q2⟩
end
end Rp
/-! repr of tuples, by the abstract heap -/
namespace Rp
open PySem PySem.Spec PyProof.Rows L2
section
variable {X : Cx} {n : Nat} {as : List Addr} {H : Hp} {a : Addr} {xs : List V} {ts : List Str} {base : Nat} {g : List Code} {A : Around} {pins : List (Addr × Obj)} {σ : L2.St}
theorem tup_fold (lo : Low X n g A) (hcl : ∀ b ∈ as, Clear g b) {Q : (Array Str × Nat) → Shared → Prop} : ∀ (xs : List V) (us : List Value) (ts : List Str) (acc : Array Str) (m : Nat) (s : Shared) (H1 : Hp), Vals xs us → ts.length = xs.length →
    (∀ (i : Nat) (x : V), xs[i]? = some x → ∃ t, ts[i]? = some t ∧ Says X n as H x t) → m + piled ts ≤ sizeLine → Inv X pins σ H1 s → Same H H1 →
    (∀ s2 H2, Inv X pins σ H2 s2 → Same H1 H2 → Q ⟨acc ++ ts.toArray, m + piled ts⟩ s2) → wpAny (model X.prog X.w) A (forIn us (⟨acc, m⟩ : (Array Str × Nat)) tupBody) Q X.xe s := by
  intro xs
  induction xs with
  | nil =>
    intro us ts acc m s H1 rv hl _ _ I e h
    cases rv
    have : ts = [] := List.length_eq_zero_iff.mp hl
    subst this
    have q := h s H1 I (Same.refl H1)
    rw [List.forIn_nil]
    exact wpAny_pure (by simpa [piled] using q)
  | cons x xs ih =>
    intro us ts acc m s H1 rv hl hs hz I e h
    cases rv with
    | cons r1 r2 =>
      rename_i u us
      match ts, hl, hs, hz, h with
      | t :: ts, hl, hs, hz, h =>
        obtain ⟨t', ht, hsay⟩ := hs 0 x rfl
        cases ht
        rw [piled_cons] at hz
        rw [List.forIn_cons]
        refine wpAny_bind (wpAny_bind (wpAny_mono (hsay.und A g (m + 1) pins s σ H1 u lo hcl I e r1 (by omega)) (fun r s2 k => ?_) fun _ _ k => k))
        obtain ⟨er, H2, I2, e2⟩ := k
        subst er
        refine wpAny_pure (ih us ts (acc.push r) (m + (r.length + 2)) s2 H2 r2 (by simpa using hl) (fun i y hy => hs (i + 1) y hy) (by omega) I2 (e.trans e2) fun s3 H3 I3 e3 => ?_)
        have q := h s3 H3 I3 (e2.trans e3)
        have eq : m + piled (r :: ts) = m + (r.length + 2) + piled ts := by rw [piled_cons]; omega
        rw [eq] at q
        simpa using q
theorem tup_body {id : String} {rest : List Value} (lo : Low X (n + 1) g A) (hcl : ∀ b ∈ a :: as, Clear g b) (hna : a ∉ as) (hit : ∀ (i : Nat) (x : V), xs[i]? = some x → ∃ t, ts[i]? = some t ∧ Says X n as H x t) (hl : ts.length = xs.length)
    (hsz : base + (tupleText ts).length ≤ sizeLine) (hq : SqT X.K H a xs) {s : Shared} {H1 : Hp} (I : Inv X pins σ H1 s) (hs : Same H H1) {R : Result → Shared → Prop}
    (hg : (Code.builtin id ⟨.ref a :: rest, []⟩).guards = [Code.builtin id ⟨.ref a :: rest, []⟩]) (hw : (Code.builtin id ⟨.ref a :: rest, []⟩).weight = 1) (hu : (Code.builtin id ⟨.ref a :: rest, []⟩).cUnits = 1) (he : (Code.builtin id ⟨.ref a :: rest, []⟩).envs = [])
    (fin : ∀ s H2 u, Inv X pins σ H2 s → Same H1 H2 → R (.ok (.ret (.str (tupleText ts) u))) s) (bad : ∀ e s, X.xe e s → R (.error e) s) :
    wpOwn (model X.prog X.w) A (.builtin id ⟨.ref a :: rest, []⟩) (Builtin.tupleReprAt base ⟨[.ref a], []⟩) (fun fin s' => match fin with | .done f => R (.ok f) s' | .again c' => c'.quiet = true ∧ codeAny (model X.prog X.w) A c' R s') (fun e s' => R (.error e) s') s := by
  have hsq : SqT X.K H1 a xs := hq.elim (fun h => .inl (h.elim (fun h => .inl (hs _ _ h)) fun ⟨o, h⟩ => .inr ⟨o, hs _ _ h⟩)) .inr
  obtain ⟨its, rv, ⟨o, ho, hc, na, hd⟩, _⟩ := I.tuple hsq
  have hp := piled_le_tupleText ts
  have hsz0 : (tupleText ts).length ≤ sizeLine := by omega
  have hlen : ts.length = its.toArray.size := by rw [hl, rv.length]; simp
  rw [tuple_repr_tree, tupleReprUnderWay_eq]
  refine wpOwn_bind (wpOwn_stackTailAny lo.gd (tupGuardF_off _) (tupGuardF_pos _) ?_)
  rw [show (g.any fun c => tupGuardF (.ref a) (c, default)) = false from List.any_eq_false.mpr fun c hc => by
    rw [tupGuardF_of_clear (hcl a List.mem_cons_self) c hc]
    exact Bool.false_ne_true]
  refine wpOwn_of_wpAny ?_
  show wpAny _ _ (tupleReprRest base (.ref a)) _ _ s
  unfold tupleReprRest Builtin.Tuple.tupleItemsOf
  refine wpAny_bind (wpAny_bind (wpAny_seqItems ho hd (wpAny_pure ?_)))
  rw [← Array.forIn_toList]
  refine wpAny_bind (wpAny_mono (tup_fold (lo.guard hg hw hu he) (fun b hb => (hcl b (List.mem_cons_of_mem _ hb)).cons (a := a) fun e => hna (e ▸ hb)) xs its ts #[] base s H1 rv hl hit (by omega) I hs
    (Q := fun r s2 => r = ⟨#[] ++ ts.toArray, base + piled ts⟩ ∧ ∃ H2, Inv X pins σ H2 s2 ∧ Same H1 H2) fun s2 H2 I2 e2 => ⟨rfl, H2, I2, e2⟩) (fun r s2 k => ?_) fun e s2 k => bad e s2 k)
  obtain ⟨er, H2, I2, e2⟩ := k
  subst er
  refine wpAny_bind (wpAny_mkStr (wpAny_pure ?_) (by simpa [tupleText, hlen] using hsz0))
  have h1 := fin _ H2 s2.toks (I2.tok (s2.toks + 1)) e2
  simpa [tupleText, hlen] using h1
theorem says_tup (hq : SqT X.K H a xs) (hna : a ∉ as) (hl : ts.length = xs.length) (hit : ∀ (i : Nat) (x : V), xs[i]? = some x → ∃ t, ts[i]? = some t ∧ Says X n as H x t) : Says X (n + 2) (a :: as) H (.ref a) (tupleText ts) := by
  refine ⟨fun A g base pins s σ H1 u lo cl I hs ru hz => ?_, fun A g pins s σ H1 u lo cl I hs ru hz => ?_⟩
  all_goals
    cases ru
    have hsq : SqT X.K H1 a xs := hq.elim (fun h => .inl (h.elim (fun h => .inl (hs _ _ h)) fun ⟨o, h⟩ => .inr ⟨o, hs _ _ h⟩)) .inr
    obtain ⟨its, rv, ⟨o, ho, hc, na, hd⟩, _⟩ := I.tuple hsq
  · refine wpAny_pyReprUnder_ref (by omega) (wpAny_pyReprObjUnder_twin (twin := "tuple.__repr__.under") ⟨o, ho, hc⟩ PySem.F.slot_tuple_repr rfl lo.rm.units0
      (call_twin_own (PySem.F.quiet_tuple_repr_under _) PySem.F.entry_tuple_repr_under PySem.F.check_tuple_repr_under ⟨o, ho, hc⟩ PySem.F.slot_tuple_repr (PySem.F.args_tuple_repr_1 _)
        (tup_body (R := callEnd _ _) (lo.mono (by omega)) cl hna hit hl hz hq I hs (by show (if Code.isGuard _ then _ else _) = _; rw [isGuard_tuple_repr_under]; rfl) (by simp only [Code.weight, isGuard_tuple_repr_under]; rfl) (by rfl) (by first | rfl | simp [Code.envs, Code.isFrame])
          (fun s2 H2 tk I2 e2 => ⟨⟨_, _, rfl⟩, _, _, rfl, rfl, H2, I2, e2⟩) fun e s2 he => he)))
  · have h1 := lo.rm.units
    refine call_repr_slot (by omega) ⟨o, ho, hc⟩ PySem.F.slot_tuple_repr (wpAny_call (codeAny_call_builtin_own (Code.quiet_builtin _ (by decide +kernel)) PySem.F.entry_tuple_repr (PySem.F.slot_tuple_repr.check _ _ _ _ _ _ _ _ ⟨o, ho, hc⟩ (PySem.F.args_tuple_repr_1 _)
      (tup_body (A := A.in1) (base := 0) (R := callEnd _ _) lo.in1 cl hna hit hl (by omega) hq I hs (by show (if Code.isGuard _ then _ else _) = _; rw [isGuard_tuple_repr]; rfl) (by simp only [Code.weight, isGuard_tuple_repr]; rfl) (by rfl) (by first | rfl | simp [Code.envs, Code.isFrame])
        (fun s2 H2 tk I2 e2 => ⟨_, _, rfl, ⟨_, rfl⟩, H2, I2, e2⟩) fun e s2 he => he))))
end
end Rp
/-! a caught error: isinstance of it, a def that is handed it, its fields; a method that may raise; count of truths -/
namespace Rp
open PySem PySem.Spec PyProof.Rows L2
/-- the dict of an exception that is looked at stands tracked, or there is none -/
def HasD (H : Hp) (d : Option Addr) : Prop := d = none ∨ ∃ dx fs, d = some dx ∧ H dx = some (.xd fs)
theorem exc_inst {X : Cx} {pins : List (Addr × Obj)} {σ : L2.St} {H : Hp} {s : Shared} {a D : Addr} {oe : Obj} {d : Option Addr} (I : Inv X pins σ H s) (hp : (a, oe) ∈ X.pn) (hz : Zc (.ref D) d oe) (hf : ∃ vs, oe.data = .fields vs) (hd : HasD H d) :
    ∃ od, PySem.W.InstAt s.heap a oe D od := by
  obtain ⟨hget, _⟩ := I.pin (a, oe) (List.mem_append_left _ hp)
  obtain ⟨vs, hv⟩ := hf
  rcases hd with rfl | ⟨dx, fs, rfl, hx⟩
  · refine ⟨none, ?_⟩
    obtain ⟨oc, od, oda, osl⟩ := oe
    obtain ⟨h1, h2⟩ := hz
    dsimp only at h1 h2 hv
    subst h1 h2 hv
    exact ⟨hget, rfl, rfl, trivial⟩
  · have hx : ObjOk X.prog X.w H s.heap dx (.xd fs) := I.hok dx _ hx
    obtain ⟨mA, hns, hr⟩ := hx
    obtain ⟨od, ho, hl⟩ := lookIn_ns hns
    exact ⟨some od, hget, hz.1, by unfold PySem.W.notCls; rw [hv] <;> rfl, by rw [hz.2]; exact ho⟩
/-- isinstance(e, c), e the error at a -/
def rIsX (K : PySem.W.Frag) (a : Addr) (cls : Value) (d : Option Addr) : List V → Hp → VK → Prop := fun xs H Q => ∃ (D : Addr) (c : V) (cv : Value) (b : Bool), xs = [.ref a, c] ∧ cls = .ref D ∧ ExcC K D ∧ ClsV c cv ∧ HasD H d ∧ PySem.W.kitOne K (.ref D) cv = some b ∧ Q (.bl b) H
/-- isinstance(e, (c1, c2, ..)) -/
def rIsXT (K : PySem.W.Frag) (a : Addr) (cls : Value) (d : Option Addr) : List V → Hp → VK → Prop := fun xs H Q => ∃ (D tp : Addr) (cs : List V) (us : List Value) (b : Bool), xs = [.ref a, .ref tp] ∧ cls = .ref D ∧ ExcC K D ∧ H tp = some (.tup cs) ∧ Paired ClsV cs us ∧ HasD H d ∧ PySem.W.kitAny K (.ref D) us = some b ∧ Q (.bl b) H
section
variable {X : Cx} {a : Addr} {oe : Obj} {cls : Value} {d : Option Addr}
theorem call_isX (hp : (a, oe) ∈ X.pn) (hz : Zc cls d oe) (hf : ∃ vs, oe.data = .fields vs) : CallR X (.builtin "isinstance") (rIsX X.K a cls d) := by
  intro pins s σ H xs us Q I r h
  obtain ⟨D, c, cv, b, rfl, rfl, C, k, hd, e, q⟩ := h
  obtain ⟨u1, u2, rfl, r1, r2⟩ := vals2 r
  have e2 := k.eq r2
  subst e2
  cases r1
  obtain ⟨od, J⟩ := exc_inst I hp hz hf hd
  have hcl : (PySem.W.clsIn X.K D).isSome = true := by
    obtain ⟨cd, hc, _⟩ := PySem.W.any_some C.hd
    rw [hc]; rfl
  exact PySem.W.kia_one (PySem.W.kitx_exc (ox := oe) (od := od) hcl C.hg C.hk C.hs C.ha C.hn C.ht C.hm) I.kIn J e (fun z => nomatch z) fun tk => ⟨.bl b, H, I.tok tk, rfl, q⟩
theorem call_isXT (hp : (a, oe) ∈ X.pn) (hz : Zc cls d oe) (hf : ∃ vs, oe.data = .fields vs) : CallR X (.builtin "isinstance") (rIsXT X.K a cls d) := by
  intro pins s σ H xs us Q I r h
  obtain ⟨D, tp, cs, ws, b, rfl, rfl, C, hT, k, hd, e, q⟩ := h
  obtain ⟨u1, u2, rfl, r1, r2⟩ := vals2 r
  cases r1
  cases (show u2 = Value.ref tp from r2)
  obtain ⟨od, J⟩ := exc_inst I hp hz hf hd
  have hcl : (PySem.W.clsIn X.K D).isSome = true := by
    obtain ⟨cd, hc, _⟩ := PySem.W.any_some C.hd
    rw [hc]; rfl
  obtain ⟨_, its, rv, o, h1, h2, n, h3⟩ := (show ObjOk X.prog X.w H s.heap tp (.tup cs) from I.hok tp _ hT)
  have e3 := ClsV.all k rv
  subst e3
  obtain ⟨oc, oda, dt, sl⟩ := o
  simp only at h2 h3
  subst h2 h3
  exact PySem.W.kia_tup (PySem.W.kitx_exc (ox := oe) (od := od) hcl C.hg C.hk C.hs C.ha C.hn C.ht C.hm) I.kIn J h1 e (fun z => nomatch z) fun tk => ⟨.bl b, H, I.tok tk, rfl, q⟩
end

/-! ### a def that is handed the error -/
/-- what it promises: a the error, cls its class, d its dict -/
abbrev SpE := Addr → Value → Option Addr → Sp
structure FnE (P : Program) (w : World) (K : PySem.W.Frag) (mg : Str → Option Value) (base : Heap) (CX : CXT) (k : Nat) (f : Addr) (fd : FuncData) (ps : List Str) (sp : SpE) : Prop where
  len : ∀ a cls d vs H Q E, sp a cls d vs H Q E → vs.length = ps.length
  run : ∀ (A : Around) (outer : List Env) (s : Shared) (H : Hp) (args : Args) (us : List Value) (vs : List V) (Q : VK) (E : XK) (p : Addr × Obj) (cls : Value) (d : Option Addr), L2H.RoomH k A → L2H.PinOk outer H s p → Zc cls d p.2 → (∃ vs, p.2.data = .fields vs) →
    Env0 P w K mg base A outer s H → BindsTo s fd args (ps.zip us) → Vals vs us → sp p.1 cls d vs H Q E → codeAny (model P w) A (.call (.ref f) args) (CR CX outer P w H s Q E) s
section
variable {P : Program} {w : World} {K : PySem.W.Frag} {mg : Str → Option Value} {base : Heap} {CX : CXT} {k : Nat} {f : Addr} {fd : FuncData} {ps : List Str} {sp : SpE}
theorem fn_ofE {name qual : Str} {params : Arguments} {body : List Stmt} {scope : Scope} {dV kV doc pm cdv ct oc : Value} {an od : Option Addr}
    {osl : Array (Option Value)} {N : List Str} (lk : K.lookup f = some ⟨oc, od, .func (PySem.W.fnOf name qual params body scope dV kV doc pm an cdv ct), osl⟩) (hcd : PySem.W.codeIn K cdv qual = true) (S : FnScope N ps scope)
    (len : ∀ a cls d vs H Q E, sp a cls d vs H Q E → vs.length = ps.length)
    (hbody : ∀ (A : Around) (outer : List Env) (s : Shared) (H : Hp) (vs : List V) (Q : VK) (E : XK) (p : Addr × Obj) (cls : Value) (d : Option Addr), Zc cls d p.2 → (∃ vs, p.2.data = .fields vs) → L2H.RoomH k (A.deeper (envOfC qual scope s.heap.objs.size f cdv)) → sp p.1 cls d vs H Q E →
      ∃ t, PSs (L2H.cxH CX P w K mg base N qual scope f cdv A outer s H E p) body t ∧ t { nx := fun _ H' => Q .non H', rt := Q } (L2.start N vs) H) :
    FnE P w K mg base CX (k + 1) f (PySem.W.fnOf name qual params body scope dV kV doc pm an cdv ct) ps sp := by
  refine ⟨len, fun A outer s H args us vs Q E p cls d hr hpin hz hf e0 hb r hsp => ?_⟩
  have hl := len _ _ _ _ _ _ _ hsp
  have KX : K.In s.heap := e0.mod.kin.keeps fun b o e => (e0.bs b o e).1
  have lim : s.heap.NoLimit := e0.mod.nolimit.keeps fun b o e => (e0.bs b o e).1
  have kinds : ∀ y ∈ ps.zip us, scope.names.lookup y.1 = some .local ∨ (scope.names.lookup y.1 = some .cell ∧ ((cellsFrom (s.heap.objs.size + 1) scope.names []).lookup y.1).isSome = true) := fun ⟨n, v⟩ hy => by
    rcases S.par n (List.of_mem_zip hy).1 with q | q
    · exact .inl q
    · exact .inr ⟨q, PySem.W.cellsFrom_some _ _ _ (.inl q)⟩
  refine codeAny_call_function hr.depth (KX _ _ lk) rfl S.co S.gen rfl (PySem.W.codeRec_of KX hcd) (hb _ _ _ _ ?_)
  refine wpAny_newFunctionEnv_cells S.kind kinds fun env he s1 x => ?_
  subst he
  refine ⟨lim.keeps x.toInCall.keep, codeAny_func ?_⟩
  obtain ⟨t, ht, hq⟩ := hbody A outer s H vs Q E p cls d hz hf (hr.deeper _) hsp
  have I : Inv (L2H.cxH CX P w K mg base N qual scope f cdv A outer s H E p) [] (L2.start N vs) H s1 := L2H.inv_startH S hpin e0 hl r x
  refine wpAny_mono (ht.run [] s1 (L2.start N vs) H _ I hq) (fun fl s' hs => ?_) fun e s' hs => hs
  cases fl with
  | next =>
    obtain ⟨σ', H', J, q⟩ := hs
    exact ⟨V.non, H', J.os, J.bare, J.base, J.hok, (rfl : RelV .non Value.none), q⟩
  | ret u =>
    obtain ⟨v, σ', H', J, rv, q⟩ := hs
    exact ⟨v, H', J.os, J.bare, J.base, J.hok, rv, q⟩
  | brk => exact hs.elim fun _ z => z.elim fun _ z => z.2.elim
  | cont => exact hs.elim fun _ z => z.elim fun _ z => z.2.elim
theorem Fun_okE {x qual : Str} {st : Stmt} {N : List Str} (F : Fun K x qual st f fd) (S : FnScope N ps (defScope st)) (len : ∀ a cls d vs H Q E, sp a cls d vs H Q E → vs.length = ps.length)
    (body : ∀ (cdv : Value) (A : Around) (outer : List Env) (s : Shared) (H : Hp) (vs : List V) (Q : VK) (E : XK) (p : Addr × Obj) (cls : Value) (d : Option Addr), Zc cls d p.2 → (∃ vs, p.2.data = .fields vs) →
      L2H.RoomH k (A.deeper (envOfC qual (defScope st) s.heap.objs.size f cdv)) → sp p.1 cls d vs H Q E →
      ∃ t, PSs (L2H.cxH CX P w K mg base N qual (defScope st) f cdv A outer s H E p) (defBody st) t ∧ t { nx := fun _ H' => Q .non H', rt := Q } (start N vs) H) : FnE P w K mg base CX (k + 1) f fd ps sp := by
  obtain ⟨oc, od, kV, doc, pm, an, cdv, ct, osl, rfl, lk, hcd⟩ := F.ex
  exact fn_ofE lk hcd S len fun A outer s H vs Q E p cls d hz hf hr hsp => body cdv A outer s H vs Q E p cls d hz hf hr hsp
end
section
variable {X : Cx} {CX : CXT} {k : Nat} {f : Addr} {fd : FuncData} {ps : List Str} {sp : SpE} {E : XK} {x : Str} {p pos : Pos} {e : Expr} {es : List Expr} {t : TA} {a : Addr} {oe : Obj} {cls : Value} {d : Option Addr}
theorem pe_callE (F : FnE X.prog X.w X.K X.mg X.base CX k f fd ps sp) (hr : L2H.RoomH k X.A) (hp : (a, oe) ∈ X.pn) (hz : Zc cls d oe) (hf : ∃ vs, oe.data = .fields vs) (hg : Gl X x) (hm : X.mg x = some (.ref f)) (hk : PySem.W.keepIn X.K (.ref f) = true) (hb : Binds X.K fd ps []) (hx : Passes CX X E)
    (ha : PA X (e :: es) t) (hdb : (x == ("__debug__" : Str)) = false := by decide) (he : starEach (e :: es) X.env = (false, eval e X.env) :: starEach es X.env := by rfl) (hpl : (backTo pos (starEach es X.env)).any (·.1) = false := by rfl) :
    PE X (.Call (.Name x p) (e :: es) [] pos) (tCall (sp a cls d) [] E t) := by
  refine ⟨fun pins s σ H Q I h => ?_⟩
  refine wpAny_Call_Name_kw (ld_glob I hg hm ?_ hdb)
  refine PySem.W.callWith_K (h₀ := X.base) I.ok.mod.kin hk (thn (ha.run pos pins s σ H _ I h) fun us s1 ⟨vs, H1, I1, r, q⟩ => ⟨I1.kIn, ?_⟩) he hpl
  have q : sp a cls d (vs ++ []) H1 Q E := q
  rw [List.append_nil] at q
  have hl : us.length = ps.length := by rw [← r.length]; exact F.len _ _ _ _ _ _ _ q
  have b := hb s1 us I1.kIn (by rw [List.append_nil]; exact hl)
  rw [List.append_nil] at b
  have P1 := I1.pin (a, oe) (List.mem_append_left _ hp)
  have hpin : L2H.PinOk X.stack H1 s1 (a, oe) := ⟨P1.1, P1.2.1, fun hm => (List.mem_cons.mp (I1.stkSub a hm)).elim P1.2.2.1 P1.2.2.2.1, P1.2.2.2.2⟩
  refine wpAny_call (codeAny_mono (F.run X.A X.stack s1 H1 ⟨us, []⟩ us vs Q E (a, oe) cls d hr hpin hz hf I1.env0 b r q) fun r s' hq => ?_)
  match r, hq with
  | .error e, hq => exact hx pins σ H1 s1 e s' I1 hq
  | .ok (.ret u), hq => exact I1.after hq
end

/-! ### o.m(e, ..) that may raise, in a try -/
def tMethE (C : Addr) (m : Str) (sp : Sp) (E : L2.St → XK) (ta : TE) (t : TA) : TE := fun σ H Q => ta σ H fun x H1 => ∃ a dx fs, x = .ref a ∧ H1 a = some (.ins C dx fs) ∧ fs.lookup m = none ∧ t σ H1 fun vs H2 => sp (x :: vs) H2 Q (E σ)
theorem pe_methE {X : Cx} {CX : CXT} {k : Nat} {C f : Addr} {fd : FuncData} {ps : List Str} {m : Str} {sp : Sp} {E : L2.St → XK} {o e : Expr} {es : List Expr} {ta : TE} {t : TA} {apos pos : Pos} {pl : Sem Bool} (he : PE X o ta) (c : Cls X.K C) (hm : Meth X.K C m f)
    (F : FnOk X.prog X.w X.K X.mg X.base CX k f fd ps sp) (hr : Room k X.A) (hb : Binds X.K fd ps []) (hx : ∀ σ, PassesAt CX X σ (E σ)) (ha : PA X (e :: es) t)
    (hst : starEach (e :: es) X.env = (false, eval e X.env) :: starEach es X.env := by rfl) (hpl : (backTo pos (starEach es X.env)).any (·.1) = false := by rfl)
    (ht : eval (.Call (.Attribute o m apos) (e :: es) [] pos) X.env = (do
      let ov ← eval o X.env
      standAt apos.atName
      let (f, first) ← holding [ov] (getMethod ov m pl)
      callWith pos f first (backTo pos (starEach (e :: es) X.env)) (backToKw pos (keywordEach [] X.env))) := by rfl) :
    PE X (.Call (.Attribute o m apos) (e :: es) [] pos) (tMethE C m sp E ta t) := by
  refine ⟨fun pins s σ H Q I h => ?_⟩
  refine PySem.W.methodCall_KW (pl := pl) (thn (he.run pins s σ H _ I h) fun u s1 ⟨x, H1, I1, rx, a, dx, fs, ex, ea, l, q⟩ => ?_) ht
  subst ex
  obtain rfl : u = Value.ref a := rx
  refine getmeth_ok I1 ea c hm l ?_
  refine PySem.W.callWith_K (first := [.ref a]) (h₀ := X.base) I.ok.mod.kin hm.kp (thn (ha.run pos pins s1 σ H1 _ I1 q) fun us s2 ⟨vs, H2, I2, r, q2⟩ => ⟨I2.kIn, ?_⟩) hst hpl
  exact run_fnS (us := .ref a :: us) (vs := .ref a :: vs) F hr hb (hx σ) I2 (.cons rfl r) q2

/-! ### xs.count(b) of truths -/
theorem vals_bl_eq : ∀ {bs : List Bool} {us : List Value}, Vals (bs.map V.bl) us → us = bs.map Value.bool
  | [], _, .nil => rfl
  | b :: bs, _, .cons r t => by
    rw [vals_bl_eq t]
    cases r
    rfl
def rCntB (K : PySem.W.Frag) : V → List V → Hp → VK → Prop := fun x xs H Q => ∃ (p : Addr) (bs : List Bool) (k : Bool), x = .ref p ∧ xs = [.bl k] ∧ SqL K H p (bs.map V.bl) ∧ Q (.int (bs.count k : Nat)) H
theorem count_bl (k : Bool) : ∀ bs : List Bool, (bs.map Value.bool).countP (PyProof.Rows.isBoolOf k) = bs.count k
  | [] => rfl
  | b :: bs => by
    rw [List.map_cons, List.countP_cons, List.count_cons, count_bl k bs]
    rfl
theorem mt_bcount {X : Cx} : MtR X "list.count" (rCntB X.K) := by
  intro pins s σ H x xs v us Q I rx rxs h
  obtain ⟨p, bs, k, rfl, rfl, hs, q⟩ := h
  cases rx
  obtain ⟨u, rfl, ru⟩ := rxs.one
  cases ru
  obtain ⟨its, rv, ⟨⟨cls, dd, data, sl⟩, n, ho, hc, hdn, hd⟩, hlen⟩ := I.list hs
  simp only at hc hd
  subst hc hd
  have hi := vals_bl_eq rv
  subst hi
  refine call_meets PySem.F.slot_list_count ⟨_, ho, rfl⟩ PySem.F.entry_list_count (PySem.F.args_list_count_2 _ _)
    (SeqAt.list_countAt p (bs.map Value.bool).toArray n dd sl (.bool k) (PyProof.Rows.isBoolOf k)) ⟨ho, fun y hy => ?_, ?_⟩
  · obtain ⟨b, _, rfl⟩ := List.mem_map.mp (show y ∈ bs.map Value.bool by simpa using hy)
    exact SeqAt.EqAt.bool_bool b k
  · refine ⟨.int (bs.count k : Nat), H, I.tok _, ⟨s.toks, ?_⟩, q⟩
    show Value.int (((bs.map Value.bool).toArray.toList.countP (PyProof.Rows.isBoolOf k) : Nat) : Int) s.toks = Value.int ((bs.count k : Nat) : Int) s.toks
    rw [show (bs.map Value.bool).toArray.toList = bs.map Value.bool from rfl, count_bl]
end Rp
/-! == and != by an own __eq__ that may answer either way -/
namespace Rp
open PySem PySem.Spec PyProof.Rows L2
section
variable {prog : Program} {w : World} {A : Around} {E : Value → Shared → Prop} {s : Shared} {K : PySem.W.Frag} {x C L f : Addr} {h₀ : Heap} {m : Str → Option Value} {ox : Obj} {od : Option Obj} {b tb : Value}
open PySem.W in
/-- x != b where the class says only what == is -/
theorem ne_K {Q : Value → Shared → Prop} (hu : A.units + 1 < cLine) (FR : Fr h₀ L s.heap m) (X₀ : K.In h₀) (I : InstAt s.heap x ox C od) (hb : Looks (model prog w) s.heap (typeOf b) tb) (hn : notFirst K C tb = true)
    (hne : findIn K (.ref C) "__ne__" = some (some (.builtin "object.__ne__"))) (hm : mroIn K C (.type "object") = some true)
    (hs : findIn K (.ref C) "__eq__" = some (some (.ref f))) (hf : isFn K (.ref f) = true)
    (h : wpAny (model prog w) A.in1 (call (.ref f) [.ref x, b]) (fun v s' => ∃ r, v = .bool r ∧ Q (.bool (!r)) s') E s) : wpAny (model prog w) A (richCompare .NotEq (.ref x) b) Q E s := by
  have X := X₀.keeps FR.keep
  have hu1 : A.in1.units < cLine := hu
  have sub : Looks (model prog w) s.heap (isInstance (.ref x) (.type "object")) true := I.type.andThen (looks_mroIn X hm)
  have S := PySem.F.cmp_object.ne
  have one : wpAny (model prog w) A (tryCompare (.ref x) "__ne__" b) (fun r s' => ∃ v, r = some v ∧ Q v s') E s := by
    unfold tryCompare
    have body : wpAny (model prog w) A (call (.builtin "object.__ne__") [.ref x, b]) (fun v s' => ∃ r, v = .bool r ∧ Q (.bool r) s') E s := by
      obtain ⟨hp, g, d, t, os⟩ := s
      refine wpAny_call (codeAny_call_builtin S.plain PySem.F.cmpEntry_ne (@check_slot (model prog w) _ _ ⟨hp, g, d, t, os⟩ "object.__ne__" "object" "__ne__" (.ref x) [b] [] _ PySem.F.cmpKind_ne PySem.F.cmpSplit_ne sub (PySem.F.cmpArgs_ne _ _) ?_))
      unfold Builtin.«object.__ne__»
      refine wpAny_bind (wpAny_of_eq (a := ((Value.ref x : Value), [b])) (by first | rfl | (simp only [Builtin.slotArgs]; rfl)) ?_)
      refine wpAny_bind (wpAny_cRoomFor hu1 ?_)
      refine wpAny_bind (ifBound_K X I hs hf (wpAny_mono h (fun v s' hv => ?_) fun _ _ e => e))
      obtain ⟨r, rfl, q⟩ := hv
      exact wpAny_bind (wpAny_truthy_bool (wpAny_pure ⟨!r, rfl, q⟩))
    have bound : wpAny (model prog w) A (callSpecialIfBound? (.ref x) "__ne__" [b]) (fun o s' => ∃ r, o = some (.bool r) ∧ Q (.bool r) s') E s := by
      simp only [callSpecialIfBound?, bindSpecialIfBound?]
      refine wpAny_holding (wpAny_bind (wpAny_bind (wpAny_bind (I.type.here ((looks_findIn X hne).here ?_)))))
      simp only [S.bind]
      refine wpAny_bind (wpAny_askSetting (wpAny_ite ?_))
      have fin : wpAny (model prog w) A (call (.builtin "object.__ne__") ([.ref x] ++ [b]) >>= fun v => pure (some v)) (fun o s' => ∃ r, o = some (.bool r) ∧ Q (.bool r) s') E s :=
        wpAny_bind (wpAny_mono body (fun v s' h' => by
          obtain ⟨r, rfl, q⟩ := h'
          exact wpAny_pure ⟨r, rfl, q⟩) fun _ _ h' => h')
      split
      · exact wpAny_bind (wpAny_pure (wpAny_pure fin))
      · exact wpAny_tryCatch (wpAny_bind (wpAny_pure (wpAny_pure fin)))
    refine wpAny_bind (wpAny_mono bound (fun v s' hv => ?_) fun _ _ e => e)
    obtain ⟨r, rfl, q⟩ := hv
    exact wpAny_pure ⟨_, rfl, q⟩
  unfold richCompare
  simp only [oneThing_ref]
  refine wpAny_holding (wpAny_bind (wpAny_cRoomFor (Nat.lt_of_succ_lt hu) ?_))
  refine wpAny_bind (I.type.here (wpAny_bind (hb.here ?_)))
  split
  · rename_i q
    have e : subIn K tb (.ref C) = some false := by
      rcases Bool.or_eq_true_iff.mp hn with e | e
      · rw [beq_iff_eq.mp e] at q; simp at q
      · exact beq_iff_eq.mp e
    refine wpAny_bind ((looks_subIn X e).here ?_)
    simp only [Bool.false_eq_true, if_false]
    refine wpAny_bind (wpAny_mono one (fun r s' z => ?_) fun _ _ e => e)
    obtain ⟨v, rfl, hq⟩ := z
    exact wpAny_pure hq
  · refine wpAny_bind (wpAny_pure ?_)
    simp only [Bool.false_eq_true, if_false]
    refine wpAny_bind (wpAny_mono one (fun r s' z => ?_) fun _ _ e => e)
    obtain ⟨v, rfl, hq⟩ := z
    exact wpAny_pure hq
end
/-- what a class with an own == and no own != says -/
structure OwnE (K : PySem.W.Frag) (C f : Addr) : Prop where
  eq : PySem.W.findIn K (.ref C) "__eq__" = some (some (.ref f))
  fn : PySem.W.isFn K (.ref f) = true
  ne : PySem.W.findIn K (.ref C) "__ne__" = some (some (.builtin "object.__ne__"))
  mro : PySem.W.mroIn K C (.type "object") = some true
section
variable {X : Cx} {C f : Addr} {fd : FuncData} {ps : List Str} {sp : Sp} {n : Nat} {E : XK} {CX : CXT}
/-- x == y, x != y: x of the class, y of any type -/
def rOwn (K : PySem.W.Frag) (C : Addr) (sp : Sp) (E : XK) (g : Bool → Bool) : R2 := fun x y H Q => ∃ a dx fs tb, x = .ref a ∧ H a = some (.ins C dx fs) ∧ TyX K H y tb ∧ PySem.W.notFirst K C tb = true ∧ sp [x, y] H (fun v H' => ∃ r, v = .bl r ∧ Q (.bl (g r)) H') E
theorem own_callee {A : Around} {pins : List (Addr × Obj)} {σ : L2.St} {H : Hp} {s : Shared} {x y : V} {u v : Value} {Q : Bool → Hp → Prop} (F : FnOk X.prog X.w X.K X.mg X.base CX n f fd ps sp) (hb : Binds X.K fd ps []) (hx : Passes CX X E) (hr : Room n A) (hfr : A.frames = X.A.frames)
    (I : Inv X pins σ H s) (rx : RelV x u) (ry : RelV y v) (hsp : sp [x, y] H (fun v H' => ∃ r, v = .bl r ∧ Q r H') E) :
    wpAny (model X.prog X.w) A (call (.ref f) [u, v]) (fun v s' => ∃ r, v = .bool r ∧ ∃ H', Inv X pins σ H' s' ∧ Q r H') X.xe s := by
  have e0 : Env0 X.prog X.w X.K X.mg X.base A X.stack s H := by
    have e := I.env0
    exact ⟨by rw [hfr]; exact e.frames, e.mod, e.bs, e.bsz, e.funs, e.frf, e.hok, e.bare⟩
  have hl := F.len _ _ _ _ hsp
  have r2 : Vals [x, y] [u, v] := .cons rx (.cons ry .nil)
  refine wpAny_call (codeAny_mono (F.run A X.stack s H ⟨[u, v], []⟩ [u, v] [x, y] _ E hr e0 (by
    have := hb s [u, v] I.kIn (by simpa using hl)
    simpa using this) r2 hsp) fun r s' hq => ?_)
  match r, hq with
  | .error e, hq => exact hx pins σ H s e s' I hq
  | .ok (.ret w), hq =>
    obtain ⟨z, H', I', rz, b, ez, q⟩ := I.after hq
    subst ez
    cases rz
    exact ⟨b, rfl, H', I', q⟩
theorem op_eqOwn (F : FnOk X.prog X.w X.K X.mg X.base CX n f fd ps sp) (O : OwnE X.K C f) (hb : Binds X.K fd ps []) (hx : Passes CX X E) (hr : Room n X.A) : OpR X (compareOp .Eq) (rOwn X.K C sp E id) := by
  intro pins s σ H x y u v Q I rx ry hq
  obtain ⟨a, dx, fs, tb, rfl, ha, ty, nf, hsp⟩ := hq
  show wpAny (model X.prog X.w) X.A (richCompare .Eq u v) (EP X pins σ Q) X.xe s
  obtain ⟨P, Z, p, hv⟩ := kit_of I ry ty
  have hu : u = .ref a := rx
  subst hu
  obtain ⟨mA, J, _⟩ := ins_get I.hok ha
  obtain ⟨od, J, _⟩ := J.look
  obtain ⟨m, hF⟩ := I.fr
  refine PySem.W.cmp_K (op := .Eq) hr.units0 hF I.ok.mod.kin J (Z.ty _ _ I.kIn p) nf O.eq O.fn ?_
  refine wpAny_mono (own_callee (Q := fun r H' => Q (.bl r) H') F hb hx hr rfl I rx ry hsp) (fun w s' k => ?_) fun _ _ k => k
  obtain ⟨r, rfl, H', I', q⟩ := k
  exact ⟨.bl r, H', I', rfl, q⟩
theorem op_neOwn (F : FnOk X.prog X.w X.K X.mg X.base CX n f fd ps sp) (O : OwnE X.K C f) (hb : Binds X.K fd ps []) (hx : Passes CX X E) (hr : Room (n + 1) X.A) : OpR X (compareOp .NotEq) (rOwn X.K C sp E not) := by
  intro pins s σ H x y u v Q I rx ry hq
  obtain ⟨a, dx, fs, tb, rfl, ha, ty, nf, hsp⟩ := hq
  show wpAny (model X.prog X.w) X.A (richCompare .NotEq u v) (EP X pins σ Q) X.xe s
  obtain ⟨P, Z, p, hv⟩ := kit_of I ry ty
  have hu : u = .ref a := rx
  subst hu
  obtain ⟨mA, J, _⟩ := ins_get I.hok ha
  obtain ⟨od, J, _⟩ := J.look
  obtain ⟨m, hF⟩ := I.fr
  refine ne_K (by have := hr.un; omega) hF I.ok.mod.kin J (Z.ty _ _ I.kIn p) nf O.ne O.mro O.eq O.fn ?_
  refine wpAny_mono (own_callee (Q := fun r H' => Q (.bl (!r)) H') F hb hx hr.in1 rfl I rx ry hsp) (fun w s' k => ?_) fun _ _ k => k
  obtain ⟨r, rfl, H', I', q⟩ := k
  exact ⟨r, rfl, .bl !r, H', I', rfl, q⟩
end
end Rp
namespace K
open PySem L2 Rp
/-! ### the text by places -/
def top (i : Nat) : Stmt := PySem.Challenge.pw_casknotes_k05_weights_reckoned.main.body.getD i (.Pass ⟨0, 0, 0, 0⟩)
abbrev sShow : Stmt := top 24
abbrev sWhole : Stmt := top 26
abbrev sInit : Stmt := inClass (top 28) 0
abbrev sRepr : Stmt := inClass (top 28) 3
abbrev sPlus : Stmt := inClass (top 28) 4
abbrev sBelow : Stmt := inClass (top 28) 7
abbrev sNought : Stmt := inClass (top 28) 8
abbrev sUp : Stmt := inClass (top 28) 9
abbrev sDeck : Stmt := top 30
abbrev sDraw : Stmt := top 31
abbrev sLWhole : Stmt := top 32
abbrev sDiv : Stmt := top 33
abbrev sTwo : Stmt := top 34
abbrev sLow : Stmt := top 35
abbrev sIs : Stmt := top 36
abbrev sMarks : Stmt := top 37
abbrev sTaken : Stmt := top 38
abbrev sTwoR : Stmt := top 39
abbrev sTimesR : Stmt := top 40
abbrev sLaw : Stmt := top 41
abbrev sEq : Stmt := inClass (top 28) 1
abbrev sLess : Stmt := inClass (top 28) 5
abbrev sTimes : Stmt := inClass (top 28) 6
abbrev sUnI : Stmt := inClass (top 13) 0

/-! ### decks -/
def DeckAt (H : Hp) (d : Addr) : Prop := ∃ a b c : Int, H d = some (.lst [.int a, .int b, .int c])

/-! ### promises -/
def spWhole (K : PySem.W.Frag) : Sp := fun vs H Q _ => ∃ n : Int, vs = [.int n] ∧ Q (.bl true) H
def spDeck : Sp := fun vs H Q _ => ∃ n : Int, vs = [.int n] ∧ ∀ p, H p = none → ∀ H', DeckAt H' p → (∀ b, b ≠ p → H' b = H b) → Q (.ref p) H'
def spDraw : Sp := fun vs H Q _ => ∃ (d : Addr) (m : Int), vs = [.ref d, .int m] ∧ 0 < m ∧ m < 1073741824 ∧ DeckAt H d ∧ ∀ r : Int, 0 ≤ r → r < m → ∀ H', DeckAt H' d → (∀ b, b ≠ d → H' b = H b) → Q (.int r) H'

/-- what the built-in names hold -/
structure Blt (mg : Str → Option Value) : Prop where
  isi : mg "isinstance" = none
  int : mg "int" = none
  bool : mg "bool" = none

section
variable {P : Program} {w : World} {K : PySem.W.Frag} {mg : Str → Option Value} {base : Heap}
theorem scWhole : FnScope ["thing"] ["thing"] (defScope sWhole) := ⟨rfl, rfl, rfl, by decide +kernel, rfl, by decide +kernel, by decide +kernel⟩
theorem ok_whole {f : Addr} {fd : FuncData} (F : Fun K "is_whole" "is_whole" sWhole f fd) (B : Blt mg) : FnOk P w K mg base CX0 1 f fd ["thing"] (spWhole K) := by
  refine F.ok scWhole (fun vs H Q E h => ?_) (fun cdv A outer s H vs Q E hr h => ?_)
  · obtain ⟨n, rfl, _⟩ := h
    rfl
  · obtain ⟨n, rfl, k⟩ := h
    refine ⟨_, pss_one (ps_ret (pe_and (pe_callB call_isi (by rfl) B.isi (by decide +kernel) (pa_cons (pv 0) (pa_cons (pe_bltn (v := .ty "int") (by rfl) B.int (by decide +kernel) rfl) pa_nil)))
      (pe_one (pe_not (pe_callB call_isi (by rfl) B.isi (by decide +kernel) (pa_cons (pv 0) (pa_cons (pe_bltn (v := .ty "bool") (by rfl) B.bool (by decide +kernel) rfl) pa_nil))))))), ?_⟩
    refine ⟨_, rfl, _, .ty "int", _, _, true, rfl, .ty _, .base (.int _), kit_ty (by decide +kernel), true, rfl, ?_⟩
    refine iteT ?_
    refine ⟨_, rfl, _, .ty "bool", _, _, false, rfl, .ty _, .base (.int _), kit_ty (by decide +kernel), false, rfl, ?_⟩
    exact k
theorem scLWhole : FnScope ["_law_thing"] ["_law_thing"] (defScope sLWhole) := ⟨rfl, rfl, rfl, by decide +kernel, rfl, by decide +kernel, by decide +kernel⟩
theorem ok_lwhole {f : Addr} {fd : FuncData} (F : Fun K "_law_whole" "_law_whole" sLWhole f fd) (B : Blt mg) : FnOk P w K mg base CX0 1 f fd ["_law_thing"] (spWhole K) := by
  refine F.ok scLWhole (fun vs H Q E h => ?_) (fun cdv A outer s H vs Q E hr h => ?_)
  · obtain ⟨n, rfl, _⟩ := h
    rfl
  · obtain ⟨n, rfl, k⟩ := h
    refine ⟨_, pss_one (ps_ret (pe_and (pe_callB call_isi (by rfl) B.isi (by decide +kernel) (pa_cons (pv 0) (pa_cons (pe_bltn (v := .ty "int") (by rfl) B.int (by decide +kernel) rfl) pa_nil)))
      (pe_one (pe_not (pe_callB call_isi (by rfl) B.isi (by decide +kernel) (pa_cons (pv 0) (pa_cons (pe_bltn (v := .ty "bool") (by rfl) B.bool (by decide +kernel) rfl) pa_nil))))))), ?_⟩
    refine ⟨_, rfl, _, .ty "int", _, _, true, rfl, .ty _, .base (.int _), kit_ty (by decide +kernel), true, rfl, ?_⟩
    refine iteT ?_
    refine ⟨_, rfl, _, .ty "bool", _, _, false, rfl, .ty _, .base (.int _), kit_ty (by decide +kernel), false, rfl, ?_⟩
    exact k
end
end K
namespace K
open PySem L2 Rp
section
variable {P : Program} {w : World} {K : PySem.W.Frag} {mg : Str → Option Value} {base : Heap}
theorem scDeck : FnScope ["_law_cell"] ["_law_cell"] (defScope sDeck) := ⟨rfl, rfl, rfl, by decide +kernel, rfl, by decide +kernel, by decide +kernel⟩
theorem ok_deck {f : Addr} {fd : FuncData} (F : Fun K "_law_deck" "_law_deck" sDeck f fd) (B : Blt mg) : FnOk P w K mg base CX0 1 f fd ["_law_cell"] spDeck := by
  refine F.ok scDeck (fun vs H Q E h => ?_) (fun cdv A outer s H vs Q E hr h => ?_)
  · obtain ⟨n, rfl, _⟩ := h
    rfl
  · obtain ⟨n, rfl, k⟩ := h
    refine ⟨_, pss_one (ps_ret (pe_lst (pa_cons (pe_op op_mul (pv 0) (pe_callTy call_int1 (by rfl) B.int (by decide +kernel) (pa_cons (pe_cmpR op_ge (pv 0) (pe_op op_pow pe_int pe_int) (nomark _)) pa_nil)))
      (pa_cons (pe_op op_mod (pv 0) pe_int) (pa_cons pe_int pa_nil))))), ?_⟩
    refine ⟨_, rfl, _, rfl, _, _, rfl, rfl, (by show (0:Int) ≤ 18 ∧ (18:Int) ≤ 1000000 ∧ (10:Int).natAbs < 2 ^ 64; decide), _, _, rfl, rfl, .inr ⟨_, rfl, ?_⟩⟩
    refine ⟨_, _, rfl, rfl, .inr (by split <;> decide), ?_⟩
    refine ⟨_, rfl, _, _, rfl, rfl, (by show (0:Int) < 2147483587; decide), ?_⟩
    refine ⟨(by show 3 ≤ sizeLine; decide), fun p hp => ?_⟩
    exact k p hp _ ⟨_, _, _, upd_same⟩ fun b hb => upd_ne hb
theorem scDraw : FnScope ["_law_deck_here", "_law_most", "_law_got", "_law_mixed"] ["_law_deck_here", "_law_most"] (defScope sDraw) := ⟨rfl, rfl, rfl, by decide +kernel, rfl, by decide +kernel, by decide +kernel⟩
theorem ix3 {a b c : V} : atI [a, b, c] (0 : Int) = some a ∧ atI [a, b, c] (1 : Int) = some b ∧ atI [a, b, c] (2 : Int) = some c := ⟨rfl, rfl, rfl⟩
theorem ok_draw {f : Addr} {fd : FuncData} (F : Fun K "_law_draw" "_law_draw" sDraw f fd) : FnOk P w K mg base CX0 1 f fd ["_law_deck_here", "_law_most"] spDraw := by
  refine F.ok scDraw (fun vs H Q E h => ?_) (fun cdv A outer s H vs Q E hr h => ?_)
  · obtain ⟨d, m, rfl, _⟩ := h
    rfl
  · obtain ⟨d, m, rfl, h0, h1, ⟨a, b, c, hd⟩, k⟩ := h
    refine ⟨_, pss_cons (ps_if (pt_cmpR op_gt (pe_ix ix_list (pv 0) pe_int (fun _ _ => rfl)) pe_int (nomark _))
        (pss_cons (ps_set (i := 2) scDraw.nd rfl (Or.inl rfl) (pe_op op_modN (pe_ix ix_list (pv 0) pe_int (fun _ _ => rfl)) (pv 1)))
        (pss_cons (ps_asg (pe_op op_fdivN (pe_ix ix_list (pv 0) pe_int (fun _ _ => rfl)) (pv 1)) (pg_sub (pv 0) pe_int set_list))
        (pss_one (ps_ret (pv 2))))) pss_nil)
      (pss_cons (ps_asg (pe_op op_add (pe_ix ix_list (pv 0) pe_int (fun _ _ => rfl)) pe_int) (pg_sub (pv 0) pe_int set_list))
      (pss_cons (ps_set (i := 3) scDraw.nd rfl (Or.inl rfl) (pe_op op_mod (pe_op op_mul (pe_op op_add (pe_op op_add (pe_ix ix_list (pv 0) pe_int (fun _ _ => rfl)) (pe_op op_mul pe_int (pe_ix ix_list (pv 0) pe_int (fun _ _ => rfl)))) pe_int) pe_int) pe_int))
      (pss_cons (ps_set (i := 3) scDraw.nd rfl (Or.inl rfl) (pe_op op_mod (pe_op op_add (pe_op op_add (pe_op op_mul (pv 3) (pv 3)) (pe_op op_mul pe_int (pv 3))) (pe_ix ix_list (pv 0) pe_int (fun _ _ => rfl))) pe_int))
      (pss_one (ps_ret (pe_op op_modN (pe_op op_fdiv (pe_op op_mod (pe_op op_mul (pv 3) pe_int) pe_int) pe_int) (pv 1))))))), ?_⟩
    refine ⟨_, rfl, d, _, _, _, rfl, rfl, SqL.of hd, ix3.1, _, _, rfl, rfl, _, rfl, ?_⟩
    refine ite2 (fun _ => ?_) (fun _ => ?_)
    · refine ⟨_, rfl, d, _, _, _, rfl, rfl, SqL.of hd, ix3.1, _, rfl, _, _, rfl, rfl, (by show m ≠ 0; omega), ?_⟩
      refine ⟨_, rfl, d, _, _, _, rfl, rfl, SqL.of hd, ix3.1, _, rfl, _, _, rfl, rfl, ⟨by omega, by omega⟩, ?_⟩
      refine ⟨_, rfl, d, _, _, 0, rfl, rfl, hd, rfl, ?_⟩
      refine ⟨_, rfl, ?_⟩
      exact k _ (Int.fmod_nonneg_of_pos a h0) (Int.fmod_lt_of_pos a h0) _ ⟨_, _, _, upd_same⟩ fun b hb => upd_ne hb
    · refine ⟨_, rfl, d, _, _, _, rfl, rfl, SqL.of hd, ix3.2.2, _, _, rfl, rfl, ?_⟩
      refine ⟨_, rfl, d, _, _, 2, rfl, rfl, hd, rfl, ?_⟩
      have hd2 : (upd H d (.lst ([V.int a, V.int b, V.int c].set 2 (.int (c + 1))))) d = some (.lst [.int a, .int b, .int (c + 1)]) := upd_same
      refine ⟨_, rfl, d, _, _, _, rfl, rfl, SqL.of hd2, ix3.2.1, _, rfl, d, _, _, _, rfl, rfl, SqL.of hd2, ix3.2.2, _, _, rfl, rfl, .inl (by decide), _, _, rfl, rfl, _, _, rfl, rfl, _, _, rfl, rfl, .inr (by decide), _, _, rfl, rfl, (by show (0:Int) < 2147483647; decide), ?_⟩
      refine ⟨_, rfl, _, rfl, _, _, rfl, rfl, .inl ⟨by omega, by omega⟩, _, rfl, _, _, rfl, rfl, .inl (by decide), _, _, rfl, rfl, _, rfl, d, _, _, _, rfl, rfl, SqL.of hd2, ix3.2.2, _, _, rfl, rfl, _, _, rfl, rfl, (by show (0:Int) < 2147483629; decide), ?_⟩
      refine ⟨_, rfl, _, _, rfl, rfl, .inr (by decide), _, _, rfl, rfl, (by show (0:Int) < 2147483563; decide), _, _, rfl, rfl, ⟨by decide, by decide⟩, _, rfl, _, _, rfl, rfl, (by show m ≠ 0; omega), ?_⟩
      exact k _ (Int.fmod_nonneg_of_pos _ h0) (Int.fmod_lt_of_pos _ h0) _ ⟨_, _, _, hd2⟩ fun b hb => upd_ne hb
end
end K
namespace K
open PySem L2 Rp
/-! ### the law's own gcd -/
theorem gcd_turn {c d : Int} (hc : 0 ≤ c) (hd : 0 ≤ d) : Int.gcd d (c % d) = Int.gcd c d := by
  obtain ⟨m, rfl⟩ := Int.eq_ofNat_of_zero_le hc
  obtain ⟨n, rfl⟩ := Int.eq_ofNat_of_zero_le hd
  show Nat.gcd n (m % n) = Nat.gcd m n
  rw [Nat.gcd_comm n, ← Nat.gcd_rec, Nat.gcd_comm]
def spDiv : Sp := fun vs H Q _ => ∃ a b : Int, vs = [.int a, .int b] ∧ 0 ≤ a ∧ 0 ≤ b ∧ Q (.int (Int.gcd a b : Nat)) H
section
variable {P : Program} {w : World} {K : PySem.W.Frag} {mg : Str → Option Value} {base : Heap}
theorem scDiv : FnScope ["_law_one", "_law_other"] ["_law_one", "_law_other"] (defScope sDiv) := ⟨rfl, rfl, rfl, by decide +kernel, rfl, by decide +kernel, by decide +kernel⟩
theorem ok_div {f : Addr} {fd : FuncData} (F : Fun K "_law_divides" "_law_divides" sDiv f fd) (hab : mg "abs" = none) : FnOk P w K mg base CX0 1 f fd ["_law_one", "_law_other"] spDiv := by
  refine F.ok scDiv (fun vs H Q E h => ?_) (fun cdv A outer s H vs Q E hr h => ?_)
  · obtain ⟨a, b, rfl, _⟩ := h
    rfl
  · obtain ⟨a, b, rfl, ha, hb, k⟩ := h
    refine ⟨_, pss_cons (ps_par (i := 0) (j := 1) rfl scDiv.nd rfl rfl (by decide) rfl rfl (pa_cons (pe_callB call_abs (by rfl) hab (by decide +kernel) (pa_cons (pv 0) pa_nil)) (pa_cons (pe_callB call_abs (by rfl) hab (by decide +kernel) (pa_cons (pv 1) pa_nil)) pa_nil)) (by rfl))
      (pss_cons (ps_while PassesOwn.never (pt_cmpR op_gt (pv 1) pe_int (nomark _)) (pss_one (ps_par (i := 0) (j := 1) rfl scDiv.nd rfl rfl (by decide) rfl rfl (pa_cons (pv 1) (pa_cons (pe_op op_modN (pv 0) (pv 1)) pa_nil)) (by rfl))))
      (pss_one (ps_ret (pv 0)))), ?_⟩
    refine ⟨_, rfl, _, rfl, _, rfl, _, rfl, _, _, rfl, ?_⟩
    rw [if_neg (show ¬ a < 0 by omega), if_neg (show ¬ b < 0 by omega)]
    refine while_by (fun σ H' => H' = H ∧ ∃ c d : Int, σ = [some (.int c), some (.int d)] ∧ 0 ≤ c ∧ 0 ≤ d ∧ Int.gcd c d = Int.gcd a b) (fun σ _ => match σ with | [_, some (.int d)] => d.toNat | _ => 0)
      ⟨rfl, a, b, rfl, ha, hb, rfl⟩ ?_ ?_
    · rintro σ H' ⟨rfl, c, d, rfl, hc, hd, hg⟩
      refine ⟨_, rfl, _, _, rfl, rfl, _, rfl, ?_⟩
      refine ite2 (fun h => ?_) (fun h => ?_)
      · have h' : 0 < d := by simpa using h
        refine ⟨_, rfl, _, rfl, _, rfl, _, _, rfl, rfl, (by show d ≠ 0; omega), _, _, rfl, ?_⟩
        have e : c.fmod d = c % d := Int.fmod_eq_emod_of_nonneg c (by omega)
        have e0 := Int.emod_nonneg c (by omega : d ≠ 0)
        have e1 := Int.emod_lt_of_pos c h'
        refine ⟨⟨rfl, d, c.fmod d, rfl, by omega, by omega, ?_⟩, ?_⟩
        · rw [← hg, e]
          exact gcd_turn hc hd
        · show (c.fmod d).toNat < d.toNat
          omega
      · have h' : d = 0 := by
          have : ¬ 0 < d := by simpa using h
          omega
        subst h'
        refine ⟨_, rfl, ?_⟩
        have e : c = ((Int.gcd a b : Nat) : Int) := by rw [← hg, Int.gcd_zero_right]; omega
        rw [e]
        exact k
    · rintro σ H' Q1 Q2 hQ ⟨v, e, i, j, h1, h2, c, h3, q⟩
      exact ⟨v, e, i, j, h1, h2, c, h3, hQ _ _ q⟩
end
end K
namespace K
open PySem L2 Rp
/-! ### sizes -/
/-- below 2 ^ m in size -/
def Sz (m : Nat) (x : Int) : Prop := x.natAbs < 2 ^ m
theorem Sz.mono {a b : Nat} {x : Int} (h : Sz a x) (hab : a ≤ b) : Sz b x := Nat.lt_of_lt_of_le h (Nat.pow_le_pow_right (by decide) hab)
theorem Sz.mul {a b : Nat} {x y : Int} (hx : Sz a x) (hy : Sz b y) : Sz (a + b) (x * y) := wide_lt hx hy
theorem Sz.add {a : Nat} {x y : Int} (hx : Sz a x) (hy : Sz a y) : Sz (a + 1) (x + y) := by
  have h := Int.natAbs_add_le x y
  unfold Sz at *
  rw [Nat.pow_succ]
  omega
theorem Sz.sub {a : Nat} {x y : Int} (hx : Sz a x) (hy : Sz a y) : Sz (a + 1) (x - y) := by
  have h := Int.natAbs_sub_le x y
  unfold Sz at *
  rw [Nat.pow_succ]
  omega
theorem Sz.div {a : Nat} {x : Int} (hx : Sz a x) (y : Int) : Sz a (x / y) := Nat.lt_of_le_of_lt (Int.natAbs_ediv_le_natAbs x y) hx
theorem Sz.log {a : Nat} {x : Int} (hx : Sz a x) (h0 : 0 < a) : x.natAbs.log2 < a := PySem.Flt.log2_lt_of h0 hx
theorem Sz.mulOk {a b : Nat} {x y : Int} (hx : Sz a x) (hy : Sz b y) (h0 : 0 < a) (h1 : 0 < b) (h : a + b ≤ 1000000) : CMulW x y := wide_mul hx hy h0 h1 h
theorem gcd_pos {t b : Int} (hb : 0 < b) : 0 < ((Int.gcd t b : Nat) : Int) := by
  have : Int.gcd t b ≠ 0 := fun z => by
    have := Int.gcd_eq_zero_iff.mp z
    omega
  omega
theorem gcd_le {t b : Int} (hb : 0 < b) : ((Int.gcd t b : Nat) : Int) ≤ b := by
  have h := Int.gcd_dvd_right t b
  exact Int.le_of_dvd hb h
theorem Sz.gcd {a : Nat} {t b : Int} (h : Sz a b) (hb : 0 < b) : Sz a ((Int.gcd t b : Nat) : Int) := by
  have h1 := gcd_le (t := t) hb
  have h2 := gcd_pos (t := t) hb
  unfold Sz at *
  omega

/-! ### Weights -/
theorem tb_ : ¬ (("top" : Str) = "bottom") := by decide +kernel
theorem bt_ : ¬ (("bottom" : Str) = "top") := by decide +kernel
/-- a Weight's fields, as __init__ stores them -/
def wf (t b : Int) : List (Str × V) := putF "bottom" (.int b) (putF "top" (.int t) [])
theorem wf_top (t b : Int) : (wf t b).lookup ("top" : Str) = some (.int t) := by
  unfold wf
  rw [lookup_putF, if_neg tb_, lookup_putF, if_pos rfl]
theorem wf_bottom (t b : Int) : (wf t b).lookup ("bottom" : Str) = some (.int b) := by
  unfold wf
  rw [lookup_putF, if_pos rfl]
theorem wf_no (t b : Int) {m : Str} (h1 : ¬ m = "top") (h2 : ¬ m = "bottom") : (wf t b).lookup m = none := by
  unfold wf
  rw [lookup_putF, if_neg h2, lookup_putF, if_neg h1]
  all_goals rfl
/-- a Weight t / b stands at p -/
def WAt (C : Addr) (H : Hp) (p : Addr) (t b : Int) : Prop := ∃ dx, H p = some (.ins C dx (wf t b))
theorem WAt.same {C : Addr} {H H' : Hp} {p : Addr} {t b : Int} (h : WAt C H p t b) (e : Same H H') : WAt C H' p t b := let ⟨dx, h⟩ := h; ⟨dx, e _ _ h⟩
theorem same_make {H : Hp} {x dx C : Addr} {fs : List (Str × V)} (nx : H x = none) (ndx : H dx = none) : Same H (upd (upd (upd H dx (.own x)) x (.ins C dx [])) x (.ins C dx fs)) := fun b o e => by
  rw [upd_ne (ne_of_none e nx), upd_ne (ne_of_none e nx), upd_ne (ne_of_none e ndx)]
  exact e

/-- what the top holds of the class Weight, at C -/
structure WTxt (K : PySem.W.Frag) (mg : Str → Option Value) (C fW : Addr) : Prop where
  cl : Cls K C
  nT : NoAttr K C "top"
  nB : NoAttr K C "bottom"
  mgC : mg "Weight" = some (.ref C)
  mgW : mg "is_whole" = some (.ref fW)
  kpW : PySem.W.keepIn K (.ref fW) = true
  gcd : mg "gcd" = some (.builtin "math.gcd")

def spInit (C : Addr) : Sp := fun vs H Q _ => ∃ (p dx : Addr) (t b : Int), vs = [.ref p, .int t, .int b] ∧ H p = some (.ins C dx []) ∧ 0 ≤ t ∧ 0 < b ∧ Sz 8000 b ∧
  Q .non (upd H p (.ins C dx (wf (t / (Int.gcd t b : Nat)) (b / (Int.gcd t b : Nat)))))

/-- as FunD.ok, of a def that lets nothing out -/
theorem FunD_ok0 {P : Program} {w : World} {K : PySem.W.Frag} {mg : Str → Option Value} {base : Heap} {x qual : Str} {params : Arguments} {body : List Stmt} {scope : Scope} {dvs : List V} {kws : List (Str × V)} {f : Addr} {fd : FuncData} {N ps : List Str} {k : Nat} {sp : Sp}
    (F : FunD K x qual params body scope dvs kws f fd) (S : FnScope N ps scope) (len : ∀ vs H Q E, sp vs H Q E → vs.length = ps.length)
    (hbody : ∀ (cdv : Value) (A : Around) (outer : List PySem.Env) (s : Shared) (H : Hp) (vs : List V) (Q : VK) (E : XK), Room k (A.deeper (PyProof.Rows.envOfC qual scope s.heap.objs.size f cdv)) → sp vs H Q E →
      ∃ t, PSs (cxOf CX0 P w K mg base N qual scope f cdv A outer s H E).nox body t ∧ t { nx := fun _ H' => Q .non H', rt := Q } (start N vs) H) : FnOk P w K mg base CX0 (k + 1) f fd ps sp :=
  F.ok S len fun cdv A outer s H vs Q E hr h => let ⟨t, h1, h2⟩ := hbody cdv A outer s H vs Q E hr h; ⟨t, h1.nox, h2⟩

section
variable {P : Program} {w : World} {K : PySem.W.Frag} {mg : Str → Option Value} {base : Heap}
theorem scInit : FnScope ["self", "top", "bottom", "shared"] ["self", "top", "bottom"] (defScope sInit) := ⟨rfl, rfl, rfl, by decide +kernel, rfl, by decide +kernel, by decide +kernel⟩
abbrev FunI (K : PySem.W.Frag) (f : Addr) (fd : FuncData) : Prop := FunD K "__init__" "Weight.__init__" (defArgs sInit) (defBody sInit) (defScope sInit) [.int 1] [] f fd
theorem ok_init {f C fW : Addr} {fd fdW : FuncData} (F : FunI K f fd) (T : WTxt K mg C fW) (GW : FnOk P w K mg base CX0 1 fW fdW ["thing"] (spWhole K)) (bW : Binds K fdW ["thing"] []) : FnOk P w K mg base CX0 2 f fd ["self", "top", "bottom"] (spInit C) := by
  refine FunD_ok0 F scInit (fun vs H Q E h => ?_) (fun cdv A outer s H vs Q E hr h => ?_)
  · obtain ⟨p, dx, t, b, rfl, _⟩ := h
    rfl
  · obtain ⟨p, dx, t, b, rfl, hp, ht, hb, hz, k⟩ := h
    refine ⟨_, pss_cons (ps_if (PW.pt (pw_and (pt_val (pe_call GW hr (by rfl) T.mgW T.kpW bW .nil pass0 (pa_cons (pv 2) pa_nil))) (pw_and1 (pt_cmpR op_eq (pv 2) pe_int (nomark _))))) (pss_one ps_never) pss_nil)
      (pss_cons (ps_if (PW.pt (pw_or (pt_not (pt_val (pe_call GW hr (by rfl) T.mgW T.kpW bW .nil pass0 (pa_cons (pv 1) pa_nil)))) (pw_or (pt_not (pt_val (pe_call GW hr (by rfl) T.mgW T.kpW bW .nil pass0 (pa_cons (pv 2) pa_nil))))
          (pw_or (pt_cmpR op_lt (pv 1) pe_int (nomark _)) (pw_or1 (pt_cmpR op_lt (pv 2) pe_int (nomark _))))))) (pss_one ps_never) pss_nil)
      (pss_cons (ps_set (i := 3) scInit.nd rfl (Or.inl rfl) (pe_callBfun cr_gcd (by rfl) T.gcd (pa_cons (pv 1) (pa_cons (pv 2) pa_nil))))
      (pss_cons (ps_fld (pv 0) (pe_op op_fdivW (pv 1) (pv 3)) rfl)
      (pss_one (ps_fld (pv 0) (pe_op op_fdivW (pv 2) (pv 3)) rfl))))), ?_⟩
    have hg := gcd_pos (t := t) hb
    have hgz : CDivW t ((Int.gcd t b : Nat) : Int) := ⟨hg, Nat.lt_trans ((Sz.gcd (t := t) hz hb).log (by decide)) (by decide)⟩
    have hgz' : CDivW b ((Int.gcd t b : Nat) : Int) := hgz
    refine ⟨_, rfl, b, rfl, true, rfl, iteT ⟨_, rfl, rfl, _, rfl, ?_⟩⟩
    rw [decide_eq_false (show ¬ (V.int b = V.int 0) from fun z => by cases z; omega)]
    refine iteF ?_
    refine ⟨_, rfl, t, rfl, true, rfl, iteF ⟨_, rfl, b, rfl, true, rfl, iteF ⟨_, rfl, _, _, rfl, rfl, _, rfl, ?_⟩⟩⟩
    rw [decide_eq_false (show ¬ t < 0 by omega)]
    refine iteF ⟨_, rfl, _, _, rfl, rfl, _, rfl, ?_⟩
    rw [decide_eq_false (show ¬ b < 0 by omega)]
    refine iteF ?_
    refine ⟨_, rfl, _, rfl, t, b, rfl, ?_⟩
    refine ⟨_, rfl, _, rfl, _, _, rfl, rfl, hgz, _, rfl, p, C, dx, _, rfl, hp, T.cl, T.nT, (by show 0 < 1000; decide), ?_⟩
    refine ⟨_, rfl, _, rfl, _, _, rfl, rfl, hgz', _, rfl, p, C, dx, _, rfl, upd_same, T.cl, T.nB, (by show 1 < 1000; decide), ?_⟩
    show Q .non (upd (upd H p _) p _)
    rw [upd_upd]
    exact k
end
end K
namespace K
open PySem L2 Rp
/-- a Weight's numbers, below 2 ^ m -/
structure Wn (m : Nat) (t b : Int) : Prop where
  t0 : 0 ≤ t
  b0 : 0 < b
  tz : Sz m t
  bz : Sz m b
theorem Wn.mono {m n : Nat} {t b : Int} (h : Wn m t b) (hm : m ≤ n) : Wn n t b := ⟨h.t0, h.b0, h.tz.mono hm, h.bz.mono hm⟩
/-- lowest terms -/
def lowT (t b : Int) : Int := t / ((Int.gcd t b : Nat) : Int)
def lowB (t b : Int) : Int := b / ((Int.gcd t b : Nat) : Int)
theorem Wn.low {m : Nat} {t b : Int} (h : Wn m t b) : Wn m (lowT t b) (lowB t b) := by
  have hg := gcd_pos (t := t) h.b0
  have hd := Int.gcd_dvd_right t b
  refine ⟨Int.ediv_nonneg h.t0 (Int.le_of_lt hg), ?_, h.tz.div _, h.bz.div _⟩
  exact Int.ediv_pos_of_pos_of_dvd h.b0 (Int.le_of_lt hg) hd

def spBelow (C : Addr) : Sp := fun vs H Q _ => ∃ (p q : Addr) (t b u d : Int), vs = [.ref p, .ref q] ∧ WAt C H p t b ∧ WAt C H q u d ∧ Wn 4000 t b ∧ Wn 4000 u d ∧ Q (.bl (decide (t * d < u * b))) H
def spNought (C : Addr) : Sp := fun vs H Q _ => ∃ (p : Addr) (t b : Int), vs = [.ref p] ∧ WAt C H p t b ∧ Q (.bl (decide (V.int t = V.int 0))) H
def spUp (C : Addr) : Sp := fun vs H Q _ => ∃ (p : Addr) (t b : Int), vs = [.ref p] ∧ WAt C H p t b ∧ Wn 4000 t b ∧ Q (.int ((t + b - 1) / b)) H
def spPlus (C : Addr) : Sp := fun vs H Q _ => ∃ (p q : Addr) (t b u d : Int), vs = [.ref p, .ref q] ∧ WAt C H p t b ∧ WAt C H q u d ∧ Wn 3000 t b ∧ Wn 3000 u d ∧
  ∀ (x : Addr) (H' : Hp), Same H H' → H x = none → WAt C H' x (lowT (t * d + u * b) (b * d)) (lowB (t * d + u * b) (b * d)) → Q (.ref x) H'

section
variable {P : Program} {w : World} {K : PySem.W.Frag} {mg : Str → Option Value} {base : Heap}
theorem scBelow : FnScope ["self", "other"] ["self", "other"] (defScope sBelow) := ⟨rfl, rfl, rfl, by decide +kernel, rfl, by decide +kernel, by decide +kernel⟩
theorem ok_below {f C fW : Addr} {fd : FuncData} (F : Fun K "is_below" "Weight.is_below" sBelow f fd) (T : WTxt K mg C fW) : FnOk P w K mg base CX0 1 f fd ["self", "other"] (spBelow C) := by
  refine F.ok scBelow (fun vs H Q E h => ?_) (fun cdv A outer s H vs Q E hr h => ?_)
  · obtain ⟨p, q, t, b, u, d, rfl, _⟩ := h
    rfl
  · obtain ⟨p, q, t, b, u, d, rfl, ⟨dx, hp⟩, ⟨dy, hq⟩, n1, n2, k⟩ := h
    refine ⟨_, pss_one (ps_ret (pe_cmpR op_lt (pe_op op_mulW (pe_fld (pv 0) rfl) (pe_fld (pv 1) rfl)) (pe_op op_mulW (pe_fld (pv 1) rfl) (pe_fld (pv 0) rfl)) (nomark _))), ?_⟩
    refine ⟨_, rfl, p, C, dx, _, _, rfl, hp, T.cl, T.nT, wf_top _ _, _, rfl, q, C, dy, _, _, rfl, hq, T.cl, T.nB, wf_bottom _ _, _, _, rfl, rfl, n1.tz.mulOk n2.bz (by decide) (by decide) (by decide), ?_⟩
    refine ⟨_, rfl, q, C, dy, _, _, rfl, hq, T.cl, T.nT, wf_top _ _, _, rfl, p, C, dx, _, _, rfl, hp, T.cl, T.nB, wf_bottom _ _, _, _, rfl, rfl, n2.tz.mulOk n1.bz (by decide) (by decide) (by decide), ?_⟩
    exact ⟨_, _, rfl, rfl, k⟩
theorem scPlus : FnScope ["self", "other", "top"] ["self", "other"] (defScope sPlus) := ⟨rfl, rfl, rfl, by decide +kernel, rfl, by decide +kernel, by decide +kernel⟩
theorem ok_plus {f C fW fI : Addr} {fd fdI : FuncData} (F : Fun K "plus" "Weight.plus" sPlus f fd) (T : WTxt K mg C fW) (M : Mk K C fI) (GI : FnOk P w K mg base CX0 2 fI fdI ["self", "top", "bottom"] (spInit C)) (bI : Binds K fdI ["self", "top", "bottom"] []) :
    FnOk P w K mg base CX0 4 f fd ["self", "other"] (spPlus C) := by
  refine F.ok scPlus (fun vs H Q E h => ?_) (fun cdv A outer s H vs Q E hr h => ?_)
  · obtain ⟨p, q, t, b, u, d, rfl, _⟩ := h
    rfl
  · obtain ⟨p, q, t, b, u, d, rfl, ⟨dx, hp⟩, ⟨dy, hq⟩, n1, n2, k⟩ := h
    refine ⟨_, pss_cons (ps_set (i := 2) scPlus.nd rfl (Or.inl rfl) (pe_op op_add (pe_op op_mulW (pe_fld (pv 0) rfl) (pe_fld (pv 1) rfl)) (pe_op op_mulW (pe_fld (pv 1) rfl) (pe_fld (pv 0) rfl))))
      (pss_one (ps_ret (pe_make M GI hr (by rfl) T.mgC bI .nil pass0 (pa_cons (pv 2) (pa_cons (pe_op op_mulW (pe_fld (pv 0) rfl) (pe_fld (pv 1) rfl)) pa_nil))))), ?_⟩
    refine ⟨_, rfl, p, C, dx, _, _, rfl, hp, T.cl, T.nT, wf_top _ _, _, rfl, q, C, dy, _, _, rfl, hq, T.cl, T.nB, wf_bottom _ _, _, _, rfl, rfl, n1.tz.mulOk n2.bz (by decide) (by decide) (by decide), ?_⟩
    refine ⟨_, rfl, q, C, dy, _, _, rfl, hq, T.cl, T.nT, wf_top _ _, _, rfl, p, C, dx, _, _, rfl, hp, T.cl, T.nB, wf_bottom _ _, _, _, rfl, rfl, n2.tz.mulOk n1.bz (by decide) (by decide) (by decide), _, _, rfl, rfl, ?_⟩
    refine ⟨_, rfl, _, rfl, p, C, dx, _, _, rfl, hp, T.cl, T.nB, wf_bottom _ _, _, rfl, q, C, dy, _, _, rfl, hq, T.cl, T.nB, wf_bottom _ _, _, _, rfl, rfl, n1.bz.mulOk n2.bz (by decide) (by decide) (by decide), ?_⟩
    intro x dz nx ndz ne
    refine ⟨x, dz, _, _, rfl, upd_same, ?_, Int.mul_pos n1.b0 n2.b0, (n1.bz.mul n2.bz).mono (by decide), rfl, ?_⟩
    · exact Int.add_nonneg (Int.mul_nonneg n1.t0 (Int.le_of_lt n2.b0)) (Int.mul_nonneg n2.t0 (Int.le_of_lt n1.b0))
    · exact k x _ (same_make nx ndz) nx ⟨dz, upd_same⟩
end
end K
namespace K
open PySem L2 Rp
/-- a def of the module, as its callers want it -/
structure Cl (K : PySem.W.Frag) (mg : Str → Option Value) (x : Str) (f : Addr) (fd : FuncData) (ps : List Str) : Prop where
  g : mg x = some (.ref f)
  k : PySem.W.keepIn K (.ref f) = true
  b : Binds K fd ps []
/-- what isinstance asks of an own class's instance -/
structure WIns (K : PySem.W.Frag) (C : Addr) : Prop where
  ha : PySem.W.findIn K (.ref C) "__class__" = some (some (.builtin "object.__class__"))
  hn : PySem.W.specialIn K (.builtin "object.__class__") "__get__" = some (some (.builtin "getset_descriptor.__get__"))
  htk : PySem.W.takesIn K (.builtin "object.__class__") = some true
  hm : PySem.W.mroIn K C (.type "object") = some true
theorem kit_self {K : PySem.W.Frag} {C : Addr} : PySem.W.kitOne K (.ref C) (.ref C) = some true := by
  unfold PySem.W.kitOne
  rw [if_pos (by simp)]

def spLow : Sp := fun vs H Q _ => ∃ t b : Int, vs = [.int t, .int b] ∧ 0 ≤ t ∧ 0 < b ∧ Sz 8000 b ∧ ∀ p, H p = none → Q (.ref p) (upd H p (.tup [.int (lowT t b), .int (lowB t b)]))
/-- _law_is of a Weight that is what it should be -/
def spIs (C : Addr) : Sp := fun vs H Q _ => ∃ (p : Addr) (t b : Int), vs = [.ref p, .int t, .int b] ∧ 0 ≤ t ∧ 0 < b ∧ Sz 8000 b ∧ WAt C H p (lowT t b) (lowB t b) ∧ ∀ H', Same H H' → Q (.bl true) H'

section
variable {P : Program} {w : World} {K : PySem.W.Frag} {mg : Str → Option Value} {base : Heap}
theorem scLow : FnScope ["_law_top", "_law_bottom", "_law_by"] ["_law_top", "_law_bottom"] (defScope sLow) := ⟨rfl, rfl, rfl, by decide +kernel, rfl, by decide +kernel, by decide +kernel⟩
theorem ok_low {f fD : Addr} {fd fdD : FuncData} (F : Fun K "_law_lowest" "_law_lowest" sLow f fd) (cD : Cl K mg "_law_divides" fD fdD ["_law_one", "_law_other"]) (GD : FnOk P w K mg base CX0 1 fD fdD ["_law_one", "_law_other"] spDiv) :
    FnOk P w K mg base CX0 2 f fd ["_law_top", "_law_bottom"] spLow := by
  refine F.ok scLow (fun vs H Q E h => ?_) (fun cdv A outer s H vs Q E hr h => ?_)
  · obtain ⟨t, b, rfl, _⟩ := h
    rfl
  · obtain ⟨t, b, rfl, ht, hb, hz, k⟩ := h
    refine ⟨_, pss_cons (ps_set (i := 2) scLow.nd rfl (Or.inl rfl) (pe_call GD hr (by rfl) cD.g cD.k cD.b .nil pass0 (pa_cons (pv 0) (pa_cons (pv 1) pa_nil))))
      (pss_one (ps_ret (pe_tup (pa_cons (pe_op op_fdivW (pv 0) (pv 2)) (pa_cons (pe_op op_fdivW (pv 1) (pv 2)) pa_nil))))), ?_⟩
    have hg := gcd_pos (t := t) hb
    have hgz : ∀ i, CDivW i ((Int.gcd t b : Nat) : Int) := fun i => ⟨hg, Nat.lt_trans ((Sz.gcd (t := t) hz hb).log (by decide)) (by decide)⟩
    refine ⟨_, rfl, _, rfl, t, b, rfl, ht, Int.le_of_lt hb, ?_⟩
    refine ⟨_, rfl, _, rfl, _, _, rfl, rfl, hgz _, _, rfl, _, rfl, _, _, rfl, rfl, hgz _, (by show 2 ≤ sizeLine; decide), fun p hp => ?_⟩
    exact k p hp
theorem scIs : FnScope ["_law_found", "_law_top", "_law_bottom"] ["_law_found", "_law_top", "_law_bottom"] (defScope sIs) := ⟨rfl, rfl, rfl, by decide +kernel, rfl, by decide +kernel, by decide +kernel⟩
theorem ok_is {f C fW fL fN : Addr} {fd fdL fdN : FuncData} (F : Fun K "_law_is" "_law_is" sIs f fd) (T : WTxt K mg C fW) (B : Blt mg) (N : WIns K C)
    (cW : Cl K mg "_law_whole" fN fdN ["_law_thing"]) (GW : FnOk P w K mg base CX0 1 fN fdN ["_law_thing"] (spWhole K)) (cL : Cl K mg "_law_lowest" fL fdL ["_law_top", "_law_bottom"]) (GL : FnOk P w K mg base CX0 2 fL fdL ["_law_top", "_law_bottom"] spLow) :
    FnOk P w K mg base CX0 3 f fd ["_law_found", "_law_top", "_law_bottom"] (spIs C) := by
  refine F.ok scIs (fun vs H Q E h => ?_) (fun cdv A outer s H vs Q E hr h => ?_)
  · obtain ⟨p, t, b, rfl, _⟩ := h
    rfl
  · obtain ⟨p, t, b, rfl, ht, hb, hz, ⟨dx, hp⟩, k⟩ := h
    have hr1 : Room 1 _ := hr.mono (by decide)
    refine ⟨_, pss_cons (ps_if (PW.pt (pw_or (pt_not (pt_val (pe_callB call_isi (by rfl) B.isi (by decide +kernel) (pa_cons (pv 0) (pa_cons (pe_glob (v := .ref C) rfl T.mgC rfl) pa_nil)))))
          (pw_or (pt_not (pt_val (pe_call GW hr1 (by rfl) cW.g cW.k cW.b .nil pass0 (pa_cons (pe_fld (pv 0) rfl) pa_nil))))
          (pw_or1 (pt_not (pt_val (pe_call GW hr1 (by rfl) cW.g cW.k cW.b .nil pass0 (pa_cons (pe_fld (pv 0) rfl) pa_nil)))))))) (pss_one (ps_ret pe_bl)) pss_nil)
      (pss_one (ps_ret (pe_cmpR (op_eqD hr.units) (pe_tup (pa_cons (pe_fld (pv 0) rfl) (pa_cons (pe_fld (pv 0) rfl) pa_nil))) (pe_call GL hr (by rfl) cL.g cL.k cL.b .nil pass0 (pa_cons (pv 1) (pa_cons (pv 2) pa_nil))) (nomark _)))), ?_⟩
    refine ⟨_, rfl, _, .ref C, _, _, true, rfl, .own _, .base (.ins hp T.cl N.ha N.hn N.htk N.hm), kit_self, true, rfl, iteF ?_⟩
    refine ⟨_, rfl, p, C, dx, _, _, rfl, hp, T.cl, T.nT, wf_top _ _, _, rfl, true, rfl, iteF ?_⟩
    refine ⟨_, rfl, p, C, dx, _, _, rfl, hp, T.cl, T.nB, wf_bottom _ _, _, rfl, true, rfl, iteF ?_⟩
    refine ⟨_, rfl, p, C, dx, _, _, rfl, hp, T.cl, T.nT, wf_top _ _, _, rfl, p, C, dx, _, _, rfl, hp, T.cl, T.nB, wf_bottom _ _, (by show 2 ≤ sizeLine; decide), fun a ha => ?_⟩
    refine ⟨_, rfl, _, rfl, t, b, rfl, ht, hb, hz, fun c hc => ?_⟩
    have nac : a ≠ c := fun z => by
      rw [z] at hc
      rw [upd_same] at hc
      cases hc
    have e1 : Same H (upd (upd H a (.tup [V.int (lowT t b), V.int (lowB t b)])) c (.tup [V.int (lowT t b), V.int (lowB t b)])) := fun q o e => by
      rw [upd_ne (ne_of_none (by rw [upd_ne (ne_of_none e ha)]; exact e) hc), upd_ne (ne_of_none e ha)]
      exact e
    refine ⟨.tuple [.int (lowT t b), .int (lowB t b)], .tuple [.int (lowT t b), .int (lowB t b)], .tup (SqT.of (by rw [upd_ne nac]; exact upd_same)) (.cons (.int _) (.cons (.int _) .nil)), .tup (SqT.of upd_same) (.cons (.int _) (.cons (.int _) .nil)), rfl, rfl, ?_⟩
    rw [SeqAt.eqv_refl]
    · exact k _ e1
    · rfl
end
end K
namespace K
open PySem L2 Rp
/-- all but d is kept, what is free was free -/
structure Fw (d : Addr) (H H' : Hp) : Prop where
  kp : ∀ q o, q ≠ d → H q = some o → H' q = some o
  nn : ∀ p, H' p = none → H p = none
theorem Fw.refl (d : Addr) (H : Hp) : Fw d H H := ⟨fun _ _ _ h => h, fun _ h => h⟩
theorem Fw.trans {d : Addr} {H H1 H2 : Hp} (a : Fw d H H1) (b : Fw d H1 H2) : Fw d H H2 := ⟨fun q o n h => b.kp q o n (a.kp q o n h), fun p h => a.nn p (b.nn p h)⟩
theorem Fw.draw {d : Addr} {H H' : Hp} (h : DeckAt H' d) (e : ∀ b, b ≠ d → H' b = H b) : Fw d H H' := ⟨fun q o n h => (e q n).trans h, fun p hp => by
  by_cases z : p = d
  · obtain ⟨_, _, _, h⟩ := h
    rw [z, h] at hp
    cases hp
  · rw [← e p z]; exact hp⟩
theorem Fw.upd {d p : Addr} {H : Hp} {o : HO} (hp : H p = none) : Fw d H (upd H p o) := ⟨fun q u n h => by rw [upd_ne (ne_of_none h hp)]; exact h, fun q h => by
  by_cases z : q = p
  · rw [z, upd_same] at h; cases h
  · rw [upd_ne z] at h; exact h⟩
theorem Fw.same {d : Addr} {H H' : Hp} (e : Same H H') : (∀ p, H' p = none → H p = none) := fun p h => by
  cases q : H p with
  | none => rfl
  | some o => rw [e p o q] at h; cases h
theorem Fw.of_same {d : Addr} {H H' : Hp} (e : Same H H') : Fw d H H' := ⟨fun q o _ h => e q o h, Fw.same (d := d) e⟩
theorem DeckAt.upd {d p : Addr} {H : Hp} {o : HO} (h : DeckAt H d) (hp : H p = none) : DeckAt (upd H p o) d := by
  obtain ⟨a, b, c, h⟩ := h
  exact ⟨a, b, c, by rw [upd_ne (ne_of_none h hp)]; exact h⟩
theorem DeckAt.same {d : Addr} {H H' : Hp} (h : DeckAt H d) (e : Same H H') : DeckAt H' d := let ⟨a, b, c, h⟩ := h; ⟨a, b, c, e _ _ h⟩
theorem DeckAt.ne {d p : Addr} {H : Hp} (h : DeckAt H d) (hp : H p = none) : p ≠ d := fun z => by
  obtain ⟨_, _, _, h⟩ := h
  rw [z, h] at hp
  cases hp

theorem tYes_of {σ : L2.St} {H : Hp} {Q : Bool → Hp → Prop} (h : Q true H) : tYes σ H Q := h

def spTwo : Sp := fun vs H Q _ => ∃ d : Addr, vs = [.ref d] ∧ DeckAt H d ∧ ∀ (p : Addr) (t b : Int) (H' : Hp), 0 ≤ t → t ≤ 1000000000000 → 0 < b → b ≤ 1000000000000 → H p = none → H' p = some (.tup [.int t, .int b]) → DeckAt H' d → Fw d H H' → Q (.ref p) H'

section
variable {P : Program} {w : World} {K : PySem.W.Frag} {mg : Str → Option Value} {base : Heap}
theorem scTwo : FnScope ["_law_deck_here", "_law_way", "_law_top", "_law_bottom", "_law_k"] ["_law_deck_here"] (defScope sTwo) := ⟨rfl, rfl, rfl, by decide +kernel, rfl, by decide +kernel, by decide +kernel⟩
theorem ok_two {f fD : Addr} {fd fdD : FuncData} (F : Fun K "_law_two" "_law_two" sTwo f fd) (hmx : mg "max" = none) (hrg : mg "range" = none) (cD : Cl K mg "_law_draw" fD fdD ["_law_deck_here", "_law_most"])
    (GD : FnOk P w K mg base CX0 1 fD fdD ["_law_deck_here", "_law_most"] spDraw) : FnOk P w K mg base CX0 2 f fd ["_law_deck_here"] spTwo := by
  refine F.ok scTwo (fun vs H Q E h => ?_) (fun cdv A outer s H vs Q E hr h => ?_)
  · obtain ⟨d, rfl, _⟩ := h
    rfl
  · obtain ⟨d, rfl, hd, k⟩ := h
    refine ⟨_, pss_cons (ps_set (i := 1) scTwo.nd rfl (Or.inl rfl) (pe_call GD hr (by rfl) cD.g cD.k cD.b .nil pass0 (pa_cons (pv 0) (pa_cons pe_int pa_nil))))
      (pss_cons (ps_if (pt_cmpR op_eq (pv 1) pe_int (nomark _))
        (pss_cons (ps_asg (pe_lc (own := [("_law_k", 4)]) (g := gName 4) (tt := tYes) (by rfl) scTwo.nd (pi_range1 (by rfl) hrg (pa_cons pe_int pa_nil)) (blkOk_by (own := [("_law_k", 4)]) (N := ["_law_deck_here", "_law_way", "_law_top", "_law_bottom", "_law_k"]) (sc := defScope sTwo) (by decide +kernel))
            (fun _ _ _ _ _ => pg_name (i := 4) scTwo.nd rfl (Or.inl rfl)) (fun _ _ _ _ _ => pts_nil)
            (fun _ _ _ _ _ => pe_op op_add (pe_op op_mul (pe_call GD hr (by rfl) cD.g cD.k cD.b .nil pass0 (pa_cons (pv 0) (pa_cons (pe_op op_pow pe_int pe_int) pa_nil))) (pe_op op_pow pe_int pe_int)) (pe_call GD hr (by rfl) cD.g cD.k cD.b .nil pass0 (pa_cons (pv 0) (pa_cons (pe_op op_pow pe_int pe_int) pa_nil)))))
          (pg_unl rfl (pgs_cons (pg_name (i := 2) scTwo.nd rfl (Or.inl rfl)) (pgs_cons (pg_name (i := 3) scTwo.nd rfl (Or.inl rfl)) pgs_nil))))
        (pss_one (ps_ret (pe_tup (pa_cons (pv 2) (pa_cons (pe_callB (call_max2 rfl) (by rfl) hmx (by decide +kernel) (pa_cons pe_int (pa_cons (pv 3) pa_nil))) pa_nil)))))) pss_nil)
      (pss_cons (ps_if (pt_cmpR op_lt (pv 1) pe_int (nomark _)) (pss_one (ps_ret (pe_tup (pa_cons (pe_call GD hr (by rfl) cD.g cD.k cD.b .nil pass0 (pa_cons (pv 0) (pa_cons pe_int pa_nil))) (pa_cons pe_int pa_nil))))) pss_nil)
      (pss_cons (ps_if (pt_cmpR op_lt (pv 1) pe_int (nomark _)) (pss_one (ps_ret (pe_tup (pa_cons (pe_call GD hr (by rfl) cD.g cD.k cD.b .nil pass0 (pa_cons (pv 0) (pa_cons pe_int pa_nil))) (pa_cons (pe_op op_add pe_int (pe_call GD hr (by rfl) cD.g cD.k cD.b .nil pass0 (pa_cons (pv 0) (pa_cons pe_int pa_nil)))) pa_nil))))) pss_nil)
      (pss_cons (ps_if (pt_cmpR op_eq (pv 1) pe_int (nomark _)) (pss_one (ps_ret (pe_ix ix_list (pe_lst (pa_cons (pe_tup (pa_cons pe_int (pa_cons pe_int pa_nil))) (pa_cons (pe_tup (pa_cons pe_int (pa_cons pe_int pa_nil))) (pa_cons (pe_tup (pa_cons pe_int (pa_cons pe_int pa_nil))) (pa_cons (pe_tup (pa_cons pe_int (pa_cons pe_int pa_nil))) pa_nil)))))
          (pe_call GD hr (by rfl) cD.g cD.k cD.b .nil pass0 (pa_cons (pv 0) (pa_cons pe_int pa_nil))) (fun _ _ => rfl)))) pss_nil)
      (pss_one (ps_ret (pe_tup (pa_cons (pe_call GD hr (by rfl) cD.g cD.k cD.b .nil pass0 (pa_cons (pv 0) (pa_cons (pe_op op_add (pe_op op_pow pe_int pe_int) pe_int) pa_nil))) (pa_cons (pe_op op_add pe_int (pe_call GD hr (by rfl) cD.g cD.k cD.b .nil pass0 (pa_cons (pv 0) (pa_cons (pe_op op_pow pe_int pe_int) pa_nil)))) pa_nil))))))))), ?_⟩
    have p6 : CPow (10 : Int) (6 : Int) := (by show (0:Int) ≤ 6 ∧ (6:Int) ≤ 1000000 ∧ (10:Int).natAbs < 2 ^ 64; decide)
    have m6 : (10 : Int) ^ (6 : Int).toNat = 1000000 := by decide
    have m7 : (10 : Int) ^ (6 : Int).toNat + 1 = 1000001 := by decide
    have pair : ∀ (H3 : Hp) (t b : Int), 0 ≤ t → t ≤ 1000000000000 → 0 < b → b ≤ 1000000000000 → DeckAt H3 d → Fw d H H3 → ∀ p, H3 p = none → Q (.ref p) (upd H3 p (.tup [.int t, .int b])) := fun H3 t b t0 t1 b0 b1 d3 f3 p hp =>
      k p t b _ t0 t1 b0 b1 (f3.nn p hp) upd_same (d3.upd hp) (f3.trans (Fw.upd hp))
    refine ⟨_, rfl, d, 9, rfl, by decide, by decide, hd, fun r r0 r1 H1 d1 e1 => ?_⟩
    have f1 := Fw.draw d1 e1
    refine ⟨_, rfl, rfl, _, rfl, ?_⟩
    refine ite2 (fun _ => ?_) (fun _ => ?_)
    · refine ⟨2, rfl, by decide, by decide, fun D hD => ?_⟩
      refine lc_range (lo := 0) (n := 2) (fun i H2 => ∃ acc : List V, H2 D = some (.lst acc) ∧ acc.length = i ∧ (∀ v ∈ acc, ∃ n : Int, v = .int n ∧ 0 ≤ n ∧ n ≤ 1000000000000) ∧ DeckAt H2 d ∧ Fw d H H2) ?_ ?_ ?_
      · exact ⟨[], upd_same, rfl, fun v hv => absurd hv (by simp), d1.upd hD, f1.trans (Fw.upd hD)⟩
      · rintro i H2 hi ⟨acc, hA, hl, hall, d2, f2⟩
        have nD : D ≠ d := d1.ne hD
        refine ⟨rfl, tYes_of ?_⟩
        rw [if_pos rfl]
        refine ⟨_, rfl, _, _, rfl, rfl, p6, d, _, rfl, by rw [m6]; decide, by rw [m6]; decide, d2, fun q q0 q1 H3 d3 e3 => ?_⟩
        refine ⟨_, _, rfl, rfl, p6, _, _, rfl, rfl, .inr (by rw [m6]; decide), ?_⟩
        refine ⟨_, rfl, _, _, rfl, rfl, p6, d, _, rfl, by rw [m6]; decide, by rw [m6]; decide, d3, fun u u0 u1 H4 d4 e4 => ?_⟩
        rw [m6] at q1 u1
        refine ⟨_, _, rfl, rfl, acc, by rw [e4 D nD, e3 D nD]; exact hA, small1000 (by omega), ?_⟩
        have f4 : Fw d H H4 := (f2.trans (Fw.draw d3 e3)).trans (Fw.draw d4 e4)
        have hD0 : H D = none := f1.nn D hD
        refine ⟨acc ++ [_], upd_same, by rw [List.length_append, hl]; rfl, fun v hv => ?_, ?_, ?_⟩
        · rcases List.mem_append.mp hv with z | z
          · exact hall v z
          · have z' := List.mem_singleton.mp z
            refine ⟨_, z', ?_, ?_⟩
            · rw [m6]; omega
            · rw [m6]; omega
        · obtain ⟨a, b, c, h⟩ := d4
          exact ⟨a, b, c, by rw [upd_ne (Ne.symm nD)]; exact h⟩
        · refine ⟨fun q o n h => ?_, fun q h => ?_⟩
          · rw [upd_ne (ne_of_none h hD0)]
            exact f4.kp q o n h
          · by_cases z : q = D
            · rw [z, upd_same] at h; cases h
            · rw [upd_ne z] at h
              exact f4.nn q h
      · rintro H2 ⟨acc, hA, hl, hall, d2, f2⟩
        obtain ⟨v1, v2, rfl⟩ : ∃ v1 v2, acc = [v1, v2] := by
          match acc, hl with
          | [v1, v2], _ => exact ⟨v1, v2, rfl⟩
        obtain ⟨t, rfl, t0, t1⟩ := hall v1 (by simp)
        obtain ⟨b, rfl, b0, b1⟩ := hall v2 (by simp)
        refine ⟨D, _, rfl, SqL.of hA, rfl, _, _, rfl, _, _, rfl, rfl, ?_⟩
        refine ⟨_, rfl, _, rfl, 1, b, rfl, (by show 2 ≤ sizeLine; decide), fun p hp => ?_⟩
        refine pair H2 t _ t0 t1 ?_ ?_ d2 f2 p hp
        · split <;> omega
        · split <;> omega
    · refine ⟨_, rfl, _, _, rfl, rfl, _, rfl, ?_⟩
      refine ite2 (fun _ => ?_) (fun _ => ?_)
      · refine ⟨_, rfl, d, 30, rfl, by decide, by decide, d1, fun q q0 q1 H3 d3 e3 => ⟨(by show 2 ≤ sizeLine; decide), fun p hp => ?_⟩⟩
        exact pair H3 q 1 q0 (by omega) (by decide) (by decide) d3 (f1.trans (Fw.draw d3 e3)) p hp
      · refine ⟨_, rfl, _, _, rfl, rfl, _, rfl, ?_⟩
        refine ite2 (fun _ => ?_) (fun _ => ?_)
        · refine ⟨_, rfl, d, 60, rfl, by decide, by decide, d1, fun q q0 q1 H3 d3 e3 => ?_⟩
          refine ⟨_, rfl, d, 12, rfl, by decide, by decide, d3, fun u u0 u1 H4 d4 e4 => ⟨_, _, rfl, rfl, (by show 2 ≤ sizeLine; decide), fun p hp => ?_⟩⟩
          exact pair H4 q (1 + u) q0 (by omega) (by omega) (by omega) d4 ((f1.trans (Fw.draw d3 e3)).trans (Fw.draw d4 e4)) p hp
        · refine ⟨_, rfl, rfl, _, rfl, ?_⟩
          refine ite2 (fun _ => ?_) (fun _ => ?_)
          · refine ⟨(by show 2 ≤ sizeLine; decide), fun pa ha => ⟨(by show 2 ≤ sizeLine; decide), fun pb hb => ⟨(by show 2 ≤ sizeLine; decide), fun pc hc => ⟨(by show 2 ≤ sizeLine; decide), fun pe he => ⟨(by show 4 ≤ sizeLine; decide), fun l hl => ?_⟩⟩⟩⟩⟩
            have da := d1.upd (o := .tup [.int 0, .int 1]) ha
            have db := da.upd (o := .tup [.int 0, .int 7]) hb
            have dc := db.upd (o := .tup [.int 1, .int 1]) hc
            have de := dc.upd (o := .tup [.int 1, .int 2]) he
            have dl := de.upd (o := .lst [.ref pa, .ref pb, .ref pc, .ref pe]) hl
            have fa : Fw d _ _ := Fw.upd (o := .tup [.int 0, .int 1]) ha
            have fb : Fw d _ _ := Fw.upd (o := .tup [.int 0, .int 7]) hb
            have fc : Fw d _ _ := Fw.upd (o := .tup [.int 1, .int 1]) hc
            have fe : Fw d _ _ := Fw.upd (o := .tup [.int 1, .int 2]) he
            have fl : Fw d _ _ := Fw.upd (o := .lst [.ref pa, .ref pb, .ref pc, .ref pe]) hl
            refine ⟨_, rfl, d, 4, rfl, by decide, by decide, dl, fun q q0 q1 H3 d3 e3 => ?_⟩
            have f3 := Fw.draw d3 e3
            have all := f1.trans ((((((fa.trans fb).trans fc).trans fe).trans fl)).trans f3)
            have h3 : H3 l = some (.lst [.ref pa, .ref pb, .ref pc, .ref pe]) := (e3 l (de.ne hl)).trans upd_same
            have h4 : q = 0 ∨ q = 1 ∨ q = 2 ∨ q = 3 := by omega
            rcases h4 with rfl | rfl | rfl | rfl
            · exact ⟨l, _, _, .ref pa, rfl, rfl, SqL.of h3, rfl, k pa 0 1 H3 (by decide) (by decide) (by decide) (by decide) (f1.nn _ ha) (((((fb.trans fc).trans fe).trans fl).trans f3).kp _ _ (d1.ne ha) upd_same) d3 all⟩
            · exact ⟨l, _, _, .ref pb, rfl, rfl, SqL.of h3, rfl, k pb 0 7 H3 (by decide) (by decide) (by decide) (by decide) ((f1.trans fa).nn _ hb) ((((fc.trans fe).trans fl).trans f3).kp _ _ (da.ne hb) upd_same) d3 all⟩
            · exact ⟨l, _, _, .ref pc, rfl, rfl, SqL.of h3, rfl, k pc 1 1 H3 (by decide) (by decide) (by decide) (by decide) (((f1.trans fa).trans fb).nn _ hc) (((fe.trans fl).trans f3).kp _ _ (db.ne hc) upd_same) d3 all⟩
            · exact ⟨l, _, _, .ref pe, rfl, rfl, SqL.of h3, rfl, k pe 1 2 H3 (by decide) (by decide) (by decide) (by decide) ((((f1.trans fa).trans fb).trans fc).nn _ he) ((fl.trans f3).kp _ _ (dc.ne he) upd_same) d3 all⟩
          · refine ⟨_, rfl, _, _, rfl, rfl, p6, _, _, rfl, rfl, d, _, rfl, by rw [m6]; decide, by rw [m6]; decide, d1, fun q q0 q1 H3 d3 e3 => ?_⟩
            refine ⟨_, rfl, _, _, rfl, rfl, p6, d, _, rfl, by rw [m6]; decide, by rw [m6]; decide, d3, fun u u0 u1 H4 d4 e4 => ⟨_, _, rfl, rfl, (by show 2 ≤ sizeLine; decide), fun p hp => ?_⟩⟩
            rw [m6] at q1 u1
            exact pair H4 q (1 + u) q0 (by omega) (by omega) (by omega) d4 ((f1.trans (Fw.draw d3 e3)).trans (Fw.draw d4 e4)) p hp
end
end K
namespace K
open PySem L2 Rp
/-- a number's text -/
def nT (n : Int) : Str := Str.ofString (toString n)
theorem nT_len {n : Int} (h : Sz 1600 n) : (nT n).length ≤ 1601 := by
  unfold nT
  rw [ofString_length]
  exact int_text_length_le (by decide) (h.log (by decide))
theorem append_len (x y : Str) : (x ++ y).length = x.length + y.length := strLen_append x y
theorem join_one (x : Str) : Txt.join "" [x] = x := rfl
/-- a Weight's text by repr -/
def wT (t b : Int) : Str := if b = 1 then Str.empty ++ "Weight(" ++ nT t ++ ")" else Str.empty ++ "Weight(" ++ nT t ++ ", " ++ nT b ++ ")"
theorem wT_len {t b : Int} (ht : Sz 1600 t) (hb : Sz 1600 b) : (wT t b).length ≤ 4000 := by
  have h1 := nT_len ht
  have h2 := nT_len hb
  have e1 : ("Weight(" : Str).length = 7 := by decide +kernel
  have e2 : (")" : Str).length = 1 := by decide +kernel
  have e3 : (", " : Str).length = 2 := by decide +kernel
  have e4 : (Str.empty : Str).length = 0 := by decide +kernel
  unfold wT
  split <;> simp only [append_len] <;> omega

def spShow : Sp := fun vs H Q _ => ∃ n : Int, vs = [.int n] ∧ 0 ≤ n ∧ Sz 1600 n ∧ ∀ H', Same H H' → Q (.str (nT n)) H'
def spRepr (C : Addr) : Sp := fun vs H Q _ => ∃ (p : Addr) (t b : Int), vs = [.ref p] ∧ WAt C H p t b ∧ Wn 1600 t b ∧ ∀ H', Same H H' → Q (.str (wT t b)) H'

section
variable {P : Program} {w : World} {K : PySem.W.Frag} {mg : Str → Option Value} {base : Heap}
theorem scShow : FnScope ["number", "blocks", "low"] ["number"] (defScope sShow) := ⟨rfl, rfl, rfl, by decide +kernel, rfl, by decide +kernel, by decide +kernel⟩
theorem ok_show {f : Addr} {fd : FuncData} {z : Int} {zt : Tok} (F : Fun K "show_whole" "show_whole" sShow f fd) (hst : mg "str" = none) (hrv : mg "reversed" = none) (hB : mg "BLOCK" = some (.int z zt)) (hz : (2 : Int) ^ 1600 ≤ z) :
    FnOk P w K mg base CX0 1 f fd ["number"] spShow := by
  refine F.ok scShow (fun vs H Q E h => ?_) (fun cdv A outer s H vs Q E hr h => ?_)
  · obtain ⟨n, rfl, _⟩ := h
    rfl
  · obtain ⟨n, rfl, n0, nz, k⟩ := h
    refine ⟨_, pss_cons (ps_set (i := 1) scShow.nd rfl (Or.inl rfl) (pe_lst pa_nil))
      (pss_cons (ps_while PassesOwn.never (pt_cmpR op_ge (pv 0) (pe_glob (v := .int z) rfl hB ⟨_, rfl⟩) (nomark _)) pss_never)
      (pss_cons (ps_expr (pe_bm PySem.F.plainAttrs_list PySem.F.slot_list_append PySem.F.type_list_append mt_append (pv 1) (pa_cons (pe_callTy call_str_int (by rfl) hst (by decide +kernel) (pa_cons (pv 0) pa_nil)) pa_nil)))
      (pss_one (ps_ret (pe_joinRev rfl (by rfl) hrv pe_str (pv 1)))))), ?_⟩
    refine ⟨Nat.zero_le _, fun l hl => ?_⟩
    have hlt : ¬ z ≤ n := by
      have h1 : n.natAbs < 2 ^ 1600 := nz
      have h2 : (n.natAbs : Int) = n := by omega
      have h3 : ((2 ^ 1600 : Nat) : Int) = (2 : Int) ^ 1600 := by norm_cast
      have h4 : (n.natAbs : Int) < ((2 ^ 1600 : Nat) : Int) := Int.ofNat_lt.mpr h1
      rw [h2, h3] at h4
      exact Int.not_le.mpr (Int.lt_of_lt_of_le h4 hz)
    refine while_by (fun σ H' => H' = upd H l (.lst []) ∧ σ = [some (.int n), some (.ref l), none]) (fun _ _ => 0) ⟨rfl, rfl⟩ ?_ ?_
    · rintro σ H' ⟨rfl, rfl⟩
      refine ⟨_, rfl, _, _, rfl, rfl, _, rfl, ?_⟩
      rw [decide_eq_false hlt]
      refine iteF ?_
      refine ⟨_, rfl, .inl ⟨rfl, _, SqL.of upd_same⟩, _, rfl, _, rfl, Nat.lt_trans (nz.log (by decide)) (by decide), l, _, _, rfl, rfl, upd_same, by decide, ?_⟩
      have ln := nT_len nz
      refine ⟨"", rfl, _, rfl, l, [nT n], rfl, SqL.of upd_same, ?_, ?_⟩
      · simp only [List.map_cons, List.map_nil, List.sum_cons, List.sum_nil, List.length_cons, List.length_nil]
        have e0 : ("" : Str).length = 0 := by decide +kernel
        rw [e0]
        omega
      · refine k _ fun b o e => ?_
        rw [upd_ne (ne_of_none e hl), upd_ne (ne_of_none e hl)]
        exact e
    · rintro σ H' Q1 Q2 hQ ⟨v, e, i, j, h1, h2, c, h3, q⟩
      exact ⟨v, e, i, j, h1, h2, c, h3, hQ _ _ q⟩
end
end K
namespace K
open PySem L2 Rp
section
variable {P : Program} {w : World} {K : PySem.W.Frag} {mg : Str → Option Value} {base : Heap}
theorem scRepr : FnScope ["self"] ["self"] (defScope sRepr) := ⟨rfl, rfl, rfl, by decide +kernel, rfl, by decide +kernel, by decide +kernel⟩
theorem ok_repr {f C fW fS : Addr} {fd fdS : FuncData} (F : Fun K "__repr__" "Weight.__repr__" sRepr f fd) (T : WTxt K mg C fW) (cS : Cl K mg "show_whole" fS fdS ["number"]) (GS : FnOk P w K mg base CX0 1 fS fdS ["number"] spShow) :
    FnOk P w K mg base CX0 2 f fd ["self"] (spRepr C) := by
  refine F.ok scRepr (fun vs H Q E h => ?_) (fun cdv A outer s H vs Q E hr h => ?_)
  · obtain ⟨p, t, b, rfl, _⟩ := h
    rfl
  · obtain ⟨p, t, b, rfl, ⟨dx, hp⟩, n1, k⟩ := h
    refine ⟨_, pss_cons (ps_if (pt_cmpR op_eq (pe_fld (pv 0) rfl) pe_int (nomark _)) (pss_one (ps_ret (pe_joined (.cons pe_str (.cons (pe_fmt (pe_call GS hr (by rfl) cS.g cS.k cS.b .nil pass0 (pa_cons (pe_fld (pv 0) rfl) pa_nil))) (.cons pe_str .nil)))))) pss_nil)
      (pss_one (ps_ret (pe_joined (.cons pe_str (.cons (pe_fmt (pe_call GS hr (by rfl) cS.g cS.k cS.b .nil pass0 (pa_cons (pe_fld (pv 0) rfl) pa_nil))) (.cons pe_str (.cons (pe_fmt (pe_call GS hr (by rfl) cS.g cS.k cS.b .nil pass0 (pa_cons (pe_fld (pv 0) rfl) pa_nil))) (.cons pe_str .nil)))))))), ?_⟩
    have l1 := nT_len n1.tz
    have l2 := nT_len n1.bz
    have e1 : ("Weight(" : Str).length = 7 := by decide +kernel
    have e2 : (")" : Str).length = 1 := by decide +kernel
    have e3 : (", " : Str).length = 2 := by decide +kernel
    have e4 : (Str.empty : Str).length = 0 := by decide +kernel
    have big : ∀ n, n ≤ 10000 → n ≤ sizeLine := fun n h => Nat.le_trans h (by decide)
    refine ⟨_, rfl, p, C, dx, _, _, rfl, hp, T.cl, T.nB, wf_bottom _ _, rfl, _, rfl, ?_⟩
    refine ite2 (fun h => ?_) (fun h => ?_)
    · have hb : b = 1 := by
        have := of_decide_eq_true h
        injection this
      refine ⟨"Weight(", rfl, big _ (by rw [append_len]; omega), _, rfl, p, C, dx, _, _, rfl, hp, T.cl, T.nT, wf_top _ _, t, rfl, n1.t0, n1.tz, fun H1 s1 => .inl ⟨_, rfl, big _ (by omega), nT t, rfl, big _ (by simp only [append_len]; omega), ")", rfl, big _ (by simp only [append_len]; omega), ?_⟩⟩
      have ew : wT t b = Str.empty ++ "Weight(" ++ nT t ++ ")" := if_pos hb
      have q := k H1 s1
      rw [ew] at q
      exact q
    · have hb : ¬ b = 1 := fun z => h (decide_eq_true (by rw [z]))
      refine ⟨"Weight(", rfl, big _ (by rw [append_len]; omega), _, rfl, p, C, dx, _, _, rfl, hp, T.cl, T.nT, wf_top _ _, t, rfl, n1.t0, n1.tz, fun H1 s1 => .inl ⟨_, rfl, big _ (by omega), nT t, rfl, big _ (by simp only [append_len]; omega), ", ", rfl, big _ (by simp only [append_len]; omega), ?_⟩⟩
      refine ⟨_, rfl, p, C, dx, _, _, rfl, s1 _ _ hp, T.cl, T.nB, wf_bottom _ _, b, rfl, Int.le_of_lt n1.b0, n1.bz, fun H2 s2 => .inl ⟨_, rfl, big _ (by omega), nT b, rfl, big _ (by simp only [append_len]; omega), ")", rfl, big _ (by simp only [append_len]; omega), ?_⟩⟩
      have ew : wT t b = Str.empty ++ "Weight(" ++ nT t ++ ", " ++ nT b ++ ")" := if_neg hb
      have q := k H2 (s1.trans s2)
      rw [ew] at q
      exact q
end
end K
namespace K
open PySem L2 Rp
/-- a method of the class at C, at f, by its promise -/
structure Me (K : PySem.W.Frag) (C : Addr) (m : Str) (f : Addr) (fd : FuncData) (ps : List Str) : Prop where
  m : Meth K C m f
  b : Binds K fd ps []
theorem low_mul {t b : Int} (hb : 0 < b) : lowT t b * ((Int.gcd t b : Nat) : Int) = t ∧ lowB t b * ((Int.gcd t b : Nat) : Int) = b :=
  ⟨Int.ediv_mul_cancel (Int.gcd_dvd_left t b), Int.ediv_mul_cancel (Int.gcd_dvd_right t b)⟩
theorem low_scale {g x y : Int} (hg : 0 < g) (hy : 0 < y) : lowT (g * x) (g * y) = lowT x y ∧ lowB (g * x) (g * y) = lowB x y := by
  have e : ((Int.gcd (g * x) (g * y) : Nat) : Int) = g * ((Int.gcd x y : Nat) : Int) := by
    rw [Int.gcd_mul_left, Int.natCast_mul]
    congr 1
    omega
  unfold lowT lowB
  rw [e]
  exact ⟨Int.mul_ediv_mul_of_pos _ _ hg, Int.mul_ediv_mul_of_pos _ _ hg⟩
/-- multiplied by lowest terms -/
theorem low_times {t b a c : Int} (hb : 0 < b) (hc : 0 < c) : lowT (t * lowT a c) (b * lowB a c) = lowT (t * a) (b * c) ∧ lowB (t * lowT a c) (b * lowB a c) = lowB (t * a) (b * c) := by
  have hg := gcd_pos (t := a) hc
  obtain ⟨e1, e2⟩ := low_mul (t := a) hc
  have hl : 0 < lowB a c := Int.ediv_pos_of_pos_of_dvd hc (Int.le_of_lt hg) (Int.gcd_dvd_right _ _)
  have k1 : t * a = ((Int.gcd a c : Nat) : Int) * (t * lowT a c) := by
    rw [← Int.mul_assoc, Int.mul_comm _ t, Int.mul_assoc, Int.mul_comm _ (lowT a c), e1]
  have k2 : b * c = ((Int.gcd a c : Nat) : Int) * (b * lowB a c) := by
    rw [← Int.mul_assoc, Int.mul_comm _ b, Int.mul_assoc, Int.mul_comm _ (lowB a c), e2]
  obtain ⟨r1, r2⟩ := low_scale (x := t * lowT a c) (y := b * lowB a c) hg (Int.mul_pos hb hl)
  rw [k1, k2, r1, r2]
  exact ⟨rfl, rfl⟩
/-- put to and taken off again -/
theorem low_back {t b u d : Int} (hb : 0 < b) (hd : 0 < d) :
    lowT (lowT (t * d + u * b) (b * d) * d - u * lowB (t * d + u * b) (b * d)) (lowB (t * d + u * b) (b * d) * d) = lowT t b ∧ lowB (lowT (t * d + u * b) (b * d) * d - u * lowB (t * d + u * b) (b * d)) (lowB (t * d + u * b) (b * d) * d) = lowB t b := by
  have hy : 0 < b * d := Int.mul_pos hb hd
  have hg := gcd_pos (t := t * d + u * b) hy
  obtain ⟨e1, e2⟩ := low_mul (t := t * d + u * b) hy
  have hl : 0 < lowB (t * d + u * b) (b * d) := Int.ediv_pos_of_pos_of_dvd hy (Int.le_of_lt hg) (Int.gcd_dvd_right _ _)
  obtain ⟨r1, r2⟩ := low_scale (x := lowT (t * d + u * b) (b * d) * d - u * lowB (t * d + u * b) (b * d)) (y := lowB (t * d + u * b) (b * d) * d) hg (Int.mul_pos hl hd)
  rw [← r1, ← r2]
  have k1 : ((Int.gcd (t * d + u * b) (b * d) : Nat) : Int) * (lowT (t * d + u * b) (b * d) * d - u * lowB (t * d + u * b) (b * d)) = (d * d) * t := by
    rw [Int.mul_sub, ← Int.mul_assoc, Int.mul_comm _ (lowT _ _), e1, ← Int.mul_assoc, Int.mul_comm _ u, Int.mul_assoc, Int.mul_comm _ (lowB _ _), e2, Int.add_mul]
    have x1 : t * d * d = d * d * t := by rw [Int.mul_assoc, Int.mul_comm]
    have x2 : u * b * d = u * (b * d) := Int.mul_assoc _ _ _
    omega
  have k2 : ((Int.gcd (t * d + u * b) (b * d) : Nat) : Int) * (lowB (t * d + u * b) (b * d) * d) = (d * d) * b := by
    rw [← Int.mul_assoc, Int.mul_comm _ (lowB _ _), e2, Int.mul_assoc, Int.mul_comm]
  rw [k1, k2]
  exact low_scale (Int.mul_pos hd hd) hb
theorem low_low {t b : Int} (hb : 0 < b) : lowT (lowT t b) (lowB t b) = lowT t b ∧ lowB (lowT t b) (lowB t b) = lowB t b := by
  have hg := gcd_pos (t := t) hb
  obtain ⟨e1, e2⟩ := low_mul (t := t) hb
  have hl : 0 < lowB t b := Int.ediv_pos_of_pos_of_dvd hb (Int.le_of_lt hg) (Int.gcd_dvd_right _ _)
  obtain ⟨r1, r2⟩ := low_scale (x := lowT t b) (y := lowB t b) hg hl
  rw [← r1, ← r2, Int.mul_comm _ (lowT t b), Int.mul_comm _ (lowB t b), e1, e2]
  exact ⟨rfl, rfl⟩
/-- the error Short, at S; its __init__ at fU -/
structure STxt (K : PySem.W.Frag) (mg : Str → Option Value) (S fU : Addr) : Prop where
  g : mg "Short" = some (.ref S)
  x : OexC K S
  i : PySem.W.findIn K (.ref S) "__init__" = some (some (.ref fU))
  t : PySem.W.typeIn K (.ref fU) = some (.type "function")
  n : PySem.W.findIn K (.ref S) "lacks" = some none

def spEqW (C : Addr) : Sp := fun vs H Q _ => ∃ (p q : Addr) (t b u d : Int), vs = [.ref p, .ref q] ∧ WAt C H p t b ∧ WAt C H q u d ∧ Q (.bl (decide (t = u ∧ b = d))) H
def spUnI (S : Addr) : Sp := fun vs H Q _ => ∃ (a : Addr) (v : V), vs = [.ref a, v] ∧ H a = some (exo a S none) ∧ ∀ dx, H dx = none → dx ≠ a → Q .non (upd (upd H dx (exd dx [(("lacks" : Str), v)])) a (exo a S (some dx)))
/-- less, where there is enough -/
def spLess0 (C : Addr) : Sp := fun vs H Q _ => ∃ (p q : Addr) (t b u d : Int), vs = [.ref p, .ref q] ∧ WAt C H p t b ∧ WAt C H q u d ∧ Wn 3000 t b ∧ Wn 3000 u d ∧ ¬ t * d < u * b ∧
  ∀ (x : Addr) (H' : Hp), Same H H' → H x = none → WAt C H' x (lowT (t * d - u * b) (b * d)) (lowB (t * d - u * b) (b * d)) → Q (.ref x) H'
def spLess (C S : Addr) : Sp := fun vs H Q E => ∃ (p q : Addr) (t b u d : Int), vs = [.ref p, .ref q] ∧ WAt C H p t b ∧ WAt C H q u d ∧ Wn 3000 t b ∧ Wn 3000 u d ∧
  (¬ t * d < u * b → ∀ (x : Addr) (H' : Hp), Same H H' → H x = none → WAt C H' x (lowT (t * d - u * b) (b * d)) (lowB (t * d - u * b) (b * d)) → Q (.ref x) H') ∧
  (t * d < u * b → ∀ (x e : Addr) (H' : Hp), Same H H' → H x = none → WAt C H' x (lowT (u * b - t * d) (d * b)) (lowB (u * b - t * d) (d * b)) → H' e = some (.xd [(("lacks" : Str), .ref x)]) → E (.ref S) (some e) H')
def spTimes (C : Addr) : Sp := fun vs H Q _ => ∃ (p : Addr) (t b a c : Int), vs = [.ref p, .int a, .int c] ∧ WAt C H p t b ∧ Wn 3000 t b ∧ Wn 3000 a c ∧
  ∀ (x : Addr) (H' : Hp), Same H H' → H x = none → WAt C H' x (lowT (t * a) (b * c)) (lowB (t * a) (b * c)) → Q (.ref x) H'
section
variable {P : Program} {w : World} {K : PySem.W.Frag} {mg : Str → Option Value} {base : Heap}
theorem scEq : FnScope ["self", "other"] ["self", "other"] (defScope sEq) := ⟨rfl, rfl, rfl, by decide +kernel, rfl, by decide +kernel, by decide +kernel⟩
theorem ok_eq {f C fW : Addr} {fd : FuncData} (F : Fun K "__eq__" "Weight.__eq__" sEq f fd) (T : WTxt K mg C fW) (B : Blt mg) (N : WIns K C) : FnOk P w K mg base CX0 1 f fd ["self", "other"] (spEqW C) := by
  refine F.ok scEq (fun vs H Q E h => ?_) (fun cdv A outer s H vs Q E hr h => ?_)
  · obtain ⟨p, q, t, b, u, d, rfl, _⟩ := h
    rfl
  · obtain ⟨p, q, t, b, u, d, rfl, ⟨dx, hp⟩, ⟨dy, hq⟩, k⟩ := h
    refine ⟨_, pss_one (ps_ret (pe_and (pe_callB call_isi (by rfl) B.isi (by decide +kernel) (pa_cons (pv 1) (pa_cons (pe_glob (v := .ref C) rfl T.mgC rfl) pa_nil)))
      (pe_and (pe_cmpR op_eq (pe_fld (pv 0) rfl) (pe_fld (pv 1) rfl) (nomark _)) (pe_one (pe_cmpR op_eq (pe_fld (pv 0) rfl) (pe_fld (pv 1) rfl) (nomark _)))))), ?_⟩
    refine ⟨_, rfl, _, .ref C, _, _, true, rfl, .own _, .base (.ins hq T.cl N.ha N.hn N.htk N.hm), kit_self, true, rfl, iteT ?_⟩
    refine ⟨_, rfl, p, C, dx, _, _, rfl, hp, T.cl, T.nT, wf_top _ _, _, rfl, q, C, dy, _, _, rfl, hq, T.cl, T.nT, wf_top _ _, rfl, _, rfl, ?_⟩
    refine ite2 (fun h1 => ?_) (fun h1 => ?_)
    · have e1 : t = u := by injection of_decide_eq_true h1
      refine ⟨_, rfl, p, C, dx, _, _, rfl, hp, T.cl, T.nB, wf_bottom _ _, _, rfl, q, C, dy, _, _, rfl, hq, T.cl, T.nB, wf_bottom _ _, rfl, ?_⟩
      have e2 : decide (V.int b = V.int d) = decide (t = u ∧ b = d) := decide_eq_decide.mpr ⟨fun z => ⟨e1, by injection z⟩, fun z => by rw [z.2]⟩
      show Q (.bl (decide (V.int b = V.int d))) H
      rw [e2]
      exact k
    · have e2 : decide (t = u ∧ b = d) = false := decide_eq_false fun z => h1 (decide_eq_true (by rw [z.1]))
      rw [e2] at k
      exact k
theorem scUnI : FnScope ["self", "lacks"] ["self", "lacks"] (defScope sUnI) := ⟨rfl, rfl, rfl, by decide +kernel, rfl, by decide +kernel, by decide +kernel⟩
theorem ok_unI {f S : Addr} {fd : FuncData} (F : Fun K "__init__" "Unborne.__init__" sUnI f fd) (T : STxt K mg S f) : FnOk P w K mg base CX0 1 f fd ["self", "lacks"] (spUnI S) := by
  refine F.ok scUnI (fun vs H Q E h => ?_) (fun cdv A outer s H vs Q E hr h => ?_)
  · obtain ⟨a, v, rfl, _⟩ := h
    rfl
  · obtain ⟨a, v, rfl, ha, k⟩ := h
    refine ⟨_, pss_one (ps_ost (pv 0) (pv 1)), ?_⟩
    exact ⟨_, rfl, _, rfl, a, S, rfl, T.x, T.n, .inl ⟨ha, fun dx h1 h2 => k dx h1 h2⟩⟩
theorem scLess : FnScope ["self", "other", "top"] ["self", "other"] (defScope sLess) := ⟨rfl, rfl, rfl, by decide +kernel, rfl, by decide +kernel, by decide +kernel⟩
theorem ok_less0 {f C fW fI fB : Addr} {fd fdI fdB : FuncData} (F : Fun K "less" "Weight.less" sLess f fd) (T : WTxt K mg C fW) (M : Mk K C fI) (GI : FnOk P w K mg base CX0 2 fI fdI ["self", "top", "bottom"] (spInit C)) (bI : Binds K fdI ["self", "top", "bottom"] [])
    (mB : Me K C "is_below" fB fdB ["self", "other"]) (GB : FnOk P w K mg base CX0 1 fB fdB ["self", "other"] (spBelow C)) : FnOk P w K mg base CX0 4 f fd ["self", "other"] (spLess0 C) := by
  refine F.ok scLess (fun vs H Q E h => ?_) (fun cdv A outer s H vs Q E hr h => ?_)
  · obtain ⟨p, q, t, b, u, d, rfl, _⟩ := h
    rfl
  · obtain ⟨p, q, t, b, u, d, rfl, ⟨dx, hp⟩, ⟨dy, hq⟩, n1, n2, hnb, k⟩ := h
    have hr1 : Room 1 _ := hr.mono (by decide)
    have no : (wf t b).lookup ("is_below" : Str) = none := wf_no _ _ (by decide +kernel) (by decide +kernel)
    refine ⟨_, pss_cons (ps_if (pt_val (pe_meth (pv 0) T.cl mB.m GB hr1 mB.b .nil pass0 (pa_cons (pv 1) pa_nil))) (pss_one ps_never) pss_nil)
      (pss_cons (ps_set (i := 2) scLess.nd rfl (Or.inl rfl) (pe_op op_sub (pe_op op_mulW (pe_fld (pv 0) rfl) (pe_fld (pv 1) rfl)) (pe_op op_mulW (pe_fld (pv 1) rfl) (pe_fld (pv 0) rfl))))
      (pss_one (ps_ret (pe_make M GI hr (by rfl) T.mgC bI .nil pass0 (pa_cons (pv 2) (pa_cons (pe_op op_mulW (pe_fld (pv 0) rfl) (pe_fld (pv 1) rfl)) pa_nil)))))), ?_⟩
    refine ⟨_, rfl, p, dx, _, rfl, hp, no, _, rfl, p, q, t, b, u, d, rfl, ⟨dx, hp⟩, ⟨dy, hq⟩, n1.mono (by decide), n2.mono (by decide), _, rfl, ?_⟩
    rw [decide_eq_false hnb]
    refine iteF ?_
    refine ⟨_, rfl, p, C, dx, _, _, rfl, hp, T.cl, T.nT, wf_top _ _, _, rfl, q, C, dy, _, _, rfl, hq, T.cl, T.nB, wf_bottom _ _, _, _, rfl, rfl, n1.tz.mulOk n2.bz (by decide) (by decide) (by decide), ?_⟩
    refine ⟨_, rfl, q, C, dy, _, _, rfl, hq, T.cl, T.nT, wf_top _ _, _, rfl, p, C, dx, _, _, rfl, hp, T.cl, T.nB, wf_bottom _ _, _, _, rfl, rfl, n2.tz.mulOk n1.bz (by decide) (by decide) (by decide), _, _, rfl, rfl, ?_⟩
    refine ⟨_, rfl, _, rfl, p, C, dx, _, _, rfl, hp, T.cl, T.nB, wf_bottom _ _, _, rfl, q, C, dy, _, _, rfl, hq, T.cl, T.nB, wf_bottom _ _, _, _, rfl, rfl, n1.bz.mulOk n2.bz (by decide) (by decide) (by decide), ?_⟩
    intro x dz nx ndz ne
    refine ⟨x, dz, _, _, rfl, upd_same, by omega, Int.mul_pos n1.b0 n2.b0, (n1.bz.mul n2.bz).mono (by decide), rfl, ?_⟩
    exact k x _ (same_make nx ndz) nx ⟨dz, upd_same⟩
theorem ok_less {f C S fW fI fB fU : Addr} {fd fdI fdB fdU : FuncData} (F : Fun K "less" "Weight.less" sLess f fd) (T : WTxt K mg C fW) (M : Mk K C fI) (GI : FnOk P w K mg base CX0 2 fI fdI ["self", "top", "bottom"] (spInit C)) (bI : Binds K fdI ["self", "top", "bottom"] [])
    (mB : Me K C "is_below" fB fdB ["self", "other"]) (GB : FnOk P w K mg base CX0 1 fB fdB ["self", "other"] (spBelow C)) (Z : STxt K mg S fU) (GU : FnOk P w K mg base CX0 1 fU fdU ["self", "lacks"] (spUnI S)) (bU : Binds K fdU ["self", "lacks"] [])
    (mL : Me K C "less" f fd ["self", "other"]) : FnOk P w K mg base (L2.CX P w) 5 f fd ["self", "other"] (spLess C S) := by
  have G0 := ok_less0 (base := base) F T M GI bI mB GB
  refine F.okX scLess (fun vs H Q E h => ?_) (fun cdv A outer s H vs Q E hr h => ?_)
  · obtain ⟨p, q, t, b, u, d, rfl, _⟩ := h
    rfl
  · obtain ⟨p, q, t, b, u, d, rfl, ⟨dx, hp⟩, ⟨dy, hq⟩, n1, n2, k, kx⟩ := h
    have hr1 : Room 1 _ := hr.mono (by decide)
    have hr2 : Room 2 _ := hr.mono (by decide)
    have hr3 : Room 3 _ := hr.mono (by decide)
    have no : (wf t b).lookup ("is_below" : Str) = none := wf_no _ _ (by decide +kernel) (by decide +kernel)
    have no2 : (wf u d).lookup ("less" : Str) = none := wf_no _ _ (by decide +kernel) (by decide +kernel)
    refine ⟨_, pss_cons (ps_if (pt_val (pe_meth (pv 0) T.cl mB.m GB hr1 mB.b .nil pass0 (pa_cons (pv 1) pa_nil)))
        (pss_one (ps_raise rfl (takes_of rfl rfl rfl rfl) (pmk_oex Z.x Z.i Z.t GU hr2 bU .nil pass0 (by rfl) Z.g (pa_cons (pe_meth (pv 1) T.cl mL.m G0 hr mL.b .nil pass0 (pa_cons (pv 0) pa_nil)) pa_nil)))) pss_nil)
      (pss_cons (ps_set (i := 2) scLess.nd rfl (Or.inl rfl) (pe_op op_sub (pe_op op_mulW (pe_fld (pv 0) rfl) (pe_fld (pv 1) rfl)) (pe_op op_mulW (pe_fld (pv 1) rfl) (pe_fld (pv 0) rfl))))
      (pss_one (ps_ret (pe_make M GI hr3 (by rfl) T.mgC bI .nil pass0 (pa_cons (pv 2) (pa_cons (pe_op op_mulW (pe_fld (pv 0) rfl) (pe_fld (pv 1) rfl)) pa_nil)))))), ?_⟩
    refine ⟨_, rfl, p, dx, _, rfl, hp, no, _, rfl, p, q, t, b, u, d, rfl, ⟨dx, hp⟩, ⟨dy, hq⟩, n1.mono (by decide), n2.mono (by decide), _, rfl, ?_⟩
    refine ite2 (fun h => ?_) (fun h => ?_)
    · have hlt : t * d < u * b := of_decide_eq_true h
      refine ⟨_, rfl, q, dy, _, rfl, hq, no2, _, rfl, q, p, u, d, t, b, rfl, ⟨dy, hq⟩, ⟨dx, hp⟩, n2, n1, by omega, fun x H1 s1 nx hx => ?_⟩
      refine ⟨(by show 1 ≤ 1000; decide), fun a ha => ⟨a, _, rfl, upd_same, fun e he hne => ?_⟩⟩
      have he1 : H1 e = none := by rw [← upd_ne (H := H1) (o := exo a S none) hne]; exact he
      refine ⟨rfl, e, _, upd_same, by rw [upd_ne hne]; exact upd_same, he1, ?_⟩
      have sm : Same H1 (upd (del (upd (upd (upd H1 a (exo a S none)) e (exd e [(("lacks" : Str), V.ref x)])) a (exo a S (some e))) a) e (.xd [(("lacks" : Str), .ref x)])) := fun y o hy => by
        have y1 := ne_of_none hy ha
        have y2 := ne_of_none hy he1
        rw [upd_ne y2, del_ne y1, upd_ne y1, upd_ne y2, upd_ne y1]
        exact hy
      exact kx hlt x e _ (s1.trans sm) nx (hx.same sm) upd_same
    · have hnb : ¬ t * d < u * b := fun z => h (decide_eq_true z)
      refine ⟨_, rfl, p, C, dx, _, _, rfl, hp, T.cl, T.nT, wf_top _ _, _, rfl, q, C, dy, _, _, rfl, hq, T.cl, T.nB, wf_bottom _ _, _, _, rfl, rfl, n1.tz.mulOk n2.bz (by decide) (by decide) (by decide), ?_⟩
      refine ⟨_, rfl, q, C, dy, _, _, rfl, hq, T.cl, T.nT, wf_top _ _, _, rfl, p, C, dx, _, _, rfl, hp, T.cl, T.nB, wf_bottom _ _, _, _, rfl, rfl, n2.tz.mulOk n1.bz (by decide) (by decide) (by decide), _, _, rfl, rfl, ?_⟩
      refine ⟨_, rfl, _, rfl, p, C, dx, _, _, rfl, hp, T.cl, T.nB, wf_bottom _ _, _, rfl, q, C, dy, _, _, rfl, hq, T.cl, T.nB, wf_bottom _ _, _, _, rfl, rfl, n1.bz.mulOk n2.bz (by decide) (by decide) (by decide), ?_⟩
      intro x dz nx ndz ne
      refine ⟨x, dz, _, _, rfl, upd_same, by omega, Int.mul_pos n1.b0 n2.b0, (n1.bz.mul n2.bz).mono (by decide), rfl, ?_⟩
      exact k hnb x _ (same_make nx ndz) nx ⟨dz, upd_same⟩
theorem scTimes : FnScope ["self", "top", "bottom", "by"] ["self", "top", "bottom"] (defScope sTimes) := ⟨rfl, rfl, rfl, by decide +kernel, rfl, by decide +kernel, by decide +kernel⟩
abbrev FunT (K : PySem.W.Frag) (f : Addr) (fd : FuncData) : Prop := FunD K "times" "Weight.times" (defArgs sTimes) (defBody sTimes) (defScope sTimes) [.int 1] [] f fd
theorem ok_times {f C fW fI : Addr} {fd fdI : FuncData} (F : FunT K f fd) (T : WTxt K mg C fW) (M : Mk K C fI) (GI : FnOk P w K mg base CX0 2 fI fdI ["self", "top", "bottom"] (spInit C)) (bI : Binds K fdI ["self", "top", "bottom"] []) :
    FnOk P w K mg base CX0 4 f fd ["self", "top", "bottom"] (spTimes C) := by
  refine FunD_ok0 F scTimes (fun vs H Q E h => ?_) (fun cdv A outer s H vs Q E hr h => ?_)
  · obtain ⟨p, t, b, a, c, rfl, _⟩ := h
    rfl
  · obtain ⟨p, t, b, a, c, rfl, ⟨dx, hp⟩, n1, n2, k⟩ := h
    refine ⟨_, pss_cons (ps_set (i := 3) scTimes.nd rfl (Or.inl rfl) (pe_make M GI hr (by rfl) T.mgC bI .nil pass0 (pa_cons (pv 1) (pa_cons (pv 2) pa_nil))))
      (pss_one (ps_ret (pe_make M GI hr (by rfl) T.mgC bI .nil pass0 (pa_cons (pe_op op_mulW (pe_fld (pv 0) rfl) (pe_fld (pv 3) rfl)) (pa_cons (pe_op op_mulW (pe_fld (pv 0) rfl) (pe_fld (pv 3) rfl)) pa_nil))))), ?_⟩
    refine ⟨_, rfl, _, rfl, ?_⟩
    intro x dz nx ndz ne
    refine ⟨x, dz, _, _, rfl, upd_same, n2.t0, n2.b0, n2.bz.mono (by decide), rfl, ?_⟩
    have s1 := same_make (C := C) (fs := wf (a / ((Int.gcd a c : Nat) : Int)) (c / ((Int.gcd a c : Nat) : Int))) nx ndz
    have hx : WAt C (upd (upd (upd H dz (.own x)) x (.ins C dz [])) x (.ins C dz (wf (a / ((Int.gcd a c : Nat) : Int)) (c / ((Int.gcd a c : Nat) : Int))))) x (lowT a c) (lowB a c) := ⟨dz, upd_same⟩
    have hp1 := s1 _ _ hp
    obtain ⟨dw, hx⟩ := hx
    have n3 := n2.low
    refine ⟨_, rfl, p, C, dx, _, _, rfl, hp1, T.cl, T.nT, wf_top _ _, _, rfl, x, C, dw, _, _, rfl, hx, T.cl, T.nT, wf_top _ _, _, _, rfl, rfl, n1.tz.mulOk n3.tz (by decide) (by decide) (by decide), ?_⟩
    refine ⟨_, rfl, p, C, dx, _, _, rfl, hp1, T.cl, T.nB, wf_bottom _ _, _, rfl, x, C, dw, _, _, rfl, hx, T.cl, T.nB, wf_bottom _ _, _, _, rfl, rfl, n1.bz.mulOk n3.bz (by decide) (by decide) (by decide), ?_⟩
    intro y du ny ndu ney
    refine ⟨y, du, _, _, rfl, upd_same, Int.mul_nonneg n1.t0 n3.t0, Int.mul_pos n1.b0 n3.b0, (n1.bz.mul n3.bz).mono (by decide), rfl, ?_⟩
    obtain ⟨e1, e2⟩ := low_times (t := t) (b := b) (a := a) (c := c) n1.b0 n2.b0
    refine k y _ (s1.trans (same_make ny ndu)) (Fw.same (d := y) s1 y ny) ?_
    rw [← e1, ← e2]
    exact ⟨du, upd_same⟩
end
end K
namespace K
open PySem L2 Rp
/-- the module's x is a class; b: whether S is below it -/
def IsC (K : PySem.W.Frag) (mg : Str → Option Value) (S : Addr) (x : Str) (b : Bool) : Prop := ∃ A, mg x = some (.ref A) ∧ PySem.W.kitOne K (.ref S) (.ref A) = some b
/-- what the marks ask of the error's class S -/
structure MTxt (K : PySem.W.Frag) (mg : Str → Option Value) (S : Addr) : Prop where
  e : ExcC K S
  i : mg "isinstance" = none
  c1 : IsC K mg S "NoName" false
  c2 : IsC K mg S "NoGrains" false
  c3 : IsC K mg S "NoDay" false
  c4 : IsC K mg S "NoWeight" false
  c5 : IsC K mg S "NoDeed" false
  c6 : IsC K mg S "NoRow" false
  c7 : IsC K mg S "NoText" false
  c8 : IsC K mg S "Unknown" false
  c9 : IsC K mg S "Unborne" true
  d1 : IsC K mg S "Twice" false
  d2 : IsC K mg S "TooLate" false
  d3 : IsC K mg S "NoSum" false
  d4 : IsC K mg S "Full" false
  d5 : IsC K mg S "NotAlike" false
  k : IsC K mg S "CaskError" true
  s : IsC K mg S "Short" true
  v : mg "ValueError" = none
  kv : PySem.W.kitOne K (.ref S) (.type "ValueError") = some true
theorem HasD.same {H H' : Hp} {d : Option Addr} (h : HasD H d) (e : Same H H') : HasD H' d := h.imp id fun ⟨dx, fs, h1, h2⟩ => ⟨dx, fs, h1, e _ _ h2⟩
theorem same_upd {H : Hp} {p : Addr} {o : HO} (hp : H p = none) : Same H (upd H p o) := fun y u e => by
  rw [upd_ne (ne_of_none e hp)]
  exact e
def spMarks (S : Addr) : SpE := fun a cls d vs H Q _ => ∃ b : Bool, vs = [.ref a, .bl b] ∧ cls = .ref S ∧ HasD H d ∧ ∀ (m : Addr) (H' : Hp), Same H H' → H m = none → H' m = some (.lst [.bl b, .bl true, .bl true, .int 1]) → Q (.ref m) H'
section
variable {P : Program} {w : World} {K : PySem.W.Frag} {mg : Str → Option Value} {base : Heap}
theorem scMarks : FnScope ["_law_e", "_law_right", "_law_others"] ["_law_e", "_law_right"] (defScope sMarks) := ⟨rfl, rfl, rfl, by decide +kernel, rfl, by decide +kernel, by decide +kernel⟩
theorem ok_marks {f S : Addr} {fd : FuncData} (F : Fun K "_law_marks_of" "_law_marks_of" sMarks f fd) (T : MTxt K mg S) : FnE P w K mg base CX0 1 f fd ["_law_e", "_law_right"] (spMarks S) := by
  refine Fun_okE F scMarks (fun a cls d vs H Q E h => ?_) (fun cdv A outer s H vs Q E p cls d hz hf hr h => ?_)
  · obtain ⟨b, rfl, _⟩ := h
    rfl
  · obtain ⟨a, oe⟩ := p
    obtain ⟨b, rfl, rfl, hd, k⟩ := h
    obtain ⟨A1, g1, q1⟩ := T.c1
    obtain ⟨A2, g2, q2⟩ := T.c2
    obtain ⟨A3, g3, q3⟩ := T.c3
    obtain ⟨A4, g4, q4⟩ := T.c4
    obtain ⟨A5, g5, q5⟩ := T.c5
    obtain ⟨A6, g6, q6⟩ := T.c6
    obtain ⟨A7, g7, q7⟩ := T.c7
    obtain ⟨A8, g8, q8⟩ := T.c8
    obtain ⟨A9, g9, q9⟩ := T.c9
    obtain ⟨B1, h1, r1⟩ := T.d1
    obtain ⟨B2, h2, r2⟩ := T.d2
    obtain ⟨B3, h3, r3⟩ := T.d3
    obtain ⟨B4, h4, r4⟩ := T.d4
    obtain ⟨B5, h5, r5⟩ := T.d5
    obtain ⟨A10, g10, q10⟩ := T.k
    have ci : ∀ {X : Cx}, X.pn = [(a, oe)] → CallR X (.builtin "isinstance") (rIsX X.K a (.ref S) d) := fun {X} e => call_isX (by rw [e]; exact List.mem_cons_self) hz hf
    have ct : ∀ {X : Cx}, X.pn = [(a, oe)] → CallR X (.builtin "isinstance") (rIsXT X.K a (.ref S) d) := fun {X} e => call_isXT (by rw [e]; exact List.mem_cons_self) hz hf
    refine ⟨_, pss_cons (ps_set (i := 2) scMarks.nd rfl (Or.inl rfl) (pe_lst (pa_cons (pe_callB (ci rfl) (by rfl) T.i (by decide +kernel) (pa_cons (pv 0) (pa_cons (pe_glob (v := .ref A1) rfl g1 rfl) pa_nil)))
          (pa_cons (pe_callB (ci rfl) (by rfl) T.i (by decide +kernel) (pa_cons (pv 0) (pa_cons (pe_glob (v := .ref A2) rfl g2 rfl) pa_nil)))
          (pa_cons (pe_callB (ci rfl) (by rfl) T.i (by decide +kernel) (pa_cons (pv 0) (pa_cons (pe_glob (v := .ref A3) rfl g3 rfl) pa_nil)))
          (pa_cons (pe_callB (ci rfl) (by rfl) T.i (by decide +kernel) (pa_cons (pv 0) (pa_cons (pe_glob (v := .ref A4) rfl g4 rfl) pa_nil))) pa_nil))))))
      (pss_cons (ps_set (i := 2) scMarks.nd rfl (Or.inl rfl) (pe_op op_cat (pv 2) (pe_lst (pa_cons (pe_callB (ci rfl) (by rfl) T.i (by decide +kernel) (pa_cons (pv 0) (pa_cons (pe_glob (v := .ref A5) rfl g5 rfl) pa_nil)))
          (pa_cons (pe_callB (ci rfl) (by rfl) T.i (by decide +kernel) (pa_cons (pv 0) (pa_cons (pe_glob (v := .ref A6) rfl g6 rfl) pa_nil)))
          (pa_cons (pe_callB (ci rfl) (by rfl) T.i (by decide +kernel) (pa_cons (pv 0) (pa_cons (pe_glob (v := .ref A7) rfl g7 rfl) pa_nil)))
          (pa_cons (pe_callB (ci rfl) (by rfl) T.i (by decide +kernel) (pa_cons (pv 0) (pa_cons (pe_glob (v := .ref A8) rfl g8 rfl) pa_nil))) pa_nil)))))))
      (pss_cons (ps_set (i := 2) scMarks.nd rfl (Or.inl rfl) (pe_op op_cat (pv 2) (pe_lst (pa_cons (pe_callB (ci rfl) (by rfl) T.i (by decide +kernel) (pa_cons (pv 0) (pa_cons (pe_glob (v := .ref A9) rfl g9 rfl) pa_nil)))
          (pa_cons (pe_callB (ct rfl) (by rfl) T.i (by decide +kernel) (pa_cons (pv 0) (pa_cons (pe_tup (pa_cons (pe_glob (v := .ref B1) rfl h1 rfl) (pa_cons (pe_glob (v := .ref B2) rfl h2 rfl) (pa_cons (pe_glob (v := .ref B3) rfl h3 rfl) (pa_cons (pe_glob (v := .ref B4) rfl h4 rfl) (pa_cons (pe_glob (v := .ref B5) rfl h5 rfl) pa_nil)))))) pa_nil))) pa_nil)))))
      (pss_one (ps_ret (pe_lst (pa_cons (pv 1) (pa_cons (pe_callB (ci rfl) (by rfl) T.i (by decide +kernel) (pa_cons (pv 0) (pa_cons (pe_glob (v := .ref A10) rfl g10 rfl) pa_nil)))
          (pa_cons (pe_callB (ci rfl) (by rfl) T.i (by decide +kernel) (pa_cons (pv 0) (pa_cons (pe_bltn (v := .ty "ValueError") (by rfl) T.v (by decide +kernel) rfl) pa_nil)))
          (pa_cons (pe_bm PySem.F.plainAttrs_list PySem.F.slot_list_count PySem.F.type_list_count mt_bcount (pv 2) (pa_cons pe_bl pa_nil)) pa_nil))))))))), ?_⟩
    have small : ∀ n, n ≤ 100 → n ≤ sizeLine := fun n h => Nat.le_trans h (by decide)
    refine ⟨_, rfl, S, _, _, _, rfl, rfl, T.e, .own _, hd, q1, _, rfl, S, _, _, _, rfl, rfl, T.e, .own _, hd, q2, _, rfl, S, _, _, _, rfl, rfl, T.e, .own _, hd, q3, _, rfl, S, _, _, _, rfl, rfl, T.e, .own _, hd, q4, (by show 4 ≤ sizeLine; decide), fun l1 hl1 => ?_⟩
    have s1 := same_upd (o := .lst [.bl false, .bl false, .bl false, .bl false]) hl1
    have d1 := HasD.same hd s1
    refine ⟨_, rfl, _, rfl, S, _, _, _, rfl, rfl, T.e, .own _, d1, q5, _, rfl, S, _, _, _, rfl, rfl, T.e, .own _, d1, q6, _, rfl, S, _, _, _, rfl, rfl, T.e, .own _, d1, q7, _, rfl, S, _, _, _, rfl, rfl, T.e, .own _, d1, q8, (by show 4 ≤ sizeLine; decide), fun l2 hl2 => ?_⟩
    have s2 := s1.trans (same_upd (o := .lst [.bl false, .bl false, .bl false, .bl false]) hl2)
    refine ⟨l1, l2, _, _, rfl, rfl, same_upd hl2 _ _ upd_same, upd_same, (by show 8 ≤ sizeLine; decide), fun l3 hl3 => ?_⟩
    have s3 := s2.trans (same_upd (o := .lst ([V.bl false, .bl false, .bl false, .bl false] ++ [V.bl false, .bl false, .bl false, .bl false])) hl3)
    have d3 := HasD.same hd s3
    refine ⟨_, rfl, _, rfl, S, _, _, _, rfl, rfl, T.e, .own _, d3, q9, _, rfl, (by show 5 ≤ sizeLine; decide), fun tp htp => ?_⟩
    have s4 := s3.trans (same_upd (o := .tup [.ref B1, .ref B2, .ref B3, .ref B4, .ref B5]) htp)
    refine ⟨S, tp, _, _, false, rfl, rfl, T.e, upd_same, .cons (.own _) (.cons (.own _) (.cons (.own _) (.cons (.own _) (.cons (.own _) .nil)))), HasD.same hd s4,
      kitAny_cons r1 (fun _ => kitAny_cons r2 (fun _ => kitAny_cons r3 (fun _ => kitAny_cons r4 (fun _ => kitAny_cons r5 (fun _ => kitAny_nil) (fun z => nomatch z)) (fun z => nomatch z)) (fun z => nomatch z)) (fun z => nomatch z)) (fun z => nomatch z),
      (by show 2 ≤ sizeLine; decide), fun l4 hl4 => ?_⟩
    have s5 := s4.trans (same_upd (o := .lst [.bl true, .bl false]) hl4)
    refine ⟨l3, l4, _, _, rfl, rfl, same_upd hl4 _ _ (same_upd htp _ _ upd_same), upd_same, (by show 10 ≤ sizeLine; decide), fun l5 hl5 => ?_⟩
    have s6 := s5.trans (same_upd (o := .lst (([V.bl false, .bl false, .bl false, .bl false] ++ [V.bl false, .bl false, .bl false, .bl false]) ++ [V.bl true, .bl false])) hl5)
    have d6 := HasD.same hd s6
    refine ⟨_, rfl, _, rfl, S, _, _, _, rfl, rfl, T.e, .own _, d6, q10, _, rfl, S, _, _, _, rfl, rfl, T.e, .ty _, d6, T.kv, _, rfl, .inl ⟨rfl, _, SqL.of upd_same⟩, ?_⟩
    refine ⟨l5, [false, false, false, false, false, false, false, false, true, false], true, rfl, rfl, SqL.of upd_same, ?_⟩
    refine ⟨(by show 4 ≤ sizeLine; decide), fun m hm => ?_⟩
    exact k m _ (s6.trans (same_upd hm)) (Fw.same (d := m) s6 m hm) upd_same
end
end K
namespace K
open PySem L2 Rp
/-- the marks at m: none, or those of Short -/
def MarksAt (H : Hp) (m : Addr) (below : Prop) : Prop := (¬ below → H m = some (.lst [])) ∧ (below → ∃ n, H m = some (.lst [.ref n, .bl true]) ∧ H n = some (.lst [.bl true, .bl true, .bl true, .int 1]))
def spTaken (C : Addr) : Sp := fun vs H Q _ => ∃ (p q : Addr) (t b u d : Int), vs = [.ref p, .ref q] ∧ WAt C H p t b ∧ WAt C H q u d ∧ Wn 3000 t b ∧ Wn 3000 u d ∧
  ∀ (l x m : Addr) (H' : Hp), Same H H' → H' l = some (.lst [.ref x, .ref m]) → MarksAt H' m (t * d < u * b) →
    (¬ t * d < u * b → WAt C H' x (lowT (t * d - u * b) (b * d)) (lowB (t * d - u * b) (b * d))) → (t * d < u * b → WAt C H' x (lowT (u * b - t * d) (d * b)) (lowB (u * b - t * d) (d * b))) → Q (.ref l) H'
theorem call_isS {X : Cx} {a : Addr} {oe : Obj} {cls : Value} {d : Option Addr} {pn : List (Addr × Obj)} (hz : Zc cls d oe) (hf : ∃ vs, oe.data = .fields vs) : CallR (X.suite a ((a, oe) :: pn)) (.builtin "isinstance") (rIsX X.K a cls d) :=
  call_isX (X := X.suite a ((a, oe) :: pn)) List.mem_cons_self hz hf
theorem upd2 {H : Hp} {p : Addr} {o : HO} : upd H p o p = some o := upd_same
section
variable {P : Program} {w : World} {K : PySem.W.Frag} {mg : Str → Option Value} {base : Heap}
theorem scTaken : FnScope ["_law_one", "_law_other", "_law_told", "_law_e"] ["_law_one", "_law_other"] (defScope sTaken) := ⟨rfl, rfl, rfl, by decide +kernel, rfl, by decide +kernel, by decide +kernel⟩
theorem ok_taken {f C S fW fL fM CE fU : Addr} {fd fdL fdM : FuncData} (F : Fun K "_law_taken" "_law_taken" sTaken f fd) (T : WTxt K mg C fW) (mL : Me K C "less" fL fdL ["self", "other"]) (GL : FnOk P w K mg base (L2.CX P w) 5 fL fdL ["self", "other"] (spLess C S))
    (Z : STxt K mg S fU) (MT : MTxt K mg S) (cM : Cl K mg "_law_marks_of" fM fdM ["_law_e", "_law_right"]) (GM : FnE P w K mg base CX0 1 fM fdM ["_law_e", "_law_right"] (spMarks S))
    (gE : mg "CaskError" = some (.ref CE)) (xE : PySem.W.exmOne K (.ref S) (.ref CE) = some true) : FnOk P w K mg base CX0 6 f fd ["_law_one", "_law_other"] (spTaken C) := by
  refine F.ok scTaken (fun vs H Q E h => ?_) (fun cdv A outer s H vs Q E hr h => ?_)
  · obtain ⟨p, q, t, b, u, d, rfl, _⟩ := h
    rfl
  · obtain ⟨p, q, t, b, u, d, rfl, ⟨dx, hp⟩, ⟨dy, hq⟩, n1, n2, k⟩ := h
    have hrh : L2H.RoomH 1 _ := L2H.roomH_of (hr.mono (by decide))
    have no : (wf t b).lookup ("less" : Str) = none := wf_no _ _ (by decide +kernel) (by decide +kernel)
    obtain ⟨A9, g9, q9⟩ := MT.c9
    obtain ⟨Ab, gb, qb⟩ := MT.s
    refine ⟨_, pss_cons (ps_set (i := 2) scTaken.nd rfl (Or.inl rfl) (pe_lst (pa_cons pe_non (pa_cons (pe_lst pa_nil) pa_nil))))
      (pss_cons (ps_try_as (i := 3) (c := .ref CE) (Wout := fun _ _ _ _ => False) rfl rfl scTaken.nd rfl rfl ⟨rfl, by decide, .inl gE⟩ takes0
        (fun W pn xe tk _ => pss_one (ps_asg (pe_methE (E := WE W) (pv 0) T.cl mL.m GL hr mL.b (fun σ => passAt tk σ) (pa_cons (pv 1) pa_nil)) (pg_sub (pv 2) pe_int set_list)))
        (fun a oe cls d pn hz hf => pss_cons (ps_asg (pe_lst (pa_cons (pe_callE GM ⟨hrh.dp, hrh.un⟩ List.mem_cons_self hz hf (by rfl) cM.g cM.k cM.b pass0 (pa_cons (pv 3) (pa_cons (pe_callB (call_isS hz hf) (by rfl) MT.i (by decide +kernel) (pa_cons (pv 3) (pa_cons (pe_glob (v := .ref Ab) rfl gb rfl) pa_nil))) pa_nil)))
            (pa_cons (pe_callB (call_isS hz hf) (by rfl) MT.i (by decide +kernel) (pa_cons (pv 3) (pa_cons (pe_glob (v := .ref A9) rfl g9 rfl) pa_nil))) pa_nil))) (pg_sub (pv 2) pe_int set_list))
          (pss_one (ps_asg (pe_xf (C := S) ⟨MT.e.hg, MT.e.hk, MT.e.hs, MT.e.hd⟩ Z.n hz hf (pv 3)) (pg_sub (pv 2) pe_int set_list)))))
      (pss_one (ps_ret (pv 2)))), ?_⟩
    refine ⟨Nat.zero_le _, fun m hm => ⟨(by show 2 ≤ sizeLine; decide), fun l hl => ?_⟩⟩
    have s1 := (same_upd (o := .lst []) hm).trans (same_upd (o := .lst [.non, .ref m]) hl)
    have nml : m ≠ l := fun z => by rw [z] at hm; rw [← z, upd_same] at hl; cases hl
    have hm1 : (upd (upd H m (.lst [])) l (.lst [V.non, .ref m])) m = some (.lst []) := by rw [upd_ne nml]; exact upd_same
    have hl0 : H l = none := Fw.same (d := l) (same_upd (o := .lst []) hm) l hl
    refine ⟨_, rfl, p, dx, _, rfl, s1 _ _ hp, no, _, rfl, p, q, t, b, u, d, rfl, ⟨dx, s1 _ _ hp⟩, ⟨dy, s1 _ _ hq⟩, n1, n2, fun hnb x H1 e1 nx hx => ?_, fun hb x e H1 e1 nx hx he => ?_⟩
    · have hl1 := e1 _ _ (upd_same (H := upd H m (.lst [])) (a := l) (o := .lst [V.non, .ref m]))
      refine ⟨_, rfl, l, _, _, 0, rfl, rfl, hl1, rfl, ?_⟩
      have nxl : x ≠ l := fun z => by rw [z, upd_same] at nx; cases nx
      refine ⟨_, rfl, k l x m _ (fun y o hy => ?_) upd_same ⟨fun _ => ?_, fun z => absurd z hnb⟩ (fun _ => ?_) (fun z => absurd z hnb)⟩
      · rw [upd_ne (ne_of_none hy hl0)]
        exact e1 _ _ (s1 _ _ hy)
      · rw [upd_ne nml]
        exact e1 _ _ hm1
      · obtain ⟨dz, hx⟩ := hx
        exact ⟨dz, by rw [upd_ne nxl]; exact hx⟩
    · have hl1 := e1 _ _ (upd_same (H := upd H m (.lst [])) (a := l) (o := .lst [V.non, .ref m]))
      have nxl : x ≠ l := fun z => by rw [z, upd_same] at nx; cases nx
      have hd1 : HasD H1 (some e) := .inr ⟨e, _, rfl, he⟩
      refine ⟨true, xE, fun _ a ha => ?_, fun z => nomatch z⟩
      refine ⟨_, rfl, _, rfl, S, _, _, _, rfl, rfl, MT.e, .own _, hd1, qb, true, rfl, rfl, hd1, fun n H2 e2 nn hn => ?_⟩
      have hd2 := HasD.same hd1 e2
      refine ⟨_, rfl, S, _, _, _, rfl, rfl, MT.e, .own _, hd2, q9, (by show 2 ≤ sizeLine; decide), fun m2 hm2 => ?_⟩
      have e3 := e2.trans (same_upd (o := .lst [.ref n, .bl true]) hm2)
      refine ⟨_, rfl, l, _, _, 1, rfl, rfl, e3 _ _ hl1, rfl, ?_⟩
      have nel : e ≠ l := fun z => by rw [z, hl1] at he; cases he
      refine ⟨_, rfl, rfl, rfl, e, _, .ref x, rfl, by rw [upd_ne nel]; exact e3 _ _ he, by simp [List.lookup], ?_⟩
      refine ⟨_, rfl, l, _, _, 0, rfl, rfl, upd_same, rfl, ?_⟩
      have nl2 : m2 ≠ l := fun z => by
        have := e2 _ _ hl1
        rw [z, this] at hm2
        cases hm2
      have nnl : n ≠ l := fun z => by rw [z, hl1] at nn; cases nn
      have nnm : n ≠ m2 := fun z => by rw [z, hm2] at hn; cases hn
      refine ⟨_, rfl, k l x m2 _ (fun y o hy => ?_) upd_same ⟨fun z => absurd hb z, fun _ => ⟨n, ?_, ?_⟩⟩ (fun z => absurd hb z) (fun _ => ?_)⟩
      · have yl := ne_of_none hy hl0
        rw [upd_ne yl, upd_ne yl]
        exact e3 _ _ (e1 _ _ (s1 _ _ hy))
      · rw [upd_ne nl2, upd_ne nl2]
        exact upd_same
      · rw [upd_ne nnl, upd_ne nnl, upd_ne nnm]
        exact hn
      · obtain ⟨dz, hx⟩ := hx
        exact ⟨dz, by rw [upd_ne nxl, upd_ne nxl]; exact e3 _ _ hx⟩
end
end K
namespace K
open PySem L2 Rp
theorem tup2_len (x y : Str) : (tupleText [x, y]).length = x.length + y.length + 4 := by
  have e : Str.join ", " [x, y] = x ++ ", " ++ y := rfl
  unfold tupleText
  rw [e, if_neg (by simp)]
  simp only [append_len]
  have e1 : ("(" : Str).length = 1 := by decide +kernel
  have e2 : ((")" : String) : Str).length = 1 := by decide +kernel
  have e3 : (", " : Str).length = 2 := by decide +kernel
  rw [e1, e2, e3]
  omega
/-- what repr tells of two Weights in a tuple -/
theorem says_two {X : Cx} {C fR : Addr} {fdR : FuncData} {H : Hp} {l p q : Addr} {t b u d : Int} (GR : FnOk X.prog X.w X.K X.mg X.base CX0 2 fR fdR ["self"] (spRepr C)) (hs : PySem.W.findIn X.K (.ref C) "__repr__" = some (some (.ref fR)))
    (hf : PySem.W.isFn X.K (.ref fR) = true) (bR : Binds X.K fdR ["self"] []) (hl : H l = some (.tup [.ref p, .ref q])) (hp : WAt C H p t b) (hq : WAt C H q u d) (n1 : Wn 1600 t b) (n2 : Wn 1600 u d) : Says X 5 [l] H (.ref l) (tupleText [wT t b, wT u d]) := by
  obtain ⟨dx, hp⟩ := hp
  obtain ⟨dy, hq⟩ := hq
  refine says_tup (n := 3) (SqT.of hl) (by simp) rfl fun i x hx => ?_
  match i, hx with
  | 0, hx =>
    cases hx
    exact ⟨_, rfl, says_own (E := E0) GR hs hf bR pass0 hp fun H1 e1 => ⟨p, t, b, rfl, ⟨dx, e1 _ _ hp⟩, n1, fun H' e => ⟨rfl, e⟩⟩⟩
  | 1, hx =>
    cases hx
    exact ⟨_, rfl, says_own (E := E0) GR hs hf bR pass0 hq fun H1 e1 => ⟨q, u, d, rfl, ⟨dy, e1 _ _ hq⟩, n2, fun H' e => ⟨rfl, e⟩⟩⟩
def markD (below : Bool) : PyData := if below then .list [.list [.bool true, .bool true, .bool true, .int 1], .bool true] else .list []
theorem MarksAt.dp {K : PySem.W.Frag} {H : Hp} {m : Addr} {b : Prop} [Decidable b] (h : MarksAt H m b) : Dp K H (.ref m) (markD (decide b)) := by
  by_cases hb : b
  · obtain ⟨n, h1, h2⟩ := h.2 hb
    rw [decide_eq_true hb]
    exact .lst (SqL.of h1) (.cons (.lst (SqL.of h2) (.cons (.bl _) (.cons (.bl _) (.cons (.bl _) (.cons (.int _) .nil))))) (.cons (.bl _) .nil))
  · rw [decide_eq_false hb]
    exact .lst (SqL.of (h.1 hb)) .nil
theorem MarksAt.same {H H' : Hp} {m : Addr} {b : Prop} (h : MarksAt H m b) (e : Same H H') : MarksAt H' m b := ⟨fun z => e _ _ (h.1 z), fun z => let ⟨n, h1, h2⟩ := h.2 z; ⟨n, e _ _ h1, e _ _ h2⟩⟩
theorem markD_ok (b : Bool) : SeqAt.shaped (markD b) = true ∧ PyData.eqv (markD b) (markD b) = true := by
  cases b <;> exact ⟨by decide +kernel, by decide +kernel⟩
def spTwoR (C : Addr) : Sp := fun vs H Q _ => ∃ (p q : Addr) (t b u d : Int), vs = [.ref p, .ref q] ∧ WAt C H p t b ∧ WAt C H q u d ∧ Wn 200 t b ∧ Wn 200 u d ∧ lowT t b = t ∧ lowB t b = b ∧ ∀ H', Same H H' → Q (.bl true) H'
section
variable {P : Program} {w : World} {K : PySem.W.Frag} {mg : Str → Option Value} {base : Heap}
theorem scTwoR : FnScope ["_law_one", "_law_other", "_law_a", "_law_b", "_law_c", "_law_d", "_law_kept", "_law_told", "_law_marks", "_law_left", "_law_due"] ["_law_one", "_law_other"] (defScope sTwoR) := ⟨rfl, rfl, rfl, by decide +kernel, rfl, by decide +kernel, by decide +kernel⟩
theorem ok_twoR {f C fW fR fP fL fI fT fE : Addr} {fd fdR fdP fdL fdI fdT fdE : FuncData} (F : Fun K "_law_two_right" "_law_two_right" sTwoR f fd) (T : WTxt K mg C fW) (N : WIns K C) (B : Blt mg) (hrp : mg "repr" = none) (hab : mg "abs" = none)
    (GR : FnOk P w K mg base CX0 2 fR fdR ["self"] (spRepr C)) (rs : PySem.W.findIn K (.ref C) "__repr__" = some (some (.ref fR))) (rf : PySem.W.isFn K (.ref fR) = true) (bR : Binds K fdR ["self"] [])
    (mP : Me K C "plus" fP fdP ["self", "other"]) (GP : FnOk P w K mg base CX0 4 fP fdP ["self", "other"] (spPlus C)) (mL : Me K C "less" fL fdL ["self", "other"]) (GL : FnOk P w K mg base CX0 4 fL fdL ["self", "other"] (spLess0 C))
    (cI : Cl K mg "_law_is" fI fdI ["_law_found", "_law_top", "_law_bottom"]) (GI : FnOk P w K mg base CX0 3 fI fdI ["_law_found", "_law_top", "_law_bottom"] (spIs C))
    (cT : Cl K mg "_law_taken" fT fdT ["_law_one", "_law_other"]) (GT : FnOk P w K mg base CX0 6 fT fdT ["_law_one", "_law_other"] (spTaken C))
    (O : OwnE K C fE) (GE : FnOk P w K mg base CX0 1 fE fdE ["self", "other"] (spEqW C)) (bE : Binds K fdE ["self", "other"] []) : FnG P w K mg base CX0 7 f fd ["_law_one", "_law_other"] (spTwoR C) := by
  refine Fun_okG0 F scTwoR (fun vs H Q E h => ?_) (fun cdv A outer s H vs Q E gd hr h => ?_)
  · obtain ⟨p, q, t, b, u, d, rfl, _⟩ := h
    rfl
  · obtain ⟨p, q, t, b, u, d, rfl, hp, hq, n1, n2, l1, l2, k⟩ := h
    obtain ⟨dx, hp0⟩ := id hp
    obtain ⟨dy, hq0⟩ := id hq
    have hr2 : Room 2 _ := hr.mono (by decide)
    have hr3 : Room 3 _ := hr.mono (by decide)
    have hr4 : Room 4 _ := hr.mono (by decide)
    have hr5 : Room 5 _ := hr.mono (by decide)
    have noP : (wf t b).lookup ("plus" : Str) = none := wf_no _ _ (by decide +kernel) (by decide +kernel)
    refine ⟨_, pss_cons (ps_asg (pe_tup (pa_cons (pe_fld (pv 0) rfl) (pa_cons (pe_fld (pv 0) rfl) (pa_cons (pe_fld (pv 1) rfl) (pa_cons (pe_fld (pv 1) rfl) pa_nil)))))
          (pg_tup rfl (pgs_cons (pg_name (i := 2) scTwoR.nd rfl (Or.inl rfl)) (pgs_cons (pg_name (i := 3) scTwoR.nd rfl (Or.inl rfl)) (pgs_cons (pg_name (i := 4) scTwoR.nd rfl (Or.inl rfl)) (pgs_cons (pg_name (i := 5) scTwoR.nd rfl (Or.inl rfl)) pgs_nil))))))
      (pss_cons (ps_set (i := 6) scTwoR.nd rfl (Or.inl rfl) (pe_callB (cr_repr (n := 5) hr5 gd) (by rfl) hrp (by decide +kernel) (pa_cons (pe_tup (pa_cons (pv 0) (pa_cons (pv 1) pa_nil))) pa_nil)))
      (pss_cons (ps_if (pt_not (pt_val (pe_call GI hr3 (by rfl) cI.g cI.k cI.b .nil pass0 (pa_cons (pe_meth (pv 0) T.cl mP.m GP hr4 mP.b .nil pass0 (pa_cons (pv 1) pa_nil))
          (pa_cons (pe_op op_add (pe_op op_mulW (pv 2) (pv 5)) (pe_op op_mulW (pv 4) (pv 3))) (pa_cons (pe_op op_mulW (pv 3) (pv 5)) pa_nil)))))) (pss_one (ps_ret pe_bl)) pss_nil)
      (pss_cons (ps_asg (pe_call GT hr (by rfl) cT.g cT.k cT.b .nil pass0 (pa_cons (pv 0) (pa_cons (pv 1) pa_nil))) (pg_unl rfl (pgs_cons (pg_name (i := 7) scTwoR.nd rfl (Or.inl rfl)) (pgs_cons (pg_name (i := 8) scTwoR.nd rfl (Or.inl rfl)) pgs_nil))))
      (pss_cons (ps_set (i := 9) scTwoR.nd rfl (Or.inl rfl) (pe_op op_sub (pe_op op_mulW (pv 2) (pv 5)) (pe_op op_mulW (pv 4) (pv 3))))
      (pss_cons (ps_set (i := 10) scTwoR.nd rfl (Or.inl rfl) (pe_ix ix_list (pe_lst (pa_cons (pe_lst pa_nil) (pa_cons (pe_lst (pa_cons (pe_lst (pa_cons pe_bl (pa_cons pe_bl (pa_cons pe_bl (pa_cons pe_int pa_nil))))) (pa_cons pe_bl pa_nil))) pa_nil)))
          (pe_callTy call_int1 (by rfl) B.int (by decide +kernel) (pa_cons (pe_cmpR op_lt (pv 9) pe_int (nomark _)) pa_nil)) (fun _ _ => rfl)))
      (pss_cons (ps_if (PW.pt (pw_or (pt_cmpR (op_neD hr.units) (pv 8) (pv 10) (nomark _)) (pw_or1 (pt_not (pt_val (pe_call GI hr3 (by rfl) cI.g cI.k cI.b .nil pass0 (pa_cons (pv 7) (pa_cons (pe_callB call_abs (by rfl) hab (by decide +kernel) (pa_cons (pv 9) pa_nil))
          (pa_cons (pe_op op_mulW (pv 3) (pv 5)) pa_nil))))))))) (pss_one (ps_ret pe_bl)) pss_nil)
      (pss_cons (ps_if (PW.pt (pw_or (pt_cmpR (op_neOwn GE O bE (E := E0) pass0 hr2) (pe_meth (pe_meth (pv 0) T.cl mP.m GP hr4 mP.b .nil pass0 (pa_cons (pv 1) pa_nil)) T.cl mL.m GL hr4 mL.b .nil pass0 (pa_cons (pv 1) pa_nil)) (pv 0) (nomark _))
          (pw_or1 (pt_cmpR op_ne (pe_callB (cr_repr (n := 5) hr5 gd) (by rfl) hrp (by decide +kernel) (pa_cons (pe_tup (pa_cons (pv 0) (pa_cons (pv 1) pa_nil))) pa_nil)) (pv 6) (nomark _))))) (pss_one (ps_ret pe_bl)) pss_nil)
      (pss_one (ps_ret pe_bl))))))))), ?_⟩
    refine ⟨_, rfl, p, C, dx, _, _, rfl, hp0, T.cl, T.nT, wf_top _ _, _, rfl, p, C, dx, _, _, rfl, hp0, T.cl, T.nB, wf_bottom _ _, _, rfl, q, C, dy, _, _, rfl, hq0, T.cl, T.nT, wf_top _ _, _, rfl, q, C, dy, _, _, rfl, hq0, T.cl, T.nB, wf_bottom _ _,
      (by show 4 ≤ sizeLine; decide), fun t0 ht0 => ⟨t0, _, rfl, SqT.of upd_same, rfl, _, _, rfl, _, _, rfl, _, _, rfl, _, _, rfl, rfl, ?_⟩⟩
    have s0 := same_upd (o := .tup [.int t, .int b, .int u, .int d]) ht0
    have big : ∀ n, n ≤ 10000 → n ≤ sizeLine := fun n h => Nat.le_trans h (by decide)
    have tl : (tupleText [wT t b, wT u d]).length ≤ sizeLine := big _ (by
      have h1 := wT_len (n1.tz.mono (by decide : 200 ≤ 1600)) (n1.bz.mono (by decide))
      have h2 := wT_len (n2.tz.mono (by decide : 200 ≤ 1600)) (n2.bz.mono (by decide))
      rw [tup2_len]
      omega)
    refine ⟨_, rfl, _, rfl, (by show 2 ≤ sizeLine; decide), fun t1 ht1 => ?_⟩
    have s1 := s0.trans (same_upd (o := .tup [.ref p, .ref q]) ht1)
    refine ⟨.ref t1, tupleText [wT t b, wT u d], [t1], rfl, says_two GR rs rf bR upd_same (hp.same s1) (hq.same s1) (n1.mono (by decide)) (n2.mono (by decide)), tl, fun H1 e1 => ?_⟩
    have s2 := s1.trans e1
    have m1 : CMulW t d := n1.tz.mulOk n2.bz (by decide) (by decide) (by decide)
    have m2 : CMulW u b := n2.tz.mulOk n1.bz (by decide) (by decide) (by decide)
    have m3 : CMulW b d := n1.bz.mulOk n2.bz (by decide) (by decide) (by decide)
    have hbd : 0 < b * d := Int.mul_pos n1.b0 n2.b0
    have zbd : Sz 400 (b * d) := n1.bz.mul n2.bz
    have z1 : Sz 400 (t * d) := n1.tz.mul n2.bz
    have z2 : Sz 400 (u * b) := n2.tz.mul n1.bz
    have p1 : 0 ≤ t * d := Int.mul_nonneg n1.t0 (Int.le_of_lt n2.b0)
    have p2 : 0 ≤ u * b := Int.mul_nonneg n2.t0 (Int.le_of_lt n1.b0)
    have nsum : Wn 401 (t * d + u * b) (b * d) := ⟨by omega, hbd, z1.add z2, zbd.mono (by decide)⟩
    refine ⟨_, rfl, p, dx, _, rfl, s2 _ _ hp0, noP, _, rfl, p, q, t, b, u, d, rfl, hp.same s2, hq.same s2, n1.mono (by decide), n2.mono (by decide), fun x H2 e2 nx hx => ?_⟩
    have s3 := s2.trans e2
    refine ⟨_, rfl, _, rfl, _, _, rfl, rfl, m1, _, rfl, _, rfl, _, _, rfl, rfl, m2, _, _, rfl, rfl, _, rfl, _, rfl, _, _, rfl, rfl, m3, ?_⟩
    refine ⟨x, _, _, rfl, nsum.t0, hbd, zbd.mono (by decide), hx, fun H3 e3 => ⟨true, rfl, iteF ?_⟩⟩
    have s4 := s3.trans e3
    refine ⟨_, rfl, _, rfl, p, q, t, b, u, d, rfl, hp.same s4, hq.same s4, n1.mono (by decide), n2.mono (by decide), fun l y m H4 e4 hl hm hy1 hy2 => ?_⟩
    have s5 := s4.trans e4
    refine ⟨l, _, rfl, SqL.of hl, rfl, _, _, rfl, _, _, rfl, rfl, ?_⟩
    refine ⟨_, rfl, _, rfl, _, _, rfl, rfl, m1, _, rfl, _, rfl, _, _, rfl, rfl, m2, _, _, rfl, rfl, ?_⟩
    refine ⟨Nat.zero_le _, fun w0 h0 => ⟨(by show 4 ≤ sizeLine; decide), fun w1 h1 => ⟨(by show 2 ≤ sizeLine; decide), fun w2 h2 => ⟨(by show 2 ≤ sizeLine; decide), fun w3 h3 => ?_⟩⟩⟩⟩
    have sa := same_upd (o := .lst []) h0
    have sb := same_upd (o := .lst [.bl true, .bl true, .bl true, .int 1]) h1
    have sc := same_upd (o := .lst [.ref w1, .bl true]) h2
    have sd := same_upd (o := .lst [.ref w0, .ref w2]) h3
    have s6 := s5.trans (((sa.trans sb).trans sc).trans sd)
    have hm6 := hm.same (((sa.trans sb).trans sc).trans sd)
    refine ⟨_, rfl, _, _, rfl, rfl, .inr ⟨_, rfl, ?_⟩⟩
    have due : ∃ w', atI [V.ref w0, V.ref w2] (if decide (t * d - u * b < 0) then 1 else 0 : Int) = some (.ref w') ∧ Dp K (upd (upd (upd (upd H4 w0 (.lst [])) w1 (.lst [.bl true, .bl true, .bl true, .int 1])) w2 (.lst [.ref w1, .bl true])) w3 (.lst [.ref w0, .ref w2])) (.ref w') (markD (decide (t * d < u * b))) := by
      by_cases hb : t * d < u * b
      · have hb' : t * d - u * b < 0 := by omega
        refine ⟨w2, by rw [decide_eq_true hb', if_pos rfl]; rfl, ?_⟩
        rw [decide_eq_true hb]
        exact .lst (SqL.of (sd _ _ upd_same)) (.cons (.lst (SqL.of (sd _ _ (sc _ _ upd_same))) (.cons (.bl _) (.cons (.bl _) (.cons (.bl _) (.cons (.int _) .nil))))) (.cons (.bl _) .nil))
      · have hb' : ¬ t * d - u * b < 0 := by omega
        refine ⟨w0, by rw [decide_eq_false hb', if_neg (by simp)]; rfl, ?_⟩
        rw [decide_eq_false hb]
        exact .lst (SqL.of (sd _ _ (sc _ _ (sb _ _ upd_same)))) .nil
    obtain ⟨w', hw', dw⟩ := due
    refine ⟨w3, _, _, _, rfl, rfl, SqL.of upd_same, hw', ?_⟩
    obtain ⟨sh, ev⟩ := markD_ok (decide (t * d < u * b))
    refine ⟨_, rfl, _, rfl, _, _, hm6.dp, dw, sh, sh, _, rfl, ?_⟩
    rw [ev]
    refine iteF ?_
    have told : ∀ H7, Same (upd (upd (upd (upd H4 w0 (.lst [])) w1 (.lst [.bl true, .bl true, .bl true, .int 1])) w2 (.lst [.ref w1, .bl true])) w3 (.lst [.ref w0, .ref w2])) H7 →
        0 ≤ (if t * d - u * b < 0 then -(t * d - u * b) else t * d - u * b) ∧ WAt C H7 y (lowT (if t * d - u * b < 0 then -(t * d - u * b) else t * d - u * b) (b * d)) (lowB (if t * d - u * b < 0 then -(t * d - u * b) else t * d - u * b) (b * d)) := fun H7 e7 => by
      have e8 := (((sa.trans sb).trans sc).trans sd).trans e7
      by_cases hb : t * d < u * b
      · have hb' : t * d - u * b < 0 := by omega
        have en : -(t * d - u * b) = u * b - t * d := by omega
        rw [if_pos hb', en, Int.mul_comm b d]
        exact ⟨by omega, (hy2 hb).same e8⟩
      · have hb' : ¬ t * d - u * b < 0 := by omega
        rw [if_neg hb']
        exact ⟨by omega, (hy1 hb).same e8⟩
    obtain ⟨a0, ht⟩ := told _ (Same.refl _)
    refine ⟨_, rfl, _, rfl, _, rfl, _, rfl, _, rfl, _, _, rfl, rfl, m3, ?_⟩
    refine ⟨y, _, _, rfl, a0, hbd, zbd.mono (by decide), ht, fun H7 e7 => ⟨true, rfl, iteF ?_⟩⟩
    have s7 := s6.trans e7
    refine ⟨_, rfl, p, dx, _, rfl, s7 _ _ hp0, noP, _, rfl, p, q, t, b, u, d, rfl, hp.same s7, hq.same s7, n1.mono (by decide), n2.mono (by decide), fun x2 H8 e9 nx2 hx2 => ?_⟩
    have s8 := s7.trans e9
    obtain ⟨dz, hx20⟩ := id hx2
    have noL : (wf (lowT (t * d + u * b) (b * d)) (lowB (t * d + u * b) (b * d))).lookup ("less" : Str) = none := wf_no _ _ (by decide +kernel) (by decide +kernel)
    have nlow := nsum.low
    have enough : ¬ lowT (t * d + u * b) (b * d) * d < u * lowB (t * d + u * b) (b * d) := fun z => by
      have hg := gcd_pos (t := t * d + u * b) hbd
      obtain ⟨e1, e2⟩ := low_mul (t := t * d + u * b) hbd
      have z2 := Int.mul_lt_mul_of_pos_right z hg
      have x1 : lowT (t * d + u * b) (b * d) * d * ((Int.gcd (t * d + u * b) (b * d) : Nat) : Int) = (t * d + u * b) * d := by rw [Int.mul_right_comm, e1]
      have x2 : u * lowB (t * d + u * b) (b * d) * ((Int.gcd (t * d + u * b) (b * d) : Nat) : Int) = u * (b * d) := by rw [Int.mul_assoc, e2]
      rw [x1, x2, Int.add_mul, Int.mul_assoc u b d] at z2
      have : 0 ≤ t * d * d := Int.mul_nonneg p1 (Int.le_of_lt n2.b0)
      omega
    refine ⟨x2, dz, _, rfl, hx20, noL, _, rfl, x2, q, _, _, u, d, rfl, hx2, hq.same s8, nlow.mono (by decide), n2.mono (by decide), enough, fun y2 H9 e10 ny2 hy2' => ?_⟩
    have s9 := s8.trans e10
    obtain ⟨r1, r2⟩ := low_back (t := t) (u := u) n1.b0 n2.b0
    rw [r1, r2, l1, l2] at hy2'
    obtain ⟨dw2, hy20⟩ := id hy2'
    refine ⟨_, rfl, y2, dw2, _, .ref C, rfl, hy20, .base (.ins (s9 _ _ hp0) T.cl N.ha N.hn N.htk N.hm), by simp [PySem.W.notFirst], y2, p, _, _, _, _, rfl, hy2', hp.same s9, _, rfl, _, rfl, ?_⟩
    rw [decide_eq_true (show t = t ∧ b = b from ⟨rfl, rfl⟩)]
    refine iteF ?_
    refine ⟨_, rfl, _, rfl, (by show 2 ≤ sizeLine; decide), fun t2 ht2 => ?_⟩
    have s10 := s9.trans (same_upd (o := .tup [.ref p, .ref q]) ht2)
    refine ⟨.ref t2, tupleText [wT t b, wT u d], [t2], rfl, says_two GR rs rf bR upd_same (hp.same s10) (hq.same s10) (n1.mono (by decide)) (n2.mono (by decide)), tl, fun H11 e11 => ?_⟩
    refine ⟨_, rfl, rfl, _, rfl, iteNS rfl ?_⟩
    exact k H11 (s10.trans e11)
end
end K
namespace K
open PySem L2 Rp
/-- a row of Weights -/
def WL (C : Addr) (H : Hp) (xs : List V) (ps : List (Int × Int)) : Prop := xs.length = ps.length ∧ ∀ (i : Nat) (q : Int × Int), ps[i]? = some q → ∃ p, xs[i]? = some (.ref p) ∧ WAt C H p q.1 q.2
theorem WL.at {C : Addr} {H : Hp} {xs : List V} {ps : List (Int × Int)} (h : WL C H xs ps) {i : Nat} {x : V} (hx : xs[i]? = some x) : ∃ p q, x = .ref p ∧ ps[i]? = some q ∧ WAt C H p q.1 q.2 := by
  have hi : i < ps.length := by rw [← h.1]; exact (List.getElem?_eq_some_iff.mp hx).1
  obtain ⟨p, h1, h2⟩ := h.2 i _ (List.getElem?_eq_getElem hi)
  rw [hx] at h1
  cases h1
  exact ⟨p, _, rfl, List.getElem?_eq_getElem hi, h2⟩
theorem WL.snoc {C : Addr} {H : Hp} {xs : List V} {ps : List (Int × Int)} (h : WL C H xs ps) {p : Addr} {t b : Int} (hp : WAt C H p t b) : WL C H (xs ++ [.ref p]) (ps ++ [(t, b)]) := by
  refine ⟨by rw [List.length_append, List.length_append, h.1]; rfl, fun i q hq => ?_⟩
  by_cases hi : i < ps.length
  · rw [List.getElem?_append_left hi] at hq
    rw [List.getElem?_append_left (by rw [h.1]; exact hi)]
    exact h.2 i q hq
  · have hi' : i = ps.length := by
      have := (List.getElem?_eq_some_iff.mp hq).1
      rw [List.length_append] at this
      have e : [(t, b)].length = 1 := rfl
      omega
    subst hi'
    rw [List.getElem?_append_right (Nat.le_refl _), Nat.sub_self] at hq
    cases hq
    exact ⟨p, by rw [List.getElem?_append_right (by rw [h.1]; exact Nat.le_refl _), h.1, Nat.sub_self]; rfl, hp⟩
theorem WL.keep {C : Addr} {H H' : Hp} {xs : List V} {ps : List (Int × Int)} (h : WL C H xs ps) (e : ∀ p t b, WAt C H p t b → WAt C H' p t b) : WL C H' xs ps :=
  ⟨h.1, fun i q hq => let ⟨p, h1, h2⟩ := h.2 i q hq; ⟨p, h1, e _ _ _ h2⟩⟩
theorem WAt.fw {C d : Addr} {H H' : Hp} {p : Addr} {t b : Int} (h : WAt C H p t b) (dk : DeckAt H d) (f : Fw d H H') : WAt C H' p t b := by
  obtain ⟨dx, h⟩ := h
  refine ⟨dx, f.kp p _ (fun z => ?_) h⟩
  obtain ⟨_, _, _, h'⟩ := dk
  rw [z, h'] at h
  cases h
/-- a Weight's numbers below 2 ^ m, in lowest terms -/
structure Wl (m : Nat) (t b : Int) : Prop where
  n : Wn m t b
  l1 : lowT t b = t
  l2 : lowB t b = b
theorem Wn.lowest {m : Nat} {t b : Int} (h : Wn m t b) : Wl m (lowT t b) (lowB t b) := let ⟨e1, e2⟩ := low_low (t := t) h.b0; ⟨h.low, e1, e2⟩
theorem Wl.mono {m n : Nat} {t b : Int} (h : Wl m t b) (hm : m ≤ n) : Wl n t b := ⟨h.n.mono hm, h.l1, h.l2⟩
/-- what stands while a cell is looked at: the deck at d, the row of Weights at l -/
structure Run (C : Addr) (m : Nat) (H0 H : Hp) (d l : Addr) (xs : List V) (ps : List (Int × Int)) : Prop where
  s0 : Same H0 H
  nd : H0 d = none
  nl : H0 l = none
  ne : l ≠ d
  dk : DeckAt H d
  ls : H l = some (.lst xs)
  wl : WL C H xs ps
  wn : ∀ q ∈ ps, Wl m q.1 q.2
section
variable {C : Addr} {m : Nat} {H0 H H' : Hp} {d l : Addr} {xs : List V} {ps : List (Int × Int)}
theorem Run.fw (r : Run C m H0 H d l xs ps) (f : Fw d H H') (dk : DeckAt H' d) : Run C m H0 H' d l xs ps where
  s0 := fun q o e => f.kp q o (ne_of_none e r.nd) (r.s0 q o e)
  nd := r.nd
  nl := r.nl
  ne := r.ne
  dk := dk
  ls := f.kp l _ r.ne r.ls
  wl := r.wl.keep fun p t b h => h.fw r.dk f
  wn := r.wn
theorem Run.grow (r : Run C m H0 H d l xs ps) (e : Same H H') : Run C m H0 H' d l xs ps :=
  r.fw (Fw.of_same e) (r.dk.same e)
theorem Run.more {n : Nat} (r : Run C m H0 H d l xs ps) (h : m ≤ n) : Run C n H0 H d l xs ps := ⟨r.s0, r.nd, r.nl, r.ne, r.dk, r.ls, r.wl, fun q hq => (r.wn q hq).mono h⟩
theorem Run.app (r : Run C m H0 H d l xs ps) {p : Addr} {t b : Int} (hp : WAt C H p t b) (hn : Wl m t b) : Run C m H0 (upd H l (.lst (xs ++ [.ref p]))) d l (xs ++ [.ref p]) (ps ++ [(t, b)]) where
  s0 := fun q o e => by rw [upd_ne (ne_of_none e r.nl)]; exact r.s0 q o e
  nd := r.nd
  nl := r.nl
  ne := r.ne
  dk := by
    obtain ⟨a, b, c, h⟩ := r.dk
    exact ⟨a, b, c, by rw [upd_ne (Ne.symm r.ne)]; exact h⟩
  ls := upd_same
  wl := by
    have k2 : ∀ (o : List V) p t b, WAt C H p t b → WAt C (upd H l (.lst o)) p t b := fun o p t b ⟨dx, h⟩ => ⟨dx, by
      rw [upd_ne (fun z => by rw [z, r.ls] at h; cases h)]
      exact h⟩
    exact (r.wl.snoc hp).keep (k2 _)
  wn := fun q hq => by
    rcases List.mem_append.mp hq with z | z
    · exact r.wn q z
    · rw [List.mem_singleton.mp z]; exact hn
theorem Run.len (r : Run C m H0 H d l xs ps) : xs.length = ps.length := r.wl.1
theorem Run.get (r : Run C m H0 H d l xs ps) {i : Nat} (hi : i < ps.length) : ∃ p q, xs[i]? = some (.ref p) ∧ ps[i]? = some q ∧ WAt C H p q.1 q.2 ∧ Wl m q.1 q.2 := by
  obtain ⟨p, h1, h2⟩ := r.wl.2 i _ (List.getElem?_eq_getElem hi)
  exact ⟨p, _, h1, List.getElem?_eq_getElem hi, h2, r.wn _ (List.getElem_mem hi)⟩
end

def spTimesR (C : Addr) : Sp := fun vs H Q _ => ∃ (p : Addr) (t b a c : Int), vs = [.ref p, .int a, .int c] ∧ WAt C H p t b ∧ Wn 200 t b ∧ Wn 20 a c ∧ ∀ H', Same H H' → Q (.bl true) H'
section
variable {P : Program} {w : World} {K : PySem.W.Frag} {mg : Str → Option Value} {base : Heap}
theorem scTimesR : FnScope ["_law_one", "_law_top", "_law_bottom"] ["_law_one", "_law_top", "_law_bottom"] (defScope sTimesR) := ⟨rfl, rfl, rfl, by decide +kernel, rfl, by decide +kernel, by decide +kernel⟩
theorem ok_timesR {f C fW fT fI : Addr} {fd fdT fdI : FuncData} (F : Fun K "_law_times_right" "_law_times_right" sTimesR f fd) (T : WTxt K mg C fW) (mT : Me K C "times" fT fdT ["self", "top", "bottom"]) (GT : FnOk P w K mg base CX0 4 fT fdT ["self", "top", "bottom"] (spTimes C))
    {ds : List Value} (vd : Vals [V.int 1] ds) (bT1 : Binds K fdT ["self", "top", "bottom"] ds)
    (cI : Cl K mg "_law_is" fI fdI ["_law_found", "_law_top", "_law_bottom"]) (GI : FnOk P w K mg base CX0 3 fI fdI ["_law_found", "_law_top", "_law_bottom"] (spIs C)) : FnOk P w K mg base CX0 5 f fd ["_law_one", "_law_top", "_law_bottom"] (spTimesR C) := by
  refine F.ok scTimesR (fun vs H Q E h => ?_) (fun cdv A outer s H vs Q E hr h => ?_)
  · obtain ⟨p, t, b, a, c, rfl, _⟩ := h
    rfl
  · obtain ⟨p, t, b, a, c, rfl, hp, n1, n2, k⟩ := h
    obtain ⟨dx, hp0⟩ := id hp
    have hr3 : Room 3 _ := hr.mono (by decide)
    have no : (wf t b).lookup ("times" : Str) = none := wf_no _ _ (by decide +kernel) (by decide +kernel)
    refine ⟨_, pss_cons (ps_if (pt_not (pt_val (pe_call GI hr3 (by rfl) cI.g cI.k cI.b .nil pass0 (pa_cons (pe_meth (pv 0) T.cl mT.m GT hr mT.b .nil pass0 (pa_cons (pv 1) (pa_cons (pv 2) pa_nil)))
          (pa_cons (pe_op op_mulW (pe_fld (pv 0) rfl) (pv 1)) (pa_cons (pe_op op_mulW (pe_fld (pv 0) rfl) (pv 2)) pa_nil)))))) (pss_one (ps_ret pe_bl)) pss_nil)
      (pss_one (ps_ret (pe_and (pe_call GI hr3 (by rfl) cI.g cI.k cI.b .nil pass0 (pa_cons (pe_meth (pv 0) T.cl mT.m GT hr bT1 vd pass0 (pa_cons (pv 1) pa_nil)) (pa_cons (pe_op op_mulW (pe_fld (pv 0) rfl) (pv 1)) (pa_cons (pe_fld (pv 0) rfl) pa_nil))))
        (pe_one (pe_call GI hr3 (by rfl) cI.g cI.k cI.b .nil pass0 (pa_cons (pe_meth (pv 0) T.cl mT.m GT hr mT.b .nil pass0 (pa_cons pe_int (pa_cons (pv 2) pa_nil))) (pa_cons pe_int (pa_cons pe_int pa_nil)))))))), ?_⟩
    have o1 : Sz 20 1 := by unfold Sz; decide
    have o0 : Sz 20 0 := by unfold Sz; decide
    have m1 : CMulW t a := n1.tz.mulOk n2.tz (by decide) (by decide) (by decide)
    have m2 : CMulW b c := n1.bz.mulOk n2.bz (by decide) (by decide) (by decide)
    have q1 : 0 ≤ t * a := Int.mul_nonneg n1.t0 n2.t0
    have q2 : 0 < b * c := Int.mul_pos n1.b0 n2.b0
    have zbc : Sz 220 (b * c) := n1.bz.mul n2.bz
    refine ⟨_, rfl, p, dx, _, rfl, hp0, no, _, rfl, _, rfl, p, t, b, a, c, rfl, hp, n1.mono (by decide), n2.mono (by decide), fun x H1 s1 nx hx => ?_⟩
    refine ⟨_, rfl, p, C, dx, _, _, rfl, s1 _ _ hp0, T.cl, T.nT, wf_top _ _, _, rfl, _, _, rfl, rfl, m1, _, rfl, p, C, dx, _, _, rfl, s1 _ _ hp0, T.cl, T.nB, wf_bottom _ _, _, rfl, _, _, rfl, rfl, m2, ?_⟩
    refine ⟨x, _, _, rfl, q1, q2, zbc.mono (by decide), hx, fun H2 s2 => ⟨true, rfl, iteF ?_⟩⟩
    have s3 := s1.trans s2
    refine ⟨_, rfl, p, dx, _, rfl, s3 _ _ hp0, no, _, rfl, p, t, b, a, 1, rfl, hp.same s3, n1.mono (by decide), ⟨n2.t0, by decide, n2.tz.mono (by decide), o1.mono (by decide)⟩, fun x2 H4 s4 nx2 hx2 => ?_⟩
    have s5 := s3.trans s4
    rw [Int.mul_one] at hx2
    refine ⟨_, rfl, p, C, dx, _, _, rfl, s5 _ _ hp0, T.cl, T.nT, wf_top _ _, _, rfl, _, _, rfl, rfl, m1, _, rfl, p, C, dx, _, _, rfl, s5 _ _ hp0, T.cl, T.nB, wf_bottom _ _, ?_⟩
    refine ⟨x2, _, _, rfl, q1, n1.b0, n1.bz.mono (by decide), hx2, fun H6 s6 => ⟨true, rfl, iteT ?_⟩⟩
    have s7 := s5.trans s6
    refine ⟨_, rfl, p, dx, _, rfl, s7 _ _ hp0, no, _, rfl, p, t, b, 0, c, rfl, hp.same s7, n1.mono (by decide), ⟨by decide, n2.b0, o0.mono (by decide), n2.bz.mono (by decide)⟩, fun x3 H8 s8 nx3 hx3 => ?_⟩
    have e := low_scale (g := b * c) (x := 0) (y := 1) q2 (by decide)
    rw [Int.mul_zero, Int.mul_one] at e
    rw [Int.mul_zero, e.1, e.2] at hx3
    refine ⟨x3, 0, 1, rfl, by decide, by decide, o1.mono (by decide), hx3, fun H9 s9 => ?_⟩
    exact k H9 ((s7.trans s8).trans s9)
end
end K
namespace K
open PySem L2 Rp
def spLaw (K : PySem.W.Frag) : Sp := fun vs H Q _ => ∃ (a : Addr) (ns : List Int), vs = [.ref a] ∧ SqL K H a (ns.map V.int) ∧ ns.length ≤ 63 ∧ ∀ H', Q (.bl true) H'
abbrev lawN : List Str := ["_law_script", "_law_cell", "_law_deck_here", "_law_some", "_law_k", "_law_top", "_law_bottom", "_law_one", "_law_other"]
section
variable {P : Program} {w : World} {K : PySem.W.Frag} {mg : Str → Option Value} {base : Heap}
theorem scLaw : FnScope lawN ["_law_script"] (defScope sLaw) := ⟨rfl, rfl, rfl, by decide +kernel, rfl, by decide +kernel, by decide +kernel⟩
theorem ok_law {f C fW fI fP fT fDk fDr fTw fTR f2 : Addr} {fd dI dP dT dDk dDr dTw dTR d2 : FuncData} (F : Fun K "law" "law" sLaw f fd) (T : WTxt K mg C fW) (hrg : mg "range" = none)
    (M : Mk K C fI) (GI : FnOk P w K mg base CX0 2 fI dI ["self", "top", "bottom"] (spInit C)) (bI : Binds K dI ["self", "top", "bottom"] [])
    (mP : Me K C "plus" fP dP ["self", "other"]) (GP : FnOk P w K mg base CX0 4 fP dP ["self", "other"] (spPlus C))
    (mT : Me K C "times" fT dT ["self", "top", "bottom"]) (GT : FnOk P w K mg base CX0 4 fT dT ["self", "top", "bottom"] (spTimes C))
    (cDk : Cl K mg "_law_deck" fDk dDk ["_law_cell"]) (GDk : FnOk P w K mg base CX0 1 fDk dDk ["_law_cell"] spDeck)
    (cDr : Cl K mg "_law_draw" fDr dDr ["_law_deck_here", "_law_most"]) (GDr : FnOk P w K mg base CX0 1 fDr dDr ["_law_deck_here", "_law_most"] spDraw)
    (cTw : Cl K mg "_law_two" fTw dTw ["_law_deck_here"]) (GTw : FnOk P w K mg base CX0 2 fTw dTw ["_law_deck_here"] spTwo)
    (cTR : Cl K mg "_law_times_right" fTR dTR ["_law_one", "_law_top", "_law_bottom"]) (GTR : FnOk P w K mg base CX0 5 fTR dTR ["_law_one", "_law_top", "_law_bottom"] (spTimesR C))
    (c2 : Cl K mg "_law_two_right" f2 d2 ["_law_one", "_law_other"]) (G2 : FnG P w K mg base CX0 7 f2 d2 ["_law_one", "_law_other"] (spTwoR C)) : FnG P w K mg base CX0 8 f fd ["_law_script"] (spLaw K) := by
  refine Fun_okG0 F scLaw (fun vs H Q E h => ?_) (fun cdv A outer s H vs Q E gd hr h => ?_)
  · obtain ⟨a, ns, rfl, _⟩ := h
    rfl
  · obtain ⟨a, ns, rfl, hS, hlen, k⟩ := h
    have hr1 : Room 1 _ := hr.mono (by decide)
    have hr2 : Room 2 _ := hr.mono (by decide)
    have hr3 : Room 3 _ := hr.mono (by decide)
    have hr4 : Room 4 _ := hr.mono (by decide)
    have hr5 : Room 5 _ := hr.mono (by decide)
    refine ⟨_, pss_cons (ps_for PassesOwn.never rfl (pi_list (pe_op op_cat (pe_slice sl_list (pv 0) po_none (po_some pe_int)) (pe_lst (pa_cons pe_int pa_nil)))) (pg_name (i := 1) scLaw.nd rfl (Or.inl rfl))
        (pss_cons (ps_set (i := 2) scLaw.nd rfl (Or.inl rfl) (pe_call GDk hr1 (by rfl) cDk.g cDk.k cDk.b .nil pass0 (pa_cons (pv 1) pa_nil)))
        (pss_cons (ps_set (i := 3) scLaw.nd rfl (Or.inl rfl) (pe_lst pa_nil))
        (pss_cons (ps_for PassesOwn.never rfl (pi_range1 (by rfl) hrg (pa_cons pe_int pa_nil)) (pg_name (i := 4) scLaw.nd rfl (Or.inl rfl))
          (pss_cons (ps_asg (pe_call GTw hr2 (by rfl) cTw.g cTw.k cTw.b .nil pass0 (pa_cons (pv 2) pa_nil)) (pg_tup rfl (pgs_cons (pg_name (i := 5) scLaw.nd rfl (Or.inl rfl)) (pgs_cons (pg_name (i := 6) scLaw.nd rfl (Or.inl rfl)) pgs_nil))))
          (pss_cons (ps_expr (pe_bm PySem.F.plainAttrs_list PySem.F.slot_list_append PySem.F.type_list_append mt_append (pv 3) (pa_cons (pe_make M GI hr3 (by rfl) T.mgC bI .nil pass0 (pa_cons (pv 5) (pa_cons (pv 6) pa_nil))) pa_nil)))
          (pss_one (ps_if (pt_not (pt_val (pe_call GTR hr5 (by rfl) cTR.g cTR.k cTR.b .nil pass0 (pa_cons (pe_ix ix_list (pv 3) (pe_un un_neg pe_int) (fun _ _ => rfl))
            (pa_cons (pe_call GDr hr1 (by rfl) cDr.g cDr.k cDr.b .nil pass0 (pa_cons (pv 2) (pa_cons pe_int pa_nil))) (pa_cons (pe_op op_add pe_int (pe_call GDr hr1 (by rfl) cDr.g cDr.k cDr.b .nil pass0 (pa_cons (pv 2) (pa_cons pe_int pa_nil)))) pa_nil)))))) (pss_one (ps_ret pe_bl)) pss_nil)))))
        (pss_cons (ps_expr (pe_bm PySem.F.plainAttrs_list PySem.F.slot_list_append PySem.F.type_list_append mt_append (pv 3) (pa_cons
          (pe_meth (pe_meth (pe_ix ix_list (pv 3) pe_int (fun _ _ => rfl)) T.cl mP.m GP hr4 mP.b .nil pass0 (pa_cons (pe_ix ix_list (pv 3) pe_int (fun _ _ => rfl)) pa_nil)) T.cl mT.m GT hr4 mT.b .nil pass0
            (pa_cons pe_int (pa_cons (pe_op op_add pe_int (pe_call GDr hr1 (by rfl) cDr.g cDr.k cDr.b .nil pass0 (pa_cons (pv 2) (pa_cons pe_int pa_nil)))) pa_nil))) pa_nil)))
        (pss_cons (ps_expr (pe_bm PySem.F.plainAttrs_list PySem.F.slot_list_append PySem.F.type_list_append mt_append (pv 3) (pa_cons
          (pe_meth (pe_ix ix_list (pv 3) pe_int (fun _ _ => rfl)) T.cl mP.m GP hr4 mP.b .nil pass0 (pa_cons (pe_ix ix_list (pv 3) pe_int (fun _ _ => rfl)) pa_nil)) pa_nil)))
        (pss_one (ps_for PassesOwn.never rfl (pi_list (pv 3)) (pg_name (i := 7) scLaw.nd rfl (Or.inl rfl))
          (pss_one (ps_for PassesOwn.never rfl (pi_list (pv 3)) (pg_name (i := 8) scLaw.nd rfl (Or.inl rfl))
            (pss_one (ps_if (pt_not (pt_val (pe_callG G2 gd hr (by rfl) c2.g c2.k c2.b .nil pass0 (pa_cons (pv 7) (pa_cons (pv 8) pa_nil))))) (pss_one (ps_ret pe_bl)) pss_nil))))))))))))
      (pss_one (ps_ret pe_bl)), ?_⟩
    refine ⟨_, rfl, 10, rfl, a, _, rfl, hS, fun p1 h1 => ⟨(by show 1 ≤ sizeLine; decide), fun p2 h2 => ?_⟩⟩
    have n12 : p1 ≠ p2 := fun z => by rw [← z, upd_same] at h2; cases h2
    have hcut : (cutV (ns.map V.int) none (some 10)).length ≤ 63 := by
      have := cutV_length (ns.map V.int) none (some 10)
      rw [List.length_map] at this
      omega
    refine ⟨p1, p2, _, _, rfl, rfl, by rw [upd_ne n12]; exact upd_same, upd_same, ?_, fun p3 h3 => ?_⟩
    · have e : ([V.int 3] : List V).length = 1 := rfl
      rw [e]
      exact Nat.le_trans (Nat.add_le_add_right hcut 1) (by decide)
    have allz : ∀ (i : Nat) (x : V), (cutV (ns.map V.int) none (some 10) ++ [V.int 3])[i]? = some x → ∃ z, x = .int z := fun i x hx => by
      have hm := List.mem_of_getElem? hx
      rcases List.mem_append.mp hm with z | z
      · have z2 : x ∈ ns.map V.int := List.mem_of_mem_drop (List.mem_of_mem_take z)
        obtain ⟨n, _, e⟩ := List.mem_map.mp z2
        exact ⟨n, e.symm⟩
      · exact ⟨3, List.mem_singleton.mp z⟩
    generalize hH0 : upd (upd (upd H p1 (.lst (cutV (ns.map V.int) none (some 10)))) p2 (.lst [V.int 3])) p3 (.lst (cutV (ns.map V.int) none (some 10) ++ [V.int 3])) = H0
    generalize hcs : cutV (ns.map V.int) none (some 10) ++ [V.int 3] = cs at *
    have hL0 : H0 p3 = some (.lst cs) := by rw [← hH0]; exact upd_same
    have o1 : Sz 7 1 := by unfold Sz; decide
    have o3 : Sz 7 3 := by unfold Sz; decide
    refine ⟨p3, rfl, ⟨_, SqL.of hL0⟩, for_list (K := K) (a := p3) (xs := cs) (fun i σ H' => Same H0 H' ∧ ∃ v1 v2 v3 v4 v5 v6 v7 v8, σ = [some (.ref a), v1, v2, v3, v4, v5, v6, v7, v8])
      ⟨Same.refl _, none, none, none, none, none, none, none, none, rfl⟩ (fun i σ H' _ ⟨e, _⟩ => e.seq (SqL.of hL0)) ?_ ?_⟩
    · rintro i x σ H' hx ⟨e0, v1, v2, v3, v4, v5, v6, v7, v8, rfl⟩
      obtain ⟨z, rfl⟩ := allz i x hx
      refine ⟨_, rfl, z, rfl, fun d hd H1 d1 q1 => ⟨Nat.zero_le _, fun l hl => ?_⟩⟩
      have nld : l ≠ d := d1.ne hl
      have hl' : H' l = none := (q1 l nld).symm.trans hl
      have R0 : Run C 41 H0 (upd H1 l (.lst [])) d l [] [] :=
        { s0 := fun q o e => by
            have e1 := e0 q o e
            have nq : q ≠ d := ne_of_none e1 hd
            have e2 := (q1 q nq).trans e1
            rw [upd_ne (ne_of_none e2 hl)]
            exact e2
          nd := Fw.same (d := d) e0 d hd, nl := Fw.same (d := d) e0 l hl', ne := nld, dk := d1.upd hl, ls := upd_same, wl := ⟨rfl, fun i q hq => by simp at hq⟩, wn := fun q hq => by simp at hq }
      refine ⟨5, rfl, by decide, by decide, for_range (lo := 0) (n := 5) (fun j σ H2 => (∃ xs ps, Run C 41 H0 H2 d l xs ps ∧ ps.length = j) ∧ ∃ u4 u5 u6 u7 u8, σ = [some (.ref a), some (.int z), some (.ref d), some (.ref l), u4, u5, u6, u7, u8]) ?_ ?_ ?_⟩
      · exact ⟨⟨[], [], R0, rfl⟩, v4, v5, v6, v7, v8, rfl⟩
      · rintro j σ H2 hj ⟨⟨xs, ps, R, hps⟩, u4, u5, u6, u7, u8, rfl⟩
        refine ⟨_, rfl, d, rfl, R.dk, fun p t b Hb t0 t1 b0 b1 hp0 hp db fb => ⟨p, _, rfl, SqT.of hp, rfl, _, _, rfl, _, _, rfl, rfl, ?_⟩⟩
        have R2 := R.fw fb db
        have tz : Sz 41 t := by show t.natAbs < 2199023255552; omega
        have bz : Sz 41 b := by show b.natAbs < 2199023255552; omega
        have nw : Wn 41 t b := ⟨t0, b0, tz, bz⟩
        refine ⟨_, rfl, .inl ⟨rfl, _, SqL.of R2.ls⟩, _, rfl, _, rfl, ?_⟩
        intro x dx nx ndx ne
        have R3 := R2.grow (same_make (C := C) (fs := wf (lowT t b) (lowB t b)) nx ndx)
        refine ⟨x, dx, t, b, rfl, upd_same, t0, b0, bz.mono (by decide), rfl, l, _, _, rfl, rfl, R3.ls, small1000 ?_, ?_⟩
        · rw [R.len]; omega
        have R4 := R3.app (p := x) (t := lowT t b) (b := lowB t b) ⟨dx, upd_same⟩ nw.lowest
        obtain ⟨px, qx, gx, gq, wx, nx2⟩ := R4.get (i := ps.length) (by rw [List.length_append]; exact Nat.lt_succ_self _)
        have ex : px = x := by
          rw [List.getElem?_append_right (by rw [R.len]; exact Nat.le_refl _), R.len, Nat.sub_self] at gx
          cases gx
          rfl
        subst ex
        refine ⟨_, rfl, 1, rfl, l, _, -1, _, rfl, rfl, SqL.of R4.ls, atI_last _ _, ?_⟩
        refine ⟨_, rfl, d, 1200, rfl, by decide, by decide, R4.dk, fun r r0 r1 Hc dc ec => ?_⟩
        have R5 := R4.fw (Fw.draw dc ec) dc
        refine ⟨_, rfl, d, 1200, rfl, by decide, by decide, R5.dk, fun y y0 y1 Hd dd ed => ?_⟩
        have R6 := R5.fw (Fw.draw dd ed) dd
        have wx6 := (wx.fw R4.dk (Fw.draw dc ec)).fw R5.dk (Fw.draw dd ed)
        refine ⟨_, _, rfl, rfl, px, qx.1, qx.2, r, 1 + y, rfl, wx6, nx2.n.mono (by decide), ⟨r0, by omega, by show r.natAbs < 1048576; omega, by show (1 + y).natAbs < 1048576; omega⟩, fun He ee => ⟨true, rfl, iteF ?_⟩⟩
        exact ⟨⟨_, _, R6.grow ee, by rw [List.length_append, hps]; rfl⟩, _, _, _, _, _, rfl⟩
      · rintro σ H2 ⟨⟨xs, ps, R, hps⟩, u4, u5, u6, u7, u8, rfl⟩
        obtain ⟨pa, qa, ga, gqa, wa, na⟩ := R.get (i := 0) (by omega)
        obtain ⟨pb, qb, gb, gqb, wb, nb⟩ := R.get (i := 1) (by omega)
        obtain ⟨da, wa0⟩ := id wa
        have noP : ∀ t b, (wf t b).lookup ("plus" : Str) = none := fun t b => wf_no _ _ (by decide +kernel) (by decide +kernel)
        have noT : ∀ t b, (wf t b).lookup ("times" : Str) = none := fun t b => wf_no _ _ (by decide +kernel) (by decide +kernel)
        refine ⟨_, rfl, .inl ⟨rfl, _, SqL.of R.ls⟩, _, rfl, l, _, 0, _, rfl, rfl, SqL.of R.ls, atI_nat (j := 0) ga, pa, da, _, rfl, wa0, noP _ _, _, rfl, l, _, 1, _, rfl, rfl, SqL.of R.ls, atI_nat (j := 1) gb, pa, pb, _, _, _, _, rfl, wa, wb, na.n.mono (by decide), nb.n.mono (by decide), fun x H3 s3 nx hx => ?_⟩
        have R3 := R.grow s3
        have nsum : Wn 83 (qa.1 * qb.2 + qb.1 * qa.2) (qa.2 * qb.2) :=
          ⟨Int.add_nonneg (Int.mul_nonneg na.n.t0 (Int.le_of_lt nb.n.b0)) (Int.mul_nonneg nb.n.t0 (Int.le_of_lt na.n.b0)), Int.mul_pos na.n.b0 nb.n.b0, (na.n.tz.mul nb.n.bz).add (nb.n.tz.mul na.n.bz), (na.n.bz.mul nb.n.bz).mono (by decide)⟩
        have nx1 := nsum.low
        obtain ⟨dxx, hx0⟩ := id hx
        refine ⟨x, dxx, _, rfl, hx0, noT _ _, _, rfl, d, 99, rfl, by decide, by decide, R3.dk, fun r r0 r1 H4 d4 e4 => ?_⟩
        have R4 := R3.fw (Fw.draw d4 e4) d4
        have hx4 := hx.fw R3.dk (Fw.draw d4 e4)
        have n3 : Wn 7 3 (1 + r) := ⟨by decide, by omega, o3, by show (1 + r).natAbs < 128; omega⟩
        refine ⟨_, _, rfl, rfl, x, _, _, 3, 1 + r, rfl, hx4, nx1.mono (by decide), n3.mono (by decide), fun y H5 s5 ny hy => ?_⟩
        have R5 := (R4.grow s5).more (show 41 ≤ 200 by decide)
        have ny1 : Wn 90 (lowT (qa.1 * qb.2 + qb.1 * qa.2) (qa.2 * qb.2) * 3) (lowB (qa.1 * qb.2 + qb.1 * qa.2) (qa.2 * qb.2) * (1 + r)) :=
          ⟨Int.mul_nonneg nx1.t0 n3.t0, Int.mul_pos nx1.b0 n3.b0, nx1.tz.mul n3.tz, nx1.bz.mul n3.bz⟩
        refine ⟨l, _, _, rfl, rfl, R5.ls, small1000 (by rw [R.len]; omega), ?_⟩
        have R6 := R5.app hy (ny1.lowest.mono (by decide))
        obtain ⟨pc, qc, gc, gqc, wc, nc⟩ := R.get (i := 2) (by omega)
        have l6 : (xs ++ [V.ref y])[5]? = some (.ref y) := by
          rw [List.getElem?_append_right (by rw [R.len, hps]; exact Nat.le_refl 5), R.len, hps]
          rfl
        have gc6 : (xs ++ [V.ref y])[2]? = some (.ref pc) := by
          rw [List.getElem?_append_left (by rw [R.len, hps]; decide)]
          exact gc
        obtain ⟨pc', qc', h1c, h2c, wc6, _⟩ := R6.get (i := 2) (by rw [List.length_append, hps]; exact Nat.lt_of_lt_of_le (by decide : 2 < 5) (Nat.le_add_right _ _))
        rw [gc6] at h1c
        cases h1c
        have eqc : qc' = qc := by
          rw [List.getElem?_append_left (by rw [hps]; decide), gqc] at h2c
          exact (Option.some.inj h2c).symm
        subst eqc
        obtain ⟨p', q', g1, g2, wy6, _⟩ := R6.get (i := 5) (by rw [List.length_append, hps]; exact Nat.lt_succ_self 5)
        rw [l6] at g1
        cases g1
        rw [List.getElem?_append_right (by rw [hps]; exact Nat.le_refl 5), hps] at g2
        cases g2
        obtain ⟨dc, wc0⟩ := id wc6
        refine ⟨_, rfl, .inl ⟨rfl, _, SqL.of R6.ls⟩, _, rfl, l, _, 2, _, rfl, rfl, SqL.of R6.ls, atI_nat (j := 2) gc6, pc, dc, _, rfl, wc0, noP _ _, _, rfl, l, _, 5, _, rfl, rfl, SqL.of R6.ls, atI_nat (j := 5) l6, pc, y, _, _, _, _, rfl, wc6, wy6, nc.n.mono (by decide), ny1.low.mono (by decide), fun u H7 s7 nu hu => ?_⟩
        have R7 := R6.grow s7
        have nz := ny1.low
        have nu1 : Wn 200 (qc'.1 * lowB (lowT (qa.1 * qb.2 + qb.1 * qa.2) (qa.2 * qb.2) * 3) (lowB (qa.1 * qb.2 + qb.1 * qa.2) (qa.2 * qb.2) * (1 + r)) + lowT (lowT (qa.1 * qb.2 + qb.1 * qa.2) (qa.2 * qb.2) * 3) (lowB (qa.1 * qb.2 + qb.1 * qa.2) (qa.2 * qb.2) * (1 + r)) * qc'.2)
            (qc'.2 * lowB (lowT (qa.1 * qb.2 + qb.1 * qa.2) (qa.2 * qb.2) * 3) (lowB (qa.1 * qb.2 + qb.1 * qa.2) (qa.2 * qb.2) * (1 + r))) :=
          ⟨Int.add_nonneg (Int.mul_nonneg nc.n.t0 (Int.le_of_lt nz.b0)) (Int.mul_nonneg nz.t0 (Int.le_of_lt nc.n.b0)), Int.mul_pos nc.n.b0 nz.b0, ((nc.n.tz.mul nz.bz).add ((nz.tz.mul nc.n.bz).mono (by decide))).mono (by decide), (nc.n.bz.mul nz.bz).mono (by decide)⟩
        refine ⟨l, _, _, rfl, rfl, R7.ls, small1000 (by rw [List.length_append, R.len, hps]; exact (by decide : 6 ≤ 1000)), ?_⟩
        have R8 := R7.app hu nu1.lowest
        generalize (xs ++ [V.ref y]) ++ [V.ref u] = ys at R8
        generalize (ps ++ _) ++ _ = qs at R8
        refine ⟨_, rfl, l, rfl, ⟨_, SqL.of R8.ls⟩, for_list (K := K) (a := l) (xs := ys) (fun i σ H' => Run C 200 H0 H' d l ys qs ∧ ∃ u4 u5 u6 u7 u8, σ = [some (.ref a), some (.int z), some (.ref d), some (.ref l), u4, u5, u6, u7, u8]) ?_ ?_ ?_ ?_⟩
        · exact ⟨R8, u4, u5, u6, u7, u8, rfl⟩
        · exact fun i σ H' _ ⟨r, _⟩ => SqL.of r.ls
        · rintro i1 x1 σ H9 hx1 ⟨R9, u4, u5, u6, u7, u8, rfl⟩
          obtain ⟨p, q, rfl, hq, _⟩ := R9.wl.at hx1
          have n1 := R9.wn q (List.mem_of_getElem? hq)
          refine ⟨_, rfl, l, rfl, ⟨_, SqL.of R9.ls⟩, for_list (K := K) (a := l) (xs := ys) (fun i σ H' => Run C 200 H0 H' d l ys qs ∧ ∃ u4 u5 u6 u8, σ = [some (.ref a), some (.int z), some (.ref d), some (.ref l), u4, u5, u6, some (.ref p), u8]) ?_ ?_ ?_ ?_⟩
          · exact ⟨R9, u4, u5, u6, u8, rfl⟩
          · exact fun i σ H' _ ⟨r, _⟩ => SqL.of r.ls
          · rintro i2 x2 σ Ha hx2 ⟨Ra, u4, u5, u6, u8, rfl⟩
            obtain ⟨p2, q2, rfl, hq2, wp2⟩ := Ra.wl.at hx2
            obtain ⟨p', q', e', hq', wp⟩ := Ra.wl.at hx1
            cases e'
            rw [hq] at hq'
            cases hq'
            have n2 := Ra.wn q2 (List.mem_of_getElem? hq2)
            refine ⟨_, rfl, _, rfl, p, p2, q.1, q.2, q2.1, q2.2, rfl, wp, wp2, n1.n, n2.n, n1.l1, n1.l2, fun Hf ef => ⟨true, rfl, iteF ?_⟩⟩
            exact ⟨Ra.grow ef, _, _, _, _, rfl⟩
          · rintro σ Ha ⟨Ra, u4, u5, u6, u8, rfl⟩
            exact ⟨Ra, _, _, _, _, _, rfl⟩
        · rintro σ H9 ⟨R9, u4, u5, u6, u7, u8, rfl⟩
          exact ⟨R9.s0, _, _, _, _, _, _, _, _, rfl⟩
    · rintro σ H' ⟨e0, v1, v2, v3, v4, v5, v6, v7, v8, rfl⟩
      exact k _
end
end K
namespace K
open PySem L2 Rp
theorem bindsI {K : PySem.W.Frag} {f : Addr} {fd : FuncData} (F : FunI K f fd) : Binds K fd ["self", "top", "bottom"] [] := by
  obtain ⟨ds, v, b⟩ := F.binds1 (ps := ["self", "top", "bottom"]) 3 1 (by simp) rfl fun T kV dc pm an cd ct us its hu hi => match us, its, hu, hi with | [_, _, _], [_], _, _ => ⟨_, rfl, rfl⟩
  cases v
  exact b
theorem bindsI1 {K : PySem.W.Frag} {f : Addr} {fd : FuncData} (F : FunI K f fd) : ∃ ds, Vals [V.int 1] ds ∧ Binds K fd ["self", "top", "bottom"] ds := by
  obtain ⟨ds, v, b⟩ := F.binds1 (ps := ["self", "top", "bottom"]) 2 0 (by simp) rfl fun T kV dc pm an cd ct us its hu hi => match us, its, hu, hi with | [_, _], [_], _, _ => ⟨_, rfl, rfl⟩
  exact ⟨ds, v, b⟩
theorem bindsT {K : PySem.W.Frag} {f : Addr} {fd : FuncData} (F : FunT K f fd) : Binds K fd ["self", "top", "bottom"] [] := by
  obtain ⟨ds, v, b⟩ := F.binds1 (ps := ["self", "top", "bottom"]) 3 1 (by simp) rfl fun T kV dc pm an cd ct us its hu hi => match us, its, hu, hi with | [_, _, _], [_], _, _ => ⟨_, rfl, rfl⟩
  cases v
  exact b
theorem bindsT1 {K : PySem.W.Frag} {f : Addr} {fd : FuncData} (F : FunT K f fd) : ∃ ds, Vals [V.int 1] ds ∧ Binds K fd ["self", "top", "bottom"] ds := by
  obtain ⟨ds, v, b⟩ := F.binds1 (ps := ["self", "top", "bottom"]) 2 0 (by simp) rfl fun T kV dc pm an cd ct us its hu hi => match us, its, hu, hi with | [_, _], [_], _, _ => ⟨_, rfl, rfl⟩
  exact ⟨ds, v, b⟩
theorem all_mk {l : PySem.W.OpenLaw} {w : World} {K : PySem.W.Frag} {h : Heap} {mg : Str → Option Value} {fa C fI fE fR fP fL fT fB fSh fW fDk fDr fLW fDv fTw fLo fIs fMa fTa fT2 fTR fLaw S fU : Addr} (X : K.In h) (G : h.Ns mainGlobals mg) (hfa : mg "law" = some (.ref fa))
    {odI anI : Option Addr} {slI : Array (Option Value)} {ocI kVI dcI pmI cdI ctI : Value}
    {ocDI : Value} {odDI : Option Addr} {nDI : Nat} {slDI : Array (Option Value)} {tkDI : Tok} {DI : Addr}
    {odE anE : Option Addr} {slE : Array (Option Value)} {ocE kVE dcE pmE cdE ctE : Value}
    {odR anR : Option Addr} {slR : Array (Option Value)} {ocR kVR dcR pmR cdR ctR : Value}
    {odP anP : Option Addr} {slP : Array (Option Value)} {ocP kVP dcP pmP cdP ctP : Value}
    {odL anL : Option Addr} {slL : Array (Option Value)} {ocL kVL dcL pmL cdL ctL : Value}
    {odT anT : Option Addr} {slT : Array (Option Value)} {ocT kVT dcT pmT cdT ctT : Value}
    {ocDT : Value} {odDT : Option Addr} {nDT : Nat} {slDT : Array (Option Value)} {tkDT : Tok} {DT : Addr}
    {odB anB : Option Addr} {slB : Array (Option Value)} {ocB kVB dcB pmB cdB ctB : Value}
    {odSh anSh : Option Addr} {slSh : Array (Option Value)} {ocSh kVSh dcSh pmSh cdSh ctSh : Value}
    {odW anW : Option Addr} {slW : Array (Option Value)} {ocW kVW dcW pmW cdW ctW : Value}
    {odDk anDk : Option Addr} {slDk : Array (Option Value)} {ocDk kVDk dcDk pmDk cdDk ctDk : Value}
    {odDr anDr : Option Addr} {slDr : Array (Option Value)} {ocDr kVDr dcDr pmDr cdDr ctDr : Value}
    {odLW anLW : Option Addr} {slLW : Array (Option Value)} {ocLW kVLW dcLW pmLW cdLW ctLW : Value}
    {odDv anDv : Option Addr} {slDv : Array (Option Value)} {ocDv kVDv dcDv pmDv cdDv ctDv : Value}
    {odTw anTw : Option Addr} {slTw : Array (Option Value)} {ocTw kVTw dcTw pmTw cdTw ctTw : Value}
    {odLo anLo : Option Addr} {slLo : Array (Option Value)} {ocLo kVLo dcLo pmLo cdLo ctLo : Value}
    {odIs anIs : Option Addr} {slIs : Array (Option Value)} {ocIs kVIs dcIs pmIs cdIs ctIs : Value}
    {odMa anMa : Option Addr} {slMa : Array (Option Value)} {ocMa kVMa dcMa pmMa cdMa ctMa : Value}
    {odTa anTa : Option Addr} {slTa : Array (Option Value)} {ocTa kVTa dcTa pmTa cdTa ctTa : Value}
    {odT2 anT2 : Option Addr} {slT2 : Array (Option Value)} {ocT2 kVT2 dcT2 pmT2 cdT2 ctT2 : Value}
    {odTR anTR : Option Addr} {slTR : Array (Option Value)} {ocTR kVTR dcTR pmTR cdTR ctTR : Value}
    {odLaw anLaw : Option Addr} {slLaw : Array (Option Value)} {ocLaw kVLaw dcLaw pmLaw cdLaw ctLaw : Value}
    {zB : Int} {tB : Tok}
    {nmS qS : Str} {NS : Addr} {bsS bmS : List Value} {snS : List Str} {sbS : List Value} {abS : Bool} {coS : Option Bool} {ddS : Option Addr} {e0S e1S e2S e3S e5S : Option Value}
    {odU anU : Option Addr} {slU : Array (Option Value)} {ocU kVU dcU pmU cdU ctU : Value}
    {Xc1 Xc2 Xc3 Xc4 Xc5 Xc6 Xc7 Xc8 Xc9 Xd1 Xd2 Xd3 Xd4 Xd5 Xk : Addr}
    (aC : PySem.W.nsIn K mainGlobals "Weight" = some (some (.ref C)))
    (aI : PySem.W.findIn K (.ref C) "__init__" = some (some (.ref fI)))
    (iI : PySem.W.isFn K (.ref fI) = true)
    (lI : K.lookup fI = some ⟨ocI, odI, .func (PySem.W.fnOf "__init__" "Weight.__init__" (defArgs sInit) (defBody sInit) (defScope sInit) (.ref DI) kVI dcI pmI anI cdI ctI), slI⟩)
    (cI : PySem.W.codeIn K cdI "Weight.__init__" = true)
    (kI : PySem.W.keepIn K (.ref fI) = true)
    (lDI : K.lookup DI = some ⟨ocDI, odDI, .seq ([Value.int 1 tkDI] : List Value).toArray nDI, slDI⟩)
    (aE : PySem.W.findIn K (.ref C) "__eq__" = some (some (.ref fE)))
    (iE : PySem.W.isFn K (.ref fE) = true)
    (lE : K.lookup fE = some ⟨ocE, odE, .func (PySem.W.fnOf "__eq__" "Weight.__eq__" (defArgs sEq) (defBody sEq) (defScope sEq) .none kVE dcE pmE anE cdE ctE), slE⟩)
    (cE : PySem.W.codeIn K cdE "Weight.__eq__" = true)
    (kE : PySem.W.keepIn K (.ref fE) = true)
    (aR : PySem.W.findIn K (.ref C) "__repr__" = some (some (.ref fR)))
    (iR : PySem.W.isFn K (.ref fR) = true)
    (lR : K.lookup fR = some ⟨ocR, odR, .func (PySem.W.fnOf "__repr__" "Weight.__repr__" (defArgs sRepr) (defBody sRepr) (defScope sRepr) .none kVR dcR pmR anR cdR ctR), slR⟩)
    (cR : PySem.W.codeIn K cdR "Weight.__repr__" = true)
    (kR : PySem.W.keepIn K (.ref fR) = true)
    (aP : PySem.W.findIn K (.ref C) "plus" = some (some (.ref fP)))
    (iP : PySem.W.isFn K (.ref fP) = true)
    (lP : K.lookup fP = some ⟨ocP, odP, .func (PySem.W.fnOf "plus" "Weight.plus" (defArgs sPlus) (defBody sPlus) (defScope sPlus) .none kVP dcP pmP anP cdP ctP), slP⟩)
    (cP : PySem.W.codeIn K cdP "Weight.plus" = true)
    (kP : PySem.W.keepIn K (.ref fP) = true)
    (aL : PySem.W.findIn K (.ref C) "less" = some (some (.ref fL)))
    (iL : PySem.W.isFn K (.ref fL) = true)
    (lL : K.lookup fL = some ⟨ocL, odL, .func (PySem.W.fnOf "less" "Weight.less" (defArgs sLess) (defBody sLess) (defScope sLess) .none kVL dcL pmL anL cdL ctL), slL⟩)
    (cL : PySem.W.codeIn K cdL "Weight.less" = true)
    (kL : PySem.W.keepIn K (.ref fL) = true)
    (aT : PySem.W.findIn K (.ref C) "times" = some (some (.ref fT)))
    (iT : PySem.W.isFn K (.ref fT) = true)
    (lT : K.lookup fT = some ⟨ocT, odT, .func (PySem.W.fnOf "times" "Weight.times" (defArgs sTimes) (defBody sTimes) (defScope sTimes) (.ref DT) kVT dcT pmT anT cdT ctT), slT⟩)
    (cT : PySem.W.codeIn K cdT "Weight.times" = true)
    (kT : PySem.W.keepIn K (.ref fT) = true)
    (lDT : K.lookup DT = some ⟨ocDT, odDT, .seq ([Value.int 1 tkDT] : List Value).toArray nDT, slDT⟩)
    (aB : PySem.W.findIn K (.ref C) "is_below" = some (some (.ref fB)))
    (iB : PySem.W.isFn K (.ref fB) = true)
    (lB : K.lookup fB = some ⟨ocB, odB, .func (PySem.W.fnOf "is_below" "Weight.is_below" (defArgs sBelow) (defBody sBelow) (defScope sBelow) .none kVB dcB pmB anB cdB ctB), slB⟩)
    (cB : PySem.W.codeIn K cdB "Weight.is_below" = true)
    (kB : PySem.W.keepIn K (.ref fB) = true)
    (aSh : PySem.W.nsIn K mainGlobals "show_whole" = some (some (.ref fSh)))
    (lSh : K.lookup fSh = some ⟨ocSh, odSh, .func (PySem.W.fnOf "show_whole" "show_whole" (defArgs sShow) (defBody sShow) (defScope sShow) .none kVSh dcSh pmSh anSh cdSh ctSh), slSh⟩)
    (cSh : PySem.W.codeIn K cdSh "show_whole" = true)
    (kSh : PySem.W.keepIn K (.ref fSh) = true)
    (aW : PySem.W.nsIn K mainGlobals "is_whole" = some (some (.ref fW)))
    (lW : K.lookup fW = some ⟨ocW, odW, .func (PySem.W.fnOf "is_whole" "is_whole" (defArgs sWhole) (defBody sWhole) (defScope sWhole) .none kVW dcW pmW anW cdW ctW), slW⟩)
    (cW : PySem.W.codeIn K cdW "is_whole" = true)
    (kW : PySem.W.keepIn K (.ref fW) = true)
    (aDk : PySem.W.nsIn K mainGlobals "_law_deck" = some (some (.ref fDk)))
    (lDk : K.lookup fDk = some ⟨ocDk, odDk, .func (PySem.W.fnOf "_law_deck" "_law_deck" (defArgs sDeck) (defBody sDeck) (defScope sDeck) .none kVDk dcDk pmDk anDk cdDk ctDk), slDk⟩)
    (cDk : PySem.W.codeIn K cdDk "_law_deck" = true)
    (kDk : PySem.W.keepIn K (.ref fDk) = true)
    (aDr : PySem.W.nsIn K mainGlobals "_law_draw" = some (some (.ref fDr)))
    (lDr : K.lookup fDr = some ⟨ocDr, odDr, .func (PySem.W.fnOf "_law_draw" "_law_draw" (defArgs sDraw) (defBody sDraw) (defScope sDraw) .none kVDr dcDr pmDr anDr cdDr ctDr), slDr⟩)
    (cDr : PySem.W.codeIn K cdDr "_law_draw" = true)
    (kDr : PySem.W.keepIn K (.ref fDr) = true)
    (aLW : PySem.W.nsIn K mainGlobals "_law_whole" = some (some (.ref fLW)))
    (lLW : K.lookup fLW = some ⟨ocLW, odLW, .func (PySem.W.fnOf "_law_whole" "_law_whole" (defArgs sLWhole) (defBody sLWhole) (defScope sLWhole) .none kVLW dcLW pmLW anLW cdLW ctLW), slLW⟩)
    (cLW : PySem.W.codeIn K cdLW "_law_whole" = true)
    (kLW : PySem.W.keepIn K (.ref fLW) = true)
    (aDv : PySem.W.nsIn K mainGlobals "_law_divides" = some (some (.ref fDv)))
    (lDv : K.lookup fDv = some ⟨ocDv, odDv, .func (PySem.W.fnOf "_law_divides" "_law_divides" (defArgs sDiv) (defBody sDiv) (defScope sDiv) .none kVDv dcDv pmDv anDv cdDv ctDv), slDv⟩)
    (cDv : PySem.W.codeIn K cdDv "_law_divides" = true)
    (kDv : PySem.W.keepIn K (.ref fDv) = true)
    (aTw : PySem.W.nsIn K mainGlobals "_law_two" = some (some (.ref fTw)))
    (lTw : K.lookup fTw = some ⟨ocTw, odTw, .func (PySem.W.fnOf "_law_two" "_law_two" (defArgs sTwo) (defBody sTwo) (defScope sTwo) .none kVTw dcTw pmTw anTw cdTw ctTw), slTw⟩)
    (cTw : PySem.W.codeIn K cdTw "_law_two" = true)
    (kTw : PySem.W.keepIn K (.ref fTw) = true)
    (aLo : PySem.W.nsIn K mainGlobals "_law_lowest" = some (some (.ref fLo)))
    (lLo : K.lookup fLo = some ⟨ocLo, odLo, .func (PySem.W.fnOf "_law_lowest" "_law_lowest" (defArgs sLow) (defBody sLow) (defScope sLow) .none kVLo dcLo pmLo anLo cdLo ctLo), slLo⟩)
    (cLo : PySem.W.codeIn K cdLo "_law_lowest" = true)
    (kLo : PySem.W.keepIn K (.ref fLo) = true)
    (aIs : PySem.W.nsIn K mainGlobals "_law_is" = some (some (.ref fIs)))
    (lIs : K.lookup fIs = some ⟨ocIs, odIs, .func (PySem.W.fnOf "_law_is" "_law_is" (defArgs sIs) (defBody sIs) (defScope sIs) .none kVIs dcIs pmIs anIs cdIs ctIs), slIs⟩)
    (cIs : PySem.W.codeIn K cdIs "_law_is" = true)
    (kIs : PySem.W.keepIn K (.ref fIs) = true)
    (aMa : PySem.W.nsIn K mainGlobals "_law_marks_of" = some (some (.ref fMa)))
    (lMa : K.lookup fMa = some ⟨ocMa, odMa, .func (PySem.W.fnOf "_law_marks_of" "_law_marks_of" (defArgs sMarks) (defBody sMarks) (defScope sMarks) .none kVMa dcMa pmMa anMa cdMa ctMa), slMa⟩)
    (cMa : PySem.W.codeIn K cdMa "_law_marks_of" = true)
    (kMa : PySem.W.keepIn K (.ref fMa) = true)
    (aTa : PySem.W.nsIn K mainGlobals "_law_taken" = some (some (.ref fTa)))
    (lTa : K.lookup fTa = some ⟨ocTa, odTa, .func (PySem.W.fnOf "_law_taken" "_law_taken" (defArgs sTaken) (defBody sTaken) (defScope sTaken) .none kVTa dcTa pmTa anTa cdTa ctTa), slTa⟩)
    (cTa : PySem.W.codeIn K cdTa "_law_taken" = true)
    (kTa : PySem.W.keepIn K (.ref fTa) = true)
    (aT2 : PySem.W.nsIn K mainGlobals "_law_two_right" = some (some (.ref fT2)))
    (lT2 : K.lookup fT2 = some ⟨ocT2, odT2, .func (PySem.W.fnOf "_law_two_right" "_law_two_right" (defArgs sTwoR) (defBody sTwoR) (defScope sTwoR) .none kVT2 dcT2 pmT2 anT2 cdT2 ctT2), slT2⟩)
    (cT2 : PySem.W.codeIn K cdT2 "_law_two_right" = true)
    (kT2 : PySem.W.keepIn K (.ref fT2) = true)
    (aTR : PySem.W.nsIn K mainGlobals "_law_times_right" = some (some (.ref fTR)))
    (lTR : K.lookup fTR = some ⟨ocTR, odTR, .func (PySem.W.fnOf "_law_times_right" "_law_times_right" (defArgs sTimesR) (defBody sTimesR) (defScope sTimesR) .none kVTR dcTR pmTR anTR cdTR ctTR), slTR⟩)
    (cTR : PySem.W.codeIn K cdTR "_law_times_right" = true)
    (kTR : PySem.W.keepIn K (.ref fTR) = true)
    (aLaw : PySem.W.nsIn K mainGlobals "law" = some (some (.ref fLaw)))
    (lLaw : K.lookup fLaw = some ⟨ocLaw, odLaw, .func (PySem.W.fnOf "law" "law" (defArgs sLaw) (defBody sLaw) (defScope sLaw) .none kVLaw dcLaw pmLaw anLaw cdLaw ctLaw), slLaw⟩)
    (cLaw : PySem.W.codeIn K cdLaw "law" = true)
    (kLaw : PySem.W.keepIn K (.ref fLaw) = true)
    (pg : PySem.W.plainGet K C Str.empty = true)
    (hd : PySem.W.hasDictIn K C = true)
    (po : PySem.W.plainOver K C = true)
    (sa : PySem.W.findIn K (.ref C) "__setattr__" = some (some (.builtin "object.__setattr__")))
    (mk : PySem.W.makesIn K C = true)
    (kc : PySem.W.keepIn K (.ref C) = true)
    (nT' : PySem.W.findIn K (.ref C) "top" = some none)
    (nB' : PySem.W.findIn K (.ref C) "bottom" = some none)
    (wa : PySem.W.findIn K (.ref C) "__class__" = some (some (.builtin "object.__class__")))
    (wn : PySem.W.specialIn K (.builtin "object.__class__") "__get__" = some (some (.builtin "getset_descriptor.__get__")))
    (wt : PySem.W.takesIn K (.builtin "object.__class__") = some true)
    (wm : PySem.W.mroIn K C (.type "object") = some true)
    (wne : PySem.W.findIn K (.ref C) "__ne__" = some (some (.builtin "object.__ne__")))
    (gcd : PySem.W.nsIn K mainGlobals "gcd" = some (some (.builtin "math.gcd")))
    (blk : PySem.W.nsIn K mainGlobals "BLOCK" = some (some (.int zB tB)))
    (big : (2 : Int) ^ 1600 ≤ zB)
    (aS : PySem.W.nsIn K mainGlobals "Short" = some (some (.ref S)))
    (xS : K.lookup S = some (excClassObj nmS qS S NS bsS bmS true snS sbS abS coS ddS e0S e1S e2S e3S e5S "ValueError.__new__"))
    (bS : PySem.HandSPX.refsVE bmS = true)
    (saS : PySem.W.findIn K (.ref S) "__setattr__" = some (some (.builtin "object.__setattr__")))
    (exS : PySem.W.subIn K (.ref S) (.type "BaseException") = some true)
    (tyS : PySem.W.typeIn K (.ref S) = some (.type "type"))
    (kS : PySem.W.keepIn K (.ref S) = true)
    (iS : PySem.W.findIn K (.ref S) "__init__" = some (some (.ref fU)))
    (tU : PySem.W.typeIn K (.ref fU) = some (.type "function"))
    (nS : PySem.W.findIn K (.ref S) "lacks" = some none)
    (gaS : PySem.W.findIn K (.ref S) "__getattribute__" = some (some (.builtin "BaseException.__getattribute__")))
    (ggS : PySem.W.findIn K (.ref S) "__getattr__" = some none)
    (hdS : PySem.W.hasDictIn K S = true)
    (waS : PySem.W.findIn K (.ref S) "__class__" = some (some (.builtin "object.__class__")))
    (wmS : PySem.W.mroIn K S (.type "object") = some true)
    (lU : K.lookup fU = some ⟨ocU, odU, .func (PySem.W.fnOf "__init__" "Unborne.__init__" (defArgs sUnI) (defBody sUnI) (defScope sUnI) .none kVU dcU pmU anU cdU ctU), slU⟩)
    (cU : PySem.W.codeIn K cdU "Unborne.__init__" = true)
    (kU : PySem.W.keepIn K (.ref fU) = true)
    (g_c1 : PySem.W.nsIn K mainGlobals "NoName" = some (some (.ref Xc1)))
    (q_c1 : PySem.W.kitOne K (.ref S) (.ref Xc1) = some false)
    (g_c2 : PySem.W.nsIn K mainGlobals "NoGrains" = some (some (.ref Xc2)))
    (q_c2 : PySem.W.kitOne K (.ref S) (.ref Xc2) = some false)
    (g_c3 : PySem.W.nsIn K mainGlobals "NoDay" = some (some (.ref Xc3)))
    (q_c3 : PySem.W.kitOne K (.ref S) (.ref Xc3) = some false)
    (g_c4 : PySem.W.nsIn K mainGlobals "NoWeight" = some (some (.ref Xc4)))
    (q_c4 : PySem.W.kitOne K (.ref S) (.ref Xc4) = some false)
    (g_c5 : PySem.W.nsIn K mainGlobals "NoDeed" = some (some (.ref Xc5)))
    (q_c5 : PySem.W.kitOne K (.ref S) (.ref Xc5) = some false)
    (g_c6 : PySem.W.nsIn K mainGlobals "NoRow" = some (some (.ref Xc6)))
    (q_c6 : PySem.W.kitOne K (.ref S) (.ref Xc6) = some false)
    (g_c7 : PySem.W.nsIn K mainGlobals "NoText" = some (some (.ref Xc7)))
    (q_c7 : PySem.W.kitOne K (.ref S) (.ref Xc7) = some false)
    (g_c8 : PySem.W.nsIn K mainGlobals "Unknown" = some (some (.ref Xc8)))
    (q_c8 : PySem.W.kitOne K (.ref S) (.ref Xc8) = some false)
    (g_c9 : PySem.W.nsIn K mainGlobals "Unborne" = some (some (.ref Xc9)))
    (q_c9 : PySem.W.kitOne K (.ref S) (.ref Xc9) = some true)
    (g_d1 : PySem.W.nsIn K mainGlobals "Twice" = some (some (.ref Xd1)))
    (q_d1 : PySem.W.kitOne K (.ref S) (.ref Xd1) = some false)
    (g_d2 : PySem.W.nsIn K mainGlobals "TooLate" = some (some (.ref Xd2)))
    (q_d2 : PySem.W.kitOne K (.ref S) (.ref Xd2) = some false)
    (g_d3 : PySem.W.nsIn K mainGlobals "NoSum" = some (some (.ref Xd3)))
    (q_d3 : PySem.W.kitOne K (.ref S) (.ref Xd3) = some false)
    (g_d4 : PySem.W.nsIn K mainGlobals "Full" = some (some (.ref Xd4)))
    (q_d4 : PySem.W.kitOne K (.ref S) (.ref Xd4) = some false)
    (g_d5 : PySem.W.nsIn K mainGlobals "NotAlike" = some (some (.ref Xd5)))
    (q_d5 : PySem.W.kitOne K (.ref S) (.ref Xd5) = some false)
    (g_k : PySem.W.nsIn K mainGlobals "CaskError" = some (some (.ref Xk)))
    (q_k : PySem.W.kitOne K (.ref S) (.ref Xk) = some true)
    (q_v : PySem.W.kitOne K (.ref S) (.type "ValueError") = some true)
    (kx1 : PySem.W.subIn K (.ref Xk) (.type "BaseException") = some true)
    (kx2 : PySem.W.hasDictIn K Xk = true)
    (kx3 : PySem.W.typeIn K (.ref Xk) = some (.type "type"))
    (kx4 : PySem.W.subIn K (.ref S) (.ref Xk) = some true)
    (z_isinstance : PySem.W.nsIn K mainGlobals "isinstance" = some none)
    (z_int : PySem.W.nsIn K mainGlobals "int" = some none)
    (z_bool : PySem.W.nsIn K mainGlobals "bool" = some none)
    (z_abs : PySem.W.nsIn K mainGlobals "abs" = some none)
    (z_max : PySem.W.nsIn K mainGlobals "max" = some none)
    (z_range : PySem.W.nsIn K mainGlobals "range" = some none)
    (z_str : PySem.W.nsIn K mainGlobals "str" = some none)
    (z_reversed : PySem.W.nsIn K mainGlobals "reversed" = some none)
    (z_repr : PySem.W.nsIn K mainGlobals "repr" = some none)
    (z_ValueError : PySem.W.nsIn K mainGlobals "ValueError" = some none) :
    ∃ fd : FuncData, (∀ (s : Shared) (v : Value), BindsTo s fd ⟨[v], []⟩ [("_law_script", v)]) ∧ ∀ base : Heap, K.In base → base.Ns mainGlobals mg → FnG l.prog w K mg base CX0 8 fa fd ["_law_script"] (spLaw K) := by
  have e := hfa.symm.trans (PySem.W.mg_of X G aLaw)
  cases e
  have T : WTxt K mg C fW := ⟨⟨pg, hd, po, sa⟩, nT', nB', PySem.W.mg_of X G aC, PySem.W.mg_of X G aW, kW, PySem.W.mg_of X G gcd⟩
  have N : WIns K C := ⟨wa, wn, wt, wm⟩
  have B : Blt mg := ⟨PySem.W.mg_none_of X G z_isinstance, PySem.W.mg_none_of X G z_int, PySem.W.mg_none_of X G z_bool⟩
  have ZO : OexC K S := ⟨⟨nmS, qS, NS, bsS, bmS, snS, sbS, abS, coS, ddS, e0S, e1S, e2S, e3S, e5S, xS, bS⟩, saS, exS, tyS, kS⟩
  have ZS : STxt K mg S fU := ⟨PySem.W.mg_of X G aS, ZO, iS, tU, nS⟩
  have MT : MTxt K mg S := ⟨⟨gaS, ggS, exS, hdS, waS, wn, wt, wmS⟩, PySem.W.mg_none_of X G z_isinstance, ⟨_, PySem.W.mg_of X G g_c1, q_c1⟩, ⟨_, PySem.W.mg_of X G g_c2, q_c2⟩, ⟨_, PySem.W.mg_of X G g_c3, q_c3⟩, ⟨_, PySem.W.mg_of X G g_c4, q_c4⟩, ⟨_, PySem.W.mg_of X G g_c5, q_c5⟩, ⟨_, PySem.W.mg_of X G g_c6, q_c6⟩, ⟨_, PySem.W.mg_of X G g_c7, q_c7⟩, ⟨_, PySem.W.mg_of X G g_c8, q_c8⟩, ⟨_, PySem.W.mg_of X G g_c9, q_c9⟩, ⟨_, PySem.W.mg_of X G g_d1, q_d1⟩, ⟨_, PySem.W.mg_of X G g_d2, q_d2⟩, ⟨_, PySem.W.mg_of X G g_d3, q_d3⟩, ⟨_, PySem.W.mg_of X G g_d4, q_d4⟩, ⟨_, PySem.W.mg_of X G g_d5, q_d5⟩, ⟨_, PySem.W.mg_of X G g_k, q_k⟩, ⟨S, PySem.W.mg_of X G aS, kit_self⟩, PySem.W.mg_none_of X G z_ValueError, q_v⟩
  have O : OwnE K C fE := ⟨aE, iE, wne, wm⟩
  have FI : FunI K fI _ := ⟨⟨_, _, _, _, _, _, _, _, _, _, rfl, lI, cI, .inr ⟨by simp, DI, _, [Value.int 1 tkDI], _, rfl, lDI, rfl, .cons ⟨_, rfl⟩ .nil⟩, .inl rfl⟩, kI⟩
  have FT : FunT K fT _ := ⟨⟨_, _, _, _, _, _, _, _, _, _, rfl, lT, cT, .inr ⟨by simp, DT, _, [Value.int 1 tkDT], _, rfl, lDT, rfl, .cons ⟨_, rfl⟩ .nil⟩, .inl rfl⟩, kT⟩
  have FE := fun_mk (st := sEq) lE cE kE
  have mE : Me K C "__eq__" fE _ _ := ⟨⟨aE, iE, kE⟩, FE.binds (ps := ["self", "other"]) fun _ _ _ _ _ _ us hl => match us, hl with | [_, _], _ => rfl⟩
  have FR := fun_mk (st := sRepr) lR cR kR
  have mR : Me K C "__repr__" fR _ _ := ⟨⟨aR, iR, kR⟩, FR.binds (ps := ["self"]) fun _ _ _ _ _ _ us hl => match us, hl with | [_], _ => rfl⟩
  have FP := fun_mk (st := sPlus) lP cP kP
  have mP : Me K C "plus" fP _ _ := ⟨⟨aP, iP, kP⟩, FP.binds (ps := ["self", "other"]) fun _ _ _ _ _ _ us hl => match us, hl with | [_, _], _ => rfl⟩
  have FL := fun_mk (st := sLess) lL cL kL
  have mL : Me K C "less" fL _ _ := ⟨⟨aL, iL, kL⟩, FL.binds (ps := ["self", "other"]) fun _ _ _ _ _ _ us hl => match us, hl with | [_, _], _ => rfl⟩
  have FB := fun_mk (st := sBelow) lB cB kB
  have mB : Me K C "is_below" fB _ _ := ⟨⟨aB, iB, kB⟩, FB.binds (ps := ["self", "other"]) fun _ _ _ _ _ _ us hl => match us, hl with | [_, _], _ => rfl⟩
  have mT : Me K C "times" fT _ ["self", "top", "bottom"] := ⟨⟨aT, iT, kT⟩, bindsT FT⟩
  have FU := fun_mk (st := sUnI) lU cU kU
  have bU := FU.binds (ps := ["self", "lacks"]) fun _ _ _ _ _ _ us hl => match us, hl with | [_, _], _ => rfl
  have FSh := fun_mk (st := sShow) lSh cSh kSh
  have qSh : Cl K mg "show_whole" fSh _ _ := ⟨PySem.W.mg_of X G aSh, kSh, FSh.binds (ps := ["number"]) fun _ _ _ _ _ _ us hl => match us, hl with | [_], _ => rfl⟩
  have FW := fun_mk (st := sWhole) lW cW kW
  have qW : Cl K mg "is_whole" fW _ _ := ⟨PySem.W.mg_of X G aW, kW, FW.binds (ps := ["thing"]) fun _ _ _ _ _ _ us hl => match us, hl with | [_], _ => rfl⟩
  have FDk := fun_mk (st := sDeck) lDk cDk kDk
  have qDk : Cl K mg "_law_deck" fDk _ _ := ⟨PySem.W.mg_of X G aDk, kDk, FDk.binds (ps := ["_law_cell"]) fun _ _ _ _ _ _ us hl => match us, hl with | [_], _ => rfl⟩
  have FDr := fun_mk (st := sDraw) lDr cDr kDr
  have qDr : Cl K mg "_law_draw" fDr _ _ := ⟨PySem.W.mg_of X G aDr, kDr, FDr.binds (ps := ["_law_deck_here", "_law_most"]) fun _ _ _ _ _ _ us hl => match us, hl with | [_, _], _ => rfl⟩
  have FLW := fun_mk (st := sLWhole) lLW cLW kLW
  have qLW : Cl K mg "_law_whole" fLW _ _ := ⟨PySem.W.mg_of X G aLW, kLW, FLW.binds (ps := ["_law_thing"]) fun _ _ _ _ _ _ us hl => match us, hl with | [_], _ => rfl⟩
  have FDv := fun_mk (st := sDiv) lDv cDv kDv
  have qDv : Cl K mg "_law_divides" fDv _ _ := ⟨PySem.W.mg_of X G aDv, kDv, FDv.binds (ps := ["_law_one", "_law_other"]) fun _ _ _ _ _ _ us hl => match us, hl with | [_, _], _ => rfl⟩
  have FTw := fun_mk (st := sTwo) lTw cTw kTw
  have qTw : Cl K mg "_law_two" fTw _ _ := ⟨PySem.W.mg_of X G aTw, kTw, FTw.binds (ps := ["_law_deck_here"]) fun _ _ _ _ _ _ us hl => match us, hl with | [_], _ => rfl⟩
  have FLo := fun_mk (st := sLow) lLo cLo kLo
  have qLo : Cl K mg "_law_lowest" fLo _ _ := ⟨PySem.W.mg_of X G aLo, kLo, FLo.binds (ps := ["_law_top", "_law_bottom"]) fun _ _ _ _ _ _ us hl => match us, hl with | [_, _], _ => rfl⟩
  have FIs := fun_mk (st := sIs) lIs cIs kIs
  have qIs : Cl K mg "_law_is" fIs _ _ := ⟨PySem.W.mg_of X G aIs, kIs, FIs.binds (ps := ["_law_found", "_law_top", "_law_bottom"]) fun _ _ _ _ _ _ us hl => match us, hl with | [_, _, _], _ => rfl⟩
  have FMa := fun_mk (st := sMarks) lMa cMa kMa
  have qMa : Cl K mg "_law_marks_of" fMa _ _ := ⟨PySem.W.mg_of X G aMa, kMa, FMa.binds (ps := ["_law_e", "_law_right"]) fun _ _ _ _ _ _ us hl => match us, hl with | [_, _], _ => rfl⟩
  have FTa := fun_mk (st := sTaken) lTa cTa kTa
  have qTa : Cl K mg "_law_taken" fTa _ _ := ⟨PySem.W.mg_of X G aTa, kTa, FTa.binds (ps := ["_law_one", "_law_other"]) fun _ _ _ _ _ _ us hl => match us, hl with | [_, _], _ => rfl⟩
  have FT2 := fun_mk (st := sTwoR) lT2 cT2 kT2
  have qT2 : Cl K mg "_law_two_right" fT2 _ _ := ⟨PySem.W.mg_of X G aT2, kT2, FT2.binds (ps := ["_law_one", "_law_other"]) fun _ _ _ _ _ _ us hl => match us, hl with | [_, _], _ => rfl⟩
  have FTR := fun_mk (st := sTimesR) lTR cTR kTR
  have qTR : Cl K mg "_law_times_right" fTR _ _ := ⟨PySem.W.mg_of X G aTR, kTR, FTR.binds (ps := ["_law_one", "_law_top", "_law_bottom"]) fun _ _ _ _ _ _ us hl => match us, hl with | [_, _, _], _ => rfl⟩
  have FLaw := fun_mk (st := sLaw) lLaw cLaw kLaw
  refine ⟨PySem.W.fnOf "law" "law" (defArgs sLaw) (defBody sLaw) (defScope sLaw) .none kVLaw dcLaw pmLaw anLaw cdLaw ctLaw, fun s v => .of_eq rfl, fun base _ _ => ?_⟩
  have M : Mk K C fI := ⟨mk, aI, iI, kc⟩
  have GW := ok_whole (P := l.prog) (w := w) (base := base) FW B
  have GLW := ok_lwhole (P := l.prog) (w := w) (base := base) FLW B
  have GI := ok_init FI T GW qW.b
  have GSh := ok_show (P := l.prog) (w := w) (mg := mg) (base := base) FSh (PySem.W.mg_none_of X G z_str) (PySem.W.mg_none_of X G z_reversed) (PySem.W.mg_of X G blk) big
  have GR := ok_repr FR T qSh GSh
  have GE := ok_eq (P := l.prog) (w := w) (base := base) FE T B N
  have GP := ok_plus FP T M GI (bindsI FI)
  have GB := ok_below (P := l.prog) (w := w) (base := base) FB T
  have GU := ok_unI (P := l.prog) (w := w) (base := base) FU ZS
  have GL0 := ok_less0 FL T M GI (bindsI FI) mB GB
  have GL := ok_less FL T M GI (bindsI FI) mB GB ZS GU bU mL
  have GT := ok_times FT T M GI (bindsI FI)
  obtain ⟨ds, vd, b1⟩ := bindsT1 FT
  have GDk := ok_deck (P := l.prog) (w := w) (mg := mg) (base := base) FDk B
  have GDr := ok_draw (P := l.prog) (w := w) (mg := mg) (base := base) FDr
  have GDv := ok_div (P := l.prog) (w := w) (mg := mg) (base := base) FDv (PySem.W.mg_none_of X G z_abs)
  have GTw := ok_two FTw (PySem.W.mg_none_of X G z_max) (PySem.W.mg_none_of X G z_range) qDr GDr
  have GLo := ok_low FLo qDv GDv
  have GIs := ok_is FIs T B N qLW GLW qLo GLo
  have GMa := ok_marks (P := l.prog) (w := w) (base := base) FMa MT
  have GTa := ok_taken FTa T mL GL ZS MT qMa GMa (PySem.W.mg_of X G g_k) (PySem.W.exm_ref kx1 kx2 kx3 kx4)
  have GT2 := ok_twoR FT2 T N B (PySem.W.mg_none_of X G z_repr) (PySem.W.mg_none_of X G z_abs) GR aR iR mR.b mP GP mL GL0 qIs GIs qTa GTa O GE mE.b
  have GTR := ok_timesR FTR T mT GT vd b1 qIs GIs
  exact ok_law FLaw T (PySem.W.mg_none_of X G z_range) M GI (bindsI FI) mP GP mT GT qDk GDk qDr GDr qTw GTw qTR GTR qT2 GT2
theorem walk {l : PySem.W.OpenLaw} {q : Program} {loose : List Str} {XP : (Str → Option Value) → Heap → Prop} {YP : World → Heap → Prop} {d : DefRec} {K : Params → PySem.W.Frag} (hn : l.most = some 63) (hdf : d.params.defaults = [])
    (hY : ∀ (w : World) (h : Heap), YP w h → (K w.params).In h)
    (F : ∀ (w : World) (mg : Str → Option Value) (fa : Addr) (h : Heap), (K w.params).In h → h.Ns mainGlobals mg → mg d.name = some (.ref fa) →
      ∃ fd : FuncData, (∀ (s : Shared) (u : Value), BindsTo s fd ⟨[u], []⟩ [("_law_script", u)]) ∧ ∀ base : Heap, (K w.params).In base → base.Ns mainGlobals mg → FnG l.prog w (K w.params) mg base CX0 8 fa fd ["_law_script"] (spLaw (K w.params))) :
    PySem.W.WalkO q loose XP YP l.row.toRowW d [] (fun f vs => PySem.call f vs) :=
  walk_ofG (n := 63) (k := 8) (x := "_law_script") (CX := fun _ => CX0) (sp := fun w => spLaw (K w.params)) hn (by decide) hdf ⟨rfl, by decide, by decide⟩ hY F (fun _ _ a ns hl _ hS => ⟨a, ns, rfl, hS, hl, fun _ => rfl⟩) fun _ _ _ _ _ z => z
end K
open PySem PySem.W PyProof.Rows
set_option maxRecDepth 100000 in
set_option maxHeartbeats 0 in
theorem PySem.Challenge.cw_casknotes_k05_weights_reckoned_holds : PySem.Challenge.rw_casknotes_k05_weights_reckoned.Holds := by
  w_on; o_law; k_head; (case hw => w_witness2)
  k_fill
  refine K.walk (l := PySem.Challenge.rw_casknotes_k05_weights_reckoned) rfl rfl (fun w h Y => PySem.W.kIn_of Y) ?F
  case F =>
    intro w mg fa h KX G hmg
    refine' K.all_mk KX G hmg ?aC ?aI ?iI ?lI ?cI ?kI ?lDI ?aE ?iE ?lE ?cE ?kE ?aR ?iR ?lR ?cR ?kR ?aP ?iP ?lP ?cP ?kP ?aL ?iL ?lL ?cL ?kL ?aT ?iT ?lT ?cT ?kT ?lDT ?aB ?iB ?lB ?cB ?kB ?aSh ?lSh ?cSh ?kSh ?aW ?lW ?cW ?kW ?aDk ?lDk ?cDk ?kDk ?aDr ?lDr ?cDr ?kDr ?aLW ?lLW ?cLW ?kLW ?aDv ?lDv ?cDv ?kDv ?aTw ?lTw ?cTw ?kTw ?aLo ?lLo ?cLo ?kLo ?aIs ?lIs ?cIs ?kIs ?aMa ?lMa ?cMa ?kMa ?aTa ?lTa ?cTa ?kTa ?aT2 ?lT2 ?cT2 ?kT2 ?aTR ?lTR ?cTR ?kTR ?aLaw ?lLaw ?cLaw ?kLaw ?pg ?hd ?po ?sa ?mk ?kc ?nT_ ?nB_ ?wa ?wn ?wt ?wm ?wne ?gcd ?blk ?big ?aS ?xS ?bS ?saS ?exS ?tyS ?kS ?iS ?tU ?nS ?gaS ?ggS ?hdS ?waS ?wmS ?lU ?cU ?kU ?g_c1 ?q_c1 ?g_c2 ?q_c2 ?g_c3 ?q_c3 ?g_c4 ?q_c4 ?g_c5 ?q_c5 ?g_c6 ?q_c6 ?g_c7 ?q_c7 ?g_c8 ?q_c8 ?g_c9 ?q_c9 ?g_d1 ?q_d1 ?g_d2 ?q_d2 ?g_d3 ?q_d3 ?g_d4 ?q_d4 ?g_d5 ?q_d5 ?g_k ?q_k ?q_v ?kx1 ?kx2 ?kx3 ?kx4 ?z_isinstance ?z_int ?z_bool ?z_abs ?z_max ?z_range ?z_str ?z_reversed ?z_repr ?z_ValueError
    (case aC => k_is)
    (case aI => k_is)
    (case iI => k_is)
    (case lI => k_is)
    (case cI => k_is)
    (case kI => k_is)
    (case lDI => k_is)
    (case aE => k_is)
    (case iE => k_is)
    (case lE => k_is)
    (case cE => k_is)
    (case kE => k_is)
    (case aR => k_is)
    (case iR => k_is)
    (case lR => k_is)
    (case cR => k_is)
    (case kR => k_is)
    (case aP => k_is)
    (case iP => k_is)
    (case lP => k_is)
    (case cP => k_is)
    (case kP => k_is)
    (case aL => k_is)
    (case iL => k_is)
    (case lL => k_is)
    (case cL => k_is)
    (case kL => k_is)
    (case aT => k_is)
    (case iT => k_is)
    (case lT => k_is)
    (case cT => k_is)
    (case kT => k_is)
    (case lDT => k_is)
    (case aB => k_is)
    (case iB => k_is)
    (case lB => k_is)
    (case cB => k_is)
    (case kB => k_is)
    (case aSh => k_is)
    (case lSh => k_is)
    (case cSh => k_is)
    (case kSh => k_is)
    (case aW => k_is)
    (case lW => k_is)
    (case cW => k_is)
    (case kW => k_is)
    (case aDk => k_is)
    (case lDk => k_is)
    (case cDk => k_is)
    (case kDk => k_is)
    (case aDr => k_is)
    (case lDr => k_is)
    (case cDr => k_is)
    (case kDr => k_is)
    (case aLW => k_is)
    (case lLW => k_is)
    (case cLW => k_is)
    (case kLW => k_is)
    (case aDv => k_is)
    (case lDv => k_is)
    (case cDv => k_is)
    (case kDv => k_is)
    (case aTw => k_is)
    (case lTw => k_is)
    (case cTw => k_is)
    (case kTw => k_is)
    (case aLo => k_is)
    (case lLo => k_is)
    (case cLo => k_is)
    (case kLo => k_is)
    (case aIs => k_is)
    (case lIs => k_is)
    (case cIs => k_is)
    (case kIs => k_is)
    (case aMa => k_is)
    (case lMa => k_is)
    (case cMa => k_is)
    (case kMa => k_is)
    (case aTa => k_is)
    (case lTa => k_is)
    (case cTa => k_is)
    (case kTa => k_is)
    (case aT2 => k_is)
    (case lT2 => k_is)
    (case cT2 => k_is)
    (case kT2 => k_is)
    (case aTR => k_is)
    (case lTR => k_is)
    (case cTR => k_is)
    (case kTR => k_is)
    (case aLaw => k_is)
    (case lLaw => k_is)
    (case cLaw => k_is)
    (case kLaw => k_is)
    (case pg => k_is)
    (case hd => k_is)
    (case po => k_is)
    (case sa => k_is)
    (case mk => k_is)
    (case kc => k_is)
    (case nT_ => k_is)
    (case nB_ => k_is)
    (case wa => k_is)
    (case wn => k_is)
    (case wt => k_is)
    (case wm => k_is)
    (case wne => k_is)
    (case gcd => k_is)
    (case blk => k_is)
    (case big => decide +kernel)
    (case aS => k_is)
    (case xS => k_is)
    (case bS => decide +kernel)
    (case saS => k_is)
    (case exS => k_is)
    (case tyS => k_is)
    (case kS => k_is)
    (case iS => k_is)
    (case tU => k_is)
    (case nS => k_is)
    (case gaS => k_is)
    (case ggS => k_is)
    (case hdS => k_is)
    (case waS => k_is)
    (case wmS => k_is)
    (case lU => k_is)
    (case cU => k_is)
    (case kU => k_is)
    (case g_c1 => k_is)
    (case q_c1 => kit_is)
    (case g_c2 => k_is)
    (case q_c2 => kit_is)
    (case g_c3 => k_is)
    (case q_c3 => kit_is)
    (case g_c4 => k_is)
    (case q_c4 => kit_is)
    (case g_c5 => k_is)
    (case q_c5 => kit_is)
    (case g_c6 => k_is)
    (case q_c6 => kit_is)
    (case g_c7 => k_is)
    (case q_c7 => kit_is)
    (case g_c8 => k_is)
    (case q_c8 => kit_is)
    (case g_c9 => k_is)
    (case q_c9 => kit_is)
    (case g_d1 => k_is)
    (case q_d1 => kit_is)
    (case g_d2 => k_is)
    (case q_d2 => kit_is)
    (case g_d3 => k_is)
    (case q_d3 => kit_is)
    (case g_d4 => k_is)
    (case q_d4 => kit_is)
    (case g_d5 => k_is)
    (case q_d5 => kit_is)
    (case g_k => k_is)
    (case q_k => kit_is)
    (case q_v => kit_is)
    (case kx1 => k_is)
    (case kx2 => k_is)
    (case kx3 => k_is)
    (case kx4 => k_is)
    (case z_isinstance => k_is)
    (case z_int => k_is)
    (case z_bool => k_is)
    (case z_abs => k_is)
    (case z_max => k_is)
    (case z_range => k_is)
    (case z_str => k_is)
    (case z_reversed => k_is)
    (case z_repr => k_is)
    (case z_ValueError => k_is)
