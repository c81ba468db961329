import PyProof.Rows.All
import Wide.All
import OpenK.AllK
import Wide.FinOn
import HandS.Base
import HandS.Call
import HandS.List
import HandS.Comp
import HandS.Conv
import HandS.Text
import HandS.Words
import HandS.WordsList
import HandS.Ends
import HandS.SortInts
import HandS.Wide
import HandS.IsInst
import HandS.More
import HandS.Evl
import HandS.Defaults
import HandS.Zip
import HandS.ExcOwn
import PyProof.ReprRoads
import PySem.Challenge.RW_lastother_k14_calls_applied
set_option Elab.async false
set_option linter.all false
set_option maxRecDepth 100000
set_option maxHeartbeats 4000000
/-! Lineups over the hand layer: what stands where, and rules of my own. -/
namespace LX
open PySem L2

/-! ### own operator rules -/
def CPowW (i j : Int) : Prop := 0 ≤ j ∧ j ≤ 1000 ∧ i.natAbs < 2 ^ 1000
theorem op_powW {X : Cx} : OpR X (binaryOp .Pow) (rI CPowW fun i j => .int (i ^ j.toNat)) := opI fun i j _ _ _ _ _ hc q => by
  refine PyProof.Rows.pow_int hc.1 ?_ q
  have h1 : Builtin.Int.intBits i ≤ 1000 := PyProof.Rows.intBits_le hc.2.2
  have h2 : (Builtin.Int.intBits i : Int) ≤ 1000 := by omega
  have h3 := Int.mul_le_mul h2 hc.2.1 hc.1 (by decide : (0:Int) ≤ 1000)
  exact Int.le_trans h3 (by decide)

/-! ### the rules that speak of the written part, with its name -/
section
variable {X : Cx} {K : PySem.W.Frag} {e o : Expr} {es : List Expr} {te to : TE} {t : TA} {pos apos cpos : Pos}
theorem kix_list (h : X.K = K := by rfl) : IxR X (rIxL K) := h ▸ ix_list
theorem kix_tup (h : X.K = K := by rfl) : IxR X (rIxT K) := h ▸ ix_tup
theorem ksl_list (h : X.K = K := by rfl) : SlR X (rSlL K) := h ▸ sl_list
def qLen (K : PySem.W.Frag) : List V → Hp → VK → Prop := fun xs H Q => ∃ p ys, xs = [.ref p] ∧ (SqL K H p ys ∨ SqT K H p ys) ∧ Q (.int ys.length) H
theorem klen (h : X.K = K := by rfl) : CallR X (.builtin "len") (qLen K) := h ▸ call_len_seq
def qList (K : PySem.W.Frag) : List V → Hp → VK → Prop := fun xs H Q => ∃ p ys, xs = [.ref p] ∧ (SqL K H p ys ∨ SqT K H p ys) ∧ ∀ l, H l = none → Q (.ref l) (upd H l (.lst ys))
theorem klist (h : X.K = K := by rfl) : CallR X (.type "list") (qList K) := h ▸ call_list_of
theorem ksorted (h : X.K = K := by rfl) : CallR X (.builtin "sorted") (rSortedI K) := h ▸ cr_sortedI
theorem kall (hc : X.calm = true) (h : X.K = K := by rfl) : CallR X (.builtin "all") (rAll K) := h ▸ cr_all hc
theorem kany (hc : X.calm = true) (h : X.K = K := by rfl) : CallR X (.builtin "any") (rAny K) := h ▸ cr_any hc
theorem ksum (hc : X.calm = true) (h : X.K = K := by rfl) : CallR X (.builtin "sum") (rSum K) := h ▸ cr_sum hc
theorem kisi (h : X.K = K := by rfl) : CallR X (.builtin "isinstance") (rIsi K) := h ▸ call_isi
theorem kisiT (h : X.K = K := by rfl) : CallR X (.builtin "isinstance") (rIsiT K) := h ▸ call_isiT
theorem kin (h : X.K = K := by rfl) : OpR X (compareOp .In) (rIn K false) := h ▸ op_in_seq
theorem knotIn (h : X.K = K := by rfl) : OpR X (compareOp .NotIn) (rIn K true) := h ▸ op_notIn_seq
theorem keqD (hu : X.A.units + 64 < cLine) (h : X.K = K := by rfl) : OpR X (compareOp .Eq) (rEqD K) := h ▸ op_eqD hu
theorem kneD (hu : X.A.units + 64 < cLine) (h : X.K = K := by rfl) : OpR X (compareOp .NotEq) (rNeD K) := h ▸ op_neD hu
theorem kpi_list {tg : Expr} (he : PE X e te) (h : X.K = K := by rfl) : PI X tg e (iList K te) := h ▸ pi_list he
theorem kbm {T id : String} {name : Str} {r : V → List V → Hp → VK → Prop} (p1 : PySem.PlainAttrs T) (p2 : PySem.Slot T name id) (p3 : typeOf (.builtin id) = pure (.type "method_descriptor")) (m : MtR X id r) (ho : PE X o to) (ha : PA X (e :: es) t)
    (q1 : attributeBase o name X.env (eval o X.env) = eval o X.env := by rfl)
    (q2 : ((backTo cpos (starEach (e :: es) X.env)).all (fun y => !y.1) && (backToKw cpos (keywordEach [] X.env)).all (fun y => y.1.isSome) && decide ((e :: es).length + ([] : List Keyword).length + (if ([] : List Keyword).isEmpty then 0 else 1) < 30)) = true := by rfl)
    (q3 : (apos.endLine == cpos.line) = true := by rfl) (q4 : starEach (e :: es) X.env = (false, eval e X.env) :: starEach es X.env := by rfl) (q5 : (backTo cpos (starEach es X.env)).any (·.1) = false := by rfl) (h : X.K = K := by rfl) :
    PE X (.Call (.Attribute o name apos) (e :: es) [] cpos) (tBM K T r to t) := h ▸ pe_bm p1 p2 p3 m ho ha q1 q2 q3 q4 q5
theorem kbm0 {T id : String} {name : Str} {r : V → List V → Hp → VK → Prop} (p1 : PySem.PlainAttrs T) (p2 : PySem.Slot T name id) (p3 : typeOf (.builtin id) = pure (.type "method_descriptor")) (m : MtR X id r) (ho : PE X o to)
    (q1 : attributeBase o name X.env (eval o X.env) = eval o X.env := by rfl) (q3 : (apos.endLine == cpos.line) = true := by rfl) (h : X.K = K := by rfl) :
    PE X (.Call (.Attribute o name apos) [] [] cpos) (tBM0 K T r to) := h ▸ pe_bm0 p1 p2 p3 m ho q1 q3
def qTru (K : PySem.W.Frag) (ta : TE) : TT := fun σ H Q => ta σ H fun x H' => ∃ k, TruV K x H' k ∧ Q k H'
theorem kpt_truth {b : Expr} {tb : TE} (hb : PE X b tb) (g : ∀ whole, isTrue b X.env whole = (do let v ← whole; standAt b.pos; holding [v] (truthy v))) (h : X.K = K := by rfl) : PT X b (qTru K tb) := h ▸ pt_truth hb g
theorem kpg_tup {k n : Nat} {u : TGs} (hc : X.calm = true) (hp : PGs X es u) (hn : (assignEach es X.env).length = n := by rfl) (hst : (assignEach es X.env).findIdx? (·.1) = none := by rfl) (h : X.K = K := by rfl) :
    PG X (.Tuple es k pos) (gTup K n u) := h ▸ pg_tup hc hp hn hst
end

/-! ### heaps -/
def Same' (p : Addr) (H H' : Hp) : Prop := ∀ b o, H b = some o → b ≠ p → H' b = some o
theorem Same'.refl (p : Addr) (H : Hp) : Same' p H H := fun _ _ h _ => h
theorem Same'.trans {p : Addr} {H H1 H2 : Hp} (a : Same' p H H1) (b : Same' p H1 H2) : Same' p H H2 := fun c o h n => b c o (a c o h n) n
theorem Same'.upd {p : Addr} {H : Hp} {o : HO} : Same' p H (upd H p o) := fun b u h n => by
  rw [upd_ne n]
  exact h
/-- a row of people: person, color (a code) -/
abbrev Row := List (Nat × Nat)
abbrev sg (c : Nat) : V := .str ⟨#[c]⟩
def oV : Option Nat → V
  | some c => sg c
  | none => .non
abbrev pr (e : Nat × Nat) : List V := [.int (e.1 : Int), sg e.2]
def TupsAt (H : Hp) : List Addr → Row → Prop
  | [], [] => True
  | t :: ts, e :: r => H t = some (.tup (pr e)) ∧ TupsAt H ts r
  | _, _ => False
theorem TupsAt.len {H : Hp} : ∀ {ts : List Addr} {r : Row}, TupsAt H ts r → ts.length = r.length
  | [], [], _ => rfl
  | _ :: ts, _ :: r, h => congrArg (· + 1) (TupsAt.len (ts := ts) (r := r) h.2)
  | [], _ :: _, h => h.elim
  | _ :: _, [], h => h.elim
theorem TupsAt.mono {H H' : Hp} : ∀ {ts : List Addr} {r : Row}, TupsAt H ts r → (∀ b xs, H b = some (.tup xs) → H' b = some (.tup xs)) → TupsAt H' ts r
  | [], [], _, _ => True.intro
  | _ :: ts, _ :: r, h, k => ⟨k _ _ h.1, TupsAt.mono (ts := ts) (r := r) h.2 k⟩
  | [], _ :: _, h, _ => h.elim
  | _ :: _, [], h, _ => h.elim
theorem TupsAt.get {H : Hp} : ∀ {ts : List Addr} {r : Row} {i : Nat} {t : Addr}, TupsAt H ts r → ts[i]? = some t → ∃ e, r[i]? = some e ∧ H t = some (.tup (pr e))
  | [], [], i, t, _, h => by simp at h
  | _ :: ts, e :: r, 0, t, h, q => by
    simp at q
    subst q
    exact ⟨e, rfl, h.1⟩
  | _ :: ts, _ :: r, i + 1, t, h, q => by
    simp at q
    obtain ⟨e, h1, h2⟩ := TupsAt.get (ts := ts) (r := r) h.2 q
    exact ⟨e, by simpa using h1, h2⟩
  | [], _ :: _, _, _, h, _ => h.elim
  | _ :: _, [], _, _, h, _ => h.elim
theorem TupsAt.app {H : Hp} : ∀ {ts us : List Addr} {r q : Row}, TupsAt H ts r → TupsAt H us q → TupsAt H (ts ++ us) (r ++ q)
  | [], _, [], _, _, h => h
  | _ :: ts, us, _ :: r, q, h, k => ⟨h.1, TupsAt.app (ts := ts) (r := r) h.2 k⟩
  | [], _, _ :: _, _, h, _ => h.elim
  | _ :: _, _, [], _, h, _ => h.elim
theorem TupsAt.take {H : Hp} : ∀ {ts : List Addr} {r : Row} (n : Nat), TupsAt H ts r → TupsAt H (ts.take n) (r.take n)
  | _, _, 0, _ => True.intro
  | [], [], _ + 1, _ => True.intro
  | _ :: ts, _ :: r, n + 1, h => ⟨h.1, TupsAt.take (ts := ts) (r := r) n h.2⟩
  | [], _ :: _, _ + 1, h => h.elim
  | _ :: _, [], _ + 1, h => h.elim
theorem TupsAt.drop {H : Hp} : ∀ {ts : List Addr} {r : Row} (n : Nat), TupsAt H ts r → TupsAt H (ts.drop n) (r.drop n)
  | _, _, 0, h => h
  | [], [], _ + 1, _ => True.intro
  | _ :: ts, _ :: r, n + 1, h => TupsAt.drop (ts := ts) (r := r) n h.2
  | [], _ :: _, _ + 1, h => h.elim
  | _ :: _, [], _ + 1, h => h.elim
theorem TupsAt.one {H : Hp} {t : Addr} {e : Nat × Nat} (h : H t = some (.tup (pr e))) : TupsAt H [t] [e] := ⟨h, True.intro⟩
def RowAt (H : Hp) (a : Addr) (r : Row) : Prop := ∃ ts : List Addr, H a = some (.lst (ts.map V.ref)) ∧ TupsAt H ts r
theorem sTups {H H' : Hp} (s : Same H H') : ∀ b xs, H b = some (.tup xs) → H' b = some (.tup xs) := fun b xs h => s b _ h
theorem RowAt.same {H H' : Hp} {a : Addr} {r : Row} (h : RowAt H a r) (s : Same H H') : RowAt H' a r :=
  let ⟨ts, h1, h2⟩ := h
  ⟨ts, s _ _ h1, h2.mono (sTups s)⟩
/-- a list at p is not the tuples' -/
theorem RowAt.same' {H H' : Hp} {a p : Addr} {r : Row} {xs : List V} (h : RowAt H a r) (s : Same' p H H') (hp : H p = some (.lst xs)) (n : a ≠ p) : RowAt H' a r :=
  let ⟨ts, h1, h2⟩ := h
  ⟨ts, s _ _ h1 n, h2.mono fun b ys e => s b _ e fun q => by
    rw [q, hp] at e
    cases e⟩
theorem sNew {H : Hp} {p : Addr} {o : HO} (h : H p = none) : Same H (upd H p o) := fun a u e => by
  rw [upd_ne (ne_of_none e h)]
  exact e
/-- a change of an object that H does not know -/
theorem sUpd {H H' : Hp} {p : Addr} {o : HO} (s : Same H H') (h : H p = none) : Same H (upd H' p o) := fun a u e => by
  rw [upd_ne (ne_of_none e h)]
  exact s a u e
theorem sTo {H H' : Hp} (p : Addr) (s : Same H H') : Same' p H H' := fun b o h _ => s b o h

/-! ### the draws' bag -/
structure Src (H : Hp) (p : Addr) : Prop where
  ex : ∃ s0 s1 s2 : Int, H p = some (.lst [.int s0, .int s1, .int s2]) ∧ s1.natAbs < 2 ^ 400
theorem Src.same {H H' : Hp} {p : Addr} (h : Src H p) (s : Same H H') : Src H' p :=
  let ⟨s0, s1, s2, h1, h2⟩ := h.ex
  ⟨s0, s1, s2, s _ _ h1, h2⟩
theorem Src.lst {H : Hp} {p : Addr} (h : Src H p) : ∃ xs, H p = some (.lst xs) :=
  let ⟨s0, s1, s2, h1, _⟩ := h.ex
  ⟨_, h1⟩

/-! ### readings, step by step -/
section
variable {σ : St} {H : Hp} {Q : VK} {v x y : V} {ta tb tc te : TE} {r r' : R2} {i : Nat} {K : PySem.W.Frag} {t u : TT} {t1 t2 : TS} {D : Ends} {g : TG} {QB : Bool → Hp → Prop} {QA : List V → Hp → Prop} {tr : TA}
theorem rd_var (e : σ[i]? = some (some v)) (q : Q v H) : tVar i σ H Q := ⟨v, e, q⟩
theorem rd_c (q : Q v H) : tC v σ H Q := q
theorem rd_op (q : ta σ H fun x H1 => tb σ H1 fun y H2 => r x y H2 Q) : tOp r ta tb σ H Q := q
theorem rd_un {r : V → Hp → VK → Prop} (q : ta σ H fun x H1 => r x H1 Q) : tUn r ta σ H Q := q
theorem rd_I0 {f : Int → Int → V} {a b : Int} (q : Q (f a b) H) : rI0 f (.int a) (.int b) H Q := ⟨a, b, rfl, rfl, q⟩
theorem rd_I {C : Int → Int → Prop} {f : Int → Int → V} {a b : Int} (c : C a b) (q : Q (f a b) H) : rI C f (.int a) (.int b) H Q := ⟨a, b, rfl, rfl, c, q⟩
theorem rd_U {f : Int → V} {a : Int} (q : Q (f a) H) : rU f (.int a) H Q := ⟨a, rfl, q⟩
theorem rd_eq (s : scal x y = true) (q : Q (.bl (decide (x = y))) H) : rEq x y H Q := ⟨s, q⟩
theorem rd_ne (s : scal x y = true) (q : Q (.bl (!decide (x = y))) H) : rNe x y H Q := ⟨s, q⟩
theorem rd_test (q : te σ H fun x H' => ∃ k, x = .bl k ∧ QB k H') : tTest te σ H QB := q
theorem rd_tB (q : te σ H fun x H' => ∃ k, x = .bl k ∧ QB k H') : tB te σ H QB := q
theorem rd_bl {b : Bool} {R : Bool → Prop} (q : R b) : ∃ k, V.bl b = .bl k ∧ R k := ⟨b, rfl, q⟩
theorem rd_dec {p A B : Prop} [Decidable p] (h1 : p → A) (h2 : ¬ p → B) : if decide p = true then A else B := by
  by_cases h : p
  · rw [decide_eq_true h]
    exact iteT (h1 h)
  · rw [decide_eq_false h]
    exact iteF (h2 h)
theorem rd_ndec {p A B : Prop} [Decidable p] (h1 : ¬ p → A) (h2 : p → B) : if (!decide p) = true then A else B := by
  by_cases h : p
  · rw [decide_eq_true h]
    exact iteF (h2 h)
  · rw [decide_eq_false h]
    exact iteT (h1 h)
theorem rd_nt {A B : Prop} (h : B) : if (!true) = true then A else B := iteF h
theorem rd_nf {A B : Prop} (h : A) : if (!false) = true then A else B := iteT h
theorem rd_yes {p A B : Prop} [Decidable p] (h : p) (q : A) : if decide p = true then A else B := rd_dec (fun _ => q) fun n => absurd h n
theorem rd_no {p A B : Prop} [Decidable p] (h : ¬ p) (q : B) : if decide p = true then A else B := rd_dec (fun n => absurd n h) fun _ => q
theorem rd_2i {a b : Int} {R : Int → Int → Prop} (q : R a b) : ∃ i j, [V.int a, V.int b] = [V.int i, V.int j] ∧ R i j := ⟨a, b, rfl, q⟩
theorem rd_chain (q : ta σ H fun x H1 => tb σ H1 fun y H2 => r x y H2 fun z H3 => ∃ k, z = .bl k ∧ (if k = true then tc σ H3 fun w' H4 => r' y w' H4 Q else Q (.bl false) H3)) : tChain r r' ta tb tc σ H Q := q
theorem rd_and (q : t σ H fun c H1 => if c = true then u σ H1 QB else QB false H1) : tAnd t u σ H QB := q
theorem rd_or (q : t σ H fun c H1 => if c = true then QB true H1 else u σ H1 QB) : tOr t u σ H QB := q
theorem rd_not (q : t σ H fun c H1 => QB (!c) H1) : tNot t σ H QB := q
theorem rd_andV (q : ta σ H fun x H1 => ∃ c, x = .bl c ∧ if c = true then tb σ H1 Q else Q (.bl false) H1) : tAndV ta tb σ H Q := q
theorem rd_orV (q : ta σ H fun x H1 => ∃ c, x = .bl c ∧ if c = true then Q (.bl true) H1 else tb σ H1 Q) : tOrV ta tb σ H Q := q
theorem rd_notV (q : ta σ H fun x H1 => ∃ c, x = .bl c ∧ Q (.bl (!c)) H1) : tNotV ta σ H Q := q
theorem rd_ifE (q : t σ H fun c H1 => if c = true then ta σ H1 Q else tb σ H1 Q) : tIf t ta tb σ H Q := q
theorem rd_next (q : D.nx σ H) : tNext D σ H := q
theorem rd_seq (q : t1 { D with nx := t2 D } σ H) : tSeq t1 t2 D σ H := q
theorem rd_drop (q : te σ H fun _ H1 => D.nx σ H1) : tDrop te D σ H := q
theorem rd_ret (q : te σ H D.rt) : tRet te D σ H := q
theorem rd_ifS (q : t σ H fun b H1 => if b = true then t1 D σ H1 else t2 D σ H1) : tIfS t t1 t2 D σ H := q
theorem rd_asg (q : te σ H fun x H1 => g x σ H1 D.nx) : tAsg te g D σ H := q
theorem rd_name {R : St → Hp → Prop} (q : R (σ.set i (some v)) H) : gName i v σ H R := q
theorem rd_par {j : Nat} (q : tr σ H fun vs H1 => ∃ v w, vs = [v, w] ∧ D.nx ((σ.set i (some v)).set j (some w)) H1) : tPar i j tr D σ H := q
theorem rd_two {v w : V} {R : V → V → Prop} (q : R v w) : ∃ a b, [v, w] = [a, b] ∧ R a b := ⟨v, w, rfl, q⟩
theorem rd_nil (q : QA [] H) : tNil σ H QA := q
theorem rd_cons (q : ta σ H fun x H1 => tr σ H1 fun xs H2 => QA (x :: xs) H2) : tCons ta tr σ H QA := q
theorem rd_tup (q : tr σ H fun xs H1 => xs.length ≤ sizeLine ∧ ∀ p, H1 p = none → Q (.ref p) (upd H1 p (.tup xs))) : tTup tr σ H Q := q
theorem rd_lst (q : tr σ H fun xs H1 => xs.length ≤ sizeLine ∧ ∀ p, H1 p = none → Q (.ref p) (upd H1 p (.lst xs))) : tLst tr σ H Q := q
theorem rd_cb {r : List V → Hp → VK → Prop} (q : tr σ H fun vs H1 => r vs H1 Q) : tCB r tr σ H Q := q
theorem rd_call {sp : Sp} {dvs : List V} {E : XK} (q : tr σ H fun vs H1 => sp (vs ++ dvs) H1 Q E) : tCall sp dvs E tr σ H Q := q
theorem rd_ixL {p : Addr} {xs : List V} {j : Int} (h : H p = some (.lst xs)) (a : atI xs j = some v) (q : Q v H) : rIxL K (.ref p) (.int j) H Q := ⟨p, xs, j, v, rfl, rfl, SqL.of h, a, q⟩
theorem rd_ixT {p : Addr} {xs : List V} {j : Int} (h : H p = some (.tup xs)) (a : atI xs j = some v) (q : Q v H) : rIxT K (.ref p) (.int j) H Q := ⟨p, xs, j, v, rfl, rfl, SqT.of h, a, q⟩
theorem rd_sub {to ti : TE} {s : TSet} {R : St → Hp → Prop} (q : to σ H fun o H1 => ti σ H1 fun i H2 => s o i v H2 fun H3 => R σ H3) : gSub to ti s v σ H R := q
theorem rd_setL {p : Addr} {xs : List V} {k : Int} {j : Nat} {R : Hp → Prop} (h : H p = some (.lst xs)) (e : ixN xs.length k = some j) (q : R (upd H p (.lst (xs.set j v)))) : rSetL (.ref p) (.int k) v H R := ⟨p, xs, k, j, rfl, rfl, h, e, q⟩
theorem rd_len {p : Addr} {xs : List V} (h : H p = some (.lst xs)) (q : Q (.int xs.length) H) : qLen K [.ref p] H Q := ⟨p, xs, rfl, Or.inl (SqL.of h), q⟩
theorem rd_sl {tl th : TO} {r : V → Option Int → Option Int → Hp → VK → Prop} (q : te σ H fun x H1 => tl σ H1 fun l H2 => th σ H2 fun u H3 => r x l u H3 Q) : tSl r te tl th σ H Q := q
theorem rd_nopart {R : Option Int → Hp → Prop} (q : R none H) : tNoPart σ H R := q
theorem rd_part {R : Option Int → Hp → Prop} (q : te σ H fun x H1 => ∃ i, x = .int i ∧ R (some i) H1) : tPart te σ H R := q
theorem rd_int {j : Int} {R : Int → Prop} (q : R j) : ∃ i, V.int j = .int i ∧ R i := ⟨j, rfl, q⟩
theorem rd_slL {p : Addr} {xs : List V} {l u : Option Int} (h : H p = some (.lst xs)) (q : ∀ b, H b = none → Q (.ref b) (upd H b (.lst (cutV xs l u)))) : rSlL K (.ref p) l u H Q := ⟨p, xs, rfl, SqL.of h, q⟩
theorem rd_cat {p b : Addr} {xs ys : List V} (h : H p = some (.lst xs)) (h2 : H b = some (.lst ys)) (z : xs.length + ys.length ≤ sizeLine) (q : ∀ c, H c = none → Q (.ref c) (upd H c (.lst (xs ++ ys)))) : rCat (.ref p) (.ref b) H Q := ⟨p, b, xs, ys, rfl, rfl, h, h2, z, q⟩
theorem rd_isN (q : Q (.bl (decide (x = .non))) H) : (fun x y H Q => y = V.non ∧ Q (.bl (decide (x = .non))) H : R2) x .non H Q := ⟨rfl, q⟩
theorem rd_bm {T : String} {r : V → List V → Hp → VK → Prop} (q : te σ H fun x H1 => tyV K T x H1 ∧ tr σ H1 fun xs H2 => r x xs H2 Q) : tBM K T r te tr σ H Q := q
theorem rd_bm0 {T : String} {r : V → List V → Hp → VK → Prop} (q : te σ H fun x H1 => tyV K T x H1 ∧ r x [] H1 Q) : tBM0 K T r te σ H Q := q
theorem rd_for {wi : TI} (q : wi σ H fun J H1 => ∃ W : Nat → Nat → St → Hp → Prop, (∃ m, W 0 m σ H1) ∧ ∀ i m σ H, W i m σ H →
  (J.stop i H ∧ D.nx σ H) ∨ (J.go i H ∧ ∃ N : St → Hp → Prop, (∀ σ' H', N σ' H' → ∃ m', m' < m ∧ W (i + 1) m' σ' H') ∧ ∀ x H', J.yld i H x H' → g x σ H' fun σ2 H2 => t1 { D with nx := N, ct := N, bk := D.nx } σ2 H2)) : tFor wi g t1 D σ H := q
theorem rd_iList {tl : TE} {R : It → Hp → Prop} (q : tl σ H fun x H1 => ∃ a, x = .ref a ∧ (∃ xs, SqL K H1 a xs) ∧ R (Itl K a) H1) : iList K tl σ H R := q
theorem rd_gtup {n : Nat} {s : TGs} {p : Addr} {xs : List V} {R : St → Hp → Prop} (h : H p = some (.tup xs)) (z : xs.length = n) (q : s xs σ H R) : gTup K n s (.ref p) σ H R := ⟨p, xs, rfl, SqT.of h, z, q⟩
theorem rd_gcons {s : TG} {w : TGs} {vs : List V} {R : St → Hp → Prop} (q : s v σ H fun σ' H' => w vs σ' H' R) : gCons s w (v :: vs) σ H R := ⟨v, vs, rfl, q⟩
theorem rd_gnil {R : St → Hp → Prop} (q : R σ H) : gNil [] σ H R := ⟨rfl, q⟩
theorem rd_sl_len {n : Nat} (h : n ≤ 1000) : n ≤ sizeLine := Nat.le_of_lt (small1000 h)
end

section
variable {σ : St} {H : Hp} {Q : VK} {v x y : V} {K : PySem.W.Frag} {ta te : TE} {D : Ends} {g : TG} {tb : TS}
theorem rd_typ {n : String} (h : zTyV v H = some n) (q : Q (.ty n) H) : r1 kTyp [v] H Q := ⟨n, h, q⟩
theorem rd_2ty {m n : String} {R : String → String → Prop} (q : R m n) : ∃ a b, V.ty m = V.ty a ∧ V.ty n = V.ty b ∧ R a b := ⟨m, n, rfl, rfl, q⟩
theorem rd_NT {m n : String} (q : Q (.bl (!decide (m = n))) H) : rNT (.ty m) (.ty n) H Q := ⟨m, n, rfl, rfl, q⟩
theorem rd_2s {m n : Str} {R : Str → Str → Prop} (q : R m n) : ∃ a b, V.str m = V.str a ∧ V.str n = V.str b ∧ R a b := ⟨m, n, rfl, rfl, q⟩
theorem rd_lenS {m : Str} {R : Str → Prop} (q : R m) : ∃ a, [V.str m] = [V.str a] ∧ R a := ⟨m, rfl, q⟩
theorem rd_lenT {p : Addr} {xs : List V} (h : H p = some (.tup xs)) (q : Q (.int xs.length) H) : qLen K [.ref p] H Q := ⟨p, xs, rfl, Or.inr (SqT.of h), q⟩
theorem rd_isi {t u : Value} {c : V} {b : Bool} (h1 : ClsV c u) (h2 : TyX K H v t) (h3 : PySem.W.kitOne K t u = some b) (q : Q (.bl b) H) : rIsi K [v, c] H Q := ⟨v, c, t, u, b, rfl, h1, h2, h3, q⟩
theorem rd_listOf {p : Addr} {xs : List V} (h : H p = some (.lst xs)) (q : ∀ l, H l = none → Q (.ref l) (upd H l (.lst xs))) : qList K [.ref p] H Q := ⟨p, xs, rfl, Or.inl (SqL.of h), q⟩
theorem rd_rep {p : Addr} {xs : List V} {k : Int} (h : H p = some (.lst xs)) (h1 : 0 ≤ k) (h2 : k < 2 ^ 62) (z : xs.length * k.toNat ≤ sizeLine) (q : rRep (.ref p) (.int k) H Q) : rRep (.ref p) (.int k) H Q := q
/-- for i, x in enumerate(xs): every turn has a new tuple -/
theorem for_enum {a : Addr} {xs : List V} {σ : St} {H : Hp} (Pv : Nat → St → Hp → Prop) (h0 : Pv 0 σ H) (hl : ∀ i σ H, i ≤ xs.length → Pv i σ H → SqL K H a xs)
    (hs : ∀ i x (T : Addr) σ H, xs[i]? = some x → Pv i σ H → H T = none → g (.ref T) σ (upd H T (.tup [.int (i : Nat), x])) fun σ2 H2 => tb { D with nx := Pv (i + 1), ct := Pv (i + 1), bk := D.nx } σ2 H2) (hd : ∀ σ H, Pv xs.length σ H → D.nx σ H) :
    ∃ W : Nat → Nat → St → Hp → Prop, (∃ m, W 0 m σ H) ∧ ∀ i m σ H, W i m σ H →
      ((Ite K a).stop i H ∧ D.nx σ H) ∨ ((Ite K a).go i H ∧ ∃ N : St → Hp → Prop, (∀ σ' H', N σ' H' → ∃ m', m' < m ∧ W (i + 1) m' σ' H') ∧ ∀ x H', (Ite K a).yld i H x H' → g x σ H' fun σ2 H2 => tb { D with nx := N, ct := N, bk := D.nx } σ2 H2) := by
  refine ⟨fun i m σ H => m = xs.length - i ∧ i ≤ xs.length ∧ Pv i σ H, ⟨_, rfl, Nat.zero_le _, h0⟩, fun i m σ H hw => ?_⟩
  obtain ⟨rfl, hi, p⟩ := hw
  have q := hl i σ H hi p
  by_cases hlt : i < xs.length
  · have hx : xs[i]? = some xs[i] := List.getElem?_eq_getElem hlt
    refine Or.inr ⟨⟨xs, xs[i], q, hx⟩, Pv (i + 1), fun σ' H' p' => ⟨xs.length - (i + 1), by omega, rfl, hlt, p'⟩, fun x H' ⟨T, z, e1, e2, e3, e4⟩ => ?_⟩
    subst e1 e3
    have ez : z = xs[i] := Option.some.inj ((e4 xs q).symm.trans hx)
    subst ez
    exact hs i _ T σ H hx p e2
  · have e : i = xs.length := by omega
    subst e
    exact Or.inl ⟨⟨xs, q, Nat.le_refl _⟩, hd σ H p⟩
end

/-! ### rows: the first other color, the colors by person, a call -/
def fo (r : Row) (c : Nat) : Option Nat := (r.find? fun e => e.2 != c).map (·.2)
def colOf (r : Row) (q : Nat) : Nat := ((r.find? fun e => e.1 == q).map (·.2)).getD 0
theorem fo_nil (c : Nat) : fo [] c = none := rfl
theorem fo_yes {e : Nat × Nat} {r : Row} {c : Nat} (h : e.2 ≠ c) : fo (e :: r) c = some e.2 := by
  unfold fo
  rw [List.find?_cons_of_pos (by simpa using h)]
  rfl
theorem fo_no {e : Nat × Nat} {r : Row} {c : Nat} (h : e.2 = c) : fo (e :: r) c = fo r c := by
  unfold fo
  rw [List.find?_cons_of_neg (by simpa using h)]
theorem drop_of {α : Type} {l : List α} {i : Nat} {x : α} (h : l[i]? = some x) : l.drop i = x :: l.drop (i + 1) := by
  obtain ⟨h1, h2⟩ := List.getElem?_eq_some_iff.mp h
  rw [← h2]
  exact List.drop_eq_getElem_cons h1
structure Vr (r : Row) : Prop where
  n1 : 1 ≤ r.length
  n2 : r.length ≤ 60
  col : ∀ e ∈ r, 97 ≤ e.2 ∧ e.2 ≤ 122
  perm : (r.map (·.1)).Perm (List.range r.length)
theorem Vr.lt {r : Row} (h : Vr r) {e : Nat × Nat} (he : e ∈ r) : e.1 < r.length := by
  have := h.perm.mem_iff.mp (List.mem_map_of_mem (f := (·.1)) he)
  exact List.mem_range.mp this
theorem Vr.nodup {r : Row} (h : Vr r) : (r.map (·.1)).Nodup := h.perm.nodup_iff.mpr List.nodup_range
theorem Vr.has {r : Row} (h : Vr r) {q : Nat} (hq : q < r.length) : ∃ e ∈ r, e.1 = q := by
  have := h.perm.mem_iff.mpr (List.mem_range.mpr hq)
  obtain ⟨e, h1, h2⟩ := List.mem_map.mp this
  exact ⟨e, h1, h2⟩
/-- the list that colors_by_person fills -/
def fillC (l : List V) (r : Row) : List V := r.foldl (fun l e => l.set e.1 (sg e.2)) l
theorem fillC_len (r : Row) : ∀ l : List V, (fillC l r).length = l.length := by
  induction r with
  | nil => intro l; rfl
  | cons e r ih =>
    intro l
    show (fillC (l.set e.1 (sg e.2)) r).length = _
    rw [ih, List.length_set]
theorem fillC_no {q : Nat} : ∀ (r : Row) (l : List V), (∀ e ∈ r, e.1 ≠ q) → (fillC l r)[q]? = l[q]? := by
  intro r
  induction r with
  | nil => intro l _; rfl
  | cons e r ih =>
    intro l h
    show (fillC (l.set e.1 (sg e.2)) r)[q]? = _
    rw [ih _ fun x hx => h x (List.mem_cons_of_mem _ hx), List.getElem?_set_ne (h e List.mem_cons_self)]
theorem fillC_at {q : Nat} : ∀ (r : Row) (l : List V), (r.map (·.1)).Nodup → q < l.length → (∃ e ∈ r, e.1 = q) → (fillC l r)[q]? = some (sg (colOf r q)) := by
  intro r
  induction r with
  | nil =>
    intro l _ _ h
    obtain ⟨e, he, _⟩ := h
    cases he
  | cons e r ih =>
    intro l nd hl h
    have nd' := List.nodup_cons.mp (show (e.1 :: r.map (·.1)).Nodup from nd)
    show (fillC (l.set e.1 (sg e.2)) r)[q]? = _
    by_cases c : e.1 = q
    · rw [fillC_no r _ fun x hx z => nd'.1 (by rw [c, ← z]; exact List.mem_map_of_mem (f := (·.1)) hx), c, List.getElem?_set_self hl]
      unfold colOf
      rw [List.find?_cons_of_pos (by simpa using c)]
      rfl
    · rw [ih _ nd'.2 (by rw [List.length_set]; exact hl) ?_]
      · unfold colOf
        rw [List.find?_cons_of_neg (by simpa using c)]
      · obtain ⟨x, hx, hq⟩ := h
        rcases List.mem_cons.mp hx with z | z
        · exact absurd (z ▸ hq) c
        · exact ⟨x, z, hq⟩
def byPerson (r : Row) : List V := (List.range r.length).map fun q => sg (colOf r q)
theorem fillC_is {r : Row} (h : Vr r) {x : V} : fillC (List.replicate r.length x) r = byPerson r := by
  apply List.ext_getElem?
  intro q
  unfold byPerson
  rw [List.getElem?_map]
  by_cases c : q < r.length
  · rw [fillC_at r _ h.nodup (by rw [List.length_replicate]; exact c) (h.has c), List.getElem?_range c]
    rfl
  · rw [List.getElem?_eq_none (by rw [fillC_len, List.length_replicate]; omega), List.getElem?_eq_none (by rw [List.length_range]; omega)]
    rfl
def app (r : Row) (p : Nat) : Row := (p, (fo r (colOf r p)).getD (colOf r p)) :: r.filter fun e => e.1 != p
theorem flat_rep {α : Type} (x : α) : ∀ n : Nat, (List.replicate n [x]).flatten = List.replicate n x
  | 0 => rfl
  | n + 1 => by
    rw [List.replicate_succ, List.flatten_cons, flat_rep x n]
    rfl
theorem fillC_snoc (l : List V) (r : Row) (e : Nat × Nat) : fillC l (r ++ [e]) = (fillC l r).set e.1 (sg e.2) := by
  unfold fillC
  rw [List.foldl_append]
  rfl
theorem take_of {α : Type} {l : List α} {i : Nat} {x : α} (h : l[i]? = some x) : l.take (i + 1) = l.take i ++ [x] := by
  rw [List.take_add_one, h]
  rfl
theorem ixN_nat {n j : Nat} (h : j < n) : ixN n (j : Int) = some j := by
  unfold ixN
  rw [if_pos (by omega), if_pos (by omega)]
  simp
theorem sz60 {n : Nat} (h : n ≤ 60) : n ≤ sizeLine := Nat.le_trans h (by decide)
theorem getElem?_mem {α : Type} {l : List α} {i : Nat} {x : α} (h : l[i]? = some x) : x ∈ l := List.mem_of_getElem? h
/-! ### data -/
theorem dp_ints {K : PySem.W.Frag} {H : Hp} : ∀ ns : List Int, DpAll K H (ns.map V.int) (ns.map PyData.int)
  | [] => .nil
  | n :: ns => .cons (.int n) (dp_ints ns)
theorem lay_ints : ∀ ns : List Int, PyData.canLayAll0 (ns.map PyData.int) = true
  | [] => by simp only [List.map_nil, PyData.canLayAll0]
  | n :: ns => by
    simp only [List.map_cons, PyData.canLayAll0, PyData.canLay0, Bool.true_and]
    exact lay_ints ns
theorem dep_ints : ∀ ns : List Int, PyData.depthAll (ns.map PyData.int) = 0
  | [] => by simp only [List.map_nil, PyData.depthAll]
  | n :: ns => by
    simp only [List.map_cons, PyData.depthAll, PyData.depth]
    rw [dep_ints ns]
    rfl
abbrev dI (ns : List Int) : PyData := .list (ns.map PyData.int)
theorem shp_ints (ns : List Int) : SeqAt.shaped (dI ns) = true := by
  refine Bool.and_eq_true_iff.mpr ⟨?_, decide_eq_true ?_⟩
  · simp only [PyData.canLay0]
    exact lay_ints ns
  · simp only [PyData.depth]
    rw [dep_ints]
    decide
/-- a row as data -/
abbrev dE (e : Nat × Nat) : PyData := .tuple [.int (e.1 : Int), .str ⟨#[e.2]⟩]
abbrev dR (r : Row) : PyData := .list (r.map dE)
theorem dp_tups {K : PySem.W.Frag} {H : Hp} : ∀ {ts : List Addr} {r : Row}, TupsAt H ts r → DpAll K H (ts.map V.ref) (r.map dE)
  | [], [], _ => .nil
  | _ :: ts, e :: r, h => .cons (.tup (SqT.of h.1) (.cons (.int _) (.cons (.str _) .nil))) (dp_tups (ts := ts) (r := r) h.2)
  | [], _ :: _, h => h.elim
  | _ :: _, [], h => h.elim
theorem RowAt.dp {K : PySem.W.Frag} {H : Hp} {a : Addr} {r : Row} (h : RowAt H a r) : Dp K H (.ref a) (dR r) :=
  let ⟨_, h1, h2⟩ := h
  .lst (SqL.of h1) (dp_tups h2)
def Cok (r : Row) : Prop := ∀ e ∈ r, 97 ≤ e.2 ∧ e.2 ≤ 122
theorem str_ok {c : Nat} (h : c ≤ 122) : PyData.strOk ⟨#[c]⟩ = true := by
  show (#[c] : Array Nat).all (· < 0x110000) = true
  simp
  omega
theorem lay_row : ∀ r : Row, Cok r → PyData.canLayAll0 (r.map dE) = true ∧ PyData.depthAll (r.map dE) ≤ 1
  | [], _ => by
    simp only [List.map_nil, PyData.canLayAll0, PyData.depthAll]
    exact ⟨trivial, Nat.zero_le _⟩
  | e :: r, h => by
    obtain ⟨h1, h2⟩ := lay_row r fun x hx => h x (List.mem_cons_of_mem _ hx)
    simp only [List.map_cons, PyData.canLayAll0, PyData.canLay0, PyData.depthAll, PyData.depth, Bool.true_and, Bool.and_true]
    rw [h1, str_ok (h e List.mem_cons_self).2]
    refine ⟨rfl, ?_⟩
    omega
theorem shp_row (r : Row) (h : Cok r) : SeqAt.shaped (dR r) = true := by
  obtain ⟨h1, h2⟩ := lay_row r h
  refine Bool.and_eq_true_iff.mpr ⟨?_, decide_eq_true ?_⟩
  · simp only [PyData.canLay0]
    exact h1
  · simp only [PyData.depth]
    omega
theorem shp_ent (e : Nat × Nat) (h : e.2 ≤ 122) : SeqAt.shaped (dE e) = true := by
  refine Bool.and_eq_true_iff.mpr ⟨?_, decide_eq_true ?_⟩
  · simp only [PyData.canLay0, PyData.canLayAll0, Bool.true_and, Bool.and_true]
    exact str_ok h
  · simp only [PyData.depth, PyData.depthAll]
    decide
section
variable {σ : St} {H : Hp} {Q : VK} {v x y : V} {K : PySem.W.Frag} {ta te : TE} {D : Ends} {g : TG} {tb : TS}
theorem rd_eqD {d : PyData} (h1 : Dp K H x d) (h2 : Dp K H y d) (s : SeqAt.shaped d = true) (q : Q (.bl true) H) : rEqD K x y H Q :=
  ⟨d, d, h1, h2, s, s, by rw [SeqAt.eqv_refl d (SeqAt.canLay_of_shaped s)]; exact q⟩
theorem rd_neD {d : PyData} (h1 : Dp K H x d) (h2 : Dp K H y d) (s : SeqAt.shaped d = true) (q : Q (.bl false) H) : rNeD K x y H Q :=
  ⟨d, d, h1, h2, s, s, by rw [SeqAt.eqv_refl d (SeqAt.canLay_of_shaped s)]; exact q⟩
theorem rd_eqD2 {d e : PyData} (h1 : Dp K H x d) (h2 : Dp K H y e) (s : SeqAt.shaped d = true) (s2 : SeqAt.shaped e = true) {b : Bool} (hb : PyData.eqv d e = b) (q : Q (.bl b) H) : rEqD K x y H Q :=
  ⟨d, e, h1, h2, s, s2, by rw [hb]; exact q⟩
theorem rd_neD2 {d e : PyData} (h1 : Dp K H x d) (h2 : Dp K H y e) (s : SeqAt.shaped d = true) (s2 : SeqAt.shaped e = true) {b : Bool} (hb : PyData.eqv d e = b) (q : Q (.bl (!b)) H) : rNeD K x y H Q :=
  ⟨d, e, h1, h2, s, s2, by rw [hb]; exact q⟩
theorem rd_tyes {R : Bool → Hp → Prop} (q : R true H) : tYes σ H R := q
theorem rd_lstRg {tr : St → Hp → (Int → Int → Hp → Prop) → Prop} (q : tr σ H fun a b H1 => RgOk a b ∧ ∀ q, H1 q = none → Q (.ref q) (upd H1 q (.lst (rgV a b)))) : tLstRg tr σ H Q := q
theorem rd_rg1 {R : Int → Int → Hp → Prop} (q : ta σ H fun x H1 => ∃ n, x = .int n ∧ R 0 n H1) : tRg1 ta σ H R := q
theorem rd_tyL {p : Addr} {xs : List V} (h : H p = some (.lst xs)) (q : Q (.ty "list") H) : r1 kTyp [.ref p] H Q :=
  ⟨"list", by show (match H p with | some (.lst _) => _ | some (.tup _) => _ | _ => _) = _; rw [h], q⟩
theorem rd_tyT {p : Addr} {xs : List V} (h : H p = some (.tup xs)) (q : Q (.ty "tuple") H) : r1 kTyp [.ref p] H Q :=
  ⟨"tuple", by show (match H p with | some (.lst _) => _ | some (.tup _) => _ | _ => _) = _; rw [h], q⟩
end
abbrev pI (r : Row) : List Int := r.map fun e => (e.1 : Int)
theorem pI_map (r : Row) : (pI r).map V.int = r.map fun e => V.int (e.1 : Int) := by
  show (r.map _).map _ = _
  rw [List.map_map]
  rfl
abbrev rI' (n : Nat) : List Int := (List.range n).map fun i : Nat => (i : Int)
theorem rgV_is (n : Nat) : rgV 0 (n : Int) = (rI' n).map V.int := by
  unfold rgV
  rw [List.map_map, show ((n : Int) - 0).toNat = n by omega]
  apply List.map_congr_left
  intro i _
  show V.int (0 + (i : Int)) = V.int (i : Int)
  rw [Int.zero_add]
theorem sorted_is {r : Row} (h : Vr r) {ns : List Int} (hp : ns.Perm (pI r)) (hs : ns.Pairwise (· ≤ ·)) : ns = rI' r.length := by
  have h1 : (pI r).Perm (rI' r.length) := by
    have q := h.perm.map fun i : Nat => (i : Int)
    rw [List.map_map] at q
    exact q
  have h2 : (rI' r.length).Pairwise (· ≤ ·) := by
    refine List.pairwise_map.mpr (List.pairwise_lt_range.imp fun {a b} k => ?_)
    omega
  exact List.Perm.eq_of_pairwise (fun a b _ _ x y => Int.le_antisymm x y) hs h2 (hp.trans h1)
theorem lt60 {n : Nat} (h : n ≤ 60) : n < sizeLine := Nat.lt_of_le_of_lt h (by decide)
abbrev vN (p : Nat) : V := .int (p : Int)
/-! ### a call keeps a row a row -/
theorem byPerson_at {r : Row} {p : Nat} (h : p < r.length) : (byPerson r)[p]? = some (sg (colOf r p)) := by
  unfold byPerson
  rw [List.getElem?_map, List.getElem?_range h]
  rfl
def takenEach (r : Row) : List V := (List.range r.length).map fun q => oV (fo r (colOf r q))
theorem takenEach_at {r : Row} {p : Nat} (h : p < r.length) : (takenEach r)[p]? = some (oV (fo r (colOf r p))) := by
  unfold takenEach
  rw [List.getElem?_map, List.getElem?_range h]
  rfl
theorem fo_mem {r : Row} {c d : Nat} (h : fo r c = some d) : ∃ e ∈ r, e.2 = d ∧ d ≠ c := by
  unfold fo at h
  obtain ⟨e, h1, h2⟩ := Option.map_eq_some_iff.mp h
  have h3 := List.find?_some h1
  refine ⟨e, List.mem_of_find?_eq_some h1, h2, ?_⟩
  rw [← h2]
  simpa using h3
theorem colOf_mem {r : Row} {p : Nat} (h : ∃ e ∈ r, e.1 = p) : (p, colOf r p) ∈ r := by
  unfold colOf
  cases q : r.find? fun e => e.1 == p with
  | none =>
    obtain ⟨e, h1, h2⟩ := h
    have := List.find?_eq_none.mp q e h1
    exact absurd (by simpa using h2) this
  | some e =>
    have h1 := List.mem_of_find?_eq_some q
    have h2 : e.1 = p := by simpa using List.find?_some q
    show (p, e.2) ∈ r
    rw [← h2]
    exact h1
theorem perm_out {p : Nat} : ∀ {r : Row}, (r.map (·.1)).Nodup → (∃ e ∈ r, e.1 = p) → (p :: (r.filter fun e => e.1 != p).map (·.1)).Perm (r.map (·.1))
  | [], _, h => by
    obtain ⟨e, he, _⟩ := h
    cases he
  | e :: r, nd, h => by
    have nd' := List.nodup_cons.mp (show (e.1 :: r.map (·.1)).Nodup from nd)
    by_cases c : e.1 = p
    · rw [List.filter_cons_of_neg (by simpa using c)]
      have e2 : (r.filter fun e => e.1 != p) = r := by
        apply List.filter_eq_self.mpr
        intro x hx
        simp only [bne_iff_ne, ne_eq]
        intro z
        exact nd'.1 (by rw [c, ← z]; exact List.mem_map_of_mem (f := (·.1)) hx)
      rw [e2, List.map_cons, c]
    · rw [List.filter_cons_of_pos (by simpa using c), List.map_cons, List.map_cons]
      have h' : ∃ e ∈ r, e.1 = p := by
        obtain ⟨x, hx, hq⟩ := h
        rcases List.mem_cons.mp hx with z | z
        · exact absurd (z ▸ hq) c
        · exact ⟨x, z, hq⟩
      exact (List.Perm.swap _ _ _).trans ((perm_out nd'.2 h').cons _)
theorem app_perm {r : Row} (h : Vr r) {p : Nat} (hp : p < r.length) : ((app r p).map (·.1)).Perm (r.map (·.1)) := perm_out h.nodup (h.has hp)
theorem app_len {r : Row} (h : Vr r) {p : Nat} (hp : p < r.length) : (app r p).length = r.length := by
  have := (app_perm h hp).length_eq
  rw [List.length_map, List.length_map] at this
  exact this
theorem Vr.colOf {r : Row} (h : Vr r) {p : Nat} (hp : p < r.length) : 97 ≤ LX.colOf r p ∧ LX.colOf r p ≤ 122 := h.col _ (colOf_mem (h.has hp))
theorem Vr.fo {r : Row} (h : Vr r) {c d : Nat} (e : LX.fo r c = some d) : 97 ≤ d ∧ d ≤ 122 := by
  obtain ⟨x, h1, h2, _⟩ := fo_mem e
  rw [← h2]
  exact h.col x h1
theorem Vr.app {r : Row} (h : Vr r) {p : Nat} (hp : p < r.length) : Vr (LX.app r p) where
  n1 := by rw [app_len h hp]; exact h.n1
  n2 := by rw [app_len h hp]; exact h.n2
  col := by
    intro e he
    rcases List.mem_cons.mp he with z | z
    · rw [z]
      show 97 ≤ (LX.fo r (LX.colOf r p)).getD (LX.colOf r p) ∧ (LX.fo r (LX.colOf r p)).getD (LX.colOf r p) ≤ 122
      cases q : LX.fo r (LX.colOf r p) with
      | none => exact h.colOf hp
      | some d => exact h.fo q
    · exact h.col e (List.mem_filter.mp z).1
  perm := by rw [app_len h hp]; exact (app_perm h hp).trans h.perm
/-- calls one after the other -/
def apps (r : Row) (cs : List Nat) : Row := cs.foldl app r
theorem apps_snoc (r : Row) (cs : List Nat) (p : Nat) : apps r (cs ++ [p]) = app (apps r cs) p := by
  unfold apps
  rw [List.foldl_append]
  rfl
theorem apps_len {r : Row} (h : Vr r) : ∀ (cs : List Nat), (∀ p ∈ cs, p < r.length) → Vr (apps r cs) ∧ (apps r cs).length = r.length := by
  intro cs
  induction cs generalizing r with
  | nil => intro _; exact ⟨h, rfl⟩
  | cons p cs ih =>
    intro hc
    have hp := hc p List.mem_cons_self
    have := ih (h.app hp) fun q hq => by
      rw [app_len h hp]
      exact hc q (List.mem_cons_of_mem _ hq)
    exact ⟨this.1, this.2.trans (app_len h hp)⟩
theorem oV_none {o : Option Nat} : decide (oV o = V.non) = o.isNone := by
  cases o with
  | none => rfl
  | some c => rfl
theorem sz60' {n : Nat} (h : n ≤ 100) : n ≤ sizeLine := Nat.le_trans h (by decide)
/-! ### the script and its cells -/
theorem cut_ints (ns : List Int) (lo hi : Option Int) : ∃ ms : List Int, cutV (ns.map V.int) lo hi = ms.map V.int ∧ ms.length ≤ ns.length := by
  unfold cutV
  rw [← List.map_drop, ← List.map_take]
  refine ⟨_, rfl, ?_⟩
  rw [List.length_take, List.length_drop]
  omega
theorem eqv_nil (ns : List Int) : PyData.eqv (dI ns) (dI []) = decide (ns = []) := by
  cases ns with
  | nil => rfl
  | cons n ns => simp [PyData.eqv, PyData.eqvAll]
theorem rd_cut {t u : TS} {D : Ends} {σ : St} {H : Hp} (M : St → Hp → Prop) (h : t { D with nx := M } σ H) (k : ∀ σ' H', M σ' H' → u D σ' H') : Evl.tCut t u D σ H := ⟨M, h, k⟩
theorem rd_bool {H : Hp} {b : Bool} {R : Int → Prop} {Q : VK} (q : Q (.int (if b then 1 else 0)) H) : (∃ i, [V.bl b] = [V.int i] ∧ Q (.int i) H) ∨ ∃ k, [V.bl b] = [V.bl k] ∧ Q (.int (if k then 1 else 0)) H := Or.inr ⟨b, rfl, q⟩
theorem Same'.of {p : Addr} {H H' : Hp} (h : ∀ b, b ≠ p → H' b = H b) : Same' p H H' := fun b o e n => by rw [h b n]; exact e
theorem Same'.free {p q : Addr} {H H' : Hp} (s : Same' p H H') (h : H' q = none) (n : q ≠ p) : H q = none := by
  cases e : H q with
  | none => rfl
  | some o =>
    rw [s q o e n] at h
    cases h
theorem Src.not_none {H : Hp} {p q : Addr} (h : Src H p) (hq : H q = none) : q ≠ p := fun e => by
  obtain ⟨xs, h1⟩ := h.lst
  rw [e, h1] at hq
  cases hq
/-- the script: locked, or an object of the module -/
def Scr (K : PySem.W.Frag) (H : Hp) (l : Addr) (ns : List Int) : Prop := (∃ o, H l = some (.frz o (.lst (ns.map V.int)))) ∨ ∀ H', SqL K H' l (ns.map V.int)
theorem Scr.of {K : PySem.W.Frag} {H : Hp} {l : Addr} {ns : List Int} (hO : Only H) (h : SqL K H l (ns.map V.int)) : Scr K H l ns := by
  rcases h with (h | ⟨o, h⟩) | h
  · rcases hO l with z | ⟨o, xs, z⟩
    · rw [h] at z
      cases z
    · rw [h] at z
      cases z
  · exact Or.inl ⟨o, h⟩
  · exact Or.inr fun H' => Or.inr h
theorem Scr.seq {K : PySem.W.Frag} {H : Hp} {l : Addr} {ns : List Int} (h : Scr K H l ns) : SqL K H l (ns.map V.int) := by
  rcases h with ⟨o, h⟩ | h
  · exact Or.inl (Or.inr ⟨o, h⟩)
  · exact h H
theorem Scr.same {K : PySem.W.Frag} {H H' : Hp} {l : Addr} {ns : List Int} (h : Scr K H l ns) (s : Same H H') : Scr K H' l ns := by
  rcases h with ⟨o, h⟩ | h
  · exact Or.inl ⟨o, s _ _ h⟩
  · exact Or.inr h
theorem Scr.same' {K : PySem.W.Frag} {H H' : Hp} {l p : Addr} {ns : List Int} (h : Scr K H l ns) (s : Same' p H H') (hp : ∃ xs, H p = some (.lst xs)) : Scr K H' l ns := by
  rcases h with ⟨o, h⟩ | h
  · refine Or.inl ⟨o, s _ _ h fun e => ?_⟩
    obtain ⟨xs, hx⟩ := hp
    rw [e, hx] at h
    cases h
  · exact Or.inr h
theorem seqIx {n j : Nat} (h : j < n) : PySem.seqIndex? (j : Int) n = some j := by
  show (if (decide (0 ≤ if (j : Int) < 0 then (j : Int) + n else j) && decide ((if (j : Int) < 0 then (j : Int) + n else j) < (n : Int))) = true then some (if (j : Int) < 0 then (j : Int) + n else j).toNat else none) = some j
  have e : (if (j : Int) < 0 then (j : Int) + n else (j : Int)) = (j : Int) := if_neg (by omega)
  rw [e, if_pos (by rw [decide_eq_true (show (0 : Int) ≤ j by omega), decide_eq_true (show (j : Int) < n by omega)]; rfl)]
  simp
theorem erase_map {α β : Type} (f : α → β) : ∀ (l : List α) (j : Nat), (l.map f).eraseIdx j = (l.eraseIdx j).map f
  | [], _ => rfl
  | x :: l, 0 => rfl
  | x :: l, j + 1 => by
    show f x :: (l.map f).eraseIdx j = f x :: (l.eraseIdx j).map f
    rw [erase_map f l j]
theorem erase_perm {α : Type} : ∀ {l : List α} {j : Nat} {x : α}, l[j]? = some x → (x :: l.eraseIdx j).Perm l
  | [], j, x, h => by simp at h
  | y :: l, 0, x, h => by
    have e : y = x := Option.some.inj h
    rw [e]
    exact List.Perm.refl _
  | y :: l, j + 1, x, h => by
    have ih := erase_perm (l := l) (j := j) (x := x) (by simpa using h)
    exact (List.Perm.swap _ _ _).trans (ih.cons _)
theorem abc_at : ∀ m : Nat, m < 26 → atI (Str.ofString "abcdefghijklmnopqrstuvwxyz").cps.toList (m : Int) = some (97 + m) := by
  decide +kernel
theorem abc_len : (Str.ofString "abcdefghijklmnopqrstuvwxyz").length ≤ sizeLine := by
  have e : (Str.ofString "abcdefghijklmnopqrstuvwxyz").length = 26 := by decide +kernel
  rw [e]
  decide
theorem Same'.tups {p : Addr} {H H' : Hp} (s : Same' p H H') {xs : List V} (hp : H p = some (.lst xs)) : ∀ b ys, H b = some (.tup ys) → H' b = some (.tup ys) := fun b ys e => s b _ e fun q => by
  rw [q, hp] at e
  cases e
/-- a row that is being drawn -/
structure Drw (H : Hp) (D q p : Addr) (n i : Nat) (H0 : Hp) : Prop where
  ex : ∃ (us : List Addr) (rr : Row) (ls : List Nat), H D = some (.lst (us.map V.ref)) ∧ H q = some (.lst (ls.map vN)) ∧ TupsAt H us rr ∧ rr.length = i ∧ (rr.map (·.1) ++ ls).Perm (List.range n) ∧ Cok rr
  src : Src H p
  same : Same' p H0 H
theorem drw_end {H H0 : Hp} {D q p : Addr} {n : Nat} (h : Drw H D q p n n H0) (n1 : 1 ≤ n) (n2 : n ≤ 60) : ∃ r, RowAt H D r ∧ Vr r := by
  obtain ⟨us, rr, ls, h1, h2, h3, h4, h5, h6⟩ := h.ex
  have e := h5.length_eq
  rw [List.length_append, List.length_map, List.length_range] at e
  have : ls = [] := List.length_eq_zero_iff.mp (by omega)
  rw [this, List.append_nil] at h5
  exact ⟨rr, ⟨us, h1, h3⟩, ⟨by omega, by omega, h6, by rw [h4]; exact h5⟩⟩
theorem pick4 (a b c d : Int) {j : Int} (h0 : 0 ≤ j) (h1 : j < 4) : ∃ x : Int, atI [V.int a, V.int b, V.int c, V.int d] j = some (.int x) ∧ (x = a ∨ x = b ∨ x = c ∨ x = d) := by
  have : j = 0 ∨ j = 1 ∨ j = 2 ∨ j = 3 := by omega
  rcases this with e | e | e | e
  · subst e
    exact ⟨a, rfl, Or.inl rfl⟩
  · subst e
    exact ⟨b, rfl, Or.inr (Or.inl rfl)⟩
  · subst e
    exact ⟨c, rfl, Or.inr (Or.inr (Or.inl rfl))⟩
  · subst e
    exact ⟨d, rfl, Or.inr (Or.inr (Or.inr rfl))⟩
theorem rgV_nat {z : Int} (h : 0 ≤ z) : rgV 0 z = (List.range z.toNat).map vN := by
  have e : z = (z.toNat : Int) := by omega
  rw [e, rgV_is, List.map_map]
  rfl
theorem rd_ifV {σ : St} {H : Hp} {Q : VK} {v : V} {t : TT} {ta tb : TE} (b : Bool) (ht : ∀ R : Bool → Hp → Prop, R b H → t σ H R) (ha : b = true → ∀ R : VK, R v H → ta σ H R) (hb : b = false → ∀ R : VK, R v H → tb σ H R) (q : Q v H) : tIf t ta tb σ H Q := by
  refine ht _ ?_
  cases b with
  | true => exact ha rfl _ q
  | false => exact hb rfl _ q
theorem scal_oV (x y : Option Nat) : scal (oV x) (oV y) = true := by
  cases x <;> cases y <;> rfl
theorem oV_inj {x y : Option Nat} (h : oV x = oV y) : x = y := by
  cases x with
  | none =>
    cases y with
    | none => rfl
    | some b => cases h
  | some a =>
    cases y with
    | none => cases h
    | some b =>
      injection h with h
      injection h with h
      injection h with h
      injection h with h
      rw [h]
theorem sg_inj {x y : Nat} (h : sg x = sg y) : x = y := by
  have := oV_inj (x := some x) (y := some y) h
  exact Option.some.inj this
theorem sIx_nat (n d : Nat) (k : Nat) (h : k ≤ n) : HT.sIx n d (some (k : Int)) = k := by
  rw [HT.sIx_nat]
  omega
theorem cut_take (xs : List V) (k : Nat) (h : k ≤ xs.length) : cutV xs none (some (k : Int)) = xs.take k := by
  unfold cutV
  rw [sIx_nat _ _ _ h]
  have e : HT.sIx xs.length 0 none = 0 := rfl
  rw [e]
  rfl
theorem cut_drop (xs : List V) (k : Nat) (h : k ≤ xs.length) : cutV xs (some (k : Int)) none = xs.drop k := by
  unfold cutV
  rw [sIx_nat _ _ _ h]
  have e : HT.sIx xs.length xs.length none = xs.length := rfl
  rw [e]
  apply List.take_of_length_le
  rw [List.length_drop]
  omega
theorem at_last {α : Type} {l : List α} (h : 0 < l.length) : ∃ x ∈ l, atI l (-1) = some x := by
  have h2 : l.length - 1 < l.length := by omega
  refine ⟨l[l.length - 1], List.getElem_mem h2, ?_⟩
  unfold atI ixN
  rw [if_neg (by omega), if_pos (by omega)]
  show l[((-1 : Int) + l.length).toNat]? = _
  rw [show ((-1 : Int) + l.length).toNat = l.length - 1 by omega]
  exact List.getElem?_eq_getElem h2
theorem pick3 (a b c : Nat) {j : Int} (h0 : 0 ≤ j) (h1 : j < 3) : ∃ x : Nat, atI [sg a, sg b, sg c] j = some (sg x) ∧ (x = a ∨ x = b ∨ x = c) := by
  have : j = 0 ∨ j = 1 ∨ j = 2 := by omega
  rcases this with e | e | e
  · subst e
    exact ⟨a, rfl, Or.inl rfl⟩
  · subst e
    exact ⟨b, rfl, Or.inr (Or.inl rfl)⟩
  · subst e
    exact ⟨c, rfl, Or.inr (Or.inr rfl)⟩
theorem rd_forL {K : PySem.W.Frag} {σ : St} {H : Hp} {tl : TE} {g : TG} {tb : TS} {D : Ends} (M : Addr → Hp → Prop) (h1 : ∀ R : VK, (∀ b H1, M b H1 → R (.ref b) H1) → tl σ H R)
    (h2 : ∀ b H1, M b H1 → (∃ xs, SqL K H1 b xs) ∧ ∃ W : Nat → Nat → St → Hp → Prop, (∃ m, W 0 m σ H1) ∧ ∀ i m σ H, W i m σ H →
      ((Itl K b).stop i H ∧ D.nx σ H) ∨ ((Itl K b).go i H ∧ ∃ N : St → Hp → Prop, (∀ σ' H', N σ' H' → ∃ m', m' < m ∧ W (i + 1) m' σ' H') ∧ ∀ x H', (Itl K b).yld i H x H' → g x σ H' fun σ2 H2 => tb { D with nx := N, ct := N, bk := D.nx } σ2 H2)) :
    tFor (iList K tl) g tb D σ H := h1 _ fun b H1 m => ⟨b, rfl, (h2 b H1 m).1, (h2 b H1 m).2⟩
theorem cut_tail (xs : List V) : cutV xs (some 1) none = xs.drop 1 := by
  by_cases h : 1 ≤ xs.length
  · exact cut_drop xs 1 h
  · have e : xs = [] := List.length_eq_zero_iff.mp (by omega)
    rw [e]
    rfl
theorem rd_in {neg : Bool} {K : PySem.W.Frag} {H : Hp} {Q : VK} {x : V} {p : Addr} {xs : List V} {b : Bool} (h : H p = some (.lst xs)) (f : flatV x = true) (fs : xs.all flatV = true) (hb : inV x xs = b) (q : Q (.bl (if neg then !b else b)) H) : rIn K neg x (.ref p) H Q :=
  ⟨p, xs, rfl, Or.inl (SqL.of h), f, fs, by rw [hb]; exact q⟩
theorem rd_notin {K : PySem.W.Frag} {H : Hp} {Q : VK} {x : V} {p : Addr} {xs : List V} {b : Bool} (h : H p = some (.lst xs)) (f : flatV x = true) (fs : xs.all flatV = true) (hb : inV x xs = b) (q : Q (.bl (!b)) H) : rIn K true x (.ref p) H Q :=
  rd_in h f fs hb q
theorem rd_isin {K : PySem.W.Frag} {H : Hp} {Q : VK} {x : V} {p : Addr} {xs : List V} {b : Bool} (h : H p = some (.lst xs)) (f : flatV x = true) (fs : xs.all flatV = true) (hb : inV x xs = b) (q : Q (.bl b) H) : rIn K false x (.ref p) H Q :=
  rd_in h f fs hb q
theorem rd_forR {σ : St} {H : Hp} {ta : TA} {n : Int} {g : TG} {tb : TS} {D : Ends} (M : Hp → Prop) (h1 : ∀ R : List V → Hp → Prop, (∀ H1, M H1 → R [.int n] H1) → ta σ H R) (n0 : 0 ≤ n) (n1 : n ≤ 100000)
    (h2 : ∀ H1, M H1 → ∃ W : Nat → Nat → St → Hp → Prop, (∃ m, W 0 m σ H1) ∧ ∀ i m σ H, W i m σ H →
      ((Itr 0 n.toNat).stop i H ∧ D.nx σ H) ∨ ((Itr 0 n.toNat).go i H ∧ ∃ N : St → Hp → Prop, (∀ σ' H', N σ' H' → ∃ m', m' < m ∧ W (i + 1) m' σ' H') ∧ ∀ x H', (Itr 0 n.toNat).yld i H x H' → g x σ H' fun σ2 H2 => tb { D with nx := N, ct := N, bk := D.nx } σ2 H2)) :
    tFor (iRng1 ta) g tb D σ H := h1 _ fun H1 m => ⟨n, rfl, by omega, by omega, h2 H1 m⟩
theorem rd_forRn {σ : St} {H : Hp} {ta : TA} {g : TG} {tb : TS} {D : Ends} (M : Int → Hp → Prop) (h1 : ∀ R : List V → Hp → Prop, (∀ n H1, M n H1 → R [.int n] H1) → ta σ H R)
    (h2 : ∀ n H1, M n H1 → 0 ≤ n ∧ n ≤ 100000 ∧ ∃ W : Nat → Nat → St → Hp → Prop, (∃ m, W 0 m σ H1) ∧ ∀ i m σ H, W i m σ H →
      ((Itr 0 n.toNat).stop i H ∧ D.nx σ H) ∨ ((Itr 0 n.toNat).go i H ∧ ∃ N : St → Hp → Prop, (∀ σ' H', N σ' H' → ∃ m', m' < m ∧ W (i + 1) m' σ' H') ∧ ∀ x H', (Itr 0 n.toNat).yld i H x H' → g x σ H' fun σ2 H2 => tb { D with nx := N, ct := N, bk := D.nx } σ2 H2)) :
    tFor (iRng1 ta) g tb D σ H := h1 _ fun n H1 m => ⟨n, rfl, by have := (h2 n H1 m).1; omega, by have := (h2 n H1 m).2.1; omega, (h2 n H1 m).2.2⟩
/-! ### what calls take, runs -/
def takens : Row → List Nat → List (Option Nat)
  | _, [] => []
  | r, p :: cs => fo r (colOf r p) :: takens (app r p) cs
theorem takens_snoc : ∀ (r : Row) (cs : List Nat) (p : Nat), takens r (cs ++ [p]) = takens r cs ++ [fo (apps r cs) (colOf (apps r cs) p)]
  | _, [], _ => rfl
  | r, q :: cs, p => by
    show fo r (colOf r q) :: takens (app r q) (cs ++ [p]) = fo r (colOf r q) :: (takens (app r q) cs ++ [_])
    rw [takens_snoc (app r q) cs p]
    rfl
theorem takens_len : ∀ (r : Row) (cs : List Nat), (takens r cs).length = cs.length
  | _, [] => rfl
  | r, p :: cs => congrArg (· + 1) (takens_len (app r p) cs)
/-- the last run grows, or a new one begins -/
def rsnoc (acc : List (Int × Nat)) (x : Int) : List (Int × Nat) :=
  match acc.getLast? with
  | some (y, k) => if y = x then acc.set (acc.length - 1) (x, k + 1) else acc ++ [(x, 1)]
  | none => acc ++ [(x, 1)]
def runsI (cs : List Int) : List (Int × Nat) := cs.foldl rsnoc []
theorem runsI_snoc (cs : List Int) (x : Int) : runsI (cs ++ [x]) = rsnoc (runsI cs) x := by
  unfold runsI
  rw [List.foldl_append]
  rfl
theorem rsnoc_len (acc : List (Int × Nat)) (x : Int) : (rsnoc acc x).length ≤ acc.length + 1 := by
  unfold rsnoc
  split
  · split
    · rw [List.length_set]
      omega
    · rw [List.length_append]
      simp
  · rw [List.length_append]
    simp
theorem runs_fold_len : ∀ (cs : List Int) (acc : List (Int × Nat)), (cs.foldl rsnoc acc).length ≤ acc.length + cs.length
  | [], acc => Nat.le_refl _
  | x :: cs, acc => by
    have h1 := runs_fold_len cs (rsnoc acc x)
    have h2 := rsnoc_len acc x
    show (cs.foldl rsnoc (rsnoc acc x)).length ≤ acc.length + (cs.length + 1)
    omega
theorem runsI_len (cs : List Int) : (runsI cs).length ≤ cs.length := by
  have := runs_fold_len cs []
  have e : ([] : List (Int × Nat)).length = 0 := rfl
  rw [e] at this
  unfold runsI
  omega
def shortR (rs : List (Int × Nat)) : List Int := rs.flatMap fun e => List.replicate (if e.2 % 2 = 1 then 1 else 2) e.1
def short (cs : List Int) : List Int := shortR (runsI cs)
theorem shortR_snoc (rs : List (Int × Nat)) (e : Int × Nat) : shortR (rs ++ [e]) = shortR rs ++ List.replicate (if e.2 % 2 = 1 then 1 else 2) e.1 := by
  unfold shortR
  rw [List.flatMap_append, List.flatMap_cons, List.flatMap_nil, List.append_nil]
theorem shortR_len (rs : List (Int × Nat)) : (shortR rs).length ≤ 2 * rs.length := by
  induction rs with
  | nil => exact Nat.le_refl _
  | cons e rs ih =>
    unfold shortR at ih ⊢
    rw [List.flatMap_cons, List.length_append, List.length_replicate, List.length_cons]
    split <;> omega
abbrev prI (e : Int × Nat) : List V := [.int e.1, .int (e.2 : Int)]
/-- tuples of two ints -/
def PairsAt (H : Hp) : List Addr → List (Int × Nat) → Prop
  | [], [] => True
  | t :: ts, e :: r => H t = some (.tup (prI e)) ∧ PairsAt H ts r
  | _, _ => False
theorem PairsAt.len {H : Hp} : ∀ {ts : List Addr} {r : List (Int × Nat)}, PairsAt H ts r → ts.length = r.length
  | [], [], _ => rfl
  | _ :: ts, _ :: r, h => congrArg (· + 1) (PairsAt.len (ts := ts) (r := r) h.2)
  | [], _ :: _, h => h.elim
  | _ :: _, [], h => h.elim
theorem PairsAt.mono {H H' : Hp} : ∀ {ts : List Addr} {r : List (Int × Nat)}, PairsAt H ts r → (∀ b xs, H b = some (.tup xs) → H' b = some (.tup xs)) → PairsAt H' ts r
  | [], [], _, _ => True.intro
  | _ :: ts, _ :: r, h, k => ⟨k _ _ h.1, PairsAt.mono (ts := ts) (r := r) h.2 k⟩
  | [], _ :: _, h, _ => h.elim
  | _ :: _, [], h, _ => h.elim
theorem PairsAt.get {H : Hp} : ∀ {ts : List Addr} {r : List (Int × Nat)} {i : Nat} {t : Addr}, PairsAt H ts r → ts[i]? = some t → ∃ e, r[i]? = some e ∧ H t = some (.tup (prI e))
  | [], [], i, t, _, h => by simp at h
  | _ :: ts, e :: r, 0, t, h, q => by
    simp at q
    subst q
    exact ⟨e, rfl, h.1⟩
  | _ :: ts, _ :: r, i + 1, t, h, q => by
    simp at q
    obtain ⟨e, h1, h2⟩ := PairsAt.get (ts := ts) (r := r) h.2 q
    exact ⟨e, by simpa using h1, h2⟩
  | [], _ :: _, _, _, h, _ => h.elim
  | _ :: _, [], _, _, h, _ => h.elim
theorem PairsAt.snoc {H : Hp} {t : Addr} {e : Int × Nat} (ht : H t = some (.tup (prI e))) : ∀ {ts : List Addr} {r : List (Int × Nat)}, PairsAt H ts r → PairsAt H (ts ++ [t]) (r ++ [e])
  | [], [], _ => ⟨ht, True.intro⟩
  | _ :: ts, _ :: r, h => ⟨h.1, PairsAt.snoc ht (ts := ts) (r := r) h.2⟩
  | [], _ :: _, h => h.elim
  | _ :: _, [], h => h.elim
theorem PairsAt.set {H : Hp} {t : Addr} {e : Int × Nat} (ht : H t = some (.tup (prI e))) : ∀ {ts : List Addr} {r : List (Int × Nat)} (j : Nat), PairsAt H ts r → PairsAt H (ts.set j t) (r.set j e)
  | [], [], _, _ => True.intro
  | _ :: ts, _ :: r, 0, h => ⟨ht, h.2⟩
  | _ :: ts, _ :: r, j + 1, h => ⟨h.1, PairsAt.set ht (ts := ts) (r := r) j h.2⟩
  | [], _ :: _, _, h => h.elim
  | _ :: _, [], _, h => h.elim
theorem PairsAt.last {H : Hp} {ts : List Addr} {r : List (Int × Nat)} (h : PairsAt H ts r) {e : Int × Nat} (he : r.getLast? = some e) : ∃ t, ts[ts.length - 1]? = some t ∧ H t = some (.tup (prI e)) := by
  have hl := h.len
  rw [List.getLast?_eq_getElem?] at he
  have h1 : r.length - 1 < r.length := (List.getElem?_eq_some_iff.mp he).1
  have h2 : ts.length - 1 < ts.length := by omega
  have h3 := List.getElem?_eq_getElem h2
  obtain ⟨e', h4, h5⟩ := h.get h3
  rw [show ts.length - 1 = r.length - 1 by omega, he] at h4
  cases h4
  exact ⟨_, h3, h5⟩
theorem at_neg1 {α : Type} {l : List α} {x : α} (h : l[l.length - 1]? = some x) : atI l (-1) = some x := by
  have h1 := (List.getElem?_eq_some_iff.mp h).1
  unfold atI ixN
  rw [if_neg (by omega), if_pos (by omega)]
  show l[((-1 : Int) + l.length).toNat]? = _
  rw [show ((-1 : Int) + l.length).toNat = l.length - 1 by omega]
  exact h
theorem ix_neg1 {n : Nat} (h : 0 < n) : ixN n (-1) = some (n - 1) := by
  unfold ixN
  rw [if_neg (by omega), if_pos (by omega)]
  congr 1
  omega
theorem rd_truL {K : PySem.W.Frag} {H : Hp} {p : Addr} {xs : List V} {R : Bool → Prop} (h : H p = some (.lst xs)) (q : R (!xs.isEmpty)) : ∃ k, TruV K (.ref p) H k ∧ R k := ⟨_, Or.inl ⟨xs, SqL.of h, rfl⟩, q⟩
theorem rd_qtru {K : PySem.W.Frag} {σ : St} {H : Hp} {ta : TE} {Q : Bool → Hp → Prop} (q : ta σ H fun x H' => ∃ k, TruV K x H' k ∧ Q k H') : qTru K ta σ H Q := q
theorem sz1000 {n : Nat} (h : n ≤ 100000) : n < sizeLine := Nat.lt_of_le_of_lt h (by decide)
/-- a row that is filtered, its entries as they stand -/
theorem filt_turn {H : Hp} {us : List Addr} {r : Row} {i : Nat} {p : Nat × Nat → Bool} {t : Addr} {e : Nat × Nat} (h : TupsAt H us ((r.take i).filter p)) (he : r[i]? = some e) (ht : H t = some (.tup (pr e))) :
    TupsAt H (if p e = true then us ++ [t] else us) ((r.take (i + 1)).filter p) := by
  rw [take_of he, List.filter_append]
  by_cases c : p e = true
  · rw [if_pos c, List.filter_cons_of_pos c]
    exact h.app (TupsAt.one ht)
  · rw [if_neg c, List.filter_cons_of_neg c]
    show TupsAt H us (_ ++ [])
    rw [List.append_nil]
    exact h
/-- what happens to the runs, by the last one -/
theorem rsnoc_grow {acc : List (Int × Nat)} {x : Int} {k : Nat} (h : acc.getLast? = some (x, k)) : rsnoc acc x = acc.set (acc.length - 1) (x, k + 1) := by
  unfold rsnoc
  rw [h]
  show (if x = x then _ else _) = _
  rw [if_pos rfl]
theorem rsnoc_new {acc : List (Int × Nat)} {x y : Int} {k : Nat} (h : acc.getLast? = some (y, k)) (n : y ≠ x) : rsnoc acc x = acc ++ [(x, 1)] := by
  unfold rsnoc
  rw [h]
  show (if y = x then _ else _) = _
  rw [if_neg n]
theorem rsnoc_nil (x : Int) : rsnoc [] x = [(x, 1)] := rfl
theorem last_of_ne {acc : List (Int × Nat)} (h : acc ≠ []) : ∃ e, acc.getLast? = some e := ⟨_, List.getLast?_eq_some_getLast h⟩
theorem rd_iteJ {b : Bool} {σ : St} {H : Hp} {ta tb : TE} {Q : VK} (v : V) (h1 : b = true → ∀ R : VK, R v H → ta σ H R) (h2 : b = false → ∀ R : VK, R v H → tb σ H R) (q : Q v H) : if b = true then ta σ H Q else tb σ H Q := by
  cases b with
  | true => exact iteT (h1 rfl _ q)
  | false => exact iteF (h2 rfl _ q)
end LX

/-! ### comprehensions that add only new objects: the list they make -/
namespace LX
open PySem L2
theorem range_fm {α β : Type} (f : α → Option β) : ∀ l : List α, (List.range l.length).filterMap (fun i => (l[i]?).bind f) = l.filterMap f
  | [] => rfl
  | x :: l => by
    rw [List.length_cons, List.range_succ_eq_map, List.filterMap_cons, List.filterMap_map]
    have ih := range_fm f l
    show (match f x with | none => _ | some b => b :: _) = _
    have e : ((fun i => ((x :: l)[i]?).bind f) ∘ Nat.succ) = fun i => (l[i]?).bind f := rfl
    rw [e, ih]
    cases q : f x with
    | none => rw [List.filterMap_cons_none q]
    | some y => rw [List.filterMap_cons_some q]
section
variable {K : PySem.W.Frag} {a D : Addr} {xs : List V} {g : TG} {tt : TT} {te : TE} {vs : List Nat} {σ : L2.St} {H1 : Hp} {Qd : Hp → Prop}
theorem lc_ix (f : Nat → Option V) (hD : H1 D = none) (ha : ∀ H, Same H1 H → SqL K H a xs) (hz : xs.length ≤ 1000)
    (hs : ∀ i x, xs[i]? = some x → ∀ H, Same H1 H → ∀ (T : V → Hp → Prop) (F : Hp → Prop), (∀ y H', f i = some y → Same H H' → T y H') → (∀ H', f i = none → Same H H' → F H') →
      g x (wipe σ vs) H fun σ2 H2 => wipe σ2 vs = wipe σ vs ∧ tt σ2 H2 fun b H3 => if b = true then te σ2 H3 T else F H3)
    (hd : ∀ H', Same H1 H' → H' D = some (.lst ((List.range xs.length).filterMap f)) → Qd H') :
    ∃ W : Nat → Nat → Hp → Prop, (∃ m, W 0 m (upd H1 D (.lst []))) ∧ ∀ i m H, W i m H →
      ((Itl K a).stop i H ∧ Qd H) ∨ ((Itl K a).go i H ∧ ∃ Nx : Hp → Prop, (∀ H', Nx H' → ∃ m', m' < m ∧ W (i + 1) m' H') ∧ ∀ x H', (Itl K a).yld i H x H' → g x (wipe σ vs) H' fun σ2 H2 => wipe σ2 vs = wipe σ vs ∧ tt σ2 H2 fun b H3 =>
        if b = true then te σ2 H3 fun y H4 => ∃ acc, H4 D = some (.lst acc) ∧ acc.length < sizeLine ∧ Nx (upd H4 D (.lst (acc ++ [y]))) else Nx H3) := by
  refine lc_list (K := K) (a := a) (xs := xs) (fun i H => Same H1 H ∧ H D = some (.lst ((List.range i).filterMap f)) ∧ i ≤ 1000) ⟨sNew hD, upd_same, Nat.zero_le _⟩ (fun i H _ h => ha H h.1) ?_ ?_
  · rintro i x H hi ⟨s, e, hi2⟩
    have hil : i < xs.length := (List.getElem?_eq_some_iff.mp hi).1
    have ln : ((List.range i).filterMap f).length ≤ i := by
      have := List.length_filterMap_le f (List.range i)
      rw [List.length_range] at this
      exact this
    refine hs i x hi H s _ _ (fun y H' hy s2 => ⟨_, s2 _ _ e, small1000 (Nat.le_trans ln hi2), sUpd (s.trans s2) hD, ?_, by omega⟩) fun H' hn s2 => ⟨s.trans s2, ?_, by omega⟩
    · rw [upd_same, List.range_succ, List.filterMap_append, List.filterMap_cons_some hy]
      rfl
    · rw [s2 _ _ e, List.range_succ, List.filterMap_append, List.filterMap_cons_none hn]
      show _ = some (HO.lst (_ ++ []))
      rw [List.append_nil]
  · rintro H ⟨s, e, _⟩
    exact hd H s e
theorem lc_rng {n : Nat} (f : Nat → Option V) (hD : H1 D = none) (hz : n ≤ 1000)
    (hs : ∀ i, i < n → ∀ H, Same H1 H → ∀ (T : V → Hp → Prop) (F : Hp → Prop), (∀ y H', f i = some y → Same H H' → T y H') → (∀ H', f i = none → Same H H' → F H') →
      g (.int (i : Int)) (wipe σ vs) H fun σ2 H2 => wipe σ2 vs = wipe σ vs ∧ tt σ2 H2 fun b H3 => if b = true then te σ2 H3 T else F H3)
    (hd : ∀ H', Same H1 H' → H' D = some (.lst ((List.range n).filterMap f)) → Qd H') :
    ∃ W : Nat → Nat → Hp → Prop, (∃ m, W 0 m (upd H1 D (.lst []))) ∧ ∀ i m H, W i m H →
      ((Itr 0 n).stop i H ∧ Qd H) ∨ ((Itr 0 n).go i H ∧ ∃ Nx : Hp → Prop, (∀ H', Nx H' → ∃ m', m' < m ∧ W (i + 1) m' H') ∧ ∀ x H', (Itr 0 n).yld i H x H' → g x (wipe σ vs) H' fun σ2 H2 => wipe σ2 vs = wipe σ vs ∧ tt σ2 H2 fun b H3 =>
        if b = true then te σ2 H3 fun y H4 => ∃ acc, H4 D = some (.lst acc) ∧ acc.length < sizeLine ∧ Nx (upd H4 D (.lst (acc ++ [y]))) else Nx H3) := by
  refine lc_range (lo := 0) (n := n) (fun i H => Same H1 H ∧ H D = some (.lst ((List.range i).filterMap f)) ∧ i ≤ 1000) ⟨sNew hD, upd_same, Nat.zero_le _⟩ ?_ ?_
  · rintro i H hi ⟨s, e, hi2⟩
    have ln : ((List.range i).filterMap f).length ≤ i := by
      have := List.length_filterMap_le f (List.range i)
      rw [List.length_range] at this
      exact this
    rw [Int.zero_add]
    refine hs i hi H s _ _ (fun y H' hy s2 => ⟨_, s2 _ _ e, small1000 (Nat.le_trans ln hi2), sUpd (s.trans s2) hD, ?_, by omega⟩) fun H' hn s2 => ⟨s.trans s2, ?_, by omega⟩
    · rw [upd_same, List.range_succ, List.filterMap_append, List.filterMap_cons_some hy]
      rfl
    · rw [s2 _ _ e, List.range_succ, List.filterMap_append, List.filterMap_cons_none hn]
      show _ = some (HO.lst (_ ++ []))
      rw [List.append_nil]
  · rintro H ⟨s, e, _⟩
    exact hd H s e
theorem rd_lc {wi : TI} {H : Hp} {Q : VK} (q : wi σ H fun J H1 => ∀ D, H1 D = none → ∃ W : Nat → Nat → Hp → Prop, (∃ m, W 0 m (upd H1 D (.lst []))) ∧ ∀ i m H, W i m H →
  (J.stop i H ∧ Q (.ref D) H) ∨ (J.go i H ∧ ∃ Nx : Hp → Prop, (∀ H', Nx H' → ∃ m', m' < m ∧ W (i + 1) m' H') ∧ ∀ x H', J.yld i H x H' → g x (wipe σ vs) H' fun σ2 H2 => wipe σ2 vs = wipe σ vs ∧ tt σ2 H2 fun b H3 =>
    if b = true then te σ2 H3 fun y H4 => ∃ acc, H4 D = some (.lst acc) ∧ acc.length < sizeLine ∧ Nx (upd H4 D (.lst (acc ++ [y]))) else Nx H3)) : tLc wi g tt te vs σ H Q := q
theorem rd_iR {ta : TA} {H : Hp} {R : It → Hp → Prop} (q : ta σ H fun vs H1 => ∃ j : Int, vs = [.int j] ∧ -(2 ^ 62) ≤ j ∧ j < 2 ^ 62 ∧ R (Itr 0 j.toNat) H1) : iRng1 ta σ H R := q
theorem rd_n {n : Nat} {R : It → Prop} (h : n ≤ 1000) (q : R (Itr 0 n)) : ∃ j : Int, [V.int (n : Int)] = [.int j] ∧ -(2 ^ 62) ≤ j ∧ j < 2 ^ 62 ∧ R (Itr 0 j.toNat) := ⟨n, rfl, by omega, by omega, q⟩
/-- over a list of plain values -/
theorem lc_vals {α : Type} {zs : List α} {v : α → V} (f : α → Option V) (hD : H1 D = none) (ha : H1 a = some (.lst (zs.map v))) (hz : zs.length ≤ 1000)
    (hs : ∀ x, x ∈ zs → ∀ H, Same H1 H → ∀ (T : V → Hp → Prop) (F : Hp → Prop), (∀ y H', f x = some y → Same H H' → T y H') → (∀ H', f x = none → Same H H' → F H') →
      g (v x) (wipe σ vs) H fun σ2 H2 => wipe σ2 vs = wipe σ vs ∧ tt σ2 H2 fun b H3 => if b = true then te σ2 H3 T else F H3)
    (hd : ∀ H', Same H1 H' → H' D = some (.lst (zs.filterMap f)) → Qd H') :
    ∃ W : Nat → Nat → Hp → Prop, (∃ m, W 0 m (upd H1 D (.lst []))) ∧ ∀ i m H, W i m H →
      ((Itl K a).stop i H ∧ Qd H) ∨ ((Itl K a).go i H ∧ ∃ Nx : Hp → Prop, (∀ H', Nx H' → ∃ m', m' < m ∧ W (i + 1) m' H') ∧ ∀ x H', (Itl K a).yld i H x H' → g x (wipe σ vs) H' fun σ2 H2 => wipe σ2 vs = wipe σ vs ∧ tt σ2 H2 fun b H3 =>
        if b = true then te σ2 H3 fun y H4 => ∃ acc, H4 D = some (.lst acc) ∧ acc.length < sizeLine ∧ Nx (upd H4 D (.lst (acc ++ [y]))) else Nx H3) := by
  refine lc_ix (xs := zs.map v) (fun i => (zs[i]?).bind f) hD (fun H s => SqL.of (s _ _ ha)) (by rw [List.length_map]; exact hz) (fun i x hi H s T F hT hF => ?_) fun H' s e => hd H' s ?_
  · rw [List.getElem?_map] at hi
    obtain ⟨z, h1, rfl⟩ := Option.map_eq_some_iff.mp hi
    refine hs z (List.mem_of_getElem? h1) H s T F (fun y H' hy => hT y H' ?_) fun H' hn => hF H' ?_
    · rw [h1]
      exact hy
    · rw [h1]
      exact hn
  · rw [List.length_map, range_fm] at e
    exact e
/-- over a row -/
theorem lc_row {ts : List Addr} {r : Row} (f : Nat × Nat → Option V) (hD : H1 D = none) (ha : H1 a = some (.lst (ts.map V.ref))) (ht : TupsAt H1 ts r) (hz : r.length ≤ 1000)
    (hs : ∀ t e, e ∈ r → t ∈ ts → ∀ H, Same H1 H → H t = some (.tup (pr e)) → ∀ (T : V → Hp → Prop) (F : Hp → Prop), (∀ y H', f e = some y → Same H H' → T y H') → (∀ H', f e = none → Same H H' → F H') →
      g (.ref t) (wipe σ vs) H fun σ2 H2 => wipe σ2 vs = wipe σ vs ∧ tt σ2 H2 fun b H3 => if b = true then te σ2 H3 T else F H3)
    (hd : ∀ H', Same H1 H' → H' D = some (.lst (r.filterMap f)) → Qd H') :
    ∃ W : Nat → Nat → Hp → Prop, (∃ m, W 0 m (upd H1 D (.lst []))) ∧ ∀ i m H, W i m H →
      ((Itl K a).stop i H ∧ Qd H) ∨ ((Itl K a).go i H ∧ ∃ Nx : Hp → Prop, (∀ H', Nx H' → ∃ m', m' < m ∧ W (i + 1) m' H') ∧ ∀ x H', (Itl K a).yld i H x H' → g x (wipe σ vs) H' fun σ2 H2 => wipe σ2 vs = wipe σ vs ∧ tt σ2 H2 fun b H3 =>
        if b = true then te σ2 H3 fun y H4 => ∃ acc, H4 D = some (.lst acc) ∧ acc.length < sizeLine ∧ Nx (upd H4 D (.lst (acc ++ [y]))) else Nx H3) := by
  have hl := ht.len
  refine lc_ix (xs := ts.map V.ref) (fun i => (r[i]?).bind f) hD (fun H s => SqL.of (s _ _ ha)) (by rw [List.length_map, hl]; exact hz) (fun i x hi H s T F hT hF => ?_) fun H' s e => hd H' s ?_
  · rw [List.getElem?_map] at hi
    obtain ⟨t, h1, rfl⟩ := Option.map_eq_some_iff.mp hi
    obtain ⟨e, h2, h3⟩ := ht.get h1
    refine hs t e (List.mem_of_getElem? h2) (List.mem_of_getElem? h1) H s (s _ _ h3) T F (fun y H' hy => hT y H' ?_) fun H' hn => hF H' ?_
    · rw [h2]
      exact hy
    · rw [h2]
      exact hn
  · rw [List.length_map, hl, range_fm] at e
    exact e
/-- over a row, the entries as they stand -/
theorem lc_rowF {ts : List Addr} {r : Row} (p : Nat × Nat → Bool) (hD : H1 D = none) (ha : H1 a = some (.lst (ts.map V.ref))) (ht : TupsAt H1 ts r) (hz : r.length ≤ 1000)
    (hs : ∀ t e, e ∈ r → ∀ H, Same H1 H → H t = some (.tup (pr e)) → ∀ (T : V → Hp → Prop) (F : Hp → Prop), (∀ H', p e = true → Same H H' → T (.ref t) H') → (∀ H', ¬ p e = true → Same H H' → F H') →
      g (.ref t) (wipe σ vs) H fun σ2 H2 => wipe σ2 vs = wipe σ vs ∧ tt σ2 H2 fun b H3 => if b = true then te σ2 H3 T else F H3)
    (hd : ∀ H' us, Same H1 H' → H' D = some (.lst (us.map V.ref)) → TupsAt H' us (r.filter p) → Qd H') :
    ∃ W : Nat → Nat → Hp → Prop, (∃ m, W 0 m (upd H1 D (.lst []))) ∧ ∀ i m H, W i m H →
      ((Itl K a).stop i H ∧ Qd H) ∨ ((Itl K a).go i H ∧ ∃ Nx : Hp → Prop, (∀ H', Nx H' → ∃ m', m' < m ∧ W (i + 1) m' H') ∧ ∀ x H', (Itl K a).yld i H x H' → g x (wipe σ vs) H' fun σ2 H2 => wipe σ2 vs = wipe σ vs ∧ tt σ2 H2 fun b H3 =>
        if b = true then te σ2 H3 fun y H4 => ∃ acc, H4 D = some (.lst acc) ∧ acc.length < sizeLine ∧ Nx (upd H4 D (.lst (acc ++ [y]))) else Nx H3) := by
  have hl := ht.len
  refine lc_list (K := K) (a := a) (xs := ts.map V.ref) (fun i H => Same H1 H ∧ ∃ us, H D = some (.lst (us.map V.ref)) ∧ TupsAt H us ((r.take i).filter p)) ⟨sNew hD, [], upd_same, True.intro⟩ (fun i H _ h => SqL.of (h.1 _ _ ha)) ?_ ?_
  · rintro i x H hi ⟨s, us, e, hU⟩
    rw [List.getElem?_map] at hi
    obtain ⟨t, h1, rfl⟩ := Option.map_eq_some_iff.mp hi
    obtain ⟨en, h2, h3⟩ := ht.get h1
    have hz2 := hU.len
    have ln : us.length ≤ 1000 := by
      have q := List.length_filter_le p (r.take i)
      rw [List.length_take] at q
      omega
    refine hs t en (List.mem_of_getElem? h2) H s (s _ _ h3) _ _ (fun H' c s2 => ⟨_, s2 _ _ e, small1000 (by rw [List.length_map]; exact ln), sUpd (s.trans s2) hD, us ++ [t], ?_, ?_⟩) fun H' c s2 => ⟨s.trans s2, us, s2 _ _ e, ?_⟩
    · rw [upd_same, List.map_append]
      rfl
    · have q := filt_turn hU h2 (s _ _ h3)
      rw [if_pos c] at q
      refine q.mono fun b ys eb => ?_
      have nb : b ≠ D := fun z => by
        rw [z, e] at eb
        cases eb
      rw [upd_ne nb]
      exact s2 _ _ eb
    · have q := filt_turn hU h2 (s _ _ h3)
      rw [if_neg c] at q
      exact q.mono (sTups s2)
  · rintro H ⟨s, us, e, hU⟩
    rw [List.length_map, hl, List.take_length] at hU
    exact hd H us s e hU
end
/-! ### the colors of the others -/
def ot (r : Row) (w : Nat) : List Nat := (r.filter fun e => e.1 != w).map (·.2)
theorem fm_if {α : Type} {p : α → Bool} {v : α → V} : ∀ l : List α, l.filterMap (fun e => if p e = true then some (v e) else none) = (l.filter p).map v
  | [] => rfl
  | x :: l => by
    by_cases h : p x = true
    · rw [List.filterMap_cons_some (b := v x) (by rw [if_pos h]), List.filter_cons_of_pos h, List.map_cons, fm_if l]
    · rw [List.filterMap_cons_none (by rw [if_neg h]), List.filter_cons_of_neg h, fm_if l]
theorem fm_all {α : Type} {v : α → V} : ∀ l : List α, l.filterMap (fun e => some (v e)) = l.map v
  | [] => rfl
  | x :: l => by
    have e : (x :: l).filterMap (fun e => some (v e)) = v x :: l.filterMap fun e => some (v e) := List.filterMap_cons_some (f := fun e => some (v e)) rfl
    rw [e, fm_all l, List.map_cons]
theorem colOf_is {r : Row} (nd : (r.map (·.1)).Nodup) {e : Nat × Nat} (he : e ∈ r) : colOf r e.1 = e.2 := by
  induction r with
  | nil => cases he
  | cons x r ih =>
    have nd' := List.nodup_cons.mp (show (x.1 :: r.map (·.1)).Nodup from nd)
    unfold colOf
    rcases List.mem_cons.mp he with z | z
    · rw [z, List.find?_cons_of_pos (by simp)]
      rfl
    · have : x.1 ≠ e.1 := fun q => nd'.1 (by rw [q]; exact List.mem_map_of_mem (f := (·.1)) z)
      rw [List.find?_cons_of_neg (by simpa using this)]
      exact ih nd'.2 z
theorem ot_find {c w : Nat} : ∀ {r : Row}, (∀ e ∈ r, e.1 = w → e.2 = c) → (ot r w).find? (fun x => x != c) = fo r c
  | [], _ => rfl
  | e :: r, h => by
    have ih := ot_find (r := r) fun x hx => h x (List.mem_cons_of_mem _ hx)
    by_cases k : e.1 = w
    · rw [fo_no (h e List.mem_cons_self k), ← ih]
      unfold ot
      rw [List.filter_cons_of_neg (by simpa using k)]
    · have e2 : ot (e :: r) w = e.2 :: ot r w := by
        unfold ot
        rw [List.filter_cons_of_pos (by simpa using k)]
        rfl
      rw [e2]
      by_cases d : e.2 = c
      · rw [fo_no d, ← ih, List.find?_cons_of_neg (by simpa using d)]
      · rw [fo_yes d, List.find?_cons_of_pos (by simpa using d)]
/-- what a called person takes, counted from the others -/
def cand (o : List Nat) (c : Nat) : List Nat := (o.take 1).filter (fun x => x != c) ++ o.filter fun x => x != o.headD 0
theorem cand_head (o : List Nat) (c : Nat) : (cand o c).head? = o.find? fun x => x != c := by
  unfold cand
  cases o with
  | nil => rfl
  | cons x o =>
    show (([x] : List Nat).filter (fun y => y != c) ++ (x :: o).filter fun y => y != x).head? = _
    by_cases h : x = c
    · rw [List.filter_cons_of_neg (by simpa using h), List.filter_nil, List.nil_append, List.filter_cons_of_neg (by simp), List.head?_filter, List.find?_cons_of_neg (by simpa using h), h]
    · rw [List.filter_cons_of_pos (by simpa using h), List.find?_cons_of_pos (by simpa using h)]
      rfl
theorem cand_is {r : Row} (h : Vr r) {w : Nat} : (cand (ot r w) (colOf r w)).head? = fo r (colOf r w) := by
  rw [cand_head]
  exact ot_find fun e he k => by rw [← k, colOf_is h.nodup he]
/-- letters as data -/
abbrev dS (cs : List Nat) : PyData := .list (cs.map fun c => .str ⟨#[c]⟩)
theorem dp_strs {K : PySem.W.Frag} {H : Hp} : ∀ cs : List Nat, DpAll K H (cs.map sg) (cs.map fun c => PyData.str ⟨#[c]⟩)
  | [] => .nil
  | c :: cs => .cons (.str _) (dp_strs cs)
theorem lay_strs : ∀ cs : List Nat, (∀ c ∈ cs, c ≤ 122) → PyData.canLayAll0 (cs.map fun c => PyData.str ⟨#[c]⟩) = true ∧ PyData.depthAll (cs.map fun c => PyData.str ⟨#[c]⟩) ≤ 1
  | [], _ => by
    simp only [List.map_nil, PyData.canLayAll0, PyData.depthAll]
    exact ⟨trivial, Nat.zero_le _⟩
  | c :: cs, h => by
    obtain ⟨h1, h2⟩ := lay_strs cs fun x hx => h x (List.mem_cons_of_mem _ hx)
    simp only [List.map_cons, PyData.canLayAll0, PyData.canLay0, PyData.depthAll, PyData.depth]
    rw [h1, str_ok (h c List.mem_cons_self)]
    exact ⟨rfl, by omega⟩
theorem shp_strs (cs : List Nat) (h : ∀ c ∈ cs, c ≤ 122) : SeqAt.shaped (dS cs) = true := by
  obtain ⟨h1, h2⟩ := lay_strs cs h
  refine Bool.and_eq_true_iff.mpr ⟨?_, decide_eq_true ?_⟩
  · simp only [PyData.canLay0]
    exact h1
  · simp only [PyData.depth]
    omega
theorem eqv_nilS (cs : List Nat) : PyData.eqv (dS cs) (.list []) = cs.isEmpty := by
  cases cs with
  | nil => rfl
  | cons n ns => simp [PyData.eqv, PyData.eqvAll]
theorem cut1 (xs : List V) : cutV xs none (some 1) = xs.take 1 := by
  unfold cutV HT.sIx
  cases xs with
  | nil => rfl
  | cons x xs => simp
end LX

/-! ### defs that show data (repr): the same promises, said where no repr runs -/
namespace LX
open PySem L2
open PySem.Spec PyProof.Rows
/-- as FnOk, for callers among whom no repr runs -/
structure FnG (P : Program) (w : World) (K : PySem.W.Frag) (mg : Str → Option Value) (base : Heap) (k : Nat) (f : Addr) (fd : FuncData) (ps : List Str) (sp : Sp) : Prop where
  len : ∀ vs H Q E, sp vs H Q E → vs.length = ps.length
  go : ∀ (A : Around) (o : List Env) (s : Shared) (H : Hp) (ar : Args) (us : List Value) (vs : List V) (Q : VK) (E : XK), Room k A → A.guards = some [] → Env0 P w K mg base A o s H →
    BindsTo s fd ar (ps.zip us) → Vals vs us → sp vs H Q E → codeAny (model P w) A (.call (.ref f) ar) (CR CX0 o P w H s Q E) s
section
variable {P : Program} {w : World} {K : PySem.W.Frag} {mg : Str → Option Value} {base : Heap} {x qual : Str} {st : Stmt} {f : Addr} {fd : FuncData} {N ps : List Str} {k : Nat} {sp : Sp}
/-- a def of the text by its body, as Fun.ok, with the word that no repr runs around it -/
theorem fnG (F : Fun K x qual st f fd) (S : FnScope N ps (defScope st)) (len : ∀ vs H Q E, sp vs H Q E → vs.length = ps.length)
    (body : ∀ (cdv : Value) (A : Around) (outer : List Env) (s : Shared) (H : Hp) (vs : List V) (Q : VK) (E : XK), Room k (A.deeper (envOfC qual (defScope st) s.heap.objs.size f cdv)) →
      (A.deeper (envOfC qual (defScope st) s.heap.objs.size f cdv)).guards = some [] → sp vs H Q E →
      ∃ t, PSs (cxOf CX0 P w K mg base N qual (defScope st) f cdv A outer s H E).nox (defBody st) t ∧ t { nx := fun _ H' => Q .non H', rt := Q } (start N vs) H) :
    FnG P w K mg base (k + 1) f fd ps sp := by
  obtain ⟨oc, od, kV, doc, pm, an, cdv, ct, osl, rfl, lk, hcd⟩ := F.ex
  constructor
  · exact len
  intro A o s H ar us vs Q E room quiet e0 bind r want
  have n := len vs H Q E want
  have KH := e0.mod.kin.keeps fun b ob e => (e0.bs b ob e).1
  have NL := e0.mod.nolimit.keeps fun b ob e => (e0.bs b ob e).1
  -- every parameter is a local or a cell
  have par : ∀ q ∈ ps.zip us, (defScope st).names.lookup q.1 = some .local ∨ ((defScope st).names.lookup q.1 = some .cell ∧ ((cellsFrom (s.heap.objs.size + 1) (defScope st).names []).lookup q.1).isSome = true) := by
    intro q hq
    have hm : q.1 ∈ ps := (List.of_mem_zip (show (q.1, q.2) ∈ ps.zip us from hq)).1
    exact (S.par q.1 hm).imp id fun c => ⟨c, PySem.W.cellsFrom_some _ _ _ (Or.inl c)⟩
  apply codeAny_call_function room.depth (KH _ _ lk) rfl S.co S.gen rfl (PySem.W.codeRec_of KH hcd)
  apply bind
  apply wpAny_newFunctionEnv_cells S.kind par
  intro env henv s1 made
  cases henv
  refine ⟨NL.keeps made.toInCall.keep, ?_⟩
  apply codeAny_func
  obtain ⟨t, der, rd⟩ := body cdv A o s H vs Q E (room.deeper _) quiet want
  have inv := inv_start (CX := CX0) (E := E) (N := N) S room.hd e0 n r made
  apply wpAny_mono (der.nox.run [] s1 (start N vs) H _ inv rd)
  · intro fl s2 hs
    cases fl with
    | brk =>
      obtain ⟨_, _, _, no⟩ := hs
      exact no.elim
    | cont =>
      obtain ⟨_, _, _, no⟩ := hs
      exact no.elim
    | next =>
      obtain ⟨σ', H', J, q⟩ := hs
      exact ⟨.non, H', J.os, J.bare, J.base, J.hok, rfl, q⟩
    | ret u =>
      obtain ⟨v, σ', H', J, rv, q⟩ := hs
      exact ⟨v, H', J.os, J.bare, J.base, J.hok, rv, q⟩
  · exact fun _ _ z => z
theorem FnG.mono {j : Nat} (F : FnG P w K mg base j f fd ps sp) (h : j ≤ k) : FnG P w K mg base k f fd ps sp := ⟨F.len, fun A o s H ar us vs Q E room => F.go A o s H ar us vs Q E (room.mono h)⟩
end
section
variable {X : Cx} {k n : Nat} {f : Addr} {fd : FuncData} {ps ks : List Str} {sp : Sp} {x : Str} {p pos : Pos} {e : Expr} {es : List Expr} {kws : List Keyword} {t tk : TA} {g : List Value → List Value → List Value} {gV : List V → List V → List V}
/-- f(e, ..), f a def that shows data -/
theorem pe_callG (F : FnG X.prog X.w X.K X.mg X.base k f fd ps sp) (room : Room k X.A) (quiet : X.A.guards = some []) (g0 : Gl X x) (g1 : X.mg x = some (.ref f)) (g2 : PySem.W.keepIn X.K (.ref f) = true) (b : Binds X.K fd ps [])
    (ha : PA X (e :: es) t) (q0 : (x == ("__debug__" : Str)) = false := by decide) (q1 : starEach (e :: es) X.env = (false, eval e X.env) :: starEach es X.env := by rfl) (q2 : (backTo pos (starEach es X.env)).any (·.1) = false := by rfl) :
    PE X (.Call (.Name x p) (e :: es) [] pos) (tCall sp [] E0 t) := by
  constructor
  intro pins s σ H Q I h
  apply wpAny_Call_Name_kw
  apply ld_glob I g0 g1 _ q0
  refine PySem.W.callWith_K (h₀ := X.base) I.ok.mod.kin g2 (thn (ha.run pos pins s σ H _ I h) ?_) q1 q2
  rintro us s1 ⟨vs, H1, J, r, q⟩
  refine ⟨J.kIn, ?_⟩
  have q' : sp vs H1 Q E0 := by rw [List.append_nil] at q; exact q
  have lu : (us ++ []).length = ps.length := by
    rw [List.append_nil, ← r.length]
    exact F.len _ _ _ _ q'
  have bd := b s1 us J.kIn lu
  rw [List.append_nil] at bd
  refine wpAny_call (codeAny_mono (F.go X.A X.stack s1 H1 ⟨us, []⟩ us vs Q E0 room quiet J.env0 bd r q') ?_)
  intro res s2 hq
  match res, hq with
  | .error _, hq => exact hq.elim
  | .ok (.ret _), hq => exact J.after hq
  | .ok .next, hq => exact hq.elim
  | .ok .brk, hq => exact hq.elim
  | .ok .cont, hq => exact hq.elim
/-- f(k = v, ..): nothing by position -/
theorem pe_callN0 (F : FnOk X.prog X.w X.K X.mg X.base CX0 k f fd ps sp) (room : Room k X.A) (g0 : Gl X x) (g1 : X.mg x = some (.ref f)) (g2 : PySem.W.keepIn X.K (.ref f) = true) (b : KBn X.K fd ps 0 ks g gV) (hk : PK X kws tk)
    (q1 : (backToKw pos (keywordEach kws X.env)).all (·.1.isSome) = true := by rfl) (q2 : (backToKw pos (keywordEach kws X.env)).filterMap (·.1) = ks := by rfl) (q0 : (x == ("__debug__" : Str)) = false := by decide)
    (q3 : ((backTo pos (starEach [] X.env)).any (·.1) || (backToKw pos (keywordEach kws X.env)).any (·.1.isNone)) = false := by rfl) :
    PE X (.Call (.Name x p) [] kws pos) (tCallN 0 ks.length sp gV E0 tNil tk) := by
  constructor
  intro pins s σ H Q I h
  apply wpAny_Call_Name_kw
  apply ld_glob I g0 g1 _ q0
  refine PySem.W.callWith_KW0 (h₀ := X.base) I.ok.mod.kin g2 q1 ?_ q3
  refine thn (hk.run pos pins s σ H _ I h) ?_
  rintro ws s2 ⟨zs, H2, J, rz, l1, l2, q⟩
  refine ⟨J.kIn, ?_⟩
  rw [q2]
  exact run_fnN (us := []) (vs := []) F room b pass0 J .nil rz l1 l2 q
/-- repr of data: none, bools, ints, texts, lists and tuples of these -/
def qRepr (K : PySem.W.Frag) : List V → Hp → VK → Prop := fun vs H Q => ∃ (v : V) (d : PyData), vs = [v] ∧ (∃ a, v = .ref a) ∧ Dp K H v d ∧ d.showable = true ∧ d.hasDict = false ∧ d.depth ≤ 20 ∧ d.shown.length ≤ sizeLine ∧ Q (.str d.shown) H
theorem krepr {K : PySem.W.Frag} (quiet : X.A.guards = some []) (hu : X.A.units + 64 < cLine) (h : X.K = K := by rfl) : CallR X (.builtin "repr") (qRepr K) := by
  subst h
  intro pins s σ H vs us Q I r want
  obtain ⟨v, d, rfl, ⟨a, rfl⟩, dp, sh, nd, dd, sz, q⟩ := want
  obtain ⟨u, rfl, ru⟩ : ∃ u, us = [u] ∧ RelV (.ref a) u := by
    cases r with
    | cons r1 r2 =>
      cases r2
      exact ⟨_, rfl, r1⟩
  cases ru
  obtain ⟨as, rs⟩ := Dp.reads I d (.ref a) (.ref a) dp rfl
  refine PySem.repr_of_reads' rs sh (fun z => by rw [nd] at z; cases z) quiet (by omega) (fun _ _ e => e) ?_ sz
  intro h' y tk keep
  exact ⟨.str d.shown, H, I.kept keep, ⟨y, rfl⟩, q⟩
end
/-! ### the law's own head, for a law that shows data -/
/-- what is tracked at the start: the script, locked, if it is none of the module's own objects -/
def H0 (K : PySem.W.Frag) (a : Addr) (o : Obj) (xs : List V) : Hp := fun b => if b = a ∧ (K.lookup a).isNone = true then some (.frz o (.lst xs)) else none
theorem H0_some {K : PySem.W.Frag} {a b : Addr} {o : Obj} {xs : List V} {u : HO} (h : H0 K a o xs b = some u) : b = a ∧ K.lookup a = none ∧ u = .frz o (.lst xs) := by
  unfold H0 at h
  by_cases c : b = a ∧ (K.lookup a).isNone = true
  · rw [if_pos c] at h
    exact ⟨c.1, Option.isNone_iff_eq_none.mp c.2, (Option.some.inj h).symm⟩
  · rw [if_neg c] at h
    cases h
theorem law_callG {P : Program} {w : World} {K : PySem.W.Frag} {mg mb : Str → Option Value} {k : Nat} {fa a : Addr} {fd : FuncData} {x : Str} {sp : Sp} {s₁ : Shared} {vs : List Value} {ns : List Int} (inK : K.In s₁.heap) (gm : s₁.heap.Ns mainGlobals mg) (gb : s₁.heap.Ns builtinsNs mb)
    (bb : ∀ y : Str, y ≠ "__name__" → mb y = bootBuiltins y) (nl : s₁.heap.NoLimit) (gens : s₁.gens = #[]) (at_a : s₁.heap.get? a = some { cls := .type "list", data := .seq vs.toArray }) (hin : IntsAre vs ns) (few : ns.length ≤ sizeLine) (room : Room k callerA)
    (F : ∀ base : Heap, K.In base → base.Ns mainGlobals mg → FnG P w K mg base k fa fd [x] sp) (bind : ∀ (s : Shared) (u : Value), BindsTo s fd ⟨[u], []⟩ [(x, u)])
    (good : ∀ H : Hp, Only H → SqL K H a (ns.map V.int) → sp [.ref a] H (fun v _ => v = .bl true) fun _ _ _ => False) :
    codeAny (model P w) callerA (.call (.ref fa) ⟨[.ref a], []⟩) (fun r s' => r = .ok (.ret (.bool true)) ∧ OldK s₁.heap s'.heap ∧ s'.os = s₁.os ∧ AllBare s'.gens) s₁ := by
  have rv := vals_ints hin
  have nv := hin.length
  generalize ho : ({ cls := .type "list", data := .seq vs.toArray } : Obj) = o at at_a
  have only : Only (H0 K a o (ns.map V.int)) := fun b => by
    cases q : H0 K a o (ns.map V.int) b with
    | none => exact Or.inl rfl
    | some u => exact Or.inr ⟨o, _, by rw [(H0_some q).2.2]⟩
  have seq : SqL K (H0 K a o (ns.map V.int)) a (ns.map V.int) := by
    cases q : K.lookup a with
    | none => exact Or.inl (Or.inr ⟨o, if_pos ⟨rfl, by rw [q]; rfl⟩⟩)
    | some o' =>
      have e := inK a o' q
      rw [at_a] at e
      cases e
      subst ho
      exact Or.inr ⟨_, vs.toArray, _, q, rfl, rfl, rfl, by rw [List.size_toArray, nv]; exact few, by simpa using rv⟩
  have held : HOk P w (H0 K a o (ns.map V.int)) s₁.heap := fun b u q => by
    obtain ⟨rfl, _, rfl⟩ := H0_some q
    subst ho
    exact ⟨at_a, by rw [List.length_map]; exact few, vs, _, rv, at_a⟩
  -- what is not the script stands in the base
  have out : ∀ {b : Addr} {ob : Obj}, s₁.heap.get? b = some ob → H0 K a o (ns.map V.int) b = none → (hidT s₁.heap (H0 K a o (ns.map V.int))).get? b = some ob := fun e n => hidT_get e n
  have dicts : ∀ {b : Addr} {ob : Obj} {es : Array DictEntry} {n : Nat}, s₁.heap.get? b = some ob → ob.data = .dict es n → H0 K a o (ns.map V.int) b = none := by
    intro b ob es n e d
    cases q : H0 K a o (ns.map V.int) b with
    | none => rfl
    | some u =>
      obtain ⟨rfl, _, _⟩ := H0_some q
      rw [at_a] at e
      cases e
      subst ho
      cases d
  have names : ∀ {b : Addr} {m : Str → Option Value}, s₁.heap.Ns b m → (hidT s₁.heap (H0 K a o (ns.map V.int))).Ns b m := by
    rintro b m ⟨ob, es, n, e, d, z⟩
    exact ⟨ob, es, n, out e (dicts e d), d, z⟩
  have kb : K.In (hidT s₁.heap (H0 K a o (ns.map V.int))) := fun b ob e => by
    refine out (inK b ob e) ?_
    cases q : H0 K a o (ns.map V.int) b with
    | none => rfl
    | some u =>
      obtain ⟨rfl, q2, _⟩ := H0_some q
      rw [q2] at e
      cases e
  obtain ⟨mc, c1, c2⟩ := nl
  have e0 : Env0 P w K mg (hidT s₁.heap (H0 K a o (ns.map V.int))) callerA [] s₁ (H0 K a o (ns.map V.int)) := {
    frames := rfl
    mod := ⟨kb, names gm, ⟨mb, names gb, bb⟩, ⟨mc, names c1, c2⟩⟩
    bs := fun b ob e => of_hidT e
    bsz := Nat.le_of_eq (hidT_size _ _)
    funs := trivial
    frf := fun b hb => absurd (show b ∈ ([] : List Addr) from hb) List.not_mem_nil
    hok := held
    bare := .of_eq gens }
  refine codeAny_mono ((F _ kb (names gm)).go callerA [] s₁ (H0 K a o (ns.map V.int)) ⟨[.ref a], []⟩ [.ref a] [.ref a] _ _ room rfl e0 (bind s₁ (.ref a)) (.cons rfl .nil) (good _ only seq)) ?_
  intro res s' hq
  match res, hq with
  | .error _, hq => exact hq.elim
  | .ok .next, hq => exact hq.elim
  | .ok .brk, hq => exact hq.elim
  | .ok .cont, hq => exact hq.elim
  | .ok (.ret u), hq =>
    obtain ⟨v, H', os, bare, un, held', r', q⟩ := hq
    have q' : v = .bl true := q
    subst q'
    cases (show u = Value.bool true from r')
    refine ⟨rfl, OldK.of_keep fun b ob e => ?_, os, bare⟩
    cases z : H0 K a o (ns.map V.int) b with
    | none => exact un.keep b ob e z (fun y => absurd (show b ∈ ([] : List Addr) from y) List.not_mem_nil) List.not_mem_nil
    | some y =>
      obtain ⟨rfl, _, rfl⟩ := H0_some z
      obtain ⟨e1, _⟩ := held _ _ z
      obtain ⟨e2, _⟩ := held' _ _ (un.frzs _ _ _ z)
      rw [e] at e1
      cases e1
      exact e2
theorem walk_ofG {l : PySem.W.OpenLaw} {n k : Nat} {q : Program} {loose : List Str} {XP : (Str → Option Value) → Heap → Prop} {YP : World → Heap → Prop} {d : DefRec} {K : Params → PySem.W.Frag} {sp : PySem.W.Frag → Sp} {x : Str} (hn : l.most = some n) (few : n ≤ sizeLine)
    (nodef : d.params.defaults = []) (room : Room k callerA) (hY : ∀ (w : World) (h : Heap), YP w h → (K w.params).In h)
    (F : ∀ (w : World) (mg : Str → Option Value) (fa : Addr) (h : Heap), (K w.params).In h → h.Ns mainGlobals mg → mg d.name = some (.ref fa) → ∃ fd : FuncData, (∀ (s : Shared) (u : Value), BindsTo s fd ⟨[u], []⟩ [(x, u)]) ∧
      ∀ base : Heap, (K w.params).In base → base.Ns mainGlobals mg → FnG l.prog w (K w.params) mg base k fa fd [x] (sp (K w.params)))
    (good : ∀ (K : PySem.W.Frag) (H : Hp) (a : Addr) (ns : List Int), ns.length ≤ n → Only H → SqL K H a (ns.map V.int) → sp K [.ref a] H (fun v _ => v = .bl true) fun _ _ _ => False) :
    PySem.W.WalkO q loose XP YP l.row.toRowW d [] (fun f vs => PySem.call f vs) := by
  apply Att.attach_call hn nodef
  intro w s₀ s₁ mg mb fa o pm cd doc a vs ns G Y ho hd hcd hmg at_a hin most gens
  have inK := hY w _ Y
  obtain ⟨fd, bind, hF⟩ := F w mg fa _ inK G.T.g hmg
  exact law_callG inK G.T.g G.T.b G.T.builtins G.T.nolimit gens at_a hin (Nat.le_trans most few) room hF bind fun H only seq => good _ H a ns most only seq
/-! ### calls with keywords: the values in the parameters' order -/
def pick {α : Type} (ix : List Nat) (l : List α) : List α := ix.filterMap (l[·]?)
theorem vals_at {vs : List V} {us : List Value} (h : Vals vs us) : ∀ i : Nat, (vs[i]? = none ∧ us[i]? = none) ∨ ∃ v u, vs[i]? = some v ∧ us[i]? = some u ∧ RelV v u := by
  induction h with
  | nil => exact fun i => Or.inl ⟨rfl, rfl⟩
  | cons r _ ih =>
    intro i
    cases i with
    | zero => exact Or.inr ⟨_, _, rfl, rfl, r⟩
    | succ i => exact ih i
theorem vals_pick {vs : List V} {us : List Value} (h : Vals vs us) : ∀ ix : List Nat, Vals (pick ix vs) (pick ix us)
  | [] => .nil
  | i :: ix => by
    unfold pick
    rcases vals_at h i with ⟨h1, h2⟩ | ⟨v, u, h1, h2, r⟩
    · rw [List.filterMap_cons_none h1, List.filterMap_cons_none h2]
      exact vals_pick h ix
    · rw [List.filterMap_cons_some h1, List.filterMap_cons_some h2]
      exact .cons r (vals_pick h ix)
theorem _root_.L2.Fun.kb {K : PySem.W.Frag} {x qual : Str} {st : Stmt} {f : Addr} {fd : FuncData} {ps ks : List Str} {n : Nat} {ix : List Nat} (F : Fun K x qual st f fd)
    (h : ∀ (kV doc pm : Value) (an : Option Addr) (cdv ct : Value) (us ws : List Value), us.length = n → ws.length = ks.length → bindArgs (PySem.W.fnOf x qual (defArgs st) (defBody st) (defScope st) .none kV doc pm an cdv ct) ⟨us, ks.zip ws⟩ = pure (ps.zip (pick ix (us ++ ws)))) :
    KBn K fd ps n ks (fun us ws => pick ix (us ++ ws)) (fun vs zs => pick ix (vs ++ zs)) := by
  obtain ⟨oc, od, kV, doc, pm, an, cdv, ct, osl, rfl, lk, hcd⟩ := F.ex
  exact ⟨fun s us ws _ l1 l2 => .of_eq (h kV doc pm an cdv ct us ws l1 l2), fun r1 r2 => vals_pick (r1.append r2) ix⟩
theorem rd_callN0 {σ : L2.St} {H : Hp} {Q : VK} {m : Nat} {sp : Sp} {gV : List V → List V → List V} {E : XK} {tk : TA} (q : tk σ H fun zs H2 => zs.length = m ∧ sp (gV [] zs) H2 Q E) : tCallN 0 m sp gV E tNil tk σ H Q := by
  show tk σ H fun zs H2 => ([] : List V).length = 0 ∧ zs.length = m ∧ sp (gV [] zs) H2 Q E
  have e : (fun (zs : List V) (H2 : Hp) => ([] : List V).length = 0 ∧ zs.length = m ∧ sp (gV [] zs) H2 Q E) = fun zs H2 => zs.length = m ∧ sp (gV [] zs) H2 Q E := by
    funext zs H2
    exact propext ⟨fun z => z.2, fun z => ⟨rfl, z⟩⟩
  rw [e]
  exact q
/-! ### what can be shown: no deeper than n, the leaves no longer than B, no heavier than m -/
structure Sh (B n m : Nat) (d : PyData) : Prop where
  sh : d.showable = true
  nd : d.hasDict = false
  dp : d.depth ≤ n
  ls : d.leavesShort B = true
  wt : d.weight ≤ m
theorem sh_all {B n m : Nat} : ∀ {xs : List PyData}, (∀ x ∈ xs, Sh B n m x) → PyData.showableAll xs = true ∧ PyData.hasDictAll xs = false ∧ PyData.depthAll xs ≤ n ∧ PyData.leavesShortAll B xs = true ∧ PyData.weightAll xs ≤ xs.length * (m + 1)
  | [], _ => by
    simp only [PyData.showableAll, PyData.hasDictAll, PyData.depthAll, PyData.leavesShortAll, PyData.weightAll]
    exact ⟨trivial, trivial, Nat.zero_le _, trivial, Nat.zero_le _⟩
  | x :: xs, h => by
    obtain ⟨a1, a2, a3, a4, a5⟩ := h x List.mem_cons_self
    obtain ⟨b1, b2, b3, b4, b5⟩ := sh_all fun y hy => h y (List.mem_cons_of_mem _ hy)
    have e : (xs.length + 1) * (m + 1) = xs.length * (m + 1) + (m + 1) := Nat.succ_mul ..
    simp only [PyData.showableAll, PyData.hasDictAll, PyData.depthAll, PyData.leavesShortAll, PyData.weightAll, List.length_cons, a1, a2, a4, b1, b2, b4, Bool.and_self, Bool.or_self, true_and, e]
    omega
theorem Sh.list {B n m : Nat} {xs : List PyData} (h : ∀ x ∈ xs, Sh B n m x) : Sh B (n + 1) (xs.length * (m + 1)) (.list xs) := by
  obtain ⟨a1, a2, a3, a4, a5⟩ := sh_all h
  exact ⟨by simpa only [PyData.showable] using a1, by simpa only [PyData.hasDict] using a2, by simp only [PyData.depth]; omega, by simpa only [PyData.leavesShort] using a4, by simpa only [PyData.weight] using a5⟩
theorem Sh.tuple {B n m : Nat} {xs : List PyData} (h : ∀ x ∈ xs, Sh B n m x) : Sh B (n + 1) (xs.length * (m + 1)) (.tuple xs) := by
  obtain ⟨a1, a2, a3, a4, a5⟩ := sh_all h
  exact ⟨by simpa only [PyData.showable] using a1, by simpa only [PyData.hasDict] using a2, by simp only [PyData.depth]; omega, by simpa only [PyData.leavesShort] using a4, by simpa only [PyData.weight] using a5⟩
theorem Sh.mono {B n m n' m' : Nat} {d : PyData} (h : Sh B n m d) (h1 : n ≤ n') (h2 : m ≤ m') : Sh B n' m' d := ⟨h.sh, h.nd, Nat.le_trans h.dp h1, h.ls, Nat.le_trans h.wt h2⟩
theorem Sh.none {B : Nat} : Sh B 0 0 .none := ⟨by simp only [PyData.showable], by simp only [PyData.hasDict], by simp only [PyData.depth]; omega, by simp only [PyData.leavesShort], by simp only [PyData.weight]; omega⟩
theorem Sh.chr {B c : Nat} (h : c ≤ 122) : Sh B 0 1 (.str ⟨#[c]⟩) := ⟨by simp only [PyData.showable], by simp only [PyData.hasDict], by simp only [PyData.depth]; omega, by
  simp only [PyData.leavesShort]
  show [c].all (fun c => decide (c < 16 ^ 8)) = true
  have : c < 16 ^ 8 := Nat.lt_of_le_of_lt h (by decide)
  simp only [List.all_cons, List.all_nil, Bool.and_true, decide_eq_true_eq]
  exact this, by simp only [PyData.weight]; exact Nat.le_refl 1⟩
theorem Sh.int {i : Int} (h : i.natAbs < 10 ^ 12) : Sh 13 0 40 (.int i) := by
  have l : i.natAbs.log2 < 40 := by
    by_cases z : i.natAbs = 0
    · rw [z]
      decide
    · exact (Nat.log2_lt z).mpr (Nat.lt_of_lt_of_le h (by decide))
  refine ⟨?_, by simp only [PyData.hasDict], by simp only [PyData.depth]; omega, ?_, ?_⟩
  · simp only [PyData.showable, decide_eq_true_eq]
    omega
  · simp only [PyData.leavesShort, decide_eq_true_eq]
    exact PyData.shown_int_le h
  · simp only [PyData.weight]
    split
    · omega
    · omega
theorem Sh.fits {n m : Nat} {d : PyData} (h : Sh 13 n m d) (hm : m ≤ 2 ^ 20) : d.shown.length ≤ sizeLine := PyData.shown_fits (by decide) (by decide) h.ls (Nat.le_trans h.wt hm)
theorem rd_repr {K : PySem.W.Frag} {H : Hp} {Q : VK} {a : Addr} {n m : Nat} {d : PyData} (hd : Dp K H (.ref a) d) (h : Sh 13 n m d) (hn : n ≤ 20) (hm : m ≤ 2 ^ 20) (q : Q (.str d.shown) H) : qRepr K [.ref a] H Q :=
  ⟨_, d, rfl, ⟨a, rfl⟩, hd, h.sh, h.nd, Nat.le_trans h.dp hn, h.fits hm, q⟩
theorem sh_row {r : Row} (h : Vr r) : Sh 13 2 (60 * 83) (dR r) := by
  have e : ∀ x ∈ r.map dE, Sh 13 1 82 x := fun x hx => by
    obtain ⟨y, hy, rfl⟩ := List.mem_map.mp hx
    refine (Sh.tuple (xs := [.int (y.1 : Int), .str ⟨#[y.2]⟩]) (n := 0) (m := 40) fun z hz => ?_).mono (Nat.le_refl _) (show 2 * 41 ≤ 82 by decide)
    have hl := h.col y hy
    have hp := h.lt hy
    have h60 := h.n2
    rcases List.mem_cons.mp hz with c | c
    · rw [c]
      exact Sh.int (by have : (10 : Nat) ^ 12 = 1000000000000 := by decide
                       omega)
    · rw [List.mem_singleton.mp c]
      exact (Sh.chr hl.2).mono (Nat.le_refl _) (by decide)
  refine (Sh.list e).mono (Nat.le_refl _) ?_
  rw [List.length_map]
  exact Nat.mul_le_mul_right 83 h.n2
/-- letters or None -/
def dO : Option Nat → PyData
  | none => .none
  | some c => .str ⟨#[c]⟩
theorem dp_opt {K : PySem.W.Frag} {H : Hp} (o : Option Nat) : Dp K H (oV o) (dO o) := by
  cases o with
  | none => exact .non
  | some c => exact .str _
theorem dp_opts {K : PySem.W.Frag} {H : Hp} : ∀ os : List (Option Nat), DpAll K H (os.map oV) (os.map dO)
  | [] => .nil
  | o :: os => .cons (dp_opt o) (dp_opts os)
theorem sh_opt {o : Option Nat} (h : ∀ c, o = some c → c ≤ 122) : Sh 13 0 1 (dO o) := by
  cases o with
  | none => exact Sh.none.mono (Nat.le_refl _) (by decide)
  | some c => exact Sh.chr (h c rfl)
theorem sh_opts {os : List (Option Nat)} (h : ∀ c, some c ∈ os → c ≤ 122) : Sh 13 1 (os.length * 2) (.list (os.map dO)) := by
  have := Sh.list (xs := os.map dO) (n := 0) (m := 1) (B := 13) fun x hx => by
    obtain ⟨o, ho, rfl⟩ := List.mem_map.mp hx
    exact sh_opt fun c e => h c (by rw [← e]; exact ho)
  rw [List.length_map] at this
  exact this
end LX
namespace K14
open PySem L2 LX
def top (i : Nat) : Stmt := PySem.Challenge.pw_lastother_k14_calls_applied.main.body.getD i (.Pass ⟨0, 0, 0, 0⟩)
abbrev s__law_cells : Stmt := top 23
abbrev s_is_integer : Stmt := top 5
abbrev s_is_color : Stmt := top 6
abbrev s_is_colored_integer : Stmt := top 11
abbrev s_is_lineup : Stmt := top 9
abbrev s_check_lineup : Stmt := top 10
abbrev s_is_person : Stmt := top 18
abbrev s_check_calls : Stmt := top 19
abbrev s_first_other_color : Stmt := top 12
abbrev s_colors_by_person : Stmt := top 13
abbrev s_apply_call : Stmt := top 17
abbrev s_lineup_after : Stmt := top 16
abbrev s__law_source : Stmt := top 21
abbrev s__law_draw : Stmt := top 22
abbrev s__law_row : Stmt := top 24
abbrev s__law_new_color : Stmt := top 26
abbrev s__law_after_one : Stmt := top 27
abbrev s__law_expected : Stmt := top 30
abbrev s__law_same : Stmt := top 29
abbrev s_colors_taken : Stmt := top 15
abbrev s__law_holds : Stmt := top 31
abbrev s__law_sequence : Stmt := top 25
abbrev s_law : Stmt := top 32
structure Ad where
  f__law_cells : Addr
  d__law_cells : FuncData
  f_is_integer : Addr
  d_is_integer : FuncData
  f_is_color : Addr
  d_is_color : FuncData
  f_is_colored_integer : Addr
  d_is_colored_integer : FuncData
  f_is_lineup : Addr
  d_is_lineup : FuncData
  f_check_lineup : Addr
  d_check_lineup : FuncData
  f_is_person : Addr
  d_is_person : FuncData
  f_check_calls : Addr
  d_check_calls : FuncData
  f_first_other_color : Addr
  d_first_other_color : FuncData
  f_colors_by_person : Addr
  d_colors_by_person : FuncData
  f_apply_call : Addr
  d_apply_call : FuncData
  f_lineup_after : Addr
  d_lineup_after : FuncData
  f__law_source : Addr
  d__law_source : FuncData
  f__law_draw : Addr
  d__law_draw : FuncData
  f__law_row : Addr
  d__law_row : FuncData
  f__law_new_color : Addr
  d__law_new_color : FuncData
  f__law_after_one : Addr
  d__law_after_one : FuncData
  f__law_expected : Addr
  d__law_expected : FuncData
  f__law_same : Addr
  d__law_same : FuncData
  f_colors_taken : Addr
  d_colors_taken : FuncData
  f__law_holds : Addr
  d__law_holds : FuncData
  f__law_sequence : Addr
  d__law_sequence : FuncData
  f_law : Addr
  d_law : FuncData
  t_MOST_PEOPLE : Tok
structure Txt (K : PySem.W.Frag) (mg : Str → Option Value) (a : Ad) : Prop where
  b_all : mg "all" = none
  b_bool : mg "bool" = none
  b_enumerate : mg "enumerate" = none
  b_int : mg "int" = none
  b_isinstance : mg "isinstance" = none
  b_len : mg "len" = none
  b_list : mg "list" = none
  b_max : mg "max" = none
  b_min : mg "min" = none
  b_range : mg "range" = none
  b_repr : mg "repr" = none
  b_sorted : mg "sorted" = none
  b_str : mg "str" = none
  b_tuple : mg "tuple" = none
  b_type : mg "type" = none
  b_zip : mg "zip" = none
  c_MOST_PEOPLE : mg "MOST_PEOPLE" = some (.int 60 a.t_MOST_PEOPLE)
  F__law_cells : Fun K "_law_cells" "_law_cells" s__law_cells a.f__law_cells a.d__law_cells
  n__law_cells : Binds K a.d__law_cells ["script", "count"] []
  g__law_cells : mg "_law_cells" = some (.ref a.f__law_cells)
  k__law_cells : PySem.W.keepIn K (.ref a.f__law_cells) = true
  F_is_integer : Fun K "is_integer" "is_integer" s_is_integer a.f_is_integer a.d_is_integer
  n_is_integer : Binds K a.d_is_integer ["value"] []
  g_is_integer : mg "is_integer" = some (.ref a.f_is_integer)
  k_is_integer : PySem.W.keepIn K (.ref a.f_is_integer) = true
  F_is_color : Fun K "is_color" "is_color" s_is_color a.f_is_color a.d_is_color
  n_is_color : Binds K a.d_is_color ["value"] []
  g_is_color : mg "is_color" = some (.ref a.f_is_color)
  k_is_color : PySem.W.keepIn K (.ref a.f_is_color) = true
  F_is_colored_integer : Fun K "is_colored_integer" "is_colored_integer" s_is_colored_integer a.f_is_colored_integer a.d_is_colored_integer
  n_is_colored_integer : Binds K a.d_is_colored_integer ["value"] []
  g_is_colored_integer : mg "is_colored_integer" = some (.ref a.f_is_colored_integer)
  k_is_colored_integer : PySem.W.keepIn K (.ref a.f_is_colored_integer) = true
  F_is_lineup : Fun K "is_lineup" "is_lineup" s_is_lineup a.f_is_lineup a.d_is_lineup
  n_is_lineup : Binds K a.d_is_lineup ["value"] []
  g_is_lineup : mg "is_lineup" = some (.ref a.f_is_lineup)
  k_is_lineup : PySem.W.keepIn K (.ref a.f_is_lineup) = true
  F_check_lineup : Fun K "check_lineup" "check_lineup" s_check_lineup a.f_check_lineup a.d_check_lineup
  n_check_lineup : Binds K a.d_check_lineup ["value"] []
  g_check_lineup : mg "check_lineup" = some (.ref a.f_check_lineup)
  k_check_lineup : PySem.W.keepIn K (.ref a.f_check_lineup) = true
  F_is_person : Fun K "is_person" "is_person" s_is_person a.f_is_person a.d_is_person
  n_is_person : Binds K a.d_is_person ["lineup", "value"] []
  g_is_person : mg "is_person" = some (.ref a.f_is_person)
  k_is_person : PySem.W.keepIn K (.ref a.f_is_person) = true
  F_check_calls : Fun K "check_calls" "check_calls" s_check_calls a.f_check_calls a.d_check_calls
  n_check_calls : Binds K a.d_check_calls ["lineup", "value"] []
  g_check_calls : mg "check_calls" = some (.ref a.f_check_calls)
  k_check_calls : PySem.W.keepIn K (.ref a.f_check_calls) = true
  F_first_other_color : Fun K "first_other_color" "first_other_color" s_first_other_color a.f_first_other_color a.d_first_other_color
  n_first_other_color : Binds K a.d_first_other_color ["lineup", "color"] []
  g_first_other_color : mg "first_other_color" = some (.ref a.f_first_other_color)
  k_first_other_color : PySem.W.keepIn K (.ref a.f_first_other_color) = true
  F_colors_by_person : Fun K "colors_by_person" "colors_by_person" s_colors_by_person a.f_colors_by_person a.d_colors_by_person
  n_colors_by_person : Binds K a.d_colors_by_person ["lineup"] []
  g_colors_by_person : mg "colors_by_person" = some (.ref a.f_colors_by_person)
  k_colors_by_person : PySem.W.keepIn K (.ref a.f_colors_by_person) = true
  F_apply_call : Fun K "apply_call" "apply_call" s_apply_call a.f_apply_call a.d_apply_call
  n_apply_call : Binds K a.d_apply_call ["lineup", "person"] []
  g_apply_call : mg "apply_call" = some (.ref a.f_apply_call)
  k_apply_call : PySem.W.keepIn K (.ref a.f_apply_call) = true
  F_lineup_after : Fun K "lineup_after" "lineup_after" s_lineup_after a.f_lineup_after a.d_lineup_after
  n_lineup_after : Binds K a.d_lineup_after ["lineup", "calls"] []
  g_lineup_after : mg "lineup_after" = some (.ref a.f_lineup_after)
  k_lineup_after : PySem.W.keepIn K (.ref a.f_lineup_after) = true
  F__law_source : Fun K "_law_source" "_law_source" s__law_source a.f__law_source a.d__law_source
  n__law_source : Binds K a.d__law_source ["cell", "index"] []
  g__law_source : mg "_law_source" = some (.ref a.f__law_source)
  k__law_source : PySem.W.keepIn K (.ref a.f__law_source) = true
  F__law_draw : Fun K "_law_draw" "_law_draw" s__law_draw a.f__law_draw a.d__law_draw
  n__law_draw : Binds K a.d__law_draw ["source", "count"] []
  g__law_draw : mg "_law_draw" = some (.ref a.f__law_draw)
  k__law_draw : PySem.W.keepIn K (.ref a.f__law_draw) = true
  F__law_row : Fun K "_law_row" "_law_row" s__law_row a.f__law_row a.d__law_row
  n__law_row : Binds K a.d__law_row ["source", "script", "limit"] []
  g__law_row : mg "_law_row" = some (.ref a.f__law_row)
  k__law_row : PySem.W.keepIn K (.ref a.f__law_row) = true
  F__law_new_color : Fun K "_law_new_color" "_law_new_color" s__law_new_color a.f__law_new_color a.d__law_new_color
  n__law_new_color : Binds K a.d__law_new_color ["row", "who"] []
  g__law_new_color : mg "_law_new_color" = some (.ref a.f__law_new_color)
  k__law_new_color : PySem.W.keepIn K (.ref a.f__law_new_color) = true
  F__law_after_one : Fun K "_law_after_one" "_law_after_one" s__law_after_one a.f__law_after_one a.d__law_after_one
  n__law_after_one : Binds K a.d__law_after_one ["row", "who"] []
  g__law_after_one : mg "_law_after_one" = some (.ref a.f__law_after_one)
  k__law_after_one : PySem.W.keepIn K (.ref a.f__law_after_one) = true
  F__law_expected : Fun K "_law_expected" "_law_expected" s__law_expected a.f__law_expected a.d__law_expected
  n__law_expected : Binds K a.d__law_expected ["row", "sequence"] []
  g__law_expected : mg "_law_expected" = some (.ref a.f__law_expected)
  k__law_expected : PySem.W.keepIn K (.ref a.f__law_expected) = true
  F__law_same : Fun K "_law_same" "_law_same" s__law_same a.f__law_same a.d__law_same
  n__law_same : Binds K a.d__law_same ["value", "expected"] []
  g__law_same : mg "_law_same" = some (.ref a.f__law_same)
  k__law_same : PySem.W.keepIn K (.ref a.f__law_same) = true
  F_colors_taken : Fun K "colors_taken" "colors_taken" s_colors_taken a.f_colors_taken a.d_colors_taken
  n_colors_taken : Binds K a.d_colors_taken ["lineup", "calls"] []
  g_colors_taken : mg "colors_taken" = some (.ref a.f_colors_taken)
  k_colors_taken : PySem.W.keepIn K (.ref a.f_colors_taken) = true
  F__law_holds : Fun K "_law_holds" "_law_holds" s__law_holds a.f__law_holds a.d__law_holds
  n__law_holds : Binds K a.d__law_holds ["source", "row", "sequence"] []
  g__law_holds : mg "_law_holds" = some (.ref a.f__law_holds)
  k__law_holds : PySem.W.keepIn K (.ref a.f__law_holds) = true
  F__law_sequence : Fun K "_law_sequence" "_law_sequence" s__law_sequence a.f__law_sequence a.d__law_sequence
  n__law_sequence : Binds K a.d__law_sequence ["source", "size", "limit"] []
  g__law_sequence : mg "_law_sequence" = some (.ref a.f__law_sequence)
  k__law_sequence : PySem.W.keepIn K (.ref a.f__law_sequence) = true
  F_law : Fun K "law" "law" s_law a.f_law a.d_law
  n_law : Binds K a.d_law ["script"] []
  g_law : mg "law" = some (.ref a.f_law)
  k_law : PySem.W.keepIn K (.ref a.f_law) = true
  kb_colors_taken_0_calls_lineup : KBn K a.d_colors_taken ["lineup", "calls"] 0 ["calls", "lineup"] (fun us ws => pick [1, 0] (us ++ ws)) (fun vs zs => pick [1, 0] (vs ++ zs))
  kb_lineup_after_0_calls_lineup : KBn K a.d_lineup_after ["lineup", "calls"] 0 ["calls", "lineup"] (fun us ws => pick [1, 0] (us ++ ws)) (fun vs zs => pick [1, 0] (vs ++ zs))
theorem sc__law_cells : FnScope ["script", "count"] ["script", "count"] (defScope s__law_cells) := ⟨rfl, rfl, rfl, by decide +kernel, rfl, by decide +kernel, by decide +kernel⟩
theorem sc_is_integer : FnScope ["value"] ["value"] (defScope s_is_integer) := ⟨rfl, rfl, rfl, by decide +kernel, rfl, by decide +kernel, by decide +kernel⟩
theorem sc_is_color : FnScope ["value"] ["value"] (defScope s_is_color) := ⟨rfl, rfl, rfl, by decide +kernel, rfl, by decide +kernel, by decide +kernel⟩
theorem sc_is_colored_integer : FnScope ["value"] ["value"] (defScope s_is_colored_integer) := ⟨rfl, rfl, rfl, by decide +kernel, rfl, by decide +kernel, by decide +kernel⟩
theorem sc_is_lineup : FnScope ["value", "item", "person", "_"] ["value"] (defScope s_is_lineup) := ⟨rfl, rfl, rfl, by decide +kernel, rfl, by decide +kernel, by decide +kernel⟩
theorem sc_check_lineup : FnScope ["value"] ["value"] (defScope s_check_lineup) := ⟨rfl, rfl, rfl, by decide +kernel, rfl, by decide +kernel, by decide +kernel⟩
theorem sc_is_person : FnScope ["lineup", "value"] ["lineup", "value"] (defScope s_is_person) := ⟨rfl, rfl, rfl, by decide +kernel, rfl, by decide +kernel, by decide +kernel⟩
theorem sc_check_calls : FnScope ["lineup", "value", "index", "item"] ["lineup", "value"] (defScope s_check_calls) := ⟨rfl, rfl, rfl, by decide +kernel, rfl, by decide +kernel, by decide +kernel⟩
theorem sc_first_other_color : FnScope ["lineup", "color", "_", "worn"] ["lineup", "color"] (defScope s_first_other_color) := ⟨rfl, rfl, rfl, by decide +kernel, rfl, by decide +kernel, by decide +kernel⟩
theorem sc_colors_by_person : FnScope ["lineup", "colors", "person", "color"] ["lineup"] (defScope s_colors_by_person) := ⟨rfl, rfl, rfl, by decide +kernel, rfl, by decide +kernel, by decide +kernel⟩
theorem sc_apply_call : FnScope ["lineup", "person", "color", "taken", "others", "pair"] ["lineup", "person"] (defScope s_apply_call) := ⟨rfl, rfl, rfl, by decide +kernel, rfl, by decide +kernel, by decide +kernel⟩
theorem sc_lineup_after : FnScope ["lineup", "calls", "current", "person", "_"] ["lineup", "calls"] (defScope s_lineup_after) := ⟨rfl, rfl, rfl, by decide +kernel, rfl, by decide +kernel, by decide +kernel⟩
theorem sc__law_source : FnScope ["cell", "index"] ["cell", "index"] (defScope s__law_source) := ⟨rfl, rfl, rfl, by decide +kernel, rfl, by decide +kernel, by decide +kernel⟩
theorem sc__law_draw : FnScope ["source", "count", "value"] ["source", "count"] (defScope s__law_draw) := ⟨rfl, rfl, rfl, by decide +kernel, rfl, by decide +kernel, by decide +kernel⟩
theorem sc__law_row : FnScope ["source", "script", "limit", "letters", "size", "width", "sizes", "start", "left", "k"] ["source", "script", "limit"] (defScope s__law_row) := ⟨rfl, rfl, rfl, by decide +kernel, rfl, by decide +kernel, by decide +kernel⟩
theorem sc__law_new_color : FnScope ["row", "who", "others", "own", "candidates", "one", "color"] ["row", "who"] (defScope s__law_new_color) := ⟨rfl, rfl, rfl, by decide +kernel, rfl, by decide +kernel, by decide +kernel⟩
theorem sc__law_after_one : FnScope ["row", "who", "own", "new", "one", "color", "entry"] ["row", "who"] (defScope s__law_after_one) := ⟨rfl, rfl, rfl, by decide +kernel, rfl, by decide +kernel, by decide +kernel⟩
theorem sc__law_expected : FnScope ["row", "sequence", "colors", "who"] ["row", "sequence"] (defScope s__law_expected) := ⟨rfl, rfl, rfl, by decide +kernel, rfl, by decide +kernel, by decide +kernel⟩
theorem sc__law_same : FnScope ["value", "expected", "one", "other"] ["value", "expected"] (defScope s__law_same) := ⟨rfl, rfl, rfl, by decide +kernel, rfl, by decide +kernel, by decide +kernel⟩
theorem sc_colors_taken : FnScope ["lineup", "calls", "current", "colors", "person", "taken"] ["lineup", "calls"] (defScope s_colors_taken) := ⟨rfl, rfl, rfl, by decide +kernel, rfl, by decide +kernel, by decide +kernel⟩
theorem sc__law_holds : FnScope ["source", "row", "sequence", "before", "expected", "values", "at", "middle", "parts"] ["source", "row", "sequence"] (defScope s__law_holds) := ⟨rfl, rfl, rfl, by decide +kernel, rfl, by decide +kernel, by decide +kernel⟩
theorem sc__law_sequence : FnScope ["source", "size", "limit", "kind", "one", "two", "sequence", "k", "who", "often"] ["source", "size", "limit"] (defScope s__law_sequence) := ⟨rfl, rfl, rfl, by decide +kernel, rfl, by decide +kernel, by decide +kernel⟩
theorem sc_law : FnScope ["script", "cells", "k", "source", "row", "limit", "pair", "value"] ["script"] (defScope s_law) := ⟨rfl, rfl, rfl, by decide +kernel, rfl, by decide +kernel, by decide +kernel⟩
end K14

namespace K14
open PySem L2 LX
local macro_rules | `(tactic| walk_at "rd") => `(tactic| repeat (first
  | with_reducible refine rd_var rfl ?_ | with_reducible refine rd_c ?_ | with_reducible refine rd_op ?_ | with_reducible refine rd_un ?_ | with_reducible refine rd_I0 ?_ | with_reducible refine rd_U ?_
  | with_reducible refine rd_test ?_ | with_reducible refine rd_tB ?_ | with_reducible refine rd_bl ?_ | with_reducible refine rd_chain ?_
  | with_reducible refine rd_and ?_ | with_reducible refine rd_or ?_ | with_reducible refine rd_not ?_ | with_reducible refine rd_andV ?_ | with_reducible refine rd_orV ?_ | with_reducible refine rd_notV ?_
  | with_reducible refine rd_next ?_ | with_reducible refine rd_seq ?_ | with_reducible refine rd_drop ?_ | with_reducible refine rd_ret ?_ | with_reducible refine rd_ifS ?_ | with_reducible refine rd_asg ?_ | with_reducible refine rd_name ?_
  | with_reducible refine rd_par ?_ | with_reducible refine rd_two ?_ | with_reducible refine rd_2i ?_ | with_reducible refine rd_nil ?_ | with_reducible refine rd_cons ?_ | with_reducible refine rd_tup ?_ | with_reducible refine rd_lst ?_ | with_reducible refine rd_cb ?_ | with_reducible refine rd_call ?_
  | with_reducible refine rd_ixL (by assumption) rfl ?_ | with_reducible refine rd_ixT (by assumption) rfl ?_ | with_reducible refine rd_ixL upd_same rfl ?_ | with_reducible refine rd_sub ?_ | with_reducible refine rd_sl ?_ | with_reducible refine rd_nopart ?_ | with_reducible refine rd_part ?_ | with_reducible refine rd_int ?_
  | with_reducible refine rd_len (by assumption) ?_ | with_reducible refine rd_bm ?_ | with_reducible refine rd_bm0 ?_ | with_reducible refine rd_gcons ?_ | with_reducible refine rd_gnil ?_
  | ((with_reducible refine rd_I ?ci ?_); (case ci => first | assumption | (show (0 : Int) < _; decide) | exact Or.inl ⟨by decide, by decide⟩ | exact Or.inr ⟨by decide, by decide⟩ | exact ⟨by decide, by decide, (by decide : Int.natAbs 10 < 2 ^ 1000)⟩))
  | with_reducible refine rd_setL (by assumption) rfl ?_ | with_reducible refine rd_setL upd_same rfl ?_ | with_reducible refine rd_len upd_same ?_
  | with_reducible refine rd_2ty ?_ | with_reducible refine rd_NT ?_ | with_reducible refine rd_2s ?_ | with_reducible refine rd_lenS ?_ | with_reducible refine rd_lenT (by assumption) ?_ | ((with_reducible refine rd_typ ?ct ?_); (case ct => rfl))
  | ((with_reducible refine rd_eq ?cs ?_); (case cs => rfl)) | ((with_reducible refine rd_ne ?cs ?_); (case cs => rfl))
  | with_reducible refine rd_qtru ?_ | with_reducible refine rd_lstRg ?_ | with_reducible refine rd_rg1 ?_ | with_reducible refine rd_tyes ?_ | with_reducible refine rd_tyL (by assumption) ?_ | with_reducible refine rd_tyT (by assumption) ?_
  | with_reducible refine iteT ?_ | with_reducible refine iteF ?_ | with_reducible refine rd_nt ?_ | with_reducible refine rd_nf ?_
  | (dsimp only)))

variable {P : Program} {w : World} {K : PySem.W.Frag} {mg : Str → Option Value} {base : Heap} {a : Ad}
def sp__law_source (K : PySem.W.Frag) : Sp := fun vs H Q _ => ∃ (c k : Int), vs = [.int c, .int k] ∧ 0 ≤ k ∧ k ≤ 100 ∧ ∀ p H', H p = none → Src H' p → (∀ b, b ≠ p → H' b = H b) → Q (.ref p) H'
theorem bnd_source (c k : Int) (h0 : 0 ≤ k) (h1 : k ≤ 100) : ((c % (10 ^ 38 + 133)) ^ 3 + 582749 * k + 223606797749978969).natAbs < 2 ^ 400 := by
  have a0 := Int.emod_nonneg c (show (10 ^ 38 + 133 : Int) ≠ 0 by decide)
  have a1 := Int.emod_lt_of_pos c (show (0 : Int) < 10 ^ 38 + 133 by decide)
  generalize c % (10 ^ 38 + 133) = x at a0 a1
  have b1 : x ^ 2 ≤ (10 ^ 39) * (10 ^ 39) := by
    rw [Int.pow_succ, Int.pow_one]
    exact Int.mul_le_mul (by omega) (by omega) a0 (by decide)
  have b2 : x ^ 3 ≤ (10 ^ 39) * (10 ^ 39) * (10 ^ 39) := by
    rw [Int.pow_succ]
    exact Int.mul_le_mul b1 (by omega) a0 (by decide)
  have b0 : 0 ≤ x ^ 3 := Int.pow_nonneg a0
  have e : (2 : Nat) ^ 400 = 2582249878086908589655919172003011874329705792829223512830659356540647622016841194629645353280137831435903171972747493376 := by decide
  rw [e]
  generalize x ^ 3 = y at b0 b2
  omega
theorem ok__law_source (T : Txt K mg a) : FnOk P w K mg base CX0 1 a.f__law_source a.d__law_source ["cell", "index"] (sp__law_source K) := by
  refine T.F__law_source.ok sc__law_source (fun vs H Q E h => ?_) (fun cdv A outer s H vs Q E hr h => ?_)
  · obtain ⟨c, k, rfl, _⟩ := h
    rfl
  · obtain ⟨c, k, rfl, k0, k1, kq⟩ := h
    have hu := hu_of hr
    have nd := sc__law_source.nd
    refine ⟨_, (pss_one (ps_ret (pe_lst (pa_cons (pe_callB (call_max2 rfl) (by rfl) T.b_max (by decide +kernel) (pa_cons pe_int (pa_cons (pe_op op_sub (pv 0) (pe_op op_powW pe_int pe_int)) pa_nil))) (pa_cons (pe_op op_add (pe_op op_add (pe_op op_powW (pe_op op_mod (pv 0) (pe_op op_add (pe_op op_powW pe_int pe_int) pe_int)) pe_int) (pe_op op_mul pe_int (pv 1))) pe_int) (pa_cons pe_int pa_nil)))))), ?_⟩
    walk_at "rd"
    refine rd_I (C := CPowW) ⟨by decide, by decide, ?_⟩ ?_
    · have a0 := Int.emod_nonneg c (show (10 ^ 38 + 133 : Int) ≠ 0 by decide)
      have a1 := Int.emod_lt_of_pos c (show (0 : Int) < 10 ^ 38 + 133 by decide)
      refine Nat.lt_of_lt_of_le (m := 2 ^ 200) ?_ (Nat.pow_le_pow_right (by decide) (by decide))
      show (c % (10 ^ 38 + 133)).natAbs < 2 ^ 200
      omega
    walk_at "rd"
    refine ⟨rd_sl_len (by simp only [List.length_cons, List.length_nil]; decide), fun p np => kq p _ np ⟨⟨_, _, _, upd_same, bnd_source c k k0 k1⟩⟩ fun b nb => upd_ne nb⟩
def sp__law_draw (K : PySem.W.Frag) : Sp := fun vs H Q _ => ∃ (p : Addr) (n : Int), vs = [.ref p, .int n] ∧ Src H p ∧ 0 < n ∧ n < 2 ^ 60 ∧
  ∀ (r : Int) H', 0 ≤ r → r < n → Src H' p → (∀ b, b ≠ p → H' b = H b) → Q (.int r) H'
theorem ok__law_draw (T : Txt K mg a) : FnOk P w K mg base CX0 1 a.f__law_draw a.d__law_draw ["source", "count"] (sp__law_draw K) := by
  refine T.F__law_draw.ok sc__law_draw (fun vs H Q E h => ?_) (fun cdv A outer s H vs Q E hr h => ?_)
  · obtain ⟨p, n, rfl, _⟩ := h
    rfl
  · obtain ⟨p, n, rfl, S, n0, n1, kq⟩ := h
    obtain ⟨s0, s1, s2, hp, hs1⟩ := S.ex
    have hu := hu_of hr
    have nd := sc__law_draw.nd
    have nw : n.natAbs < 2 ^ 60 := by omega
    refine ⟨_, (pss_cons (ps_if (pt_cmpR op_gt (pe_ix (kix_list (K := K)) (pv 0) pe_int (fun _ _ => rfl)) pe_int (nomark _)) (pss_cons (ps_set (i := 2) nd rfl (Or.inl rfl) (pe_op op_mod (pe_ix (kix_list (K := K)) (pv 0) pe_int (fun _ _ => rfl)) (pv 1)))
      (pss_cons (ps_asg (pe_op op_fdivW (pe_ix (kix_list (K := K)) (pv 0) pe_int (fun _ _ => rfl)) (pv 1)) (pg_sub (pv 0) pe_int set_list))
      (pss_one (ps_ret (pv 2))))) pss_nil)
      (pss_cons (ps_asg (pe_op op_add (pe_ix (kix_list (K := K)) (pv 0) pe_int (fun _ _ => rfl)) pe_int) (pg_sub (pv 0) pe_int set_list))
      (pss_cons (ps_asg (pe_op op_mod (pe_op op_add (pe_op op_add (pe_op op_powW (pe_ix (kix_list (K := K)) (pv 0) pe_int (fun _ _ => rfl)) pe_int) (pe_op op_mul pe_int (pe_ix (kix_list (K := K)) (pv 0) pe_int (fun _ _ => rfl)))) pe_int) (pe_op op_add (pe_op op_powW pe_int pe_int) pe_int)) (pg_sub (pv 0) pe_int set_list))
      (pss_one (ps_ret (pe_op op_mod (pe_op op_fdivW (pe_ix (kix_list (K := K)) (pv 0) pe_int (fun _ _ => rfl)) (pe_op op_powW pe_int pe_int)) (pv 1))))))), ?_⟩
    walk_at "rd"
    refine rd_dec (fun c => ?_) fun c => ?_
    · walk_at "rd"
      refine rd_I (wide_div n0 nw (by decide) (by decide)) ?_
      walk_at "rd"
      exact kq _ _ (Int.emod_nonneg _ (by omega)) (Int.emod_lt_of_pos _ n0) ⟨⟨_, _, _, upd_same, hs1⟩⟩ fun b nb => upd_ne nb
    · walk_at "rd"
      refine rd_I ⟨by decide, by decide, Nat.lt_of_lt_of_le hs1 (Nat.pow_le_pow_right (by decide) (by decide))⟩ ?_
      walk_at "rd"
      refine rd_I (wide_div (b := 60) (by decide) (by decide) (by decide) (by decide)) ?_
      walk_at "rd"
      refine kq _ _ (Int.emod_nonneg _ (by omega)) (Int.emod_lt_of_pos _ n0) ⟨⟨_, _, _, upd_same, ?_⟩⟩ fun b nb => ?_
      · have e : (10 ^ Int.toNat 33 + 61 : Int) = 1000000000000000000000000000000061 := by decide
        rw [e]
        have a0 := Int.emod_nonneg (s1 ^ Int.toNat 3 + 370248451 * (s2 + 1) + 5) (show (1000000000000000000000000000000061 : Int) ≠ 0 by decide)
        have a1 := Int.emod_lt_of_pos (s1 ^ Int.toNat 3 + 370248451 * (s2 + 1) + 5) (show (0 : Int) < 1000000000000000000000000000000061 by decide)
        generalize (s1 ^ Int.toNat 3 + 370248451 * (s2 + 1) + 5) % 1000000000000000000000000000000061 = x at a0 a1 ⊢
        have e2 : (2 : Nat) ^ 400 = 2582249878086908589655919172003011874329705792829223512830659356540647622016841194629645353280137831435903171972747493376 := by decide
        rw [e2]
        omega
      · rw [upd_ne nb, upd_ne nb]
end K14

namespace K14
open PySem L2 LX
local macro_rules | `(tactic| walk_at "rd") => `(tactic| repeat (first
  | with_reducible refine rd_var rfl ?_ | with_reducible refine rd_c ?_ | with_reducible refine rd_op ?_ | with_reducible refine rd_un ?_ | with_reducible refine rd_I0 ?_ | with_reducible refine rd_U ?_
  | with_reducible refine rd_test ?_ | with_reducible refine rd_tB ?_ | with_reducible refine rd_bl ?_ | with_reducible refine rd_chain ?_
  | with_reducible refine rd_and ?_ | with_reducible refine rd_or ?_ | with_reducible refine rd_not ?_ | with_reducible refine rd_andV ?_ | with_reducible refine rd_orV ?_ | with_reducible refine rd_notV ?_
  | with_reducible refine rd_next ?_ | with_reducible refine rd_seq ?_ | with_reducible refine rd_drop ?_ | with_reducible refine rd_ret ?_ | with_reducible refine rd_ifS ?_ | with_reducible refine rd_asg ?_ | with_reducible refine rd_name ?_
  | with_reducible refine rd_par ?_ | with_reducible refine rd_two ?_ | with_reducible refine rd_2i ?_ | with_reducible refine rd_nil ?_ | with_reducible refine rd_cons ?_ | with_reducible refine rd_tup ?_ | with_reducible refine rd_lst ?_ | with_reducible refine rd_cb ?_ | with_reducible refine rd_call ?_
  | with_reducible refine rd_ixL (by assumption) rfl ?_ | with_reducible refine rd_ixT (by assumption) rfl ?_ | with_reducible refine rd_ixL upd_same rfl ?_ | with_reducible refine rd_sub ?_ | with_reducible refine rd_sl ?_ | with_reducible refine rd_nopart ?_ | with_reducible refine rd_part ?_ | with_reducible refine rd_int ?_
  | with_reducible refine rd_len (by assumption) ?_ | with_reducible refine rd_bm ?_ | with_reducible refine rd_bm0 ?_ | with_reducible refine rd_gcons ?_ | with_reducible refine rd_gnil ?_
  | ((with_reducible refine rd_I ?ci ?_); (case ci => first | assumption | (show (0 : Int) < _; decide) | exact Or.inl ⟨by decide, by decide⟩ | exact Or.inr ⟨by decide, by decide⟩ | exact ⟨by decide, by decide, (by decide : Int.natAbs 10 < 2 ^ 1000)⟩))
  | with_reducible refine rd_setL (by assumption) rfl ?_ | with_reducible refine rd_setL upd_same rfl ?_ | with_reducible refine rd_len upd_same ?_
  | with_reducible refine rd_2ty ?_ | with_reducible refine rd_NT ?_ | with_reducible refine rd_2s ?_ | with_reducible refine rd_lenS ?_ | with_reducible refine rd_lenT (by assumption) ?_ | ((with_reducible refine rd_typ ?ct ?_); (case ct => rfl))
  | ((with_reducible refine rd_eq ?cs ?_); (case cs => rfl)) | ((with_reducible refine rd_ne ?cs ?_); (case cs => rfl))
  | with_reducible refine rd_qtru ?_ | with_reducible refine rd_lstRg ?_ | with_reducible refine rd_rg1 ?_ | with_reducible refine rd_tyes ?_ | with_reducible refine rd_tyL (by assumption) ?_ | with_reducible refine rd_tyT (by assumption) ?_
  | with_reducible refine iteT ?_ | with_reducible refine iteF ?_ | with_reducible refine rd_nt ?_ | with_reducible refine rd_nf ?_
  | (dsimp only)))

variable {P : Program} {w : World} {K : PySem.W.Frag} {mg : Str → Option Value} {base : Heap} {a : Ad}
def sp_is_integer (K : PySem.W.Frag) : Sp := fun vs H Q _ => ∃ i : Int, vs = [.int i] ∧ Q (.bl true) H
theorem ok_is_integer (T : Txt K mg a) : FnOk P w K mg base CX0 1 a.f_is_integer a.d_is_integer ["value"] (sp_is_integer K) := by
  refine T.F_is_integer.ok sc_is_integer (fun vs H Q E h => ?_) (fun cdv A outer s H vs Q E hr h => ?_)
  · obtain ⟨i, rfl, _⟩ := h
    rfl
  · obtain ⟨i, rfl, kq⟩ := h
    have nd := sc_is_integer.nd
    refine ⟨_, (pss_one (ps_ret (pe_and (pe_callB (kisi (K := K)) (by rfl) T.b_isinstance (by decide +kernel) (pa_cons (pv 0) (pa_cons (pe_bltn (v := .ty "int") (by rfl) T.b_int (by decide +kernel) rfl) pa_nil))) (pe_one (pe_not (pe_callB (kisi (K := K)) (by rfl) T.b_isinstance (by decide +kernel) (pa_cons (pv 0) (pa_cons (pe_bltn (v := .ty "bool") (by rfl) T.b_bool (by decide +kernel) rfl) pa_nil)))))))), ?_⟩
    walk_at "rd"
    refine rd_isi (.ty "int") (.base (.int i)) (kit_ty (r := true) (by decide +kernel)) ?_
    walk_at "rd"
    refine rd_isi (.ty "bool") (.base (.int i)) (kit_ty (r := false) (by decide +kernel)) ?_
    walk_at "rd"
    exact kq
def sp_is_color (K : PySem.W.Frag) : Sp := fun vs H Q _ => ∃ c : Nat, vs = [sg c] ∧ 97 ≤ c ∧ c ≤ 122 ∧ Q (.bl true) H
theorem ok_is_color (T : Txt K mg a) : FnOk P w K mg base CX0 1 a.f_is_color a.d_is_color ["value"] (sp_is_color K) := by
  refine T.F_is_color.ok sc_is_color (fun vs H Q E h => ?_) (fun cdv A outer s H vs Q E hr h => ?_)
  · obtain ⟨i, rfl, _⟩ := h
    rfl
  · obtain ⟨c, rfl, c0, c1, kq⟩ := h
    have nd := sc_is_color.nd
    refine ⟨_, (pss_one (ps_ret (pe_and (pe_cmpR op_isTyB (pe_typeOf rfl T.b_type (pv 0)) (pe_bltn (v := .ty "str") (by rfl) T.b_str (by decide +kernel) rfl) (nomark _)) (pe_and (pe_cmpR op_eq (pe_callB call_len_str (by rfl) T.b_len (by decide +kernel) (pa_cons (pv 0) pa_nil)) pe_int (nomark _)) (pe_one (pe_chain op_le_str op_le_str pe_str (pv 0) pe_str)))))), ?_⟩
    walk_at "rd"
    refine rd_typ (n := "str") rfl ?_
    walk_at "rd"
    refine rd_yes rfl ?_
    walk_at "rd"
    refine ⟨by show 1 ≤ sizeLine; decide, ?_⟩
    walk_at "rd"
    refine rd_yes rfl ?_
    walk_at "rd"
    refine rd_ndec (fun k => ?_) fun k => absurd k ?_
    · walk_at "rd"
      have e : (!decide (([122] : List Nat) < [c])) = true := by
        rw [decide_eq_false] <;> first | rfl | skip
        intro z
        rcases List.cons_lt_cons_iff.mp z with z | z
        · omega
        · exact absurd z.2 (List.lt_irrefl _)
      have e2 : Q (.bl (!decide (([122] : List Nat) < [c]))) H := by
        rw [e]
        exact kq
      exact e2
    · intro z
      rcases List.cons_lt_cons_iff.mp (show ([c] : List Nat) < [97] from z) with z | z
      · omega
      · exact absurd z.2 (List.lt_irrefl _)
def sp_is_colored_integer (K : PySem.W.Frag) : Sp := fun vs H Q _ => ∃ (t : Addr) (e : Nat × Nat), vs = [.ref t] ∧ H t = some (.tup (pr e)) ∧ 97 ≤ e.2 ∧ e.2 ≤ 122 ∧ Q (.bl true) H
theorem ok_is_colored_integer (T : Txt K mg a) : FnOk P w K mg base CX0 2 a.f_is_colored_integer a.d_is_colored_integer ["value"] (sp_is_colored_integer K) := by
  refine T.F_is_colored_integer.ok sc_is_colored_integer (fun vs H Q E h => ?_) (fun cdv A outer s H vs Q E hr h => ?_)
  · obtain ⟨t, e, rfl, _⟩ := h
    rfl
  · obtain ⟨t, e, rfl, ht, c0, c1, kq⟩ := h
    have nd := sc_is_colored_integer.nd
    refine ⟨_, (pss_one (ps_ret (pe_and (pe_cmpR op_isTyB (pe_typeOf rfl T.b_type (pv 0)) (pe_bltn (v := .ty "tuple") (by rfl) T.b_tuple (by decide +kernel) rfl) (nomark _)) (pe_and (pe_cmpR op_eq (pe_callB (klen (K := K)) (by rfl) T.b_len (by decide +kernel) (pa_cons (pv 0) pa_nil)) pe_int (nomark _)) (pe_and (pe_call (ok_is_integer T) (hr.mono (by decide)) rfl T.g_is_integer T.k_is_integer T.n_is_integer .nil pass0 (pa_cons (pe_ix (kix_tup (K := K)) (pv 0) pe_int (fun _ _ => rfl)) pa_nil)) (pe_one (pe_call (ok_is_color T) (hr.mono (by decide)) rfl T.g_is_color T.k_is_color T.n_is_color .nil pass0 (pa_cons (pe_ix (kix_tup (K := K)) (pv 0) pe_int (fun _ _ => rfl)) pa_nil)))))))), ?_⟩
    walk_at "rd"
    refine rd_yes rfl ?_
    walk_at "rd"
    refine rd_yes rfl ?_
    walk_at "rd"
    refine ⟨_, rfl, ?_⟩
    walk_at "rd"
    refine ⟨_, rfl, c0, c1, kq⟩
def sp_first_other_color (K : PySem.W.Frag) : Sp := fun vs H Q _ => ∃ (l : Addr) (r : Row) (c : Nat), vs = [.ref l, sg c] ∧ RowAt H l r ∧ Q (oV (fo r c)) H
theorem ok_first_other_color (T : Txt K mg a) : FnOk P w K mg base CX0 1 a.f_first_other_color a.d_first_other_color ["lineup", "color"] (sp_first_other_color K) := by
  refine T.F_first_other_color.ok sc_first_other_color (fun vs H Q E h => ?_) (fun cdv A outer s H vs Q E hr h => ?_)
  · obtain ⟨l, r, c, rfl, _⟩ := h
    rfl
  · obtain ⟨l, r, c, rfl, ⟨ts, hl, ht⟩, kq⟩ := h
    have nd := sc_first_other_color.nd
    refine ⟨_, (pss_cons (ps_for PassesOwn.never rfl (kpi_list (K := K) (pv 0)) (kpg_tup (K := K) rfl (pgs_cons (pg_name (i := 2) nd rfl (Or.inl rfl)) (pgs_cons (pg_name (i := 3) nd rfl (Or.inl rfl)) pgs_nil))) (pss_one (ps_if (pt_cmpR op_ne (pv 3) (pv 1) (nomark _)) (pss_one (ps_ret (pv 3))) pss_nil)))
      (pss_one (ps_ret pe_non))), ?_⟩
    walk_at "rd"
    refine ⟨_, rfl, l, rfl, ⟨_, SqL.of hl⟩, for_list (K := K) (a := l) (xs := ts.map V.ref) (fun i σ H' => ∃ x y, σ = [some (.ref l), some (sg c), x, y] ∧ H' = H ∧ fo (r.drop i) c = fo r c)
      ⟨none, none, rfl, rfl, rfl⟩ (fun i σ H' _ ⟨_, _, _, e, _⟩ => e ▸ SqL.of hl) ?_ ?_⟩
    · rintro i v σ H' hi ⟨x, y, rfl, rfl, hf⟩
      rw [List.getElem?_map] at hi
      obtain ⟨t, h1, rfl⟩ := Option.map_eq_some_iff.mp hi
      obtain ⟨e, h2, h3⟩ := ht.get h1
      rw [drop_of h2] at hf
      refine rd_gtup h3 rfl ?_
      walk_at "rd"
      refine rd_ndec (fun k => ?_) fun k => ?_
      · walk_at "rd"
        have q : e.2 ≠ c := fun z => k (by rw [z])
        rw [fo_yes q] at hf
        rw [← hf] at kq
        exact kq
      · walk_at "rd"
        have q : e.2 = c := by
          injection k with k
          injection k with k
          injection k with k
          injection k with k
        rw [fo_no q] at hf
        exact ⟨_, _, rfl, rfl, hf⟩
    · rintro σ H' ⟨x, y, rfl, rfl, hf⟩
      rw [List.length_map, ht.len, List.drop_length] at hf
      walk_at "rd"
      rw [← hf] at kq
      exact kq
def sp_colors_by_person (K : PySem.W.Frag) : Sp := fun vs H Q _ => ∃ (l : Addr) (r : Row), vs = [.ref l] ∧ RowAt H l r ∧ Vr r ∧
  ∀ p H', H p = none → Same H H' → H' p = some (.lst (byPerson r)) → Q (.ref p) H'
theorem ok_colors_by_person (T : Txt K mg a) : FnOk P w K mg base CX0 1 a.f_colors_by_person a.d_colors_by_person ["lineup"] (sp_colors_by_person K) := by
  refine T.F_colors_by_person.ok sc_colors_by_person (fun vs H Q E h => ?_) (fun cdv A outer s H vs Q E hr h => ?_)
  · obtain ⟨l, r, rfl, _⟩ := h
    rfl
  · obtain ⟨l, r, rfl, ⟨ts, hl, ht⟩, V0, kq⟩ := h
    have nd := sc_colors_by_person.nd
    refine ⟨_, (pss_cons (ps_set (i := 1) nd rfl (Or.inl rfl) (pe_op op_rep (pe_lst (pa_cons pe_str pa_nil)) (pe_callB (klen (K := K)) (by rfl) T.b_len (by decide +kernel) (pa_cons (pv 0) pa_nil))))
      (pss_cons (ps_for PassesOwn.never rfl (kpi_list (K := K) (pv 0)) (kpg_tup (K := K) rfl (pgs_cons (pg_name (i := 2) nd rfl (Or.inl rfl)) (pgs_cons (pg_name (i := 3) nd rfl (Or.inl rfl)) pgs_nil))) (pss_one (ps_asg (pv 3) (pg_sub (pv 1) (pv 2) set_list))))
      (pss_one (ps_ret (pv 1))))), ?_⟩
    walk_at "rd"
    refine ⟨by show 1 ≤ sizeLine; decide, fun b hb => ?_⟩
    have hl' : ∀ o, upd H b o l = some (.lst (ts.map V.ref)) := fun o => by
      rw [upd_ne (ne_of_none hl hb)]
      exact hl
    walk_at "rd"
    refine rd_len (hl' _) ?_
    walk_at "rd"
    refine ⟨b, _, _, rfl, rfl, upd_same, by omega, ?_, ?_, fun q hq => ?_⟩
    · have := V0.n2
      rw [List.length_map, ht.len]
      omega
    · show 1 * (((ts.map V.ref).length : Nat) : Int).toNat ≤ sizeLine
      have := V0.n2
      rw [List.length_map, ht.len, Int.toNat_natCast]
      exact sz60 (by omega)
    have hqb : q ≠ b := fun z => by
      rw [z, upd_same] at hq
      cases hq
    have hqH : H q = none := by
      rw [upd_ne hqb] at hq
      exact hq
    have s1 : Same H (upd (upd H b (.lst [V.str (Str.ofString "")])) q (.lst (List.replicate (((ts.map V.ref).length : Nat) : Int).toNat [V.str (Str.ofString "")]).flatten)) := sUpd (sNew hb) hqH
    walk_at "rd"
    refine ⟨_, rfl, l, rfl, ⟨_, SqL.of (s1 _ _ hl)⟩, for_list (K := K) (a := l) (xs := ts.map V.ref) (fun i σ H' => ∃ x y, σ = [some (.ref l), some (.ref q), x, y] ∧ Same H H' ∧ H' q = some (.lst (fillC (List.replicate r.length (V.str (Str.ofString ""))) (r.take i))))
      ⟨none, none, rfl, s1, ?_⟩ (fun i σ H' _ ⟨_, _, _, e, _⟩ => SqL.of (e _ _ hl)) ?_ ?_⟩
    · rw [upd_same, List.length_map, ht.len, Int.toNat_natCast, flat_rep]
      rfl
    · rintro i v σ H' hi ⟨x, y, rfl, s2, hf⟩
      rw [List.getElem?_map] at hi
      obtain ⟨t, h1, rfl⟩ := Option.map_eq_some_iff.mp hi
      obtain ⟨e, h2, h3⟩ := ht.get h1
      refine rd_gtup (s2 _ _ h3) rfl ?_
      walk_at "rd"
      have hlt : e.1 < (fillC (List.replicate r.length (V.str (Str.ofString ""))) (r.take i)).length := by
        rw [fillC_len, List.length_replicate]
        exact V0.lt (getElem?_mem h2)
      refine rd_setL hf (ixN_nat hlt) ?_
      refine ⟨_, _, rfl, sUpd s2 hqH, ?_⟩
      rw [upd_same, take_of h2, fillC_snoc]
    · rintro σ H' ⟨x, y, rfl, s2, hf⟩
      walk_at "rd"
      rw [List.length_map, ht.len, List.take_length, fillC_is V0] at hf
      exact kq q H' hqH s2 hf
end K14

namespace K14
open PySem L2 LX
local macro_rules | `(tactic| walk_at "rd") => `(tactic| repeat (first
  | with_reducible refine rd_var rfl ?_ | with_reducible refine rd_c ?_ | with_reducible refine rd_op ?_ | with_reducible refine rd_un ?_ | with_reducible refine rd_I0 ?_ | with_reducible refine rd_U ?_
  | with_reducible refine rd_test ?_ | with_reducible refine rd_tB ?_ | with_reducible refine rd_bl ?_ | with_reducible refine rd_chain ?_
  | with_reducible refine rd_and ?_ | with_reducible refine rd_or ?_ | with_reducible refine rd_not ?_ | with_reducible refine rd_andV ?_ | with_reducible refine rd_orV ?_ | with_reducible refine rd_notV ?_
  | with_reducible refine rd_next ?_ | with_reducible refine rd_seq ?_ | with_reducible refine rd_drop ?_ | with_reducible refine rd_ret ?_ | with_reducible refine rd_ifS ?_ | with_reducible refine rd_asg ?_ | with_reducible refine rd_name ?_
  | with_reducible refine rd_par ?_ | with_reducible refine rd_two ?_ | with_reducible refine rd_2i ?_ | with_reducible refine rd_nil ?_ | with_reducible refine rd_cons ?_ | with_reducible refine rd_tup ?_ | with_reducible refine rd_lst ?_ | with_reducible refine rd_cb ?_ | with_reducible refine rd_call ?_
  | with_reducible refine rd_ixL (by assumption) rfl ?_ | with_reducible refine rd_ixT (by assumption) rfl ?_ | with_reducible refine rd_ixL upd_same rfl ?_ | with_reducible refine rd_sub ?_ | with_reducible refine rd_sl ?_ | with_reducible refine rd_nopart ?_ | with_reducible refine rd_part ?_ | with_reducible refine rd_int ?_
  | with_reducible refine rd_len (by assumption) ?_ | with_reducible refine rd_bm ?_ | with_reducible refine rd_bm0 ?_ | with_reducible refine rd_gcons ?_ | with_reducible refine rd_gnil ?_
  | ((with_reducible refine rd_I ?ci ?_); (case ci => first | assumption | (show (0 : Int) < _; decide) | exact Or.inl ⟨by decide, by decide⟩ | exact Or.inr ⟨by decide, by decide⟩ | exact ⟨by decide, by decide, (by decide : Int.natAbs 10 < 2 ^ 1000)⟩))
  | with_reducible refine rd_setL (by assumption) rfl ?_ | with_reducible refine rd_setL upd_same rfl ?_ | with_reducible refine rd_len upd_same ?_
  | with_reducible refine rd_2ty ?_ | with_reducible refine rd_NT ?_ | with_reducible refine rd_2s ?_ | with_reducible refine rd_lenS ?_ | with_reducible refine rd_lenT (by assumption) ?_ | ((with_reducible refine rd_typ ?ct ?_); (case ct => rfl))
  | ((with_reducible refine rd_eq ?cs ?_); (case cs => rfl)) | ((with_reducible refine rd_ne ?cs ?_); (case cs => rfl))
  | with_reducible refine rd_qtru ?_ | with_reducible refine rd_lstRg ?_ | with_reducible refine rd_rg1 ?_ | with_reducible refine rd_tyes ?_ | with_reducible refine rd_tyL (by assumption) ?_ | with_reducible refine rd_tyT (by assumption) ?_
  | with_reducible refine iteT ?_ | with_reducible refine iteF ?_ | with_reducible refine rd_nt ?_ | with_reducible refine rd_nf ?_
  | (dsimp only)))

variable {P : Program} {w : World} {K : PySem.W.Frag} {mg : Str → Option Value} {base : Heap} {a : Ad}
def sp_is_lineup (K : PySem.W.Frag) : Sp := fun vs H Q _ => ∃ (l : Addr) (r : Row), vs = [.ref l] ∧ RowAt H l r ∧ Vr r ∧ ∀ H', Same H H' → Q (.bl true) H'
theorem ok_is_lineup (T : Txt K mg a) : FnOk P w K mg base CX0 3 a.f_is_lineup a.d_is_lineup ["value"] (sp_is_lineup K) := by
  refine T.F_is_lineup.ok sc_is_lineup (fun vs H Q E h => ?_) (fun cdv A outer s H vs Q E hr h => ?_)
  · obtain ⟨l, r, rfl, _⟩ := h
    rfl
  · obtain ⟨l, r, rfl, ⟨ts, hl, ht⟩, V0, kq⟩ := h
    have nd := sc_is_lineup.nd
    have hu := hu_of hr
    have hu64 := hr.units
    have hlen : (ts.map V.ref).length = r.length := by rw [List.length_map, ht.len]
    refine ⟨_, (pss_cons (ps_if (PW.pt (pw_or (pt_cmpR op_notTyB (pe_typeOf rfl T.b_type (pv 0)) (pe_bltn (v := .ty "list") (by rfl) T.b_list (by decide +kernel) rfl) (nomark _)) (pw_or1 (pt_not (pt_chain op_le op_le pe_int (pe_callB (klen (K := K)) (by rfl) T.b_len (by decide +kernel) (pa_cons (pv 0) pa_nil)) (pe_glob (v := .int 60) rfl T.c_MOST_PEOPLE ⟨_, rfl⟩)))))) (pss_one (ps_ret pe_bl)) pss_nil)
      (pss_cons (ps_for PassesOwn.never rfl (kpi_list (K := K) (pv 0)) (pg_name (i := 1) nd rfl (Or.inl rfl)) (pss_one (ps_if (pt_not (pt_val (pe_call (ok_is_colored_integer T) (hr.mono (by decide)) rfl T.g_is_colored_integer T.k_is_colored_integer T.n_is_colored_integer .nil pass0 (pa_cons (pv 1) pa_nil)))) (pss_one (ps_ret pe_bl)) pss_nil)))
      (pss_one (ps_ret (pe_cmpR (keqD (K := K) hu64) (pe_callB (ksorted (K := K)) (by rfl) T.b_sorted (by decide +kernel) (pa_cons (pe_lc (own := [("person", 2), ("_", 3)]) (g := gTup K 2 (gCons (gName 2) (gCons (gName 3) gNil))) (tt := tYes) rfl nd (kpi_list (K := K) (pv 0)) (blkOk_by (own := [("person", 2), ("_", 3)]) (N := ["value", "item", "person", "_"]) (sc := defScope s_is_lineup) (by decide +kernel)) (fun _ _ _ _ _ => (kpg_tup (K := K) rfl (pgs_cons (pg_name (i := 2) nd rfl (Or.inl rfl)) (pgs_cons (pg_name (i := 3) nd rfl (Or.inl rfl)) pgs_nil)))) (fun _ _ _ _ _ => pts_nil) (fun _ _ _ _ _ => (pv 2))) pa_nil)) (pe_listRg rfl rfl T.b_list (prg_1 rfl T.b_range (pe_callB (klen (K := K)) (by rfl) T.b_len (by decide +kernel) (pa_cons (pv 0) pa_nil)))) (nomark _)))))), ?_⟩
    walk_at "rd"
    refine rd_ndec (fun k => absurd rfl k) fun _ => ?_
    walk_at "rd"
    refine rd_yes (by have := V0.n1; omega) ?_
    walk_at "rd"
    refine rd_ndec (fun k => absurd (by have := V0.n2; omega) k) fun _ => ?_
    walk_at "rd"
    refine ⟨_, rfl, l, rfl, ⟨_, SqL.of hl⟩, for_list (K := K) (a := l) (xs := ts.map V.ref) (fun i σ H' => ∃ x, σ = [some (.ref l), x, none, none] ∧ H' = H)
      ⟨none, rfl, rfl⟩ (fun i σ H' _ ⟨_, _, e⟩ => e ▸ SqL.of hl) ?_ ?_⟩
    · rintro i v σ H' hi ⟨x, rfl, rfl⟩
      rw [List.getElem?_map] at hi
      obtain ⟨t, h1, rfl⟩ := Option.map_eq_some_iff.mp hi
      obtain ⟨e, h2, h3⟩ := ht.get h1
      have ce := V0.col e (getElem?_mem h2)
      walk_at "rd"
      refine ⟨t, e, rfl, h3, ce.1, ce.2, ?_⟩
      walk_at "rd"
      exact ⟨_, rfl, rfl⟩
    · rintro σ H' ⟨x, rfl, rfl⟩
      walk_at "rd"
      refine ⟨_, rfl, l, rfl, ⟨_, SqL.of hl⟩, fun D hD => lc_list (K := K) (a := l) (xs := ts.map V.ref) (fun i H2 => H2 = upd H' D (.lst ((pI (r.take i)).map V.int))) rfl
        (fun i H2 _ e => by rw [e]; exact SqL.of ((sNew hD) _ _ hl)) ?_ ?_⟩
      · rintro i v H2 hi rfl
        rw [List.getElem?_map] at hi
        obtain ⟨t, h1, rfl⟩ := Option.map_eq_some_iff.mp hi
        obtain ⟨e, h2, h3⟩ := ht.get h1
        refine rd_gtup ((sNew hD) _ _ h3) rfl ?_
        walk_at "rd"
        refine ⟨rfl, ?_⟩
        walk_at "rd"
        refine ⟨_, upd_same, lt60 ?_, ?_⟩
        · have := (List.getElem?_eq_some_iff.mp h2).1
          have := V0.n2
          rw [List.length_map, List.length_map, List.length_take]
          omega
        · rw [upd_upd, take_of h2]
          simp only [pI, List.map_append, List.map_cons, List.map_nil]
      · rintro H2 rfl
        rw [hlen, List.take_length]
        walk_at "rd"
        refine ⟨D, pI r, rfl, SqL.of upd_same, fun ns q hp hs hq => ?_⟩
        have e1 := sorted_is V0 hp hs
        subst e1
        have sD : Same H' (upd H' D (.lst ((pI r).map V.int))) := sNew hD
        have s2 : Same H' (upd (upd H' D (.lst ((pI r).map V.int))) q (.lst ((rI' r.length).map V.int))) := fun b o e => (sNew hq) _ _ (sD _ _ e)
        walk_at "rd"
        refine rd_len (s2 _ _ hl) ?_
        walk_at "rd"
        refine ⟨RgOk.of_le (by omega) ?_ (by omega) (by omega), fun q2 hq2 => ?_⟩
        · have := V0.n2
          omega
        · rw [hlen, rgV_is]
          refine rd_eqD (d := dI (rI' r.length)) (.lst (SqL.of ((sNew hq2) _ _ upd_same)) (dp_ints _)) (.lst (SqL.of upd_same) (dp_ints _)) (shp_ints _) ?_
          exact kq _ fun b o e => (sNew hq2) _ _ (s2 _ _ e)
def sp_check_lineup (K : PySem.W.Frag) : Sp := fun vs H Q _ => ∃ (l : Addr) (r : Row), vs = [.ref l] ∧ RowAt H l r ∧ Vr r ∧ ∀ H', Same H H' → Q .non H'
theorem ok_check_lineup (T : Txt K mg a) : FnOk P w K mg base CX0 4 a.f_check_lineup a.d_check_lineup ["value"] (sp_check_lineup K) := by
  refine T.F_check_lineup.ok sc_check_lineup (fun vs H Q E h => ?_) (fun cdv A outer s H vs Q E hr h => ?_)
  · obtain ⟨l, r, rfl, _⟩ := h
    rfl
  · obtain ⟨l, r, rfl, hR, V0, kq⟩ := h
    have nd := sc_check_lineup.nd
    refine ⟨_, (pss_one (ps_if (pt_not (pt_val (pe_call (ok_is_lineup T) (hr.mono (by decide)) rfl T.g_is_lineup T.k_is_lineup T.n_is_lineup .nil pass0 (pa_cons (pv 0) pa_nil)))) pss_never pss_nil)), ?_⟩
    walk_at "rd"
    refine ⟨l, r, rfl, hR, V0, fun H' s1 => ?_⟩
    walk_at "rd"
    exact kq H' s1
def sp_is_person (K : PySem.W.Frag) : Sp := fun vs H Q _ => ∃ (l : Addr) (r : Row) (p : Nat), vs = [.ref l, .int (p : Int)] ∧ RowAt H l r ∧ p < r.length ∧ Q (.bl true) H
theorem ok_is_person (T : Txt K mg a) : FnOk P w K mg base CX0 2 a.f_is_person a.d_is_person ["lineup", "value"] (sp_is_person K) := by
  refine T.F_is_person.ok sc_is_person (fun vs H Q E h => ?_) (fun cdv A outer s H vs Q E hr h => ?_)
  · obtain ⟨l, r, p, rfl, _⟩ := h
    rfl
  · obtain ⟨l, r, p, rfl, ⟨ts, hl, ht⟩, hp, kq⟩ := h
    have nd := sc_is_person.nd
    have hlen : (ts.map V.ref).length = r.length := by rw [List.length_map, ht.len]
    refine ⟨_, (pss_one (ps_ret (pe_and (pe_call (ok_is_integer T) (hr.mono (by decide)) rfl T.g_is_integer T.k_is_integer T.n_is_integer .nil pass0 (pa_cons (pv 1) pa_nil)) (pe_one (pe_chain op_le op_lt pe_int (pv 1) (pe_callB (klen (K := K)) (by rfl) T.b_len (by decide +kernel) (pa_cons (pv 0) pa_nil))))))), ?_⟩
    walk_at "rd"
    refine ⟨_, rfl, ?_⟩
    walk_at "rd"
    refine rd_yes (by omega) ?_
    walk_at "rd"
    rw [decide_eq_true (by rw [hlen]; omega)]
    exact kq
def sp_check_calls (K : PySem.W.Frag) : Sp := fun vs H Q _ => ∃ (l c : Addr) (r : Row) (cs : List Nat), vs = [.ref l, .ref c] ∧ RowAt H l r ∧ H c = some (.lst (cs.map vN)) ∧ (∀ p ∈ cs, p < r.length) ∧
  ∀ H', Same H H' → Q .non H'
theorem ok_check_calls (T : Txt K mg a) : FnOk P w K mg base CX0 3 a.f_check_calls a.d_check_calls ["lineup", "value"] (sp_check_calls K) := by
  refine T.F_check_calls.ok sc_check_calls (fun vs H Q E h => ?_) (fun cdv A outer s H vs Q E hr h => ?_)
  · obtain ⟨l, c, r, cs, rfl, _⟩ := h
    rfl
  · obtain ⟨l, c, r, cs, rfl, hR, hc, hcs, kq⟩ := h
    have nd := sc_check_calls.nd
    refine ⟨_, (pss_cons (ps_if (pt_cmpR op_notTyB (pe_typeOf rfl T.b_type (pv 1)) (pe_bltn (v := .ty "list") (by rfl) T.b_list (by decide +kernel) rfl) (nomark _)) pss_never pss_nil)
      (pss_one (ps_for PassesOwn.never rfl (pi_enum rfl T.b_enumerate (pa_cons (pv 1) pa_nil)) (kpg_tup (K := K) rfl (pgs_cons (pg_name (i := 2) nd rfl (Or.inl rfl)) (pgs_cons (pg_name (i := 3) nd rfl (Or.inl rfl)) pgs_nil))) (pss_one (ps_if (pt_not (pt_val (pe_call (ok_is_person T) (hr.mono (by decide)) rfl T.g_is_person T.k_is_person T.n_is_person .nil pass0 (pa_cons (pv 0) (pa_cons (pv 3) pa_nil))))) pss_never pss_nil))))), ?_⟩
    walk_at "rd"
    refine rd_ndec (fun k => absurd rfl k) fun _ => ?_
    walk_at "rd"
    refine ⟨_, rfl, c, _, rfl, SqL.of hc, for_enum (K := K) (a := c) (xs := cs.map vN) (fun i σ H' => ∃ x y, σ = [some (.ref l), some (.ref c), x, y] ∧ Same H H')
      ⟨none, none, rfl, Same.refl H⟩ (fun i σ H' _ ⟨_, _, _, e⟩ => SqL.of (e _ _ hc)) ?_ ?_⟩
    · rintro i v t σ H' hi ⟨x, y, rfl, s1⟩ hT
      rw [List.getElem?_map] at hi
      obtain ⟨p, h1, rfl⟩ := Option.map_eq_some_iff.mp hi
      have s2 := fun o => Same.trans s1 (sNew (o := o) hT)
      refine rd_gtup upd_same rfl ?_
      walk_at "rd"
      refine ⟨l, r, p, rfl, hR.same (s2 _), hcs p (getElem?_mem h1), ?_⟩
      walk_at "rd"
      exact ⟨_, _, rfl, s2 _⟩
    · rintro σ H' ⟨x, y, rfl, s1⟩
      walk_at "rd"
      exact kq H' s1
end K14

namespace K14
open PySem L2 LX
local macro_rules | `(tactic| walk_at "rd") => `(tactic| repeat (first
  | with_reducible refine rd_var rfl ?_ | with_reducible refine rd_c ?_ | with_reducible refine rd_op ?_ | with_reducible refine rd_un ?_ | with_reducible refine rd_I0 ?_ | with_reducible refine rd_U ?_
  | with_reducible refine rd_test ?_ | with_reducible refine rd_tB ?_ | with_reducible refine rd_bl ?_ | with_reducible refine rd_chain ?_
  | with_reducible refine rd_and ?_ | with_reducible refine rd_or ?_ | with_reducible refine rd_not ?_ | with_reducible refine rd_andV ?_ | with_reducible refine rd_orV ?_ | with_reducible refine rd_notV ?_
  | with_reducible refine rd_next ?_ | with_reducible refine rd_seq ?_ | with_reducible refine rd_drop ?_ | with_reducible refine rd_ret ?_ | with_reducible refine rd_ifS ?_ | with_reducible refine rd_asg ?_ | with_reducible refine rd_name ?_
  | with_reducible refine rd_par ?_ | with_reducible refine rd_two ?_ | with_reducible refine rd_2i ?_ | with_reducible refine rd_nil ?_ | with_reducible refine rd_cons ?_ | with_reducible refine rd_tup ?_ | with_reducible refine rd_lst ?_ | with_reducible refine rd_cb ?_ | with_reducible refine rd_call ?_
  | with_reducible refine rd_ixL (by assumption) rfl ?_ | with_reducible refine rd_ixT (by assumption) rfl ?_ | with_reducible refine rd_ixL upd_same rfl ?_ | with_reducible refine rd_sub ?_ | with_reducible refine rd_sl ?_ | with_reducible refine rd_nopart ?_ | with_reducible refine rd_part ?_ | with_reducible refine rd_int ?_
  | with_reducible refine rd_len (by assumption) ?_ | with_reducible refine rd_bm ?_ | with_reducible refine rd_bm0 ?_ | with_reducible refine rd_gcons ?_ | with_reducible refine rd_gnil ?_
  | ((with_reducible refine rd_I ?ci ?_); (case ci => first | assumption | (show (0 : Int) < _; decide) | exact Or.inl ⟨by decide, by decide⟩ | exact Or.inr ⟨by decide, by decide⟩ | exact ⟨by decide, by decide, (by decide : Int.natAbs 10 < 2 ^ 1000)⟩))
  | with_reducible refine rd_setL (by assumption) rfl ?_ | with_reducible refine rd_setL upd_same rfl ?_ | with_reducible refine rd_len upd_same ?_
  | with_reducible refine rd_2ty ?_ | with_reducible refine rd_NT ?_ | with_reducible refine rd_2s ?_ | with_reducible refine rd_lenS ?_ | with_reducible refine rd_lenT (by assumption) ?_ | ((with_reducible refine rd_typ ?ct ?_); (case ct => rfl))
  | ((with_reducible refine rd_eq ?cs ?_); (case cs => rfl)) | ((with_reducible refine rd_ne ?cs ?_); (case cs => rfl))
  | with_reducible refine rd_qtru ?_ | with_reducible refine rd_lstRg ?_ | with_reducible refine rd_rg1 ?_ | with_reducible refine rd_tyes ?_ | with_reducible refine rd_tyL (by assumption) ?_ | with_reducible refine rd_tyT (by assumption) ?_
  | with_reducible refine iteT ?_ | with_reducible refine iteF ?_ | with_reducible refine rd_nt ?_ | with_reducible refine rd_nf ?_
  | (dsimp only)))

variable {P : Program} {w : World} {K : PySem.W.Frag} {mg : Str → Option Value} {base : Heap} {a : Ad}
def sp_apply_call (K : PySem.W.Frag) : Sp := fun vs H Q _ => ∃ (l : Addr) (r : Row) (p : Nat), vs = [.ref l, vN p] ∧ RowAt H l r ∧ Vr r ∧ p < r.length ∧
  ∀ t L H', H t = none → H L = none → Same H H' → H' t = some (.tup [.ref L, oV (fo r (colOf r p))]) → RowAt H' L (app r p) → Q (.ref t) H'
theorem ok_apply_call (T : Txt K mg a) : FnOk P w K mg base CX0 2 a.f_apply_call a.d_apply_call ["lineup", "person"] (sp_apply_call K) := by
  refine T.F_apply_call.ok sc_apply_call (fun vs H Q E h => ?_) (fun cdv A outer s H vs Q E hr h => ?_)
  · obtain ⟨l, r, p, rfl, _⟩ := h
    rfl
  · obtain ⟨l, r, p, rfl, hR, V0, hp, kq⟩ := h
    have nd := sc_apply_call.nd
    refine ⟨_, (pss_cons (ps_set (i := 2) nd rfl (Or.inl rfl) (pe_ix (kix_list (K := K)) (pe_call (ok_colors_by_person T) (hr.mono (by decide)) rfl T.g_colors_by_person T.k_colors_by_person T.n_colors_by_person .nil pass0 (pa_cons (pv 0) pa_nil)) (pv 1) (fun _ _ => rfl)))
      (pss_cons (ps_set (i := 3) nd rfl (Or.inl rfl) (pe_call (ok_first_other_color T) (hr.mono (by decide)) rfl T.g_first_other_color T.k_first_other_color T.n_first_other_color .nil pass0 (pa_cons (pv 0) (pa_cons (pv 2) pa_nil))))
      (pss_cons (ps_setLc (i := 4) (own := [("pair", 5)]) (g := gName 5) rfl nd rfl rfl (sw_true rfl rfl rfl (by decide +kernel)) (kpi_list (K := K) (pv 0)) (blkOk_by (own := [("pair", 5)]) (N := ["lineup", "person", "color", "taken", "others", "pair"]) (sc := defScope s_apply_call) (by decide +kernel)) (fun _ _ _ _ _ => (pg_name (i := 5) nd rfl (Or.inl rfl))) (fun _ _ _ _ _ => pts_one (pt_cmpR op_ne (pe_ix (kix_tup (K := K)) (pv 5) pe_int (fun _ _ => rfl)) (pv 1) (nomark _))) (fun _ _ _ _ _ => (pv 5)))
      (pss_one (ps_ret (pe_tup (pa_cons (pe_op op_cat (pe_lst (pa_cons (pe_tup (pa_cons (pv 1) (pa_cons (pe_ifExp (pt_cmpR op_isN (pv 3) pe_non (nomark _)) (pv 2) (pv 3)) pa_nil))) pa_nil)) (pv 4)) (pa_cons (pv 3) pa_nil)))))))), ?_⟩
    walk_at "rd"
    refine ⟨l, r, rfl, hR, V0, fun q H1 hq s1 hb => ?_⟩
    walk_at "rd"
    refine rd_ixL hb (atI_nat (byPerson_at hp)) ?_
    walk_at "rd"
    have hR1 := hR.same s1
    refine ⟨l, r, _, rfl, hR1, ?_⟩
    walk_at "rd"
    obtain ⟨ts, hl, ht⟩ := hR1
    refine ⟨_, rfl, l, rfl, ⟨_, SqL.of hl⟩, fun D hD => lc_list (K := K) (a := l) (xs := ts.map V.ref) (fun i H3 => ∃ us, H3 = upd H1 D (.lst (us.map V.ref)) ∧ TupsAt H1 us ((r.take i).filter fun e => e.1 != p)) ⟨[], rfl, True.intro⟩
      (fun i H3 _ ⟨_, e, _⟩ => by rw [e]; exact SqL.of ((sNew hD) _ _ hl)) ?_ ?_⟩
    · rintro i v H3 hi ⟨us, rfl, hU⟩
      rw [List.getElem?_map] at hi
      obtain ⟨t, h1, rfl⟩ := Option.map_eq_some_iff.mp hi
      obtain ⟨e, h2, h3⟩ := ht.get h1
      have hz := hU.len
      have hf := filt_turn hU h2 h3
      walk_at "rd"
      refine ⟨rfl, ?_⟩
      walk_at "rd"
      refine rd_ixT ((sNew hD) _ _ h3) rfl ?_
      walk_at "rd"
      refine rd_ndec (fun k => ?_) fun k => ?_
      · have c : (e.1 != p) = true := by
          rw [bne_iff_ne]
          intro z
          exact k (by rw [z])
        rw [if_pos c] at hf
        walk_at "rd"
        refine ⟨_, upd_same, lt60 ?_, us ++ [t], ?_, hf⟩
        · rw [List.length_map, hz]
          have := List.length_filter_le (fun e : Nat × Nat => e.1 != p) (r.take i)
          rw [List.length_take] at this
          have := V0.n2
          omega
        · rw [upd_upd, List.map_append]
          rfl
      · have c : ¬ (e.1 != p) = true := by
          rw [bne_iff_ne]
          intro z
          injection k with k
          exact z (by omega)
        rw [if_neg c] at hf
        exact ⟨us, rfl, hf⟩
    · rintro H3 ⟨us, rfl, hU⟩
      rw [List.length_map, ht.len, List.take_length] at hU
      have hz : us.length ≤ 60 := by
        rw [hU.len]
        have := List.length_filter_le (fun e : Nat × Nat => e.1 != p) r
        have := V0.n2
        omega
      have s3 : Same H1 (upd H1 D (.lst (us.map V.ref))) := sNew hD
      walk_at "rd"
      refine rd_ifE ?_
      walk_at "rd"
      refine ⟨rfl, ?_⟩
      -- both ways the same pair is made
      have fin : ∀ c : Nat, c = (fo r (colOf r p)).getD (colOf r p) → ∀ (T t L0 c0 : Addr) (h0 : (upd H1 D (.lst (us.map V.ref))) t = none)
          (h1 : (upd (upd H1 D (.lst (us.map V.ref))) t (.tup [vN p, sg c])) L0 = none)
          (h2 : (upd (upd (upd H1 D (.lst (us.map V.ref))) t (.tup [vN p, sg c])) L0 (.lst [.ref t])) c0 = none)
          (h3 : (upd (upd (upd (upd H1 D (.lst (us.map V.ref))) t (.tup [vN p, sg c])) L0 (.lst [.ref t])) c0 (.lst ([.ref t] ++ us.map V.ref))) T = none),
          Q (.ref T) (upd (upd (upd (upd (upd H1 D (.lst (us.map V.ref))) t (.tup [vN p, sg c])) L0 (.lst [.ref t])) c0 (.lst ([.ref t] ++ us.map V.ref))) T (.tup [.ref c0, oV (fo r (colOf r p))])) := by
        intro c hc T t L0 c0 h0 h1 h2 h3
        have a1 := sNew (o := .tup [vN p, sg c]) h0
        have a2 := sNew (o := .lst [.ref t]) h1
        have a3 := sNew (o := .lst ([.ref t] ++ us.map V.ref)) h2
        have a4 := sNew (o := .tup [.ref c0, oV (fo r (colOf r p))]) h3
        have b2 := s3.trans (a1.trans a2)
        have b4 := b2.trans (a3.trans a4)
        refine kq T c0 _ (s1.free ((b2.trans a3).free h3)) (s1.free (b2.free h2)) (s1.trans b4) upd_same ⟨t :: us, a4 _ _ (by rw [upd_same]; rfl), ?_, ?_⟩
        · refine a4 _ _ (a3 _ _ (a2 _ _ ?_))
          rw [upd_same, hc]
        · exact hU.mono fun b xs e => b4 _ _ e
      have szU : (us.map V.ref).length ≤ 60 := by rw [List.length_map]; exact hz
      have go : ∀ c : Nat, c = (fo r (colOf r p)).getD (colOf r p) → ∀ (t L0 : Addr) (h0 : (upd H1 D (.lst (us.map V.ref))) t = none)
          (h1 : (upd (upd H1 D (.lst (us.map V.ref))) t (.tup [vN p, sg c])) L0 = none), (upd (upd (upd H1 D (.lst (us.map V.ref))) t (.tup [vN p, sg c])) L0 (.lst [.ref t])) D = some (.lst (us.map V.ref)) := by
        intro c hc t L0 h0 h1
        exact (sNew h1) _ _ ((sNew h0) _ _ upd_same)
      cases hfo : fo r (colOf r p) with
      | none =>
        rw [hfo] at fin go
        walk_at "rd"
        refine rd_yes rfl ?_
        walk_at "rd"
        refine ⟨by show 2 ≤ sizeLine; decide, fun t h0 => ?_⟩
        walk_at "rd"
        refine ⟨by show 1 ≤ sizeLine; decide, fun L0 h1 => ?_⟩
        walk_at "rd"
        refine rd_cat upd_same (go (colOf r p) rfl t L0 h0 h1) (sz60' (by show 1 + (us.map V.ref).length ≤ 100; omega)) fun c0 h2 => ?_
        walk_at "rd"
        refine ⟨by show 2 ≤ sizeLine; decide, fun T h3 => ?_⟩
        exact fin (colOf r p) rfl T t L0 c0 h0 h1 h2 h3
      | some d =>
        rw [hfo] at fin go
        walk_at "rd"
        refine rd_no (fun z => by cases z) ?_
        walk_at "rd"
        refine ⟨by show 2 ≤ sizeLine; decide, fun t h0 => ?_⟩
        walk_at "rd"
        refine ⟨by show 1 ≤ sizeLine; decide, fun L0 h1 => ?_⟩
        walk_at "rd"
        refine rd_cat upd_same (go d rfl t L0 h0 h1) (sz60' (by show 1 + (us.map V.ref).length ≤ 100; omega)) fun c0 h2 => ?_
        walk_at "rd"
        refine ⟨by show 2 ≤ sizeLine; decide, fun T h3 => ?_⟩
        exact fin d rfl T t L0 c0 h0 h1 h2 h3
def sp_lineup_after (K : PySem.W.Frag) : Sp := fun vs H Q _ => ∃ (l c : Addr) (r : Row) (cs : List Nat), vs = [.ref l, .ref c] ∧ RowAt H l r ∧ Vr r ∧ H c = some (.lst (cs.map vN)) ∧ (∀ p ∈ cs, p < r.length) ∧
  ∀ L H', H L = none → Same H H' → RowAt H' L (apps r cs) → Q (.ref L) H'
theorem ok_lineup_after (T : Txt K mg a) : FnOk P w K mg base CX0 5 a.f_lineup_after a.d_lineup_after ["lineup", "calls"] (sp_lineup_after K) := by
  refine T.F_lineup_after.ok sc_lineup_after (fun vs H Q E h => ?_) (fun cdv A outer s H vs Q E hr h => ?_)
  · obtain ⟨l, c, r, cs, rfl, _⟩ := h
    rfl
  · obtain ⟨l, c, r, cs, rfl, hR, V0, hc, hcs, kq⟩ := h
    have nd := sc_lineup_after.nd
    refine ⟨_, (pss_cons (ps_expr (pe_call (ok_check_lineup T) (hr.mono (by decide)) rfl T.g_check_lineup T.k_check_lineup T.n_check_lineup .nil pass0 (pa_cons (pv 0) pa_nil)))
      (pss_cons (ps_expr (pe_call (ok_check_calls T) (hr.mono (by decide)) rfl T.g_check_calls T.k_check_calls T.n_check_calls .nil pass0 (pa_cons (pv 0) (pa_cons (pv 1) pa_nil))))
      (pss_cons (ps_set (i := 2) nd rfl (Or.inl rfl) (pe_callTy (klist (K := K)) (by rfl) T.b_list (by decide +kernel) (pa_cons (pv 0) pa_nil)))
      (pss_cons (ps_for PassesOwn.never rfl (kpi_list (K := K) (pv 1)) (pg_name (i := 3) nd rfl (Or.inl rfl)) (pss_one (ps_asg (pe_call (ok_apply_call T) (hr.mono (by decide)) rfl T.g_apply_call T.k_apply_call T.n_apply_call .nil pass0 (pa_cons (pv 2) (pa_cons (pv 3) pa_nil))) (kpg_tup (K := K) rfl (pgs_cons (pg_name (i := 2) nd rfl (Or.inl rfl)) (pgs_cons (pg_name (i := 4) nd rfl (Or.inl rfl)) pgs_nil))))))
      (pss_one (ps_ret (pv 2))))))), ?_⟩
    walk_at "rd"
    refine ⟨l, r, rfl, hR, V0, fun H1 s1 => ?_⟩
    walk_at "rd"
    refine ⟨l, c, r, cs, rfl, hR.same s1, s1 _ _ hc, hcs, fun H2 s2 => ?_⟩
    walk_at "rd"
    have s12 := s1.trans s2
    obtain ⟨ts, hl, ht⟩ := hR.same s12
    refine rd_listOf hl fun L hL => ?_
    walk_at "rd"
    have s3 : Same H2 (upd H2 L (.lst (ts.map V.ref))) := sNew hL
    refine ⟨_, rfl, c, rfl, ⟨_, SqL.of (s3 _ _ (s12 _ _ hc))⟩, for_list (K := K) (a := c) (xs := cs.map vN) (fun i σ H' => ∃ L x y, σ = [some (.ref l), some (.ref c), some (.ref L), x, y] ∧ H L = none ∧ Same H H' ∧ RowAt H' L (apps r (cs.take i)))
      ⟨L, none, none, rfl, s12.free hL, s12.trans s3, ts, upd_same, ht.mono (sTups s3)⟩ (fun i σ H' _ ⟨_, _, _, _, _, e, _⟩ => SqL.of (e _ _ hc)) ?_ ?_⟩
    · rintro i v σ H' hi ⟨L, x, y, rfl, hL, s4, hRL⟩
      rw [List.getElem?_map] at hi
      obtain ⟨p, h1, rfl⟩ := Option.map_eq_some_iff.mp hi
      have hv := apps_len V0 (cs.take i) fun q hq => hcs q (List.mem_of_mem_take hq)
      have hp := hcs p (getElem?_mem h1)
      walk_at "rd"
      refine ⟨L, _, p, rfl, hRL, hv.1, by rw [hv.2]; exact hp, fun t L2 H3 ht0 hL2 s5 hT hR2 => ?_⟩
      refine rd_gtup hT rfl ?_
      walk_at "rd"
      refine ⟨L2, _, _, rfl, s4.free hL2, s4.trans s5, ?_⟩
      rw [take_of h1, apps_snoc]
      exact hR2
    · rintro σ H' ⟨L, x, y, rfl, hL, s4, hRL⟩
      rw [List.length_map, List.take_length] at hRL
      walk_at "rd"
      exact kq L H' hL s4 hRL
end K14

namespace K14
open PySem L2 LX
local macro_rules | `(tactic| walk_at "rd") => `(tactic| repeat (first
  | with_reducible refine rd_var rfl ?_ | with_reducible refine rd_c ?_ | with_reducible refine rd_op ?_ | with_reducible refine rd_un ?_ | with_reducible refine rd_I0 ?_ | with_reducible refine rd_U ?_
  | with_reducible refine rd_test ?_ | with_reducible refine rd_tB ?_ | with_reducible refine rd_bl ?_ | with_reducible refine rd_chain ?_
  | with_reducible refine rd_and ?_ | with_reducible refine rd_or ?_ | with_reducible refine rd_not ?_ | with_reducible refine rd_andV ?_ | with_reducible refine rd_orV ?_ | with_reducible refine rd_notV ?_
  | with_reducible refine rd_next ?_ | with_reducible refine rd_seq ?_ | with_reducible refine rd_drop ?_ | with_reducible refine rd_ret ?_ | with_reducible refine rd_ifS ?_ | with_reducible refine rd_asg ?_ | with_reducible refine rd_name ?_
  | with_reducible refine rd_par ?_ | with_reducible refine rd_two ?_ | with_reducible refine rd_2i ?_ | with_reducible refine rd_nil ?_ | with_reducible refine rd_cons ?_ | with_reducible refine rd_tup ?_ | with_reducible refine rd_lst ?_ | with_reducible refine rd_cb ?_ | with_reducible refine rd_call ?_
  | with_reducible refine rd_ixL (by assumption) rfl ?_ | with_reducible refine rd_ixT (by assumption) rfl ?_ | with_reducible refine rd_ixL upd_same rfl ?_ | with_reducible refine rd_sub ?_ | with_reducible refine rd_sl ?_ | with_reducible refine rd_nopart ?_ | with_reducible refine rd_part ?_ | with_reducible refine rd_int ?_
  | with_reducible refine rd_len (by assumption) ?_ | with_reducible refine rd_bm ?_ | with_reducible refine rd_bm0 ?_ | with_reducible refine rd_gcons ?_ | with_reducible refine rd_gnil ?_
  | ((with_reducible refine rd_I ?ci ?_); (case ci => first | assumption | (show (0 : Int) < _; decide) | exact Or.inl ⟨by decide, by decide⟩ | exact Or.inr ⟨by decide, by decide⟩ | exact ⟨by decide, by decide, (by decide : Int.natAbs 10 < 2 ^ 1000)⟩))
  | with_reducible refine rd_setL (by assumption) rfl ?_ | with_reducible refine rd_setL upd_same rfl ?_ | with_reducible refine rd_len upd_same ?_
  | with_reducible refine rd_2ty ?_ | with_reducible refine rd_NT ?_ | with_reducible refine rd_2s ?_ | with_reducible refine rd_lenS ?_ | with_reducible refine rd_lenT (by assumption) ?_ | ((with_reducible refine rd_typ ?ct ?_); (case ct => rfl))
  | ((with_reducible refine rd_eq ?cs ?_); (case cs => rfl)) | ((with_reducible refine rd_ne ?cs ?_); (case cs => rfl))
  | with_reducible refine rd_qtru ?_ | with_reducible refine rd_lstRg ?_ | with_reducible refine rd_rg1 ?_ | with_reducible refine rd_tyes ?_ | with_reducible refine rd_tyL (by assumption) ?_ | with_reducible refine rd_tyT (by assumption) ?_
  | with_reducible refine iteT ?_ | with_reducible refine iteF ?_ | with_reducible refine rd_nt ?_ | with_reducible refine rd_nf ?_
  | (dsimp only)))

variable {P : Program} {w : World} {K : PySem.W.Frag} {mg : Str → Option Value} {base : Heap} {a : Ad}
def sp_colors_taken (K : PySem.W.Frag) : Sp := fun vs H Q _ => ∃ (l c : Addr) (r : Row) (cs : List Nat), vs = [.ref l, .ref c] ∧ RowAt H l r ∧ Vr r ∧ H c = some (.lst (cs.map vN)) ∧ (∀ p ∈ cs, p < r.length) ∧ cs.length ≤ 10000 ∧
  ∀ L H', H L = none → Same H H' → H' L = some (.lst ((takens r cs).map oV)) → Q (.ref L) H'
theorem ok_colors_taken (T : Txt K mg a) : FnOk P w K mg base CX0 5 a.f_colors_taken a.d_colors_taken ["lineup", "calls"] (sp_colors_taken K) := by
  refine T.F_colors_taken.ok sc_colors_taken (fun vs H Q E h => ?_) (fun cdv A outer s H vs Q E hr h => ?_)
  · obtain ⟨l, c, r, cs, rfl, _⟩ := h
    rfl
  · obtain ⟨l, c, r, cs, rfl, hR, V0, hc, hcs, hz, kq⟩ := h
    have nd := sc_colors_taken.nd
    refine ⟨_, (pss_cons (ps_expr (pe_call (ok_check_lineup T) (hr.mono (by decide)) rfl T.g_check_lineup T.k_check_lineup T.n_check_lineup .nil pass0 (pa_cons (pv 0) pa_nil)))
      (pss_cons (ps_expr (pe_call (ok_check_calls T) (hr.mono (by decide)) rfl T.g_check_calls T.k_check_calls T.n_check_calls .nil pass0 (pa_cons (pv 0) (pa_cons (pv 1) pa_nil))))
      (pss_cons (ps_set (i := 2) nd rfl (Or.inl rfl) (pe_callTy (klist (K := K)) (by rfl) T.b_list (by decide +kernel) (pa_cons (pv 0) pa_nil)))
      (pss_cons (ps_set (i := 3) nd rfl (Or.inl rfl) (pe_lst pa_nil))
      (pss_cons (ps_for PassesOwn.never rfl (kpi_list (K := K) (pv 1)) (pg_name (i := 4) nd rfl (Or.inl rfl)) (pss_cons (ps_asg (pe_call (ok_apply_call T) (hr.mono (by decide)) rfl T.g_apply_call T.k_apply_call T.n_apply_call .nil pass0 (pa_cons (pv 2) (pa_cons (pv 4) pa_nil))) (kpg_tup (K := K) rfl (pgs_cons (pg_name (i := 2) nd rfl (Or.inl rfl)) (pgs_cons (pg_name (i := 5) nd rfl (Or.inl rfl)) pgs_nil))))
      (pss_one (ps_expr (kbm (K := K) PySem.F.plainAttrs_list PySem.F.slot_list_append PySem.F.type_list_append mt_append (pv 3) (pa_cons (pv 5) pa_nil))))))
      (pss_one (ps_ret (pv 3)))))))), ?_⟩
    walk_at "rd"
    refine ⟨l, r, rfl, hR, V0, fun H1 s1 => ?_⟩
    walk_at "rd"
    refine ⟨l, c, r, cs, rfl, hR.same s1, s1 _ _ hc, hcs, fun H2 s2 => ?_⟩
    walk_at "rd"
    have s12 := s1.trans s2
    obtain ⟨ts, hl, ht⟩ := hR.same s12
    refine rd_listOf hl fun L hL => ?_
    walk_at "rd"
    have s3 : Same H2 (upd H2 L (.lst (ts.map V.ref))) := sNew hL
    refine ⟨Nat.zero_le _, fun O hO => ?_⟩
    have s4 : Same H2 (upd (upd H2 L (.lst (ts.map V.ref))) O (.lst [])) := s3.trans (sNew hO)
    have hOH : H O = none := s12.free (s3.free hO)
    walk_at "rd"
    refine ⟨_, rfl, c, rfl, ⟨_, SqL.of (s4 _ _ (s12 _ _ hc))⟩, for_list (K := K) (a := c) (xs := cs.map vN) (fun i σ H' => ∃ L x y, σ = [some (.ref l), some (.ref c), some (.ref L), some (.ref O), x, y] ∧ L ≠ O ∧ Same H H' ∧ RowAt H' L (apps r (cs.take i)) ∧ H' O = some (.lst ((takens r (cs.take i)).map oV)))
      ⟨L, none, none, rfl, ?_, s12.trans s4, ⟨ts, (sNew hO) _ _ upd_same, ht.mono (sTups s4)⟩, upd_same⟩ (fun i σ H' _ ⟨_, _, _, _, _, e, _⟩ => SqL.of (e _ _ hc)) ?_ ?_⟩
    · exact ne_of_none (o := .lst (ts.map V.ref)) upd_same hO
    · rintro i v σ H' hi ⟨L, x, y, rfl, hLO, s5, hRL, gO⟩
      rw [List.getElem?_map] at hi
      obtain ⟨p, h1, rfl⟩ := Option.map_eq_some_iff.mp hi
      have hv := apps_len V0 (cs.take i) fun q hq => hcs q (List.mem_of_mem_take hq)
      have hp := hcs p (getElem?_mem h1)
      walk_at "rd"
      refine ⟨L, _, p, rfl, hRL, hv.1, by rw [hv.2]; exact hp, fun t L2 H3 ht0 hL2 s6 hT hR2 => ?_⟩
      refine rd_gtup hT rfl ?_
      walk_at "rd"
      have gO3 := s6 _ _ gO
      refine ⟨Or.inl ⟨rfl, _, SqL.of gO3⟩, ?_⟩
      walk_at "rd"
      refine ⟨O, _, _, rfl, rfl, gO3, sz1000 ?_, ?_⟩
      · rw [List.length_map, takens_len, List.length_take]
        omega
      have hL2O : L2 ≠ O := fun z => by rw [z, gO] at hL2; cases hL2
      refine ⟨L2, _, _, rfl, hL2O, sUpd (s5.trans s6) hOH, ?_, ?_⟩
      · rw [take_of h1, apps_snoc]
        obtain ⟨ts2, e1, e2⟩ := hR2
        refine ⟨ts2, by rw [upd_ne hL2O]; exact e1, e2.mono fun b xs e => ?_⟩
        rw [upd_ne fun z => by rw [z, gO3] at e; cases e]
        exact e
      · rw [upd_same, take_of h1, takens_snoc, List.map_append]
        rfl
    · rintro σ H' ⟨L, x, y, rfl, hLO, s5, hRL, gO⟩
      rw [List.length_map, List.take_length] at gO
      walk_at "rd"
      exact kq O H' hOH s5 gO
end K14

namespace K14
open PySem L2 LX
local macro_rules | `(tactic| walk_at "rd") => `(tactic| repeat (first
  | with_reducible refine rd_var rfl ?_ | with_reducible refine rd_c ?_ | with_reducible refine rd_op ?_ | with_reducible refine rd_un ?_ | with_reducible refine rd_I0 ?_ | with_reducible refine rd_U ?_
  | with_reducible refine rd_test ?_ | with_reducible refine rd_tB ?_ | with_reducible refine rd_bl ?_ | with_reducible refine rd_chain ?_
  | with_reducible refine rd_and ?_ | with_reducible refine rd_or ?_ | with_reducible refine rd_not ?_ | with_reducible refine rd_andV ?_ | with_reducible refine rd_orV ?_ | with_reducible refine rd_notV ?_
  | with_reducible refine rd_next ?_ | with_reducible refine rd_seq ?_ | with_reducible refine rd_drop ?_ | with_reducible refine rd_ret ?_ | with_reducible refine rd_ifS ?_ | with_reducible refine rd_asg ?_ | with_reducible refine rd_name ?_
  | with_reducible refine rd_par ?_ | with_reducible refine rd_two ?_ | with_reducible refine rd_2i ?_ | with_reducible refine rd_nil ?_ | with_reducible refine rd_cons ?_ | with_reducible refine rd_tup ?_ | with_reducible refine rd_lst ?_ | with_reducible refine rd_cb ?_ | with_reducible refine rd_call ?_
  | with_reducible refine rd_ixL (by assumption) rfl ?_ | with_reducible refine rd_ixT (by assumption) rfl ?_ | with_reducible refine rd_ixL upd_same rfl ?_ | with_reducible refine rd_sub ?_ | with_reducible refine rd_sl ?_ | with_reducible refine rd_nopart ?_ | with_reducible refine rd_part ?_ | with_reducible refine rd_int ?_
  | with_reducible refine rd_len (by assumption) ?_ | with_reducible refine rd_bm ?_ | with_reducible refine rd_bm0 ?_ | with_reducible refine rd_gcons ?_ | with_reducible refine rd_gnil ?_
  | ((with_reducible refine rd_I ?ci ?_); (case ci => first | assumption | (show (0 : Int) < _; decide) | exact Or.inl ⟨by decide, by decide⟩ | exact Or.inr ⟨by decide, by decide⟩ | exact ⟨by decide, by decide, (by decide : Int.natAbs 10 < 2 ^ 1000)⟩))
  | with_reducible refine rd_setL (by assumption) rfl ?_ | with_reducible refine rd_setL upd_same rfl ?_ | with_reducible refine rd_len upd_same ?_
  | with_reducible refine rd_2ty ?_ | with_reducible refine rd_NT ?_ | with_reducible refine rd_2s ?_ | with_reducible refine rd_lenS ?_ | with_reducible refine rd_lenT (by assumption) ?_ | ((with_reducible refine rd_typ ?ct ?_); (case ct => rfl))
  | ((with_reducible refine rd_eq ?cs ?_); (case cs => rfl)) | ((with_reducible refine rd_ne ?cs ?_); (case cs => rfl))
  | with_reducible refine rd_qtru ?_ | with_reducible refine rd_lstRg ?_ | with_reducible refine rd_rg1 ?_ | with_reducible refine rd_tyes ?_ | with_reducible refine rd_tyL (by assumption) ?_ | with_reducible refine rd_tyT (by assumption) ?_
  | with_reducible refine iteT ?_ | with_reducible refine iteF ?_ | with_reducible refine rd_nt ?_ | with_reducible refine rd_nf ?_
  | (dsimp only)))

variable {P : Program} {w : World} {K : PySem.W.Frag} {mg : Str → Option Value} {base : Heap} {a : Ad}
def sp__law_cells (K : PySem.W.Frag) : Sp := fun vs H Q _ => ∃ (l : Addr) (ns : List Int) (n : Int), vs = [.ref l, .int n] ∧ Scr K H l ns ∧ ns.length ≤ 63 ∧
  ∀ p H' (cs : List Int), H p = none → Same H H' → H' p = some (.lst (cs.map V.int)) → cs.length ≤ 70 → Q (.ref p) H'
theorem ok__law_cells (T : Txt K mg a) : FnOk P w K mg base CX0 1 a.f__law_cells a.d__law_cells ["script", "count"] (sp__law_cells K) := by
  refine T.F__law_cells.ok sc__law_cells (fun vs H Q E h => ?_) (fun cdv A outer s H vs Q E hr h => ?_)
  · obtain ⟨l, ns, n, rfl, _⟩ := h
    rfl
  · obtain ⟨l, ns, n, rfl, hSc, hz, kq⟩ := h
    have hS := hSc.seq
    have nd := sc__law_cells.nd
    have hu64 := hr.units
    refine ⟨_, (pss_one (ps_ret (pe_op op_cat (pe_slice (ksl_list (K := K)) (pv 0) po_none (po_some (pv 1))) (pe_op op_rep (pe_lst (pa_cons pe_int pa_nil)) (pe_callTy call_int1 (by rfl) T.b_int (by decide +kernel) (pa_cons (pe_cmpR (keqD (K := K) hu64) (pv 0) (pe_lst pa_nil) (nomark _)) pa_nil)))))), ?_⟩
    walk_at "rd"
    refine ⟨l, _, rfl, hS, fun p hp => ?_⟩
    obtain ⟨ms, e1, e2⟩ := cut_ints ns none (some n)
    rw [e1]
    have s1 : Same H (upd H p (.lst (ms.map V.int))) := sNew hp
    walk_at "rd"
    refine ⟨by show 1 ≤ sizeLine; decide, fun b hb => ?_⟩
    have s2 := s1.trans (sNew (o := .lst [V.int 0]) hb)
    walk_at "rd"
    refine ⟨Nat.zero_le _, fun q hq => ?_⟩
    have s3 := s2.trans (sNew (o := .lst []) hq)
    refine rd_eqD2 (d := dI ns) (e := dI []) (.lst (s3.seq hS) (dp_ints ns)) (.lst (SqL.of upd_same) .nil) (shp_ints _) (shp_ints _) (eqv_nil ns) ?_
    walk_at "rd"
    refine Or.inr ⟨_, rfl, ?_⟩
    have hbq : b ≠ q := (ne_of_none (o := .lst [V.int 0]) (by first | exact upd_same) hq)
    have hb3 : (upd (upd (upd H p (.lst (ms.map V.int))) b (.lst [V.int 0])) q (.lst [])) b = some (.lst [V.int 0]) := by
      rw [upd_ne hbq]
      exact upd_same
    have hbp : b ≠ p := (ne_of_none (o := .lst (ms.map V.int)) upd_same hb).symm
    have hpq : p ≠ q := ne_of_none (o := .lst (ms.map V.int)) (by rw [upd_ne hbp.symm]; exact upd_same) hq
    have hk : ∃ k : Nat, k ≤ 1 ∧ (if decide (ns = []) = true then (1 : Int) else 0) = (k : Int) := by
      by_cases c : ns = []
      · exact ⟨1, Nat.le_refl _, by rw [if_pos (decide_eq_true c)]; rfl⟩
      · exact ⟨0, by decide, by rw [if_neg (by rw [decide_eq_false c]; decide)]; rfl⟩
    obtain ⟨k, hk1, hk2⟩ := hk
    rw [hk2]
    refine ⟨b, _, _, rfl, rfl, hb3, by omega, by omega, ?_, fun c hc => ?_⟩
    · show 1 * (k : Int).toNat ≤ sizeLine
      exact sz60 (by omega)
    rw [Int.toNat_natCast, flat_rep]
    have hcp : p ≠ c := ne_of_none (o := .lst (ms.map V.int)) (by rw [upd_ne hpq, upd_ne hbp.symm]; exact upd_same) hc
    have hl : (List.replicate k (V.int 0)) = (List.replicate k (0 : Int)).map V.int := by rw [List.map_replicate]
    refine rd_cat (by rw [upd_ne hcp, upd_ne hpq, upd_ne hbp.symm]; exact upd_same) upd_same ?_ fun d hd => ?_
    · rw [List.length_map, List.length_replicate]
      exact sz60' (by omega)
    · have s4 := s3.trans (sNew (o := .lst (List.replicate k (V.int 0))) hc)
      rw [hl, ← List.map_append]
      rw [hl] at hd s4
      refine kq d _ _ (s4.free hd) (s4.trans (sNew hd)) upd_same ?_
      rw [List.length_append, List.length_replicate]
      omega
def sp__law_row (K : PySem.W.Frag) : Sp := fun vs H Q _ => ∃ (p l : Addr) (ns : List Int), vs = [.ref p, .ref l, .int 60] ∧ Src H p ∧ Scr K H l ns ∧ ns.length ≤ 63 ∧
  ∀ L H' r, H L = none → Same' p H H' → Src H' p → RowAt H' L r → Vr r → Q (.ref L) H'
theorem ok__law_row (T : Txt K mg a) : FnOk P w K mg base CX0 2 a.f__law_row a.d__law_row ["source", "script", "limit"] (sp__law_row K) := by
  refine T.F__law_row.ok sc__law_row (fun vs H Q E h => ?_) (fun cdv A outer s H vs Q E hr h => ?_)
  · obtain ⟨p, l, ns, rfl, _⟩ := h
    rfl
  · obtain ⟨p, l, ns, rfl, S, hS, hz, kq⟩ := h
    have nd := sc__law_row.nd
    have hu64 := hr.units
    refine ⟨_, (pss_cons (ps_set (i := 3) nd rfl (Or.inr rfl) pe_str)
      (pss_cons (ps_asg (pe_tup (pa_cons (pe_op op_add pe_int (pe_call (ok__law_draw T) (hr.mono (by decide)) rfl T.g__law_draw T.k__law_draw T.n__law_draw .nil pass0 (pa_cons (pv 0) (pa_cons pe_int pa_nil)))) (pa_cons (pe_op op_add pe_int (pe_call (ok__law_draw T) (hr.mono (by decide)) rfl T.g__law_draw T.k__law_draw T.n__law_draw .nil pass0 (pa_cons (pv 0) (pa_cons pe_int pa_nil)))) pa_nil))) (kpg_tup (K := K) rfl (pgs_cons (pg_name (i := 4) nd rfl (Or.inl rfl)) (pgs_cons (pg_name (i := 5) nd rfl (Or.inr rfl)) pgs_nil))))
      (Evl.pss_cut (ps_if (pt_cmpR (kneD (K := K) hu64) (pv 1) (pe_lst pa_nil) (nomark _)) (pss_cons (ps_set (i := 6) nd rfl (Or.inl rfl) (pe_lst (pa_cons pe_int (pa_cons (pe_op op_add pe_int (pe_call (ok__law_draw T) (hr.mono (by decide)) rfl T.g__law_draw T.k__law_draw T.n__law_draw .nil pass0 (pa_cons (pv 0) (pa_cons pe_int pa_nil)))) (pa_cons (pe_op op_add pe_int (pe_call (ok__law_draw T) (hr.mono (by decide)) rfl T.g__law_draw T.k__law_draw T.n__law_draw .nil pass0 (pa_cons (pv 0) (pa_cons pe_int pa_nil)))) (pa_cons (pv 2) pa_nil))))))
      (pss_one (ps_asg (pe_tup (pa_cons (pe_callB (call_min2 rfl) (by rfl) T.b_min (by decide +kernel) (pa_cons (pv 2) (pa_cons (pe_ix (kix_list (K := K)) (pv 6) (pe_call (ok__law_draw T) (hr.mono (by decide)) rfl T.g__law_draw T.k__law_draw T.n__law_draw .nil pass0 (pa_cons (pv 0) (pa_cons pe_int pa_nil))) (fun _ _ => rfl)) pa_nil))) (pa_cons (pe_ix (kix_list (K := K)) (pe_lst (pa_cons pe_int (pa_cons pe_int (pa_cons pe_int (pa_cons pe_int pa_nil))))) (pe_call (ok__law_draw T) (hr.mono (by decide)) rfl T.g__law_draw T.k__law_draw T.n__law_draw .nil pass0 (pa_cons (pv 0) (pa_cons pe_int pa_nil))) (fun _ _ => rfl)) pa_nil))) (kpg_tup (K := K) rfl (pgs_cons (pg_name (i := 4) nd rfl (Or.inl rfl)) (pgs_cons (pg_name (i := 5) nd rfl (Or.inr rfl)) pgs_nil)))))) pss_nil)
      (pss_cons (ps_set (i := 7) nd rfl (Or.inr rfl) (pe_call (ok__law_draw T) (hr.mono (by decide)) rfl T.g__law_draw T.k__law_draw T.n__law_draw .nil pass0 (pa_cons (pv 0) (pa_cons (pe_op op_sub pe_int (pv 5)) pa_nil))))
      (pss_cons (ps_set (i := 8) nd rfl (Or.inr rfl) (pe_listRg rfl rfl T.b_list (prg_1 rfl T.b_range (pv 4))))
      (pss_one (ps_ret (pe_lc (own := [("k", 9)]) (g := gName 9) (tt := tYes) rfl nd (pi_range1 rfl T.b_range (pa_cons (pv 4) pa_nil)) (blkOk_by (own := [("k", 9)]) (N := ["source", "script", "limit", "letters", "size", "width", "sizes", "start", "left", "k"]) (sc := defScope s__law_row) (by decide +kernel)) (fun _ _ _ _ _ => (pg_name (i := 9) nd rfl (Or.inl rfl))) (fun _ _ _ _ _ => pts_nil) (fun _ _ _ _ _ => (pe_tup (pa_cons (kbm (K := K) PySem.F.plainAttrs_list PySem.F.slot_list_pop PySem.F.type_list_pop mt_popAt (pv 8) (pa_cons (pe_call (ok__law_draw T) (hr.mono (by decide)) rfl T.g__law_draw T.k__law_draw T.n__law_draw .nil pass0 (pa_cons (pv 0) (pa_cons (pe_callB (klen (K := K)) (by rfl) T.b_len (by decide +kernel) (pa_cons (pv 8) pa_nil)) pa_nil))) pa_nil)) (pa_cons (pe_ix ix_str (pv 3) (pe_op op_add (pv 7) (pe_call (ok__law_draw T) (hr.mono (by decide)) rfl T.g__law_draw T.k__law_draw T.n__law_draw .nil pass0 (pa_cons (pv 0) (pa_cons (pv 5) pa_nil)))) (fun _ _ => rfl)) pa_nil)))))))))))), ?_⟩
    walk_at "rd"
    refine ⟨p, 2, rfl, S, by decide, by decide, fun r1 H1 r10 r11 S1 f1 => ?_⟩
    walk_at "rd"
    refine ⟨p, 2, rfl, S1, by decide, by decide, fun r2 H2 r20 r21 S2 f2 => ?_⟩
    walk_at "rd"
    refine ⟨by show 2 ≤ sizeLine; decide, fun t ht => ?_⟩
    have s2 : Same' p H H2 := (Same'.of f1).trans (Same'.of f2)
    have s3 : Same' p H (upd H2 t (.tup [.int (2 + r1), .int (2 + r2)])) := s2.trans (sTo p (sNew ht))
    have S3 : Src (upd H2 t (.tup [.int (2 + r1), .int (2 + r2)])) p := S2.same (sNew ht)
    refine rd_gtup upd_same rfl ?_
    walk_at "rd"
    refine rd_cut (fun σ' H' => ∃ (sz wd : Int) (x6 : Option V), σ' = [some (.ref p), some (.ref l), some (.int 60), some (.str (Str.ofString "abcdefghijklmnopqrstuvwxyz")), some (.int sz), some (.int wd), x6, none, none, none] ∧ 1 ≤ sz ∧ sz ≤ 60 ∧ 1 ≤ wd ∧ wd ≤ 26 ∧ Same' p H H' ∧ Src H' p) ?_ ?_
    · walk_at "rd"
      refine ⟨Nat.zero_le _, fun q hq => ?_⟩
      have s4 := s3.trans (sTo p (sNew (o := .lst []) hq))
      have S4 := S3.same (sNew (o := .lst []) hq)
      refine rd_neD2 (d := dI ns) (e := dI []) (.lst (hS.same' s4 S.lst).seq (dp_ints ns)) (.lst (SqL.of upd_same) .nil) (shp_ints _) (shp_ints _) (eqv_nil ns) ?_
      walk_at "rd"
      refine rd_ndec (fun _ => ?_) fun _ => ?_
      · walk_at "rd"
        refine ⟨p, 5, rfl, S4, by decide, by decide, fun a1 H3 a10 a11 S5 f5 => ?_⟩
        walk_at "rd"
        refine ⟨p, 20, rfl, S5, by decide, by decide, fun a2 H4 a20 a21 S6 f6 => ?_⟩
        walk_at "rd"
        refine ⟨by show 4 ≤ sizeLine; decide, fun b hb => ?_⟩
        have s6 := s4.trans ((Same'.of f5).trans (Same'.of f6))
        have s7 := s6.trans (sTo p (sNew (o := .lst [.int 1, .int (1 + a1), .int (1 + a2), .int 60]) hb))
        have S7 := S6.same (sNew (o := .lst [.int 1, .int (1 + a1), .int (1 + a2), .int 60]) hb)
        have hbp : b ≠ p := S6.not_none hb
        walk_at "rd"
        refine ⟨p, 4, rfl, S7, by decide, by decide, fun a3 H5 a30 a31 S8 f8 => ?_⟩
        have s8 := s7.trans (Same'.of f8)
        obtain ⟨x, hx, hx2⟩ := pick4 1 (1 + a1) (1 + a2) 60 a30 a31
        refine rd_ixL (by rw [f8 b hbp]; exact upd_same) hx ?_
        walk_at "rd"
        refine ⟨by show 4 ≤ sizeLine; decide, fun b2 hb2 => ?_⟩
        have s9 := s8.trans (sTo p (sNew (o := .lst [.int 1, .int 2, .int 3, .int 26]) hb2))
        have S9 := S8.same (sNew (o := .lst [.int 1, .int 2, .int 3, .int 26]) hb2)
        have hbp2 : b2 ≠ p := S8.not_none hb2
        walk_at "rd"
        refine ⟨p, 4, rfl, S9, by decide, by decide, fun a4 H6 a40 a41 S10 f10 => ?_⟩
        have s10 := s9.trans (Same'.of f10)
        obtain ⟨y, hy, hy2⟩ := pick4 1 2 3 26 a40 a41
        refine rd_ixL (by rw [f10 b2 hbp2]; exact upd_same) hy ?_
        walk_at "rd"
        refine ⟨by show 2 ≤ sizeLine; decide, fun t2 ht2 => ?_⟩
        refine rd_gtup upd_same rfl ?_
        walk_at "rd"
        refine ⟨_, y, _, rfl, ?_, ?_, by omega, by omega, s10.trans (sTo p (sNew ht2)), S10.same (sNew ht2)⟩
        · split <;> omega
        · split <;> omega
      · walk_at "rd"
        exact ⟨2 + r1, 2 + r2, none, rfl, by omega, by omega, by omega, by omega, s4, S4⟩
    · rintro σ' H' ⟨sz, wd, x6, rfl, z1, z2, w1, w2, s5, S5⟩
      walk_at "rd"
      refine ⟨p, 27 - wd, rfl, S5, by omega, by omega, fun st H6 st0 st1 S6 f6 => ?_⟩
      walk_at "rd"
      refine ⟨RgOk.of_le (by omega) (by omega) (by omega) (by omega), fun q hq => ?_⟩
      have s6 := s5.trans (Same'.of f6)
      have hqp : q ≠ p := S6.not_none hq
      have s7 := s6.trans (sTo p (sNew (o := .lst (rgV 0 sz)) hq))
      have S7 := S6.same (sNew (o := .lst (rgV 0 sz)) hq)
      walk_at "rd"
      refine ⟨_, rfl, sz, rfl, by omega, by omega, fun D hD => lc_range (lo := 0) (n := sz.toNat) (fun i H8 => Drw H8 D q p sz.toNat i H) ?_ ?_ ?_⟩
      · have hDq : D ≠ q := (ne_of_none (o := .lst (rgV 0 sz)) upd_same hD).symm
        refine ⟨⟨[], [], List.range sz.toNat, upd_same, ?_, True.intro, rfl, List.Perm.refl _, fun e he => by cases he⟩, S7.same (sNew hD), s7.trans (sTo p (sNew hD))⟩
        rw [upd_ne hDq.symm, upd_same, rgV_nat (by omega)]
      · rintro i H8 hi ⟨⟨us, rr, ls, hD8, hq8, ht8, hl8, hp8, hc8⟩, S8, s8⟩
        have hlen := hp8.length_eq
        rw [List.length_append, List.length_map, List.length_range] at hlen
        have hls : 0 < ls.length := by omega
        have hlm : ((ls.map vN).length : Int) = (ls.length : Int) := by rw [List.length_map]
        walk_at "rd"
        refine ⟨rfl, ?_⟩
        walk_at "rd"
        refine ⟨Or.inl ⟨rfl, _, SqL.of hq8⟩, ?_⟩
        walk_at "rd"
        refine ⟨p, _, rfl, S8, by omega, by omega, fun j H9 j0 j1 S9 f9 => ?_⟩
        obtain ⟨j, rfl⟩ : ∃ j' : Nat, j = (j' : Int) := ⟨j.toNat, by omega⟩
        have hj : j < ls.length := by omega
        have hDp : D ≠ p := S7.not_none hD
        have hDq : D ≠ q := (ne_of_none (o := .lst (rgV 0 sz)) upd_same hD).symm
        obtain ⟨per, hper⟩ : ∃ x, ls[j]? = some x := ⟨ls[j], List.getElem?_eq_getElem hj⟩
        have hq9 : H9 q = some (.lst (ls.map vN)) := by rw [f9 q hqp]; exact hq8
        have hD9 : H9 D = some (.lst (us.map V.ref)) := by rw [f9 D hDp]; exact hD8
        refine ⟨q, _, _, j, vN per, rfl, rfl, hq9, by omega, by omega, seqIx (by rw [List.length_map]; exact hj), by rw [List.getElem?_map, hper]; rfl, ?_⟩
        rw [erase_map]
        walk_at "rd"
        have S10 : Src (upd H9 q (.lst ((ls.eraseIdx j).map vN))) p := by
          obtain ⟨s0, s1, s2, e1, e2⟩ := S9.ex
          exact ⟨s0, s1, s2, by rw [upd_ne hqp.symm]; exact e1, e2⟩
        refine ⟨p, wd, rfl, S10, by omega, by omega, fun m H11 m0 m1 S11 f11 => ?_⟩
        walk_at "rd"
        obtain ⟨m', em⟩ : ∃ m' : Nat, st + m = (m' : Int) := ⟨(st + m).toNat, by omega⟩
        have hm' : m' < 26 := by omega
        rw [em]
        refine ⟨_, _, 97 + m', rfl, rfl, abc_len, abc_at m' hm', ?_⟩
        walk_at "rd"
        refine ⟨by show 2 ≤ sizeLine; decide, fun tt htt => ?_⟩
        have hq11 : H11 q = some (.lst ((ls.eraseIdx j).map vN)) := by rw [f11 q hqp]; exact upd_same
        have hD11 : H11 D = some (.lst (us.map V.ref)) := by rw [f11 D hDp, upd_ne hDq]; exact hD9
        have ht11 : TupsAt H11 us rr := ht8.mono fun b xs e => by
          have hbp : b ≠ p := fun z => by
            obtain ⟨ys, hy⟩ := S8.lst
            rw [z, hy] at e
            cases e
          have hbq : b ≠ q := fun z => by
            rw [z, hq8] at e
            cases e
          rw [f11 b hbp, upd_ne hbq, f9 b hbp]
          exact e
        have new := sNew (o := .tup [vN per, sg (97 + m')]) htt
        refine ⟨_, new _ _ hD11, lt60 (by rw [List.length_map, ht8.len]; omega), ⟨us ++ [tt], rr ++ [(per, 97 + m')], ls.eraseIdx j, ?_, ?_, ?_, ?_, ?_, ?_⟩, ?_, ?_⟩
        · rw [upd_same, List.map_append]
          rfl
        · rw [upd_ne hDq.symm]
          exact new _ _ hq11
        · refine (TupsAt.app (ht11.mono (sTups new)) (TupsAt.one upd_same)).mono fun b xs e => ?_
          rw [upd_ne fun z => by rw [z, new _ _ hD11] at e; cases e]
          exact e
        · rw [List.length_append, hl8]
          rfl
        · rw [List.map_append, List.append_assoc]
          exact ((List.Perm.refl _).append (erase_perm hper)).trans hp8
        · intro e he
          rcases List.mem_append.mp he with z | z
          · exact hc8 e z
          · have : e = (per, 97 + m') := by simpa using z
            rw [this]
            show 97 ≤ 97 + m' ∧ 97 + m' ≤ 122
            omega
        · obtain ⟨s0, s1, s2, e1, e2⟩ := S11.ex
          exact ⟨s0, s1, s2, by rw [upd_ne hDp.symm]; exact new _ _ e1, e2⟩
        · intro b o e n
          have hbD : b ≠ D := ne_of_none e (s7.free hD hDp)
          have hbq : b ≠ q := ne_of_none e (s6.free hq hqp)
          rw [upd_ne hbD]
          refine new _ _ ?_
          rw [f11 b n, upd_ne hbq, f9 b n]
          exact s8 _ _ e n
      · intro H8 hd
        obtain ⟨r, hR, hV⟩ := drw_end hd (by omega) (by omega)
        refine kq D H8 r ?_ hd.same hd.src hR hV
        exact s7.free hD (S7.not_none hD)
end K14

namespace K14
open PySem L2 LX
local macro_rules | `(tactic| walk_at "rd") => `(tactic| repeat (first
  | with_reducible refine rd_var rfl ?_ | with_reducible refine rd_c ?_ | with_reducible refine rd_op ?_ | with_reducible refine rd_un ?_ | with_reducible refine rd_I0 ?_ | with_reducible refine rd_U ?_
  | with_reducible refine rd_test ?_ | with_reducible refine rd_tB ?_ | with_reducible refine rd_bl ?_ | with_reducible refine rd_chain ?_
  | with_reducible refine rd_and ?_ | with_reducible refine rd_or ?_ | with_reducible refine rd_not ?_ | with_reducible refine rd_andV ?_ | with_reducible refine rd_orV ?_ | with_reducible refine rd_notV ?_
  | with_reducible refine rd_next ?_ | with_reducible refine rd_seq ?_ | with_reducible refine rd_drop ?_ | with_reducible refine rd_ret ?_ | with_reducible refine rd_ifS ?_ | with_reducible refine rd_asg ?_ | with_reducible refine rd_name ?_
  | with_reducible refine rd_par ?_ | with_reducible refine rd_two ?_ | with_reducible refine rd_2i ?_ | with_reducible refine rd_nil ?_ | with_reducible refine rd_cons ?_ | with_reducible refine rd_tup ?_ | with_reducible refine rd_lst ?_ | with_reducible refine rd_cb ?_ | with_reducible refine rd_call ?_
  | with_reducible refine rd_ixL (by assumption) rfl ?_ | with_reducible refine rd_ixT (by assumption) rfl ?_ | with_reducible refine rd_ixL upd_same rfl ?_ | with_reducible refine rd_sub ?_ | with_reducible refine rd_sl ?_ | with_reducible refine rd_nopart ?_ | with_reducible refine rd_part ?_ | with_reducible refine rd_int ?_
  | with_reducible refine rd_len (by assumption) ?_ | with_reducible refine rd_bm ?_ | with_reducible refine rd_bm0 ?_ | with_reducible refine rd_gcons ?_ | with_reducible refine rd_gnil ?_
  | ((with_reducible refine rd_I ?ci ?_); (case ci => first | assumption | (show (0 : Int) < _; decide) | exact Or.inl ⟨by decide, by decide⟩ | exact Or.inr ⟨by decide, by decide⟩ | exact ⟨by decide, by decide, (by decide : Int.natAbs 10 < 2 ^ 1000)⟩))
  | with_reducible refine rd_setL (by assumption) rfl ?_ | with_reducible refine rd_setL upd_same rfl ?_ | with_reducible refine rd_len upd_same ?_
  | with_reducible refine rd_2ty ?_ | with_reducible refine rd_NT ?_ | with_reducible refine rd_2s ?_ | with_reducible refine rd_lenS ?_ | with_reducible refine rd_lenT (by assumption) ?_ | ((with_reducible refine rd_typ ?ct ?_); (case ct => rfl))
  | ((with_reducible refine rd_eq ?cs ?_); (case cs => rfl)) | ((with_reducible refine rd_ne ?cs ?_); (case cs => rfl))
  | with_reducible refine rd_qtru ?_ | with_reducible refine rd_lstRg ?_ | with_reducible refine rd_rg1 ?_ | with_reducible refine rd_tyes ?_ | with_reducible refine rd_tyL (by assumption) ?_ | with_reducible refine rd_tyT (by assumption) ?_
  | with_reducible refine iteT ?_ | with_reducible refine iteF ?_ | with_reducible refine rd_nt ?_ | with_reducible refine rd_nf ?_
  | (dsimp only)))

variable {P : Program} {w : World} {K : PySem.W.Frag} {mg : Str → Option Value} {base : Heap} {a : Ad}
def sp__law_sequence (K : PySem.W.Frag) : Sp := fun vs H Q _ => ∃ (p : Addr) (n m : Nat), vs = [.ref p, vN n, vN m] ∧ Src H p ∧ 1 ≤ n ∧ n ≤ 60 ∧ m ≤ 1000 ∧
  ∀ L H' (cs : List Nat), H L = none → Same' p H H' → Src H' p → H' L = some (.lst (cs.map vN)) → (∀ c ∈ cs, c < n) → cs.length ≤ m → Q (.ref L) H'
theorem ok__law_sequence (T : Txt K mg a) : FnOk P w K mg base CX0 2 a.f__law_sequence a.d__law_sequence ["source", "size", "limit"] (sp__law_sequence K) := by
  refine T.F__law_sequence.ok sc__law_sequence (fun vs H Q E h => ?_) (fun cdv A outer s H vs Q E hr h => ?_)
  · obtain ⟨p, n, m, rfl, _⟩ := h
    rfl
  · obtain ⟨p, n, m, rfl, S, n1, n2, m1, kq⟩ := h
    have nd := sc__law_sequence.nd
    refine ⟨_, (pss_cons (ps_set (i := 3) nd rfl (Or.inl rfl) (pe_call (ok__law_draw T) (hr.mono (by decide)) rfl T.g__law_draw T.k__law_draw T.n__law_draw .nil pass0 (pa_cons (pv 0) (pa_cons pe_int pa_nil))))
      (pss_cons (ps_par (i := 4) (j := 5) (by rfl) nd rfl rfl (by decide) rfl rfl (pa_cons (pe_call (ok__law_draw T) (hr.mono (by decide)) rfl T.g__law_draw T.k__law_draw T.n__law_draw .nil pass0 (pa_cons (pv 0) (pa_cons (pv 1) pa_nil))) (pa_cons (pe_call (ok__law_draw T) (hr.mono (by decide)) rfl T.g__law_draw T.k__law_draw T.n__law_draw .nil pass0 (pa_cons (pv 0) (pa_cons (pv 1) pa_nil))) pa_nil)) (by rfl))
      (pss_cons (ps_set (i := 6) nd rfl (Or.inl rfl) (pe_lst pa_nil))
      (pss_cons (ps_for PassesOwn.never rfl (pi_range1 rfl T.b_range (pa_cons (pe_call (ok__law_draw T) (hr.mono (by decide)) rfl T.g__law_draw T.k__law_draw T.n__law_draw .nil pass0 (pa_cons (pv 0) (pa_cons (pe_op op_add (pv 2) pe_int) pa_nil))) pa_nil)) (pg_name (i := 7) nd rfl (Or.inl rfl)) (pss_cons (ps_set (i := 8) nd rfl (Or.inl rfl) (pe_call (ok__law_draw T) (hr.mono (by decide)) rfl T.g__law_draw T.k__law_draw T.n__law_draw .nil pass0 (pa_cons (pv 0) (pa_cons (pv 1) pa_nil))))
      (pss_cons (ps_set (i := 9) nd rfl (Or.inl rfl) (pe_ifExp (pt_cmpR op_gt (pe_call (ok__law_draw T) (hr.mono (by decide)) rfl T.g__law_draw T.k__law_draw T.n__law_draw .nil pass0 (pa_cons (pv 0) (pa_cons pe_int pa_nil))) pe_int (nomark _)) (pv 4) (pv 8)))
      (pss_one (ps_expr (kbm (K := K) PySem.F.plainAttrs_list PySem.F.slot_list_append PySem.F.type_list_append mt_append (pv 6) (pa_cons (pe_ix (kix_list (K := K)) (pe_lst (pa_cons (pv 8) (pa_cons (pv 9) (pa_cons (pe_ix (kix_list (K := K)) (pe_lst (pa_cons (pv 4) (pa_cons (pv 5) pa_nil))) (pe_op op_mod (pv 7) pe_int) (fun _ _ => rfl)) (pa_cons (pe_op op_mod (pe_op op_add (pv 4) (pv 7)) (pv 1)) pa_nil))))) (pv 3) (fun _ _ => rfl)) pa_nil)))))))
      (pss_one (ps_ret (pv 6))))))), ?_⟩
    walk_at "rd"
    refine ⟨p, 4, rfl, S, by decide, by decide, fun kd H1 k0 k1 S1 f1 => ?_⟩
    walk_at "rd"
    refine ⟨p, n, rfl, S1, by omega, by omega, fun o1 H2 o10 o11 S2 f2 => ?_⟩
    walk_at "rd"
    refine ⟨p, n, rfl, S2, by omega, by omega, fun o2 H3 o20 o21 S3 f3 => ?_⟩
    walk_at "rd"
    have s3 : Same' p H H3 := ((Same'.of f1).trans (Same'.of f2)).trans (Same'.of f3)
    refine ⟨Nat.zero_le _, fun O hO => ?_⟩
    have hOp : O ≠ p := S3.not_none hO
    have hOH : H O = none := s3.free hO hOp
    have s4 := s3.trans (sTo p (sNew (o := .lst []) hO))
    have S4 := S3.same (sNew (o := .lst []) hO)
    have gO := upd_same (H := H3) (a := O) (o := .lst [])
    walk_at "rd"
    generalize upd H3 O (.lst []) = H4 at s4 S4 gO
    refine rd_forRn (fun z H5 => 0 ≤ z ∧ z < m + 1 ∧ Same' p H H5 ∧ Src H5 p ∧ H5 O = some (.lst [])) (fun R q => ?_) ?_
    · walk_at "rd"
      refine ⟨p, _, rfl, S4, by omega, by omega, fun z H5 z0 z1 S5 f5 => ?_⟩
      exact q z H5 ⟨z0, z1, s4.trans (Same'.of f5), S5, by rw [f5 O hOp]; exact gO⟩
    rintro z H5 ⟨z0, z1, s5, S5, gO5⟩
    refine ⟨z0, by omega, for_range (lo := 0) (n := z.toNat) (fun i σ H' => ∃ x5 x6 x7, ∃ cs : List Nat, σ = [some (.ref p), some (vN n), some (vN m), some (.int kd), some (.int o1), some (.int o2), some (.ref O), x5, x6, x7] ∧ Same' p H H' ∧ Src H' p ∧ H' O = some (.lst (cs.map vN)) ∧ (∀ c ∈ cs, c < n) ∧ cs.length = i)
      ⟨none, none, none, [], rfl, s5, S5, gO5, fun c hc => (by cases hc), rfl⟩ ?_ ?_⟩
    · rintro i σ H' hi ⟨x5, x6, x7, cs, rfl, s6, S6, gO6, hcs, hlen⟩
      have e0 : (0 : Int) + (i : Int) = (i : Int) := Int.zero_add _
      rw [e0]
      walk_at "rd"
      refine ⟨p, n, rfl, S6, by omega, by omega, fun wh H7 w0 w1 S7 f7 => ?_⟩
      walk_at "rd"
      refine rd_ifE ?_
      walk_at "rd"
      refine ⟨p, 3, rfl, S7, by decide, by decide, fun t H8 t0 t1 S8 f8 => ?_⟩
      walk_at "rd"
      have s8 := s6.trans ((Same'.of f7).trans (Same'.of f8))
      have gO8 : H8 O = some (.lst (cs.map vN)) := by rw [f8 O hOp, f7 O hOp]; exact gO6
      have hof : 0 ≤ (if 0 < t then o1 else wh) ∧ (if 0 < t then o1 else wh) < n := by split <;> omega
      refine rd_iteJ (.int (if 0 < t then o1 else wh)) (fun z R q => ?_) (fun z R q => ?_) ?_
      · rw [if_pos (of_decide_eq_true z)] at q
        walk_at "rd"
        exact q
      · rw [if_neg (of_decide_eq_false z)] at q
        walk_at "rd"
        exact q
      generalize (if 0 < t then o1 else wh) = of at hof
      walk_at "rd"
      refine ⟨Or.inl ⟨rfl, _, SqL.of gO8⟩, ?_⟩
      walk_at "rd"
      refine ⟨by show 2 ≤ sizeLine; decide, fun b1 hb1 => ?_⟩
      have a1 := sNew (o := .lst [.int o1, .int o2]) hb1
      walk_at "rd"
      have hk2 : ∃ x : Int, atI [V.int o1, V.int o2] ((i : Int) % 2) = some (.int x) ∧ 0 ≤ x ∧ x < n := by
        have : (i : Int) % 2 = 0 ∨ (i : Int) % 2 = 1 := by omega
        rcases this with e | e
        · rw [e]
          exact ⟨o1, rfl, o10, o11⟩
        · rw [e]
          exact ⟨o2, rfl, o20, o21⟩
      obtain ⟨x, hx, x0, x1⟩ := hk2
      refine rd_ixL upd_same hx ?_
      walk_at "rd"
      refine rd_I (show (0 : Int) < n by omega) ?_
      walk_at "rd"
      refine ⟨by show 4 ≤ sizeLine; decide, fun b2 hb2 => ?_⟩
      have a2 := sNew (o := .lst [.int wh, .int of, .int x, .int ((o1 + i) % n)]) hb2
      have a12 := a1.trans a2
      have r0 := Int.emod_nonneg (o1 + i) (show (n : Int) ≠ 0 by omega)
      have r1 := Int.emod_lt_of_pos (o1 + i) (show (0 : Int) < n by omega)
      obtain ⟨y, hy, hy2⟩ := pick4 wh of x ((o1 + i) % n) k0 k1
      walk_at "rd"
      refine rd_ixL upd_same hy ?_
      walk_at "rd"
      have hy3 : 0 ≤ y ∧ y < n := by rcases hy2 with e | e | e | e <;> rw [e] <;> omega
      obtain ⟨y', rfl⟩ : ∃ y' : Nat, y = (y' : Int) := ⟨y.toNat, by omega⟩
      have gO9 := a12 _ _ gO8
      refine ⟨O, _, _, rfl, rfl, gO9, sz1000 (by rw [List.length_map]; omega), ?_⟩
      refine ⟨_, _, _, cs ++ [y'], rfl, ?_, ?_, ?_, ?_, ?_⟩
      · intro b o e nb
        rw [upd_ne (ne_of_none e hOH)]
        exact a12 _ _ (s8 _ _ e nb)
      · obtain ⟨q0, q1, q2, e1, e2⟩ := S8.ex
        exact ⟨q0, q1, q2, by rw [upd_ne hOp.symm]; exact a12 _ _ e1, e2⟩
      · rw [upd_same, List.map_append]
        rfl
      · intro c hc
        rcases List.mem_append.mp hc with q | q
        · exact hcs c q
        · rw [List.mem_singleton.mp q]
          omega
      · rw [List.length_append, hlen]
        rfl
    · rintro σ H' ⟨x5, x6, x7, cs, rfl, s6, S6, gO6, hcs, hlen⟩
      walk_at "rd"
      exact kq O H' cs hOH s6 S6 gO6 hcs (by omega)
end K14

namespace K14
open PySem L2 LX
local macro_rules | `(tactic| walk_at "rd") => `(tactic| repeat (first
  | with_reducible refine rd_var rfl ?_ | with_reducible refine rd_c ?_ | with_reducible refine rd_op ?_ | with_reducible refine rd_un ?_ | with_reducible refine rd_I0 ?_ | with_reducible refine rd_U ?_
  | with_reducible refine rd_test ?_ | with_reducible refine rd_tB ?_ | with_reducible refine rd_bl ?_ | with_reducible refine rd_chain ?_
  | with_reducible refine rd_and ?_ | with_reducible refine rd_or ?_ | with_reducible refine rd_not ?_ | with_reducible refine rd_andV ?_ | with_reducible refine rd_orV ?_ | with_reducible refine rd_notV ?_
  | with_reducible refine rd_next ?_ | with_reducible refine rd_seq ?_ | with_reducible refine rd_drop ?_ | with_reducible refine rd_ret ?_ | with_reducible refine rd_ifS ?_ | with_reducible refine rd_asg ?_ | with_reducible refine rd_name ?_
  | with_reducible refine rd_par ?_ | with_reducible refine rd_two ?_ | with_reducible refine rd_2i ?_ | with_reducible refine rd_nil ?_ | with_reducible refine rd_cons ?_ | with_reducible refine rd_tup ?_ | with_reducible refine rd_lst ?_ | with_reducible refine rd_cb ?_ | with_reducible refine rd_call ?_
  | with_reducible refine rd_ixL (by assumption) rfl ?_ | with_reducible refine rd_ixT (by assumption) rfl ?_ | with_reducible refine rd_ixL upd_same rfl ?_ | with_reducible refine rd_sub ?_ | with_reducible refine rd_sl ?_ | with_reducible refine rd_nopart ?_ | with_reducible refine rd_part ?_ | with_reducible refine rd_int ?_
  | with_reducible refine rd_len (by assumption) ?_ | with_reducible refine rd_bm ?_ | with_reducible refine rd_bm0 ?_ | with_reducible refine rd_gcons ?_ | with_reducible refine rd_gnil ?_
  | ((with_reducible refine rd_I ?ci ?_); (case ci => first | assumption | (show (0 : Int) < _; decide) | exact Or.inl ⟨by decide, by decide⟩ | exact Or.inr ⟨by decide, by decide⟩ | exact ⟨by decide, by decide, (by decide : Int.natAbs 10 < 2 ^ 1000)⟩))
  | with_reducible refine rd_setL (by assumption) rfl ?_ | with_reducible refine rd_setL upd_same rfl ?_ | with_reducible refine rd_len upd_same ?_
  | with_reducible refine rd_2ty ?_ | with_reducible refine rd_NT ?_ | with_reducible refine rd_2s ?_ | with_reducible refine rd_lenS ?_ | with_reducible refine rd_lenT (by assumption) ?_ | ((with_reducible refine rd_typ ?ct ?_); (case ct => rfl))
  | ((with_reducible refine rd_eq ?cs ?_); (case cs => rfl)) | ((with_reducible refine rd_ne ?cs ?_); (case cs => rfl))
  | with_reducible refine rd_qtru ?_ | with_reducible refine rd_lstRg ?_ | with_reducible refine rd_rg1 ?_ | with_reducible refine rd_tyes ?_ | with_reducible refine rd_tyL (by assumption) ?_ | with_reducible refine rd_tyT (by assumption) ?_
  | with_reducible refine iteT ?_ | with_reducible refine iteF ?_ | with_reducible refine rd_nt ?_ | with_reducible refine rd_nf ?_
  | (dsimp only)))

variable {P : Program} {w : World} {K : PySem.W.Frag} {mg : Str → Option Value} {base : Heap} {a : Ad}
theorem own_at {r : Row} {p : Nat} (h : ∃ e ∈ r, e.1 = p) : ((r.filter fun e => e.1 == p).map fun e => sg e.2)[0]? = some (sg (colOf r p)) := by
  unfold colOf
  rw [List.getElem?_map, ← List.head?_eq_getElem?, List.head?_filter]
  cases q : r.find? fun e => e.1 == p with
  | none =>
    obtain ⟨e, h1, h2⟩ := h
    exact absurd (by simpa using h2) (List.find?_eq_none.mp q e h1)
  | some e => rfl
def sp__law_new_color (K : PySem.W.Frag) : Sp := fun vs H Q _ => ∃ (l : Addr) (r : Row) (p : Nat), vs = [.ref l, vN p] ∧ RowAt H l r ∧ Vr r ∧ p < r.length ∧ ∀ H', Same H H' → Q (oV (fo r (colOf r p))) H'
theorem ok__law_new_color (T : Txt K mg a) : FnOk P w K mg base CX0 1 a.f__law_new_color a.d__law_new_color ["row", "who"] (sp__law_new_color K) := by
  refine T.F__law_new_color.ok sc__law_new_color (fun vs H Q E h => ?_) (fun cdv A outer s H vs Q E hr h => ?_)
  · obtain ⟨l, r, p, rfl, _⟩ := h
    rfl
  · obtain ⟨l, r, p, rfl, hR, V0, hp, kq⟩ := h
    have nd := sc__law_new_color.nd
    have hu64 := hr.units
    obtain ⟨ts, hl, ht⟩ := hR
    have n60 := V0.n2
    refine ⟨_, (pss_cons (ps_set (i := 2) nd rfl (Or.inr rfl) (pe_lc (own := [("one", 5), ("color", 6)]) (g := gTup K 2 (gCons (gName 5) (gCons (gName 6) gNil))) rfl nd (kpi_list (K := K) (pv 0)) (blkOk_by (own := [("one", 5), ("color", 6)]) (N := ["row", "who", "others", "own", "candidates", "one", "color"]) (sc := defScope s__law_new_color) (by decide +kernel)) (fun _ _ _ _ _ => (kpg_tup (K := K) rfl (pgs_cons (pg_name (i := 5) nd rfl (Or.inl rfl)) (pgs_cons (pg_name (i := 6) nd rfl (Or.inl rfl)) pgs_nil)))) (fun _ _ _ _ _ => pts_one (pt_cmpR op_ne (pv 5) (pv 1) (nomark _))) (fun _ _ _ _ _ => (pv 6))))
      (pss_cons (ps_set (i := 3) nd rfl (Or.inr rfl) (pe_ix (kix_list (K := K)) (pe_lc (own := [("one", 5), ("color", 6)]) (g := gTup K 2 (gCons (gName 5) (gCons (gName 6) gNil))) rfl nd (kpi_list (K := K) (pv 0)) (blkOk_by (own := [("one", 5), ("color", 6)]) (N := ["row", "who", "others", "own", "candidates", "one", "color"]) (sc := defScope s__law_new_color) (by decide +kernel)) (fun _ _ _ _ _ => (kpg_tup (K := K) rfl (pgs_cons (pg_name (i := 5) nd rfl (Or.inl rfl)) (pgs_cons (pg_name (i := 6) nd rfl (Or.inl rfl)) pgs_nil)))) (fun _ _ _ _ _ => pts_one (pt_cmpR op_eq (pv 5) (pv 1) (nomark _))) (fun _ _ _ _ _ => (pv 6))) pe_int (fun _ _ => rfl)))
      (pss_cons (ps_setLc (i := 4) (own := [("color", 6)]) (g := gName 6) rfl nd rfl rfl (sw_true rfl rfl rfl (by decide +kernel)) (kpi_list (K := K) (pe_slice (ksl_list (K := K)) (pv 2) po_none (po_some pe_int))) (blkOk_by (own := [("color", 6)]) (N := ["row", "who", "others", "own", "candidates", "one", "color"]) (sc := defScope s__law_new_color) (by decide +kernel)) (fun _ _ _ _ _ => (pg_name (i := 6) nd rfl (Or.inl rfl))) (fun _ _ _ _ _ => pts_one (pt_cmpR op_ne (pv 6) (pv 3) (nomark _))) (fun _ _ _ _ _ => (pv 6)))
      (pss_cons (ps_set (i := 4) nd rfl (Or.inl rfl) (pe_op op_cat (pv 4) (pe_lc (own := [("color", 6)]) (g := gName 6) rfl nd (kpi_list (K := K) (pv 2)) (blkOk_by (own := [("color", 6)]) (N := ["row", "who", "others", "own", "candidates", "one", "color"]) (sc := defScope s__law_new_color) (by decide +kernel)) (fun _ _ _ _ _ => (pg_name (i := 6) nd rfl (Or.inl rfl))) (fun _ _ _ _ _ => pts_one (pt_cmpR op_ne (pv 6) (pe_ix (kix_list (K := K)) (pv 2) pe_int (fun _ _ => rfl)) (nomark _))) (fun _ _ _ _ _ => (pv 6)))))
      (pss_one (ps_ret (pe_ifExp (pt_cmpR (kneD (K := K) hu64) (pv 4) (pe_lst pa_nil) (nomark _)) (pe_ix (kix_list (K := K)) (pv 4) pe_int (fun _ _ => rfl)) pe_non))))))), ?_⟩
    walk_at "rd"
    refine ⟨_, rfl, l, rfl, ⟨_, SqL.of hl⟩, fun D hD => lc_row (K := K) (fun e => if (e.1 != p) = true then some (sg e.2) else none) hD hl ht (by omega) (fun t e he _ H1 s ht1 T F hT hF => ?_) fun H1 s1 g1 => ?_⟩
    · refine rd_gtup ht1 rfl ?_
      walk_at "rd"
      refine ⟨rfl, ?_⟩
      walk_at "rd"
      refine rd_ndec (fun k => ?_) fun k => ?_
      · walk_at "rd"
        refine hT _ _ (if_pos ?_) (Same.refl _)
        rw [bne_iff_ne]
        intro z
        exact k (by rw [z])
      · refine hF _ (if_neg ?_) (Same.refl _)
        rw [bne_iff_ne]
        intro z
        injection k with k
        exact z (by omega)
    rw [fm_if (v := fun e : Nat × Nat => sg e.2)] at g1
    have eo : ((r.filter fun e => e.1 != p).map fun e => sg e.2) = (ot r p).map sg := by
      unfold ot
      rw [List.map_map]
      rfl
    rw [eo] at g1
    have oc : ∀ c ∈ ot r p, c ≤ 122 := fun c hc => by
      obtain ⟨e, he, rfl⟩ := List.mem_map.mp hc
      exact (V0.col e (List.mem_filter.mp he).1).2
    have olen : (ot r p).length ≤ 60 := by
      unfold ot
      rw [List.length_map]
      exact Nat.le_trans (List.length_filter_le _ _) n60
    walk_at "rd"
    refine ⟨_, rfl, l, rfl, ⟨_, SqL.of (s1 _ _ hl)⟩, fun E' hE => lc_row (K := K) (fun e => if (e.1 == p) = true then some (sg e.2) else none) hE (s1 _ _ hl) (ht.mono (sTups s1)) (by omega) (fun t e he _ H2 s ht1 T F hT hF => ?_) fun H2 s2 g2 => ?_⟩
    · refine rd_gtup ht1 rfl ?_
      walk_at "rd"
      refine ⟨rfl, ?_⟩
      walk_at "rd"
      refine rd_dec (fun k => ?_) fun k => ?_
      · walk_at "rd"
        refine hT _ _ (if_pos ?_) (Same.refl _)
        injection k with k
        rw [beq_iff_eq]
        omega
      · refine hF _ (if_neg ?_) (Same.refl _)
        rw [beq_iff_eq]
        intro z
        exact k (by rw [z])
    rw [fm_if (v := fun e : Nat × Nat => sg e.2)] at g2
    walk_at "rd"
    refine rd_ixL g2 (atI_nat (j := 0) (own_at (V0.has hp))) ?_
    walk_at "rd"
    have g1b := s2 _ _ g1
    refine rd_lc (rd_iList ?_)
    walk_at "rd"
    refine rd_slL g1b fun b hb => ?_
    rw [cut1, ← List.map_take]
    have s3 : Same H2 (upd H2 b (.lst (((ot r p).take 1).map sg))) := sNew hb
    walk_at "rd"
    refine ⟨b, rfl, ⟨_, SqL.of upd_same⟩, fun C hC => lc_vals (K := K) (zs := (ot r p).take 1) (v := sg) (fun c => if (c != colOf r p) = true then some (sg c) else none) hC upd_same (by rw [List.length_take]; omega) (fun c hc H3 s T F hT hF => ?_) fun H3 s4 g3 => ?_⟩
    · walk_at "rd"
      refine ⟨rfl, ?_⟩
      walk_at "rd"
      refine rd_ndec (fun k => ?_) fun k => ?_
      · walk_at "rd"
        refine hT _ _ (if_pos ?_) (Same.refl _)
        rw [bne_iff_ne]
        intro z
        exact k (by rw [z])
      · refine hF _ (if_neg ?_) (Same.refl _)
        rw [bne_iff_ne]
        intro z
        exact z (sg_inj k)
    rw [fm_if (v := sg)] at g3
    have s5 := (s2.trans s3).trans s4
    have g1c := s4 _ _ (s3 _ _ g1b)
    walk_at "rd"
    refine ⟨_, rfl, D, rfl, ⟨_, SqL.of g1c⟩, fun C2 hC2 => lc_vals (K := K) (zs := ot r p) (v := sg) (fun c => if (c != (ot r p).headD 0) = true then some (sg c) else none) hC2 g1c (by omega) (fun c hc H4 s T F hT hF => ?_) fun H4 s6 g4 => ?_⟩
    · obtain ⟨o0, o1, eo2⟩ : ∃ o0 o1, ot r p = o0 :: o1 := by
        cases q : ot r p with
        | nil => rw [q] at hc; cases hc
        | cons x y => exact ⟨x, y, rfl⟩
      have g5 := s _ _ g1c
      rw [eo2] at g5 hT hF
      walk_at "rd"
      refine ⟨rfl, ?_⟩
      walk_at "rd"
      refine rd_ixL g5 (atI_nat (j := 0) rfl) ?_
      walk_at "rd"
      refine rd_ndec (fun k => ?_) fun k => ?_
      · walk_at "rd"
        refine hT _ _ (if_pos ?_) (Same.refl _)
        rw [bne_iff_ne]
        intro z
        exact k (congrArg sg z)
      · refine hF _ (if_neg ?_) (Same.refl _)
        rw [bne_iff_ne]
        intro z
        exact z (sg_inj k)
    rw [fm_if (v := sg)] at g4
    refine rd_cat (s6 _ _ g3) g4 ?_ fun C3 hC3 => ?_
    · rw [List.length_map, List.length_map]
      have z1 := List.length_filter_le (fun x => x != colOf r p) ((ot r p).take 1)
      have z2 := List.length_filter_le (fun x => x != (ot r p).headD 0) (ot r p)
      rw [List.length_take] at z1
      exact sz60' (by omega)
    rw [← List.map_append]
    walk_at "rd"
    have s7 : Same H4 (upd H4 C3 (.lst ((cand (ot r p) (colOf r p)).map sg))) := sNew hC3
    have sA : Same H (upd H4 C3 (.lst ((cand (ot r p) (colOf r p)).map sg))) := ((s1.trans s5).trans s6).trans s7
    have gC : (upd H4 C3 (.lst ((cand (ot r p) (colOf r p)).map sg))) C3 = some (.lst ((cand (ot r p) (colOf r p)).map sg)) := upd_same
    have hcand := cand_is V0 (w := p)
    have cc : ∀ c ∈ cand (ot r p) (colOf r p), c ≤ 122 := fun c hc => by
      rcases List.mem_append.mp hc with z | z
      · exact oc c (List.mem_of_mem_take (List.mem_filter.mp z).1)
      · exact oc c (List.mem_filter.mp z).1
    refine rd_ifE ?_
    walk_at "rd"
    refine ⟨Nat.zero_le _, fun q hq => ?_⟩
    have s8 := sNew (o := .lst []) hq
    refine rd_neD2 (d := dS (cand (ot r p) (colOf r p))) (e := .list []) (.lst (SqL.of (s8 _ _ gC)) (dp_strs _)) (.lst (SqL.of upd_same) .nil) (shp_strs _ cc) (by decide) (eqv_nilS _) ?_
    have sQ := s8 _ _ gC
    cases q2 : cand (ot r p) (colOf r p) with
    | nil =>
      rw [q2] at hcand
      walk_at "rd"
      have z := kq _ (sA.trans s8)
      rw [← hcand] at z
      exact z
    | cons x y =>
      rw [q2] at hcand sQ
      rw [show (!(x :: y).isEmpty) = true from rfl]
      walk_at "rd"
      refine rd_ixL sQ (atI_nat (j := 0) rfl) ?_
      have z := kq _ (sA.trans s8)
      rw [← hcand] at z
      exact z
end K14

namespace K14
open PySem L2 LX
local macro_rules | `(tactic| walk_at "rd") => `(tactic| repeat (first
  | with_reducible refine rd_var rfl ?_ | with_reducible refine rd_c ?_ | with_reducible refine rd_op ?_ | with_reducible refine rd_un ?_ | with_reducible refine rd_I0 ?_ | with_reducible refine rd_U ?_
  | with_reducible refine rd_test ?_ | with_reducible refine rd_tB ?_ | with_reducible refine rd_bl ?_ | with_reducible refine rd_chain ?_
  | with_reducible refine rd_and ?_ | with_reducible refine rd_or ?_ | with_reducible refine rd_not ?_ | with_reducible refine rd_andV ?_ | with_reducible refine rd_orV ?_ | with_reducible refine rd_notV ?_
  | with_reducible refine rd_next ?_ | with_reducible refine rd_seq ?_ | with_reducible refine rd_drop ?_ | with_reducible refine rd_ret ?_ | with_reducible refine rd_ifS ?_ | with_reducible refine rd_asg ?_ | with_reducible refine rd_name ?_
  | with_reducible refine rd_par ?_ | with_reducible refine rd_two ?_ | with_reducible refine rd_2i ?_ | with_reducible refine rd_nil ?_ | with_reducible refine rd_cons ?_ | with_reducible refine rd_tup ?_ | with_reducible refine rd_lst ?_ | with_reducible refine rd_cb ?_ | with_reducible refine rd_call ?_
  | with_reducible refine rd_ixL (by assumption) rfl ?_ | with_reducible refine rd_ixT (by assumption) rfl ?_ | with_reducible refine rd_ixL upd_same rfl ?_ | with_reducible refine rd_sub ?_ | with_reducible refine rd_sl ?_ | with_reducible refine rd_nopart ?_ | with_reducible refine rd_part ?_ | with_reducible refine rd_int ?_
  | with_reducible refine rd_len (by assumption) ?_ | with_reducible refine rd_bm ?_ | with_reducible refine rd_bm0 ?_ | with_reducible refine rd_gcons ?_ | with_reducible refine rd_gnil ?_
  | ((with_reducible refine rd_I ?ci ?_); (case ci => first | assumption | (show (0 : Int) < _; decide) | exact Or.inl ⟨by decide, by decide⟩ | exact Or.inr ⟨by decide, by decide⟩ | exact ⟨by decide, by decide, (by decide : Int.natAbs 10 < 2 ^ 1000)⟩))
  | with_reducible refine rd_setL (by assumption) rfl ?_ | with_reducible refine rd_setL upd_same rfl ?_ | with_reducible refine rd_len upd_same ?_
  | with_reducible refine rd_2ty ?_ | with_reducible refine rd_NT ?_ | with_reducible refine rd_2s ?_ | with_reducible refine rd_lenS ?_ | with_reducible refine rd_lenT (by assumption) ?_ | ((with_reducible refine rd_typ ?ct ?_); (case ct => rfl))
  | ((with_reducible refine rd_eq ?cs ?_); (case cs => rfl)) | ((with_reducible refine rd_ne ?cs ?_); (case cs => rfl))
  | with_reducible refine rd_qtru ?_ | with_reducible refine rd_lstRg ?_ | with_reducible refine rd_rg1 ?_ | with_reducible refine rd_tyes ?_ | with_reducible refine rd_tyL (by assumption) ?_ | with_reducible refine rd_tyT (by assumption) ?_
  | with_reducible refine iteT ?_ | with_reducible refine iteF ?_ | with_reducible refine rd_nt ?_ | with_reducible refine rd_nf ?_
  | (dsimp only)))

variable {P : Program} {w : World} {K : PySem.W.Frag} {mg : Str → Option Value} {base : Heap} {a : Ad}
/-- two values that show the same data, less deep than n -/
def SD : Nat → Hp → V → V → Prop
  | 0, _, _, _ => False
  | n + 1, H, v, e => (v = .non ∧ e = .non) ∨ (∃ i : Int, v = .int i ∧ e = .int i) ∨ (∃ x : Str, v = .str x ∧ e = .str x) ∨
    (∃ (c d : Addr) (xs ys : List V), v = .ref c ∧ e = .ref d ∧ H c = some (.lst xs) ∧ H d = some (.lst ys) ∧ xs.length = ys.length ∧ xs.length ≤ 1000 ∧ ∀ (i : Nat) (x y : V), xs[i]? = some x → ys[i]? = some y → SD n H x y) ∨
    (∃ (c d : Addr) (xs ys : List V), v = .ref c ∧ e = .ref d ∧ H c = some (.tup xs) ∧ H d = some (.tup ys) ∧ xs.length = ys.length ∧ xs.length ≤ 1000 ∧ ∀ (i : Nat) (x y : V), xs[i]? = some x → ys[i]? = some y → SD n H x y)
theorem SD.mono {H H' : Hp} (s : Same H H') : ∀ (n : Nat) (v e : V), SD n H v e → SD n H' v e
  | 0, _, _, h => h.elim
  | n + 1, v, e, h => by
    rcases h with h | h | h | ⟨c, d, xs, ys, rfl, rfl, h1, h2, h3, h4, h5⟩ | ⟨c, d, xs, ys, rfl, rfl, h1, h2, h3, h4, h5⟩
    · exact Or.inl h
    · exact Or.inr (Or.inl h)
    · exact Or.inr (Or.inr (Or.inl h))
    · exact Or.inr (Or.inr (Or.inr (Or.inl ⟨c, d, xs, ys, rfl, rfl, s _ _ h1, s _ _ h2, h3, h4, fun i x y hx hy => SD.mono s n x y (h5 i x y hx hy)⟩)))
    · exact Or.inr (Or.inr (Or.inr (Or.inr ⟨c, d, xs, ys, rfl, rfl, s _ _ h1, s _ _ h2, h3, h4, fun i x y hx hy => SD.mono s n x y (h5 i x y hx hy)⟩)))
def spSame (n : Nat) : Sp := fun vs H Q _ => ∃ (v e : V), vs = [v, e] ∧ SD n H v e ∧ ∀ H', Same H H' → Q (.bl true) H'
def sp__law_same (K : PySem.W.Frag) : Sp := spSame 4
theorem lc_pairs {J : It} {D : Addr} {xs ys : List V} {n : Nat} {g : TG} {te : TE} {vs : List Nat} {σ : L2.St} {H1 : Hp} {Qd : Hp → Prop} (hD : H1 D = none) (hz : n ≤ 1000)
    (hgo : ∀ i H, Same H1 H → i < n → J.go i H) (hstop : ∀ H, Same H1 H → J.stop n H)
    (hyld : ∀ i H x H', Same H1 H → J.yld i H x H' → ∃ T u v, x = .ref T ∧ H T = none ∧ H' = upd H T (.tup [u, v]) ∧ xs[i]? = some u ∧ ys[i]? = some v)
    (hs : ∀ (i : Nat) (u v : V), xs[i]? = some u → ys[i]? = some v → ∀ T H, Same H1 H → H T = some (.tup [u, v]) → ∀ (R : V → Hp → Prop), (∀ H', Same H H' → R (.bl true) H') →
      g (.ref T) (wipe σ vs) H fun σ2 H2 => wipe σ2 vs = wipe σ vs ∧ te σ2 H2 R)
    (hd : ∀ H', Same H1 H' → H' D = some (.lst ((List.replicate n true).map V.bl)) → Qd H') :
    ∃ W : Nat → Nat → Hp → Prop, (∃ m, W 0 m (upd H1 D (.lst []))) ∧ ∀ i m H, W i m H →
      (J.stop i H ∧ Qd H) ∨ (J.go i H ∧ ∃ Nx : Hp → Prop, (∀ H', Nx H' → ∃ m', m' < m ∧ W (i + 1) m' H') ∧ ∀ x H', J.yld i H x H' → g x (wipe σ vs) H' fun σ2 H2 => wipe σ2 vs = wipe σ vs ∧ tYes σ2 H2 fun b H3 =>
        if b = true then te σ2 H3 fun y H4 => ∃ acc, H4 D = some (.lst acc) ∧ acc.length < sizeLine ∧ Nx (upd H4 D (.lst (acc ++ [y]))) else Nx H3) := by
  refine ⟨fun i m H => m = n - i ∧ i ≤ n ∧ Same H1 H ∧ H D = some (.lst ((List.replicate i true).map V.bl)), ⟨n, by simp, Nat.zero_le _, sNew hD, upd_same⟩, ?_⟩
  rintro i m H ⟨rfl, hi, s, e⟩
  by_cases hlt : i < n
  · refine Or.inr ⟨hgo i H s hlt, fun H' => Same H1 H' ∧ H' D = some (.lst ((List.replicate (i + 1) true).map V.bl)), fun H' h => ⟨n - (i + 1), by omega, rfl, hlt, h⟩, fun x H' hy => ?_⟩
    obtain ⟨T, u, v, rfl, hT, rfl, hu, hv⟩ := hyld i H x H' s hy
    have sn := sNew (o := .tup [u, v]) hT
    refine hs i u v hu hv T _ (s.trans sn) upd_same _ fun H'' s2 => ⟨_, s2 _ _ (sn _ _ e), small1000 ?_, sUpd (s.trans (sn.trans s2)) hD, ?_⟩
    · rw [List.length_map, List.length_replicate]
      omega
    · rw [upd_same, List.replicate_succ', List.map_append]
      rfl
  · have e2 : i = n := by omega
    subst e2
    exact Or.inl ⟨hstop H s, hd H s e⟩
theorem kitLT (t : String) (b c r : Bool) (h1 : kitB t "list" = some b) (h2 : kitB t "tuple" = some c) (hr : (b || c) = r) : PySem.W.kitAny K (.type t) [.type "list", .type "tuple"] = some r := by
  subst hr
  cases b with
  | true => exact kitAny_cons (kit_ty h1) (fun z => by cases z) fun _ => rfl
  | false =>
    refine kitAny_cons (kit_ty h1) (fun _ => ?_) fun z => by cases z
    cases c with
    | true => exact kitAny_cons (kit_ty h2) (fun z => by cases z) fun _ => rfl
    | false => exact kitAny_cons (kit_ty h2) (fun _ => kitAny_nil) fun z => by cases z
theorem rd_isLT {H : Hp} {Q : VK} {v : V} {tp : Addr} {t : String} {r : Bool} (g : H tp = some (.tup [.ty "list", .ty "tuple"])) (ty : TyX K H v (.type t)) (h : PySem.W.kitAny K (.type t) [.type "list", .type "tuple"] = some r) (q : Q (.bl r) H) : rIsiT K [v, .ref tp] H Q :=
  ⟨v, tp, _, _, _, r, rfl, g, .cons (.ty "list") (.cons (.ty "tuple") .nil), ty, h, q⟩
theorem rd_zp {ta : TA} {σ : L2.St} {H : Hp} {R : It → Hp → Prop} (q : ta σ H fun vs H1 => ∃ a b xs ys, vs = [.ref a, .ref b] ∧ ((SqL K H1 a xs ∧ SqL K H1 b ys ∧ R (Itz K a b) H1) ∨ (SqT K H1 a xs ∧ SqT K H1 b ys ∧ R (RZ.ItzT K a b) H1))) : RZ.iZipA K ta σ H R := q
theorem all_true (n : Nat) : (List.replicate n true).all id = true := by
  rw [List.all_eq_true]
  intro x hx
  exact (List.mem_replicate.mp hx).2
theorem same_n (T : Txt K mg a) : ∀ n : Nat, FnOk P w K mg base CX0 n a.f__law_same a.d__law_same ["value", "expected"] (spSame n)
  | 0 => ⟨fun _ _ _ _ ⟨_, _, _, h, _⟩ => h.elim, fun _ _ _ _ _ _ _ _ _ _ _ _ _ ⟨_, _, _, h, _⟩ => h.elim⟩
  | n + 1 => by
    have ih := same_n T n
    refine T.F__law_same.ok sc__law_same (fun vs H Q E h => ?_) (fun cdv A outer s H vs Q E hr h => ?_)
    · obtain ⟨v, e, rfl, _⟩ := h
      rfl
    · obtain ⟨v, e, rfl, hd, kq⟩ := h
      have nd := sc__law_same.nd
      have hu64 := hr.units
      refine ⟨_, (pss_cons (ps_if (pt_cmpR op_isN (pv 1) pe_non (nomark _)) (pss_one (ps_ret (pe_cmpR op_isN (pv 0) pe_non (nomark _)))) pss_nil)
      (pss_cons (ps_if (pt_val (pe_callB (kisiT (K := K)) (by rfl) T.b_isinstance (by decide +kernel) (pa_cons (pv 1) (pa_cons (pe_tup (pa_cons (pe_bltn (v := .ty "list") (by rfl) T.b_list (by decide +kernel) rfl) (pa_cons (pe_bltn (v := .ty "tuple") (by rfl) T.b_tuple (by decide +kernel) rfl) pa_nil))) pa_nil)))) (pss_cons (ps_if (PW.pt (pw_or (pt_not (pt_val (pe_callB (kisiT (K := K)) (by rfl) T.b_isinstance (by decide +kernel) (pa_cons (pv 0) (pa_cons (pe_tup (pa_cons (pe_bltn (v := .ty "list") (by rfl) T.b_list (by decide +kernel) rfl) (pa_cons (pe_bltn (v := .ty "tuple") (by rfl) T.b_tuple (by decide +kernel) rfl) pa_nil))) pa_nil))))) (pw_or1 (pt_cmpR op_ne (pe_callB (kisi (K := K)) (by rfl) T.b_isinstance (by decide +kernel) (pa_cons (pv 0) (pa_cons (pe_bltn (v := .ty "list") (by rfl) T.b_list (by decide +kernel) rfl) pa_nil))) (pe_callB (kisi (K := K)) (by rfl) T.b_isinstance (by decide +kernel) (pa_cons (pv 1) (pa_cons (pe_bltn (v := .ty "list") (by rfl) T.b_list (by decide +kernel) rfl) pa_nil))) (nomark _))))) (pss_one (ps_ret pe_bl)) pss_nil)
      (pss_cons (ps_if (pt_cmpR op_ne (pe_callB (klen (K := K)) (by rfl) T.b_len (by decide +kernel) (pa_cons (pv 0) pa_nil)) (pe_callB (klen (K := K)) (by rfl) T.b_len (by decide +kernel) (pa_cons (pv 1) pa_nil)) (nomark _)) (pss_one (ps_ret pe_bl)) pss_nil)
      (pss_one (ps_ret (pe_callB (kall (K := K) rfl) (by rfl) T.b_all (by decide +kernel) (pa_cons (pe_lc (own := [("one", 2), ("other", 3)]) (g := gTup K 2 (gCons (gName 2) (gCons (gName 3) gNil))) (tt := tYes) rfl nd (RZ.pi_zipA rfl T.b_zip (pa_cons (pv 0) (pa_cons (pv 1) pa_nil))) (blkOk_by (own := [("one", 2), ("other", 3)]) (N := ["value", "expected", "one", "other"]) (sc := defScope s__law_same) (by decide +kernel)) (fun _ _ _ _ _ => (kpg_tup (K := K) rfl (pgs_cons (pg_name (i := 2) nd rfl (Or.inl rfl)) (pgs_cons (pg_name (i := 3) nd rfl (Or.inl rfl)) pgs_nil)))) (fun _ _ _ _ _ => pts_nil) (fun _ _ _ _ _ => (pe_call ih hr rfl T.g__law_same T.k__law_same T.n__law_same .nil pass0 (pa_cons (pv 2) (pa_cons (pv 3) pa_nil))))) pa_nil)))))) pss_nil)
      (pss_one (ps_ret (pe_and (pe_cmpR op_eq (pe_callB (kisi (K := K)) (by rfl) T.b_isinstance (by decide +kernel) (pa_cons (pv 0) (pa_cons (pe_bltn (v := .ty "bool") (by rfl) T.b_bool (by decide +kernel) rfl) pa_nil))) (pe_callB (kisi (K := K)) (by rfl) T.b_isinstance (by decide +kernel) (pa_cons (pv 1) (pa_cons (pe_bltn (v := .ty "bool") (by rfl) T.b_bool (by decide +kernel) rfl) pa_nil))) (nomark _)) (pe_one (pe_cmpR op_eq (pv 0) (pv 1) (nomark _)))))))), ?_⟩
      rcases hd with ⟨rfl, rfl⟩ | ⟨i, rfl, rfl⟩ | ⟨x, rfl, rfl⟩ | ⟨c, d, xs, ys, rfl, rfl, h1, h2, h3, h4, h5⟩ | ⟨c, d, xs, ys, rfl, rfl, h1, h2, h3, h4, h5⟩
      · walk_at "rd"
        refine ⟨rfl, ?_⟩
        walk_at "rd"
        refine rd_yes rfl ?_
        walk_at "rd"
        refine ⟨rfl, ?_⟩
        rw [decide_eq_true (show V.non = V.non from rfl)]
        exact kq H (Same.refl _)
      · walk_at "rd"
        refine ⟨rfl, ?_⟩
        walk_at "rd"
        refine rd_no (fun z => by cases z) ?_
        walk_at "rd"
        refine ⟨by show 2 ≤ sizeLine; decide, fun tp htp => ?_⟩
        have s1 := sNew (o := .tup [.ty "list", .ty "tuple"]) htp
        walk_at "rd"
        refine rd_isLT (t := "int") upd_same (.base (.int _)) (kitLT _ false false false (by decide +kernel) (by decide +kernel) rfl) ?_
        walk_at "rd"
        refine rd_isi (.ty "bool") (.base (.int _)) (kit_ty (r := false) (by decide +kernel)) ?_
        walk_at "rd"
        refine rd_isi (.ty "bool") (.base (.int _)) (kit_ty (r := false) (by decide +kernel)) ?_
        walk_at "rd"
        rw [decide_eq_true (show V.bl false = V.bl false from rfl)]
        walk_at "rd"
        rw [decide_eq_true (show V.int i = V.int i from rfl)]
        exact kq _ s1
      · walk_at "rd"
        refine ⟨rfl, ?_⟩
        walk_at "rd"
        refine rd_no (fun z => by cases z) ?_
        walk_at "rd"
        refine ⟨by show 2 ≤ sizeLine; decide, fun tp htp => ?_⟩
        have s1 := sNew (o := .tup [.ty "list", .ty "tuple"]) htp
        walk_at "rd"
        refine rd_isLT (t := "str") upd_same (.base (.str _)) (kitLT _ false false false (by decide +kernel) (by decide +kernel) rfl) ?_
        walk_at "rd"
        refine rd_isi (.ty "bool") (.base (.str _)) (kit_ty (r := false) (by decide +kernel)) ?_
        walk_at "rd"
        refine rd_isi (.ty "bool") (.base (.str _)) (kit_ty (r := false) (by decide +kernel)) ?_
        walk_at "rd"
        rw [decide_eq_true (show V.bl false = V.bl false from rfl)]
        walk_at "rd"
        rw [decide_eq_true (show V.str x = V.str x from rfl)]
        exact kq _ s1
      · walk_at "rd"
        refine ⟨rfl, ?_⟩
        walk_at "rd"
        refine rd_no (fun z => by cases z) ?_
        walk_at "rd"
        refine ⟨by show 2 ≤ sizeLine; decide, fun tp htp => ?_⟩
        have s1 := sNew (o := .tup [.ty "list", .ty "tuple"]) htp
        walk_at "rd"
        refine rd_isLT (t := "list") upd_same (.base (.lst (s1 _ _ h2))) (kitLT _ true false true (by decide +kernel) (by decide +kernel) rfl) ?_
        walk_at "rd"
        refine ⟨by show 2 ≤ sizeLine; decide, fun tq htq => ?_⟩
        have s2 := s1.trans (sNew (o := .tup [.ty "list", .ty "tuple"]) htq)
        walk_at "rd"
        refine rd_isLT (t := "list") upd_same (.base (.lst (s2 _ _ h1))) (kitLT _ true false true (by decide +kernel) (by decide +kernel) rfl) ?_
        walk_at "rd"
        refine rd_isi (.ty "list") (.base (.lst (s2 _ _ h1))) (kit_ty (r := true) (by decide +kernel)) ?_
        walk_at "rd"
        refine rd_isi (.ty "list") (.base (.lst (s2 _ _ h2))) (kit_ty (r := true) (by decide +kernel)) ?_
        walk_at "rd"
        refine rd_ndec (fun k => absurd rfl k) fun _ => ?_
        walk_at "rd"
        refine rd_len (s2 _ _ h1) ?_
        walk_at "rd"
        refine rd_len (s2 _ _ h2) ?_
        walk_at "rd"
        refine rd_ndec (fun k => absurd (by rw [h3]) k) fun _ => ?_
        generalize upd (upd H tp (.tup [.ty "list", .ty "tuple"])) tq (.tup [.ty "list", .ty "tuple"]) = G at s2
        have k1 := s2 _ _ h1
        have k2 := s2 _ _ h2
        walk_at "rd"
        refine rd_lc (rd_zp ?_)
        walk_at "rd"
        refine ⟨c, d, xs, ys, rfl, Or.inl ⟨SqL.of k1, SqL.of k2, fun D hD => lc_pairs (J := Itz K c d) (xs := xs) (ys := ys) (n := xs.length) hD h4 (fun i H' s hi => ?_) (fun H' s => ?_) (fun i H' x H'' s hy => ?_) (fun i u v hu hv T' H' s g R hR => ?_) fun H' s e => ?_⟩⟩
        · exact ⟨xs, ys, _, _, SqL.of (s _ _ k1), SqL.of (s _ _ k2), List.getElem?_eq_getElem hi, List.getElem?_eq_getElem (by omega)⟩
        · exact ⟨xs, ys, SqL.of (s _ _ k1), SqL.of (s _ _ k2), Or.inl (Nat.le_refl _)⟩
        · obtain ⟨T', u, v, e1, e2, e3, f1, f2⟩ := hy
          exact ⟨T', u, v, e1, e2, e3, f1 _ (SqL.of (s _ _ k1)), f2 _ (SqL.of (s _ _ k2))⟩
        · refine rd_gtup g rfl ?_
          walk_at "rd"
          refine ⟨rfl, ?_⟩
          walk_at "rd"
          exact ⟨u, v, rfl, SD.mono (s2.trans s) n _ _ (h5 i u v hu hv), fun H'' s' => hR _ s'⟩
        · walk_at "rd"
          refine ⟨D, _, rfl, SqL.of e, ?_⟩
          rw [all_true]
          exact kq _ (s2.trans s)
      · walk_at "rd"
        refine ⟨rfl, ?_⟩
        walk_at "rd"
        refine rd_no (fun z => by cases z) ?_
        walk_at "rd"
        refine ⟨by show 2 ≤ sizeLine; decide, fun tp htp => ?_⟩
        have s1 := sNew (o := .tup [.ty "list", .ty "tuple"]) htp
        walk_at "rd"
        refine rd_isLT (t := "tuple") upd_same (.base (.tup (s1 _ _ h2))) (kitLT _ false true true (by decide +kernel) (by decide +kernel) rfl) ?_
        walk_at "rd"
        refine ⟨by show 2 ≤ sizeLine; decide, fun tq htq => ?_⟩
        have s2 := s1.trans (sNew (o := .tup [.ty "list", .ty "tuple"]) htq)
        walk_at "rd"
        refine rd_isLT (t := "tuple") upd_same (.base (.tup (s2 _ _ h1))) (kitLT _ false true true (by decide +kernel) (by decide +kernel) rfl) ?_
        walk_at "rd"
        refine rd_isi (.ty "list") (.base (.tup (s2 _ _ h1))) (kit_ty (r := false) (by decide +kernel)) ?_
        walk_at "rd"
        refine rd_isi (.ty "list") (.base (.tup (s2 _ _ h2))) (kit_ty (r := false) (by decide +kernel)) ?_
        walk_at "rd"
        refine rd_ndec (fun k => absurd rfl k) fun _ => ?_
        walk_at "rd"
        refine rd_lenT (s2 _ _ h1) ?_
        walk_at "rd"
        refine rd_lenT (s2 _ _ h2) ?_
        walk_at "rd"
        refine rd_ndec (fun k => absurd (by rw [h3]) k) fun _ => ?_
        generalize upd (upd H tp (.tup [.ty "list", .ty "tuple"])) tq (.tup [.ty "list", .ty "tuple"]) = G at s2
        have k1 := s2 _ _ h1
        have k2 := s2 _ _ h2
        walk_at "rd"
        refine rd_lc (rd_zp ?_)
        walk_at "rd"
        refine ⟨c, d, xs, ys, rfl, Or.inr ⟨SqT.of k1, SqT.of k2, fun D hD => lc_pairs (J := RZ.ItzT K c d) (xs := xs) (ys := ys) (n := xs.length) hD h4 (fun i H' s hi => ?_) (fun H' s => ?_) (fun i H' x H'' s hy => ?_) (fun i u v hu hv T' H' s g R hR => ?_) fun H' s e => ?_⟩⟩
        · exact ⟨xs, ys, _, _, SqT.of (s _ _ k1), SqT.of (s _ _ k2), List.getElem?_eq_getElem hi, List.getElem?_eq_getElem (by omega)⟩
        · exact ⟨xs, ys, SqT.of (s _ _ k1), SqT.of (s _ _ k2), Or.inl (Nat.le_refl _)⟩
        · obtain ⟨T', u, v, e1, e2, e3, f1, f2⟩ := hy
          exact ⟨T', u, v, e1, e2, e3, f1 _ (SqT.of (s _ _ k1)), f2 _ (SqT.of (s _ _ k2))⟩
        · refine rd_gtup g rfl ?_
          walk_at "rd"
          refine ⟨rfl, ?_⟩
          walk_at "rd"
          exact ⟨u, v, rfl, SD.mono (s2.trans s) n _ _ (h5 i u v hu hv), fun H'' s' => hR _ s'⟩
        · walk_at "rd"
          refine ⟨D, _, rfl, SqL.of e, ?_⟩
          rw [all_true]
          exact kq _ (s2.trans s)
theorem ok__law_same (T : Txt K mg a) : FnOk P w K mg base CX0 4 a.f__law_same a.d__law_same ["value", "expected"] (sp__law_same K) := same_n T 4
end K14

namespace K14
open PySem L2 LX
local macro_rules | `(tactic| walk_at "rd") => `(tactic| repeat (first
  | with_reducible refine rd_var rfl ?_ | with_reducible refine rd_c ?_ | with_reducible refine rd_op ?_ | with_reducible refine rd_un ?_ | with_reducible refine rd_I0 ?_ | with_reducible refine rd_U ?_
  | with_reducible refine rd_test ?_ | with_reducible refine rd_tB ?_ | with_reducible refine rd_bl ?_ | with_reducible refine rd_chain ?_
  | with_reducible refine rd_and ?_ | with_reducible refine rd_or ?_ | with_reducible refine rd_not ?_ | with_reducible refine rd_andV ?_ | with_reducible refine rd_orV ?_ | with_reducible refine rd_notV ?_
  | with_reducible refine rd_next ?_ | with_reducible refine rd_seq ?_ | with_reducible refine rd_drop ?_ | with_reducible refine rd_ret ?_ | with_reducible refine rd_ifS ?_ | with_reducible refine rd_asg ?_ | with_reducible refine rd_name ?_
  | with_reducible refine rd_par ?_ | with_reducible refine rd_two ?_ | with_reducible refine rd_2i ?_ | with_reducible refine rd_nil ?_ | with_reducible refine rd_cons ?_ | with_reducible refine rd_tup ?_ | with_reducible refine rd_lst ?_ | with_reducible refine rd_cb ?_ | with_reducible refine rd_call ?_
  | with_reducible refine rd_ixL (by assumption) rfl ?_ | with_reducible refine rd_ixT (by assumption) rfl ?_ | with_reducible refine rd_ixL upd_same rfl ?_ | with_reducible refine rd_sub ?_ | with_reducible refine rd_sl ?_ | with_reducible refine rd_nopart ?_ | with_reducible refine rd_part ?_ | with_reducible refine rd_int ?_
  | with_reducible refine rd_len (by assumption) ?_ | with_reducible refine rd_bm ?_ | with_reducible refine rd_bm0 ?_ | with_reducible refine rd_gcons ?_ | with_reducible refine rd_gnil ?_
  | ((with_reducible refine rd_I ?ci ?_); (case ci => first | assumption | (show (0 : Int) < _; decide) | exact Or.inl ⟨by decide, by decide⟩ | exact Or.inr ⟨by decide, by decide⟩ | exact ⟨by decide, by decide, (by decide : Int.natAbs 10 < 2 ^ 1000)⟩))
  | with_reducible refine rd_setL (by assumption) rfl ?_ | with_reducible refine rd_setL upd_same rfl ?_ | with_reducible refine rd_len upd_same ?_
  | with_reducible refine rd_2ty ?_ | with_reducible refine rd_NT ?_ | with_reducible refine rd_2s ?_ | with_reducible refine rd_lenS ?_ | with_reducible refine rd_lenT (by assumption) ?_ | ((with_reducible refine rd_typ ?ct ?_); (case ct => rfl))
  | ((with_reducible refine rd_eq ?cs ?_); (case cs => rfl)) | ((with_reducible refine rd_ne ?cs ?_); (case cs => rfl))
  | with_reducible refine rd_qtru ?_ | with_reducible refine rd_lstRg ?_ | with_reducible refine rd_rg1 ?_ | with_reducible refine rd_tyes ?_ | with_reducible refine rd_tyL (by assumption) ?_ | with_reducible refine rd_tyT (by assumption) ?_
  | with_reducible refine iteT ?_ | with_reducible refine iteF ?_ | with_reducible refine rd_nt ?_ | with_reducible refine rd_nf ?_
  | (dsimp only)))

variable {P : Program} {w : World} {K : PySem.W.Frag} {mg : Str → Option Value} {base : Heap} {a : Ad}
def sp__law_after_one (K : PySem.W.Frag) : Sp := fun vs H Q _ => ∃ (l : Addr) (r : Row) (p : Nat), vs = [.ref l, vN p] ∧ RowAt H l r ∧ Vr r ∧ p < r.length ∧
  ∀ L H', H L = none → Same H H' → RowAt H' L (app r p) → Q (.ref L) H'
theorem ok__law_after_one (T : Txt K mg a) : FnOk P w K mg base CX0 2 a.f__law_after_one a.d__law_after_one ["row", "who"] (sp__law_after_one K) := by
  refine T.F__law_after_one.ok sc__law_after_one (fun vs H Q E h => ?_) (fun cdv A outer s H vs Q E hr h => ?_)
  · obtain ⟨l, r, p, rfl, _⟩ := h
    rfl
  · obtain ⟨l, r, p, rfl, hR, V0, hp, kq⟩ := h
    have nd := sc__law_after_one.nd
    obtain ⟨ts, hl, ht⟩ := id hR
    have n60 := V0.n2
    refine ⟨_, (pss_cons (ps_set (i := 2) nd rfl (Or.inl rfl) (pe_ix (kix_list (K := K)) (pe_lc (own := [("one", 4), ("color", 5)]) (g := gTup K 2 (gCons (gName 4) (gCons (gName 5) gNil))) rfl nd (kpi_list (K := K) (pv 0)) (blkOk_by (own := [("one", 4), ("color", 5)]) (N := ["row", "who", "own", "new", "one", "color", "entry"]) (sc := defScope s__law_after_one) (by decide +kernel)) (fun _ _ _ _ _ => (kpg_tup (K := K) rfl (pgs_cons (pg_name (i := 4) nd rfl (Or.inl rfl)) (pgs_cons (pg_name (i := 5) nd rfl (Or.inl rfl)) pgs_nil)))) (fun _ _ _ _ _ => pts_one (pt_cmpR op_eq (pv 4) (pv 1) (nomark _))) (fun _ _ _ _ _ => (pv 5))) pe_int (fun _ _ => rfl)))
      (pss_cons (ps_set (i := 3) nd rfl (Or.inl rfl) (pe_call (ok__law_new_color T) (hr.mono (by decide)) rfl T.g__law_new_color T.k__law_new_color T.n__law_new_color .nil pass0 (pa_cons (pv 0) (pa_cons (pv 1) pa_nil))))
      (pss_one (ps_ret (pe_op op_cat (pe_lst (pa_cons (pe_tup (pa_cons (pv 1) (pa_cons (pe_ifExp (pt_cmpR op_isN (pv 3) pe_non (nomark _)) (pv 2) (pv 3)) pa_nil))) pa_nil)) (pe_lc (own := [("entry", 6)]) (g := gName 6) rfl nd (kpi_list (K := K) (pv 0)) (blkOk_by (own := [("entry", 6)]) (N := ["row", "who", "own", "new", "one", "color", "entry"]) (sc := defScope s__law_after_one) (by decide +kernel)) (fun _ _ _ _ _ => (pg_name (i := 6) nd rfl (Or.inl rfl))) (fun _ _ _ _ _ => pts_one (pt_cmpR op_ne (pe_ix (kix_tup (K := K)) (pv 6) pe_int (fun _ _ => rfl)) (pv 1) (nomark _))) (fun _ _ _ _ _ => (pv 6)))))))), ?_⟩
    walk_at "rd"
    refine ⟨_, rfl, l, rfl, ⟨_, SqL.of hl⟩, fun E' hE => lc_row (K := K) (fun e => if (e.1 == p) = true then some (sg e.2) else none) hE hl ht (by omega) (fun t e he _ H2 s ht1 T F hT hF => ?_) fun H2 s2 g2 => ?_⟩
    · refine rd_gtup ht1 rfl ?_
      walk_at "rd"
      refine ⟨rfl, ?_⟩
      walk_at "rd"
      refine rd_dec (fun k => ?_) fun k => ?_
      · walk_at "rd"
        refine hT _ _ (if_pos ?_) (Same.refl _)
        injection k with k
        rw [beq_iff_eq]
        omega
      · refine hF _ (if_neg ?_) (Same.refl _)
        rw [beq_iff_eq]
        intro z
        exact k (by rw [z])
    rw [fm_if (v := fun e : Nat × Nat => sg e.2)] at g2
    walk_at "rd"
    refine rd_ixL g2 (atI_nat (j := 0) (own_at (V0.has hp))) ?_
    walk_at "rd"
    refine ⟨l, r, p, rfl, hR.same s2, V0, hp, fun H3 s3 => ?_⟩
    walk_at "rd"
    have s23 := s2.trans s3
    refine rd_ifE ?_
    walk_at "rd"
    refine ⟨rfl, ?_⟩
    refine rd_bl ?_
    refine rd_iteJ (sg ((fo r (colOf r p)).getD (colOf r p))) (fun z R q => ?_) (fun z R q => ?_) ?_
    · walk_at "rd"
      have e : fo r (colOf r p) = none := by
        cases k : fo r (colOf r p) with
        | none => rfl
        | some d => rw [k] at z; exact absurd (of_decide_eq_true z) (fun y => by cases y)
      rw [e] at q
      exact q
    · walk_at "rd"
      cases k : fo r (colOf r p) with
      | none => rw [k] at z; exact absurd rfl (of_decide_eq_false z)
      | some d =>
        rw [k] at q
        exact q
    walk_at "rd"
    refine ⟨by show 2 ≤ sizeLine; decide, fun t ht0 => ?_⟩
    walk_at "rd"
    refine ⟨by show 1 ≤ sizeLine; decide, fun L0 hL0 => ?_⟩
    walk_at "rd"
    have s4 : Same H3 (upd H3 t (.tup [vN p, sg ((fo r (colOf r p)).getD (colOf r p))])) := sNew ht0
    have s5 := s4.trans (sNew (o := .lst [.ref t]) hL0)
    have gt := (sNew (o := .lst [.ref t]) hL0) _ _ (upd_same (H := H3) (a := t) (o := .tup [vN p, sg ((fo r (colOf r p)).getD (colOf r p))]))
    have gL0 := upd_same (H := upd H3 t (.tup [vN p, sg ((fo r (colOf r p)).getD (colOf r p))])) (a := L0) (o := .lst [.ref t])
    generalize upd (upd H3 t (.tup [vN p, sg ((fo r (colOf r p)).getD (colOf r p))])) L0 (.lst [.ref t]) = G at s5 gt gL0
    have sG := s23.trans s5
    refine ⟨_, rfl, l, rfl, ⟨_, SqL.of (sG _ _ hl)⟩, fun D hD => lc_rowF (K := K) (fun e => e.1 != p) hD (sG _ _ hl) (ht.mono (sTups sG)) (by omega) (fun t e he H4 s ht1 T F hT hF => ?_) fun H4 us s6 g6 hU => ?_⟩
    · walk_at "rd"
      refine ⟨rfl, ?_⟩
      walk_at "rd"
      refine rd_ndec (fun k => ?_) fun k => ?_
      · walk_at "rd"
        refine hT _ ?_ (Same.refl _)
        rw [bne_iff_ne]
        intro z
        exact k (by rw [z])
      · refine hF _ ?_ (Same.refl _)
        rw [bne_iff_ne]
        intro z
        injection k with k
        exact z (by omega)
    have hz := hU.len
    have hz2 := List.length_filter_le (fun e : Nat × Nat => e.1 != p) r
    refine rd_cat (s6 _ _ gL0) g6 (sz60' (by show 1 + (us.map V.ref).length ≤ 100; rw [List.length_map]; omega)) fun C hC => ?_
    have s7 := sNew (o := .lst (([.ref t] : List V) ++ us.map V.ref)) hC
    exact kq C _ ((sG.trans s6).free hC) ((sG.trans s6).trans s7) ⟨t :: us, upd_same, s7 _ _ (s6 _ _ gt), hU.mono (sTups s7)⟩
def sp__law_expected (K : PySem.W.Frag) : Sp := fun vs H Q _ => ∃ (l c : Addr) (r : Row) (cs : List Nat), vs = [.ref l, .ref c] ∧ RowAt H l r ∧ Vr r ∧ H c = some (.lst (cs.map vN)) ∧ (∀ p ∈ cs, p < r.length) ∧ cs.length ≤ 1000 ∧
  ∀ t C L H', H t = none → H C = none → Same H H' → H' t = some (.lst [.ref C, .ref L]) → H' C = some (.lst ((takens r cs).map oV)) → RowAt H' L (apps r cs) → Q (.ref t) H'
theorem ok__law_expected (T : Txt K mg a) : FnOk P w K mg base CX0 3 a.f__law_expected a.d__law_expected ["row", "sequence"] (sp__law_expected K) := by
  refine T.F__law_expected.ok sc__law_expected (fun vs H Q E h => ?_) (fun cdv A outer s H vs Q E hr h => ?_)
  · obtain ⟨l, c, r, cs, rfl, _⟩ := h
    rfl
  · obtain ⟨l, c, r, cs, rfl, hR, V0, hc, hcs, hz, kq⟩ := h
    have nd := sc__law_expected.nd
    refine ⟨_, (pss_cons (ps_set (i := 2) nd rfl (Or.inl rfl) (pe_lst pa_nil))
      (pss_cons (ps_for PassesOwn.never rfl (kpi_list (K := K) (pv 1)) (pg_name (i := 3) nd rfl (Or.inl rfl)) (pss_cons (ps_expr (kbm (K := K) PySem.F.plainAttrs_list PySem.F.slot_list_append PySem.F.type_list_append mt_append (pv 2) (pa_cons (pe_call (ok__law_new_color T) (hr.mono (by decide)) rfl T.g__law_new_color T.k__law_new_color T.n__law_new_color .nil pass0 (pa_cons (pv 0) (pa_cons (pv 3) pa_nil))) pa_nil)))
      (pss_one (ps_set (i := 0) nd rfl (Or.inl rfl) (pe_call (ok__law_after_one T) (hr.mono (by decide)) rfl T.g__law_after_one T.k__law_after_one T.n__law_after_one .nil pass0 (pa_cons (pv 0) (pa_cons (pv 3) pa_nil)))))))
      (pss_one (ps_ret (pe_lst (pa_cons (pv 2) (pa_cons (pv 0) pa_nil))))))), ?_⟩
    walk_at "rd"
    refine ⟨Nat.zero_le _, fun C hC => ?_⟩
    have s0 : Same H (upd H C (.lst [])) := sNew hC
    walk_at "rd"
    refine ⟨_, rfl, c, rfl, ⟨_, SqL.of (s0 _ _ hc)⟩, for_list (K := K) (a := c) (xs := cs.map vN) (fun i σ H' => ∃ L x, σ = [some (.ref L), some (.ref c), some (.ref C), x] ∧ L ≠ C ∧ Same H H' ∧ H' C = some (.lst ((takens r (cs.take i)).map oV)) ∧ RowAt H' L (apps r (cs.take i)))
      ⟨l, none, rfl, ne_of_none hR.choose_spec.1 hC, s0, upd_same, hR.same s0⟩ (fun i σ H' _ ⟨_, _, _, _, s, _, _⟩ => SqL.of (s _ _ hc)) ?_ ?_⟩
    · rintro i v σ H' hi ⟨L, x, rfl, nLC, s1, gC, hRL⟩
      rw [List.getElem?_map] at hi
      obtain ⟨p, h1, rfl⟩ := Option.map_eq_some_iff.mp hi
      have hv := apps_len V0 (cs.take i) fun q hq => hcs q (List.mem_of_mem_take hq)
      have hp := hcs p (getElem?_mem h1)
      walk_at "rd"
      refine ⟨Or.inl ⟨rfl, _, SqL.of gC⟩, ?_⟩
      walk_at "rd"
      refine ⟨L, _, p, rfl, hRL, hv.1, by rw [hv.2]; exact hp, fun H2 s2 => ?_⟩
      walk_at "rd"
      refine ⟨C, _, _, rfl, rfl, s2 _ _ gC, small1000 (by rw [List.length_map, takens_len, List.length_take]; omega), ?_⟩
      have s3 : Same H (upd H2 C (.lst ((takens r (cs.take i)).map oV ++ [oV (fo (apps r (cs.take i)) (colOf (apps r (cs.take i)) p))]))) := sUpd (s1.trans s2) hC
      have hR3 : RowAt (upd H2 C (.lst ((takens r (cs.take i)).map oV ++ [oV (fo (apps r (cs.take i)) (colOf (apps r (cs.take i)) p))]))) L (apps r (cs.take i)) := by
        obtain ⟨us, g1, g2⟩ := hRL.same s2
        refine ⟨us, by rw [upd_ne nLC]; exact g1, g2.mono fun b ys eb => ?_⟩
        have nb : b ≠ C := fun z => by
          rw [z, s2 _ _ gC] at eb
          cases eb
        rw [upd_ne nb]
        exact eb
      walk_at "rd"
      refine ⟨L, _, p, rfl, hR3, hv.1, by rw [hv.2]; exact hp, fun L2 H3 hL2 s4 hR4 => ?_⟩
      walk_at "rd"
      refine ⟨L2, _, rfl, (ne_of_none upd_same hL2).symm, s3.trans s4, ?_, ?_⟩
      · rw [s4 _ _ upd_same, take_of h1, takens_snoc, List.map_append]
        rfl
      · rw [take_of h1, apps_snoc]
        exact hR4
    · rintro σ H' ⟨L, x, rfl, _, s1, gC, hRL⟩
      rw [List.length_map, List.take_length] at gC hRL
      walk_at "rd"
      refine ⟨by show 2 ≤ sizeLine; decide, fun t ht => ?_⟩
      have s2 := sNew (o := .lst [.ref C, .ref L]) ht
      exact kq t C L _ (s1.free ht) hC (s1.trans s2) upd_same (s2 _ _ gC) (hRL.same s2)
end K14

namespace K14
open PySem L2 LX
local macro_rules | `(tactic| walk_at "rd") => `(tactic| repeat (first
  | with_reducible refine rd_var rfl ?_ | with_reducible refine rd_c ?_ | with_reducible refine rd_op ?_ | with_reducible refine rd_un ?_ | with_reducible refine rd_I0 ?_ | with_reducible refine rd_U ?_
  | with_reducible refine rd_test ?_ | with_reducible refine rd_tB ?_ | with_reducible refine rd_bl ?_ | with_reducible refine rd_chain ?_
  | with_reducible refine rd_and ?_ | with_reducible refine rd_or ?_ | with_reducible refine rd_not ?_ | with_reducible refine rd_andV ?_ | with_reducible refine rd_orV ?_ | with_reducible refine rd_notV ?_
  | with_reducible refine rd_next ?_ | with_reducible refine rd_seq ?_ | with_reducible refine rd_drop ?_ | with_reducible refine rd_ret ?_ | with_reducible refine rd_ifS ?_ | with_reducible refine rd_asg ?_ | with_reducible refine rd_name ?_
  | with_reducible refine rd_par ?_ | with_reducible refine rd_two ?_ | with_reducible refine rd_2i ?_ | with_reducible refine rd_nil ?_ | with_reducible refine rd_cons ?_ | with_reducible refine rd_tup ?_ | with_reducible refine rd_lst ?_ | with_reducible refine rd_cb ?_ | with_reducible refine rd_call ?_
  | with_reducible refine rd_ixL (by assumption) rfl ?_ | with_reducible refine rd_ixT (by assumption) rfl ?_ | with_reducible refine rd_ixL upd_same rfl ?_ | with_reducible refine rd_sub ?_ | with_reducible refine rd_sl ?_ | with_reducible refine rd_nopart ?_ | with_reducible refine rd_part ?_ | with_reducible refine rd_int ?_
  | with_reducible refine rd_len (by assumption) ?_ | with_reducible refine rd_bm ?_ | with_reducible refine rd_bm0 ?_ | with_reducible refine rd_gcons ?_ | with_reducible refine rd_gnil ?_
  | ((with_reducible refine rd_I ?ci ?_); (case ci => first | assumption | (show (0 : Int) < _; decide) | exact Or.inl ⟨by decide, by decide⟩ | exact Or.inr ⟨by decide, by decide⟩ | exact ⟨by decide, by decide, (by decide : Int.natAbs 10 < 2 ^ 1000)⟩))
  | with_reducible refine rd_setL (by assumption) rfl ?_ | with_reducible refine rd_setL upd_same rfl ?_ | with_reducible refine rd_len upd_same ?_
  | with_reducible refine rd_2ty ?_ | with_reducible refine rd_NT ?_ | with_reducible refine rd_2s ?_ | with_reducible refine rd_lenS ?_ | with_reducible refine rd_lenT (by assumption) ?_ | ((with_reducible refine rd_typ ?ct ?_); (case ct => rfl))
  | ((with_reducible refine rd_eq ?cs ?_); (case cs => rfl)) | ((with_reducible refine rd_ne ?cs ?_); (case cs => rfl))
  | with_reducible refine rd_qtru ?_ | with_reducible refine rd_lstRg ?_ | with_reducible refine rd_rg1 ?_ | with_reducible refine rd_tyes ?_ | with_reducible refine rd_tyL (by assumption) ?_ | with_reducible refine rd_tyT (by assumption) ?_
  | with_reducible refine iteT ?_ | with_reducible refine iteF ?_ | with_reducible refine rd_nt ?_ | with_reducible refine rd_nf ?_
  | (dsimp only)))

variable {P : Program} {w : World} {K : PySem.W.Frag} {mg : Str → Option Value} {base : Heap} {a : Ad}
theorem apps_append : ∀ (r : Row) (x y : List Nat), apps r (x ++ y) = apps (apps r x) y := fun r x y => by
  unfold apps
  exact List.foldl_append ..
theorem takens_append : ∀ (r : Row) (x y : List Nat), takens r (x ++ y) = takens r x ++ takens (apps r x) y
  | r, [], y => rfl
  | r, p :: x, y => by
    have e := takens_append (app r p) x y
    show fo r (colOf r p) :: takens (app r p) (x ++ y) = _
    rw [e]
    rfl
theorem sz60'' {n : Nat} (h : n ≤ 1000) : n ≤ sizeLine := Nat.le_of_lt (small1000 h)
theorem ne_src {H : Hp} {p b : Addr} {xs : List V} (S : Src H p) (h : H b = some (.lst xs)) (n : ∀ i : Int, xs[0]? ≠ some (.int i)) : b ≠ p := fun z => by
  obtain ⟨s0, s1, s2, e, _⟩ := S.ex
  rw [z, e] at h
  injection h with h
  injection h with h
  exact n s0 (by rw [← h]; rfl)
theorem row_ne {H : Hp} {p b : Addr} {r : Row} (S : Src H p) (h : RowAt H b r) : b ≠ p := by
  obtain ⟨ts, h1, _⟩ := h
  refine ne_src S h1 fun i z => ?_
  rw [List.getElem?_map] at z
  cases q : ts[0]? with
  | none => rw [q] at z; cases z
  | some x => rw [q] at z; cases z
theorem opt_ne {os : List (Option Nat)} (i : Int) : (os.map oV)[0]? ≠ some (.int i) := fun z => by
  rw [List.getElem?_map] at z
  cases q : os[0]? with
  | none => rw [q] at z; cases z
  | some x =>
    rw [q] at z
    cases x with
    | none => cases z
    | some c => cases z
theorem rowS {H H' : Hp} {p b : Addr} {r : Row} (h : RowAt H b r) (S : Src H p) (s : Same' p H H') : RowAt H' b r := by
  have n := row_ne S h
  obtain ⟨ts, h1, h2⟩ := h
  exact ⟨ts, s _ _ h1 n, h2.mono (s.tups S.lst.choose_spec)⟩
/-- what the law expects, at t -/
def Ex (H : Hp) (t : Addr) (r : Row) (cs : List Nat) : Prop := ∃ C L, H t = some (.lst [.ref C, .ref L]) ∧ H C = some (.lst ((takens r cs).map oV)) ∧ RowAt H L (apps r cs)
theorem Ex.same {H H' : Hp} {t : Addr} {r : Row} {cs : List Nat} (h : Ex H t r cs) (s : Same H H') : Ex H' t r cs :=
  let ⟨C, L, g1, g2, g3⟩ := h
  ⟨C, L, s _ _ g1, s _ _ g2, g3.same s⟩
theorem Ex.same' {H H' : Hp} {p t : Addr} {r : Row} {cs : List Nat} (h : Ex H t r cs) (S : Src H p) (s : Same' p H H') : Ex H' t r cs :=
  let ⟨C, L, g1, g2, g3⟩ := h
  ⟨C, L, s _ _ g1 (ne_src S g1 fun i z => by cases z), s _ _ g2 (ne_src S g2 opt_ne), rowS g3 S s⟩
theorem sd_opt {H : Hp} {n : Nat} (o : Option Nat) : SD (n + 1) H (oV o) (oV o) := by
  cases o with
  | none => exact Or.inl ⟨rfl, rfl⟩
  | some c => exact Or.inr (Or.inr (Or.inl ⟨_, rfl, rfl⟩))
theorem sd_row {H : Hp} {x y : Addr} {r : Row} (z : r.length ≤ 1000) (h1 : RowAt H x r) (h2 : RowAt H y r) : SD 3 H (.ref x) (.ref y) := by
  obtain ⟨ts, a1, a2⟩ := h1
  obtain ⟨us, b1, b2⟩ := h2
  have l1 := a2.len
  have l2 := b2.len
  refine Or.inr (Or.inr (Or.inr (Or.inl ⟨x, y, _, _, rfl, rfl, a1, b1, by rw [List.length_map, List.length_map]; omega, by rw [List.length_map]; omega, fun i u v hu hv => ?_⟩)))
  rw [List.getElem?_map] at hu hv
  obtain ⟨t1, e1, rfl⟩ := Option.map_eq_some_iff.mp hu
  obtain ⟨t2, e2, rfl⟩ := Option.map_eq_some_iff.mp hv
  obtain ⟨en, c1, c2⟩ := a2.get e1
  obtain ⟨en', d1, d2⟩ := b2.get e2
  rw [c1] at d1
  cases d1
  refine Or.inr (Or.inr (Or.inr (Or.inr ⟨t1, t2, _, _, rfl, rfl, c2, d2, rfl, (by decide : 2 ≤ 1000), fun j u v hu hv => ?_⟩)))
  rw [hu] at hv
  cases hv
  match j, hu with
  | 0, hu => cases hu; exact Or.inr (Or.inl ⟨_, rfl, rfl⟩)
  | 1, hu => cases hu; exact Or.inr (Or.inr (Or.inl ⟨_, rfl, rfl⟩))
  | n + 2, hu => cases hu
theorem sd_ex {H : Hp} {t u : Addr} {r : Row} {cs : List Nat} (z : cs.length ≤ 1000) (z2 : (apps r cs).length ≤ 1000) (h1 : Ex H t r cs) (h2 : Ex H u r cs) : SD 4 H (.ref t) (.ref u) := by
  obtain ⟨C, L, a1, a2, a3⟩ := h1
  obtain ⟨C', L', b1, b2, b3⟩ := h2
  refine Or.inr (Or.inr (Or.inr (Or.inl ⟨t, u, _, _, rfl, rfl, a1, b1, rfl, (by decide : 2 ≤ 1000), fun j x y hx hy => ?_⟩)))
  match j, hx, hy with
  | 0, hx, hy =>
    cases hx
    cases hy
    refine Or.inr (Or.inr (Or.inr (Or.inl ⟨C, C', _, _, rfl, rfl, a2, b2, rfl, by rw [List.length_map, takens_len]; exact z, fun i x y hx hy => ?_⟩)))
    rw [hx] at hy
    cases hy
    rw [List.getElem?_map] at hx
    obtain ⟨o, _, rfl⟩ := Option.map_eq_some_iff.mp hx
    exact sd_opt o
  | 1, hx, hy =>
    cases hx
    cases hy
    exact sd_row z2 a3 b3
  | n + 2, hx, _ => cases hx
abbrev dC (cs : List Nat) : PyData := dI (cs.map fun c : Nat => (c : Int))
theorem dp_cs {H : Hp} {c : Addr} {cs : List Nat} (h : H c = some (.lst (cs.map vN))) : Dp K H (.ref c) (dC cs) := .lst (SqL.of h) (by
  have := dp_ints (K := K) (H := H) (cs.map fun c : Nat => (c : Int))
  rw [List.map_map] at this
  exact this)
abbrev d0 (r : Row) (cs : List Nat) : PyData := .list [dR r, dC cs]
theorem sh_d0 {r : Row} {cs : List Nat} (V0 : Vr r) (hcs : ∀ p ∈ cs, p < r.length) (hz : cs.length ≤ 200) : Sh 13 3 30000 (d0 r cs) := by
  have n60 := V0.n2
  refine (Sh.list (n := 2) (m := 10000) fun x hx => ?_).mono (Nat.le_refl _) (show 2 * 10001 ≤ 30000 by decide)
  rcases List.mem_cons.mp hx with z | z
  · rw [z]
    exact (sh_row V0).mono (by decide) (by decide)
  · rw [List.mem_singleton.mp z]
    have h := Sh.list (B := 13) (n := 0) (m := 40) (xs := (cs.map fun c : Nat => (c : Int)).map PyData.int) fun x hx => by
      obtain ⟨i, hi, rfl⟩ := List.mem_map.mp hx
      obtain ⟨q, hq, rfl⟩ := List.mem_map.mp hi
      refine Sh.int ?_
      have := hcs q hq
      have e : (10 : Nat) ^ 12 = 1000000000000 := by decide
      omega
    refine h.mono (by decide) ?_
    rw [List.length_map, List.length_map]
    omega
theorem dp_d0 {H : Hp} {N l c : Addr} {r : Row} {cs : List Nat} (h : H N = some (.lst [.ref l, .ref c])) (h1 : RowAt H l r) (h2 : H c = some (.lst (cs.map vN))) : Dp K H (.ref N) (d0 r cs) :=
  .lst (SqL.of h) (.cons h1.dp (.cons (dp_cs h2) .nil))
theorem rev_valid {r : Row} (V0 : Vr r) : Vr r.reverse := by
  refine ⟨by rw [List.length_reverse]; exact V0.n1, by rw [List.length_reverse]; exact V0.n2, fun e he => V0.col e (List.mem_reverse.mp he), ?_⟩
  rw [List.length_reverse, List.map_reverse]
  exact (List.reverse_perm _).trans V0.perm
theorem tups_rev {H : Hp} : ∀ {ts : List Addr} {r : Row}, TupsAt H ts r → TupsAt H ts.reverse r.reverse
  | [], [], _ => True.intro
  | t :: ts, e :: r, h => by
    rw [List.reverse_cons, List.reverse_cons]
    exact (tups_rev h.2).app (TupsAt.one h.1)
  | [], _ :: _, h => h.elim
  | _ :: _, [], h => h.elim
def sp__law_holds (K : PySem.W.Frag) : Sp := fun vs H Q _ => ∃ (p l c : Addr) (r : Row) (cs : List Nat), vs = [.ref p, .ref l, .ref c] ∧ Src H p ∧ RowAt H l r ∧ Vr r ∧ H c = some (.lst (cs.map vN)) ∧ (∀ q ∈ cs, q < r.length) ∧ cs.length ≤ 200 ∧ c ≠ p ∧ l ≠ c ∧
  ∀ H', (∀ b o, H b = some o → b ≠ p → b ≠ l → b ≠ c → H' b = some o) → Q (.bl true) H'
theorem ok__law_holds (T : Txt K mg a) : FnG P w K mg base 6 a.f__law_holds a.d__law_holds ["source", "row", "sequence"] (sp__law_holds K) := by
  refine fnG T.F__law_holds sc__law_holds (fun vs H Q E h => ?_) (fun cdv A outer s H vs Q E hr quiet h => ?_)
  · obtain ⟨p, l, c, r, cs, rfl, _⟩ := h
    rfl
  · obtain ⟨p, l, c, r, cs, rfl, S, hR, V0, hc, hcs, hz, ncp, nlc, kq⟩ := h
    have nd := sc__law_holds.nd
    have hu64 := hr.units
    have n60 := V0.n2
    have lp := row_ne S hR
    have ap := apps_len V0 cs hcs
    have apz : (apps r cs).length ≤ 1000 := by rw [ap.2]; omega
    refine ⟨_, (pss_cons (ps_set (i := 3) nd rfl (Or.inl rfl) (pe_callB (krepr (K := K) quiet hu64) (by rfl) T.b_repr (by decide +kernel) (pa_cons (pe_lst (pa_cons (pv 1) (pa_cons (pv 2) pa_nil))) pa_nil)))
      (pss_cons (ps_set (i := 4) nd rfl (Or.inl rfl) (pe_call (ok__law_expected T) (hr.mono (by decide)) rfl T.g__law_expected T.k__law_expected T.n__law_expected .nil pass0 (pa_cons (pv 1) (pa_cons (pv 2) pa_nil))))
      (pss_cons (ps_set (i := 5) nd rfl (Or.inl rfl) (pe_lst (pa_cons (pe_call (ok_colors_taken T) (hr.mono (by decide)) rfl T.g_colors_taken T.k_colors_taken T.n_colors_taken .nil pass0 (pa_cons (pv 1) (pa_cons (pv 2) pa_nil))) (pa_cons (pe_call (ok_lineup_after T) (hr.mono (by decide)) rfl T.g_lineup_after T.k_lineup_after T.n_lineup_after .nil pass0 (pa_cons (pv 1) (pa_cons (pv 2) pa_nil))) pa_nil))))
      (pss_cons (ps_if (PW.pt (pw_or (pt_not (pt_val (pe_call (ok__law_same T) (hr.mono (by decide)) rfl T.g__law_same T.k__law_same T.n__law_same .nil pass0 (pa_cons (pv 5) (pa_cons (pv 4) pa_nil))))) (pw_or1 (pt_cmpR op_ne (pe_callB (krepr (K := K) quiet hu64) (by rfl) T.b_repr (by decide +kernel) (pa_cons (pe_lst (pa_cons (pv 1) (pa_cons (pv 2) pa_nil))) pa_nil)) (pv 3) (nomark _))))) (pss_one (ps_ret pe_bl)) pss_nil)
      (pss_cons (ps_expr (kbm (K := K) PySem.F.plainAttrs_list PySem.F.slot_list_append PySem.F.type_list_append mt_append (pe_ix (kix_list (K := K)) (pv 5) pe_int (fun _ _ => rfl)) (pa_cons pe_non pa_nil)))
      (pss_cons (ps_expr (kbm0 (K := K) PySem.F.plainAttrs_list PySem.F.slot_list_clear PySem.F.type_list_clear mt_clear (pe_ix (kix_list (K := K)) (pv 5) pe_int (fun _ _ => rfl))))
      (pss_cons (ps_set (i := 6) nd rfl (Or.inl rfl) (pe_call (ok__law_draw T) (hr.mono (by decide)) rfl T.g__law_draw T.k__law_draw T.n__law_draw .nil pass0 (pa_cons (pv 0) (pa_cons (pe_op op_add (pe_callB (klen (K := K)) (by rfl) T.b_len (by decide +kernel) (pa_cons (pv 2) pa_nil)) pe_int) pa_nil))))
      (pss_cons (ps_set (i := 7) nd rfl (Or.inl rfl) (pe_call (ok_lineup_after T) (hr.mono (by decide)) rfl T.g_lineup_after T.k_lineup_after T.n_lineup_after .nil pass0 (pa_cons (pv 1) (pa_cons (pe_slice (ksl_list (K := K)) (pv 2) po_none (po_some (pv 6))) pa_nil))))
      (pss_cons (ps_set (i := 8) nd rfl (Or.inl rfl) (pe_op op_cat (pe_call (ok_colors_taken T) (hr.mono (by decide)) rfl T.g_colors_taken T.k_colors_taken T.n_colors_taken .nil pass0 (pa_cons (pv 1) (pa_cons (pe_slice (ksl_list (K := K)) (pv 2) po_none (po_some (pv 6))) pa_nil))) (pe_call (ok_colors_taken T) (hr.mono (by decide)) rfl T.g_colors_taken T.k_colors_taken T.n_colors_taken .nil pass0 (pa_cons (pv 7) (pa_cons (pe_slice (ksl_list (K := K)) (pv 2) (po_some (pv 6)) po_none) pa_nil)))))
      (pss_cons (ps_if (PW.pt (pw_or (pt_not (pt_val (pe_call (ok__law_same T) (hr.mono (by decide)) rfl T.g__law_same T.k__law_same T.n__law_same .nil pass0 (pa_cons (pe_lst (pa_cons (pv 8) (pa_cons (pe_call (ok_lineup_after T) (hr.mono (by decide)) rfl T.g_lineup_after T.k_lineup_after T.n_lineup_after .nil pass0 (pa_cons (pv 7) (pa_cons (pe_slice (ksl_list (K := K)) (pv 2) (po_some (pv 6)) po_none) pa_nil))) pa_nil))) (pa_cons (pv 4) pa_nil))))) (pw_or1 (pt_cmpR op_ne (pe_callB (krepr (K := K) quiet hu64) (by rfl) T.b_repr (by decide +kernel) (pa_cons (pe_lst (pa_cons (pv 1) (pa_cons (pv 2) pa_nil))) pa_nil)) (pv 3) (nomark _))))) (pss_one (ps_ret pe_bl)) pss_nil)
      (pss_cons (ps_if (pt_not (pt_val (pe_call (ok__law_same T) (hr.mono (by decide)) rfl T.g__law_same T.k__law_same T.n__law_same .nil pass0 (pa_cons (pe_lst (pa_cons (pe_callN0 (ok_colors_taken T) (hr.mono (by decide)) rfl T.g_colors_taken T.k_colors_taken T.kb_colors_taken_0_calls_lineup (pk_cons (pv 2) (pk_cons (pv 1) pk_nil))) (pa_cons (pe_callN0 (ok_lineup_after T) (hr.mono (by decide)) rfl T.g_lineup_after T.k_lineup_after T.kb_lineup_after_0_calls_lineup (pk_cons (pv 2) (pk_cons (pv 1) pk_nil))) pa_nil))) (pa_cons (pv 4) pa_nil))))) (pss_one (ps_ret pe_bl)) pss_nil)
      (Evl.pss_cut (ps_if (pt_cmpR (kneD (K := K) hu64) (pv 2) (pe_lst pa_nil) (nomark _)) (pss_one (ps_asg (pe_call (ok__law_draw T) (hr.mono (by decide)) rfl T.g__law_draw T.k__law_draw T.n__law_draw .nil pass0 (pa_cons (pv 0) (pa_cons (pe_callB (klen (K := K)) (by rfl) T.b_len (by decide +kernel) (pa_cons (pv 1) pa_nil)) pa_nil))) (pg_sub (pv 2) (pe_call (ok__law_draw T) (hr.mono (by decide)) rfl T.g__law_draw T.k__law_draw T.n__law_draw .nil pass0 (pa_cons (pv 0) (pa_cons (pe_callB (klen (K := K)) (by rfl) T.b_len (by decide +kernel) (pa_cons (pv 2) pa_nil)) pa_nil))) set_list))) pss_nil)
      (pss_cons (ps_expr (kbm0 (K := K) PySem.F.plainAttrs_list PySem.F.slot_list_reverse PySem.F.type_list_reverse mt_reverse (pv 1)))
      (pss_one (ps_ret (pe_call (ok__law_same T) (hr.mono (by decide)) rfl T.g__law_same T.k__law_same T.n__law_same .nil pass0 (pa_cons (pe_lst (pa_cons (pe_call (ok_colors_taken T) (hr.mono (by decide)) rfl T.g_colors_taken T.k_colors_taken T.n_colors_taken .nil pass0 (pa_cons (pv 1) (pa_cons (pv 2) pa_nil))) (pa_cons (pe_call (ok_lineup_after T) (hr.mono (by decide)) rfl T.g_lineup_after T.k_lineup_after T.n_lineup_after .nil pass0 (pa_cons (pv 1) (pa_cons (pv 2) pa_nil))) pa_nil))) (pa_cons (pe_call (ok__law_expected T) (hr.mono (by decide)) rfl T.g__law_expected T.k__law_expected T.n__law_expected .nil pass0 (pa_cons (pv 1) (pa_cons (pv 2) pa_nil))) pa_nil)))))))))))))))))), ?_⟩
    walk_at "rd"
    refine ⟨by show 2 ≤ sizeLine; decide, fun N0 hN0 => ?_⟩
    have s0 : Same H (upd H N0 (.lst [.ref l, .ref c])) := sNew hN0
    walk_at "rd"
    refine rd_repr (dp_d0 upd_same (hR.same s0) (s0 _ _ hc)) (sh_d0 V0 hcs hz) (by decide) (by decide) ?_
    walk_at "rd"
    refine ⟨l, c, r, cs, rfl, hR.same s0, V0, s0 _ _ hc, hcs, by omega, fun t C L H2 _ _ s2 g1 g2 g3 => ?_⟩
    have ex : Ex H2 t r cs := ⟨C, L, g1, g2, g3⟩
    have s02 := s0.trans s2
    walk_at "rd"
    refine ⟨l, c, r, cs, rfl, hR.same s02, V0, s02 _ _ hc, hcs, by omega, fun A1 H3 hA s3 gA => ?_⟩
    walk_at "rd"
    have s03 := s02.trans s3
    refine ⟨l, c, r, cs, rfl, hR.same s03, V0, s03 _ _ hc, hcs, fun B1 H4 hB s4 gB => ?_⟩
    walk_at "rd"
    refine ⟨by show 2 ≤ sizeLine; decide, fun v hv => ?_⟩
    have s5 : Same H4 (upd H4 v (.lst [.ref A1, .ref B1])) := sNew hv
    have gv := upd_same (H := H4) (a := v) (o := .lst [.ref A1, .ref B1])
    generalize upd H4 v (.lst [.ref A1, .ref B1]) = H5 at s5 gv
    have nvA : v ≠ A1 := (ne_of_none (s4 _ _ gA) hv).symm
    have nBA : B1 ≠ A1 := (ne_of_none gA hB).symm
    have hA5 := s5 _ _ (s4 _ _ gA)
    have hB5 := gB.same s5
    have s25 := (s3.trans s4).trans s5
    have s05 := s02.trans s25
    walk_at "rd"
    refine ⟨.ref v, .ref t, rfl, sd_ex (by omega) apz ⟨A1, B1, gv, hA5, hB5⟩ (ex.same s25), fun H6 s6 => ?_⟩
    walk_at "rd"
    refine ⟨by show 2 ≤ sizeLine; decide, fun N6 hN6 => ?_⟩
    have s67 := s6.trans (sNew (o := .lst [.ref l, .ref c]) hN6)
    have s07 := s05.trans s67
    walk_at "rd"
    refine rd_repr (dp_d0 upd_same (hR.same s07) (s07 _ _ hc)) (sh_d0 V0 hcs hz) (by decide) (by decide) ?_
    walk_at "rd"
    refine rd_ndec (fun k => absurd rfl k) fun _ => ?_
    have s27 := s25.trans s67
    have gv7 := s67 _ _ gv
    have hA7 := s67 _ _ hA5
    obtain ⟨bs, hB7, _⟩ := hB5.same s67
    generalize upd H6 N6 (.lst [.ref l, .ref c]) = H7 at s67 s07 s27 gv7 hA7 hB7
    walk_at "rd"
    refine ⟨Or.inl ⟨rfl, _, SqL.of hA7⟩, ?_⟩
    walk_at "rd"
    refine ⟨A1, _, _, rfl, rfl, hA7, small1000 (by rw [List.length_map, takens_len]; omega), ?_⟩
    walk_at "rd"
    refine rd_ixL (by rw [upd_ne nvA]; exact gv7) (atI_nat (j := 1) rfl) ?_
    walk_at "rd"
    have hB8 : (upd H7 A1 (.lst ((takens r cs).map oV ++ [V.non]))) B1 = some (.lst (bs.map V.ref)) := by
      rw [upd_ne nBA]
      exact hB7
    refine ⟨Or.inl ⟨rfl, _, SqL.of hB8⟩, ?_⟩
    refine ⟨B1, _, rfl, rfl, hB8, ?_⟩
    have s8 : Same H2 (upd (upd H7 A1 (.lst ((takens r cs).map oV ++ [V.non]))) B1 (.lst [])) := sUpd (sUpd s27 hA) (s3.free hB)
    generalize upd (upd H7 A1 (.lst ((takens r cs).map oV ++ [V.non]))) B1 (.lst []) = H8 at s8
    have s08 := s02.trans s8
    have hc8 := s08 _ _ hc
    have hR8 := hR.same s08
    have S8 := S.same s08
    have ex8 := ex.same s8
    walk_at "rd"
    have hcl : (cs.map vN).length = cs.length := List.length_map _
    rw [hcl]
    refine ⟨p, _, rfl, S8, by omega, by omega, fun aI H9 a0 a1 S9 f9 => ?_⟩
    obtain ⟨k, rfl⟩ : ∃ x : Nat, aI = (x : Int) := ⟨aI.toNat, by omega⟩
    have hk : k ≤ (cs.map vN).length := by omega
    have s09 : Same' p H H9 := (sTo p s08).trans (Same'.of f9)
    have hR9 := rowS hR S s09
    have hc9 := s09 _ _ hc ncp
    have ex9 := ex8.same' S8 (Same'.of f9)
    have hT : ∀ q ∈ cs.take k, q < r.length := fun q hq => hcs q (List.mem_of_mem_take hq)
    have Vm := apps_len V0 (cs.take k) hT
    have hDr : ∀ q ∈ cs.drop k, q < (apps r (cs.take k)).length := fun q hq => by
      rw [Vm.2]
      exact hcs q (List.mem_of_mem_drop hq)
    have lT : (cs.take k).length ≤ 1000 := by rw [List.length_take]; omega
    have lD : (cs.drop k).length ≤ 1000 := by rw [List.length_drop]; omega
    walk_at "rd"
    refine rd_slL hc9 fun b1 hb1 => ?_
    rw [cut_take _ _ hk, ← List.map_take]
    have s10 : Same H9 (upd H9 b1 (.lst ((cs.take k).map vN))) := sNew hb1
    walk_at "rd"
    refine ⟨l, b1, r, cs.take k, rfl, hR9.same s10, V0, upd_same, hT, fun M H11 hM s11 gM => ?_⟩
    have s911 := s10.trans s11
    walk_at "rd"
    refine rd_slL (s911 _ _ hc9) fun b2 hb2 => ?_
    rw [cut_take _ _ hk, ← List.map_take]
    have s12 := s911.trans (sNew (o := .lst ((cs.take k).map vN)) hb2)
    have gM12 := gM.same (sNew (o := .lst ((cs.take k).map vN)) hb2)
    walk_at "rd"
    refine ⟨l, b2, r, cs.take k, rfl, hR9.same s12, V0, upd_same, hT, by omega, fun P1 H13 hP1 s13 gP1 => ?_⟩
    have s913 := s12.trans s13
    have gM13 := gM12.same s13
    walk_at "rd"
    refine rd_slL (s913 _ _ hc9) fun b3 hb3 => ?_
    rw [cut_drop _ _ hk, ← List.map_drop]
    have n3 := sNew (o := .lst ((cs.drop k).map vN)) hb3
    have s914 := s913.trans n3
    walk_at "rd"
    refine ⟨M, b3, apps r (cs.take k), cs.drop k, rfl, gM13.same n3, Vm.1, upd_same, hDr, by omega, fun P2 H15 hP2 s15 gP2 => ?_⟩
    have s915 := s914.trans s15
    have gM15 := (gM13.same n3).same s15
    have gP15 := s15 _ _ (n3 _ _ gP1)
    refine rd_cat gP15 gP2 (sz60'' (by rw [List.length_map, List.length_map, takens_len, takens_len, List.length_take, List.length_drop]; omega)) fun PP hPP => ?_
    rw [← List.map_append, ← takens_append, List.take_append_drop]
    have n4 := sNew (o := .lst ((takens r cs).map oV)) hPP
    have gPP := upd_same (H := H15) (a := PP) (o := .lst ((takens r cs).map oV))
    generalize upd H15 PP (.lst ((takens r cs).map oV)) = H16 at n4 gPP
    have s916 := s915.trans n4
    have gM16 := gM15.same n4
    walk_at "rd"
    refine rd_slL (s916 _ _ hc9) fun b4 hb4 => ?_
    rw [cut_drop _ _ hk, ← List.map_drop]
    have n5 := sNew (o := .lst ((cs.drop k).map vN)) hb4
    walk_at "rd"
    refine ⟨M, b4, apps r (cs.take k), cs.drop k, rfl, gM16.same n5, Vm.1, upd_same, hDr, fun B2 H18 hB2 s18 gB2 => ?_⟩
    rw [← apps_append, List.take_append_drop] at gB2
    have s1618 := n5.trans s18
    have s918 := s916.trans s1618
    walk_at "rd"
    refine ⟨by show 2 ≤ sizeLine; decide, fun v2 hv2 => ?_⟩
    have n6 := sNew (o := .lst [.ref PP, .ref B2]) hv2
    walk_at "rd"
    refine ⟨.ref v2, .ref t, rfl, sd_ex (by omega) apz ⟨PP, B2, upd_same, n6 _ _ (s1618 _ _ gPP), gB2.same n6⟩ (ex9.same (s918.trans n6)), fun H20 s20 => ?_⟩
    have s920 := (s918.trans n6).trans s20
    walk_at "rd"
    refine ⟨by show 2 ≤ sizeLine; decide, fun N8 hN8 => ?_⟩
    have s921 := s920.trans (sNew (o := .lst [.ref l, .ref c]) hN8)
    walk_at "rd"
    refine rd_repr (dp_d0 upd_same (hR9.same s921) (s921 _ _ hc9)) (sh_d0 V0 hcs hz) (by decide) (by decide) ?_
    walk_at "rd"
    refine rd_ndec (fun k => absurd rfl k) fun _ => ?_
    generalize upd H20 N8 (.lst [.ref l, .ref c]) = H21 at s921
    walk_at "rd"
    refine rd_callN0 ?_
    walk_at "rd"
    refine ⟨rfl, l, c, r, cs, rfl, hR9.same s921, V0, s921 _ _ hc9, hcs, by omega, fun A3 H22 hA3 s22 gA3 => ?_⟩
    have s922 := s921.trans s22
    walk_at "rd"
    refine rd_callN0 ?_
    walk_at "rd"
    refine ⟨rfl, l, c, r, cs, rfl, hR9.same s922, V0, s922 _ _ hc9, hcs, fun B3 H23 hB3 s23 gB3 => ?_⟩
    have s923 := s922.trans s23
    walk_at "rd"
    refine ⟨by show 2 ≤ sizeLine; decide, fun v3 hv3 => ?_⟩
    have n7 := sNew (o := .lst [.ref A3, .ref B3]) hv3
    walk_at "rd"
    refine ⟨.ref v3, .ref t, rfl, sd_ex (by omega) apz ⟨A3, B3, upd_same, n7 _ _ (s23 _ _ gA3), gB3.same n7⟩ (ex9.same (s923.trans n7)), fun H24 s24 => ?_⟩
    have s924 := (s923.trans n7).trans s24
    have hR24 := hR9.same s924
    have hc24 := s924 _ _ hc9
    have S24 := S9.same s924
    have s024 : Same' p H H24 := s09.trans (sTo p s924)
    walk_at "rd"
    refine rd_cut (fun σ' H' => σ' = [some (.ref p), some (.ref l), some (.ref c), some (.str (d0 r cs).shown), some (.ref t), some (.ref v), some (.int (k : Int)), some (.ref M), some (.ref PP)] ∧
      ∃ cs' : List Nat, (∀ q ∈ cs', q < r.length) ∧ cs'.length ≤ 200 ∧ H' c = some (.lst (cs'.map vN)) ∧ RowAt H' l r ∧ ∀ b o, H b = some o → b ≠ p → b ≠ l → b ≠ c → H' b = some o) ?_ ?_
    · walk_at "rd"
      refine ⟨Nat.zero_le _, fun q hq => ?_⟩
      have n8 := sNew (o := .lst []) hq
      refine rd_neD2 (d := dC cs) (e := dI []) (dp_cs (n8 _ _ hc24)) (.lst (SqL.of upd_same) .nil) (shp_ints _) (shp_ints _) (eqv_nil _) ?_
      have hR25 := hR24.same n8
      have hc25 := n8 _ _ hc24
      have S25 := S24.same n8
      have s025 := s024.trans (sTo p n8)
      generalize upd H24 q (.lst []) = H25 at hR25 hc25 S25 s025
      walk_at "rd"
      refine rd_ndec (fun nz => ?_) fun z => ?_
      · have cpos : 0 < cs.length := by
          cases cs with
          | nil => exact absurd rfl nz
          | cons x y => exact Nat.succ_pos _
        obtain ⟨ts, hl25, ht25⟩ := hR25
        have hts : (ts.map V.ref).length = r.length := by rw [List.length_map, ht25.len]
        walk_at "rd"
        rw [hts]
        refine ⟨p, _, rfl, S25, by have := V0.n1; omega, by omega, fun wI H26 w0 w1 S26 f26 => ?_⟩
        obtain ⟨wh, rfl⟩ : ∃ x : Nat, wI = (x : Int) := ⟨wI.toNat, by omega⟩
        have hc26 : H26 c = some (.lst (cs.map vN)) := by rw [f26 c ncp]; exact hc25
        walk_at "rd"
        rw [hcl]
        refine ⟨p, _, rfl, S26, by omega, by omega, fun jI H27 j0 j1 S27 f27 => ?_⟩
        obtain ⟨j, rfl⟩ : ∃ x : Nat, jI = (x : Int) := ⟨jI.toNat, by omega⟩
        have hc27 : H27 c = some (.lst (cs.map vN)) := by rw [f27 c ncp]; exact hc26
        refine rd_setL hc27 (ixN_nat (by rw [hcl]; omega)) ?_
        have s027 : Same' p H H27 := (s025.trans (Same'.of f26)).trans (Same'.of f27)
        refine ⟨rfl, cs.set j wh, fun q hq => ?_, by rw [List.length_set]; exact hz, ?_, ?_, fun b o e n1 n2 n3 => ?_⟩
        · rcases List.mem_or_eq_of_mem_set hq with z | z
          · exact hcs q z
          · rw [z]
            omega
        · rw [upd_same, List.map_set]
        · obtain ⟨us, g1, g2⟩ := rowS hR S s027
          refine ⟨us, by rw [upd_ne nlc]; exact g1, g2.mono fun b ys eb => ?_⟩
          have nb : b ≠ c := fun z => by
            rw [z, hc27] at eb
            cases eb
          rw [upd_ne nb]
          exact eb
        · rw [upd_ne n3]
          exact s027 _ _ e n1
      · walk_at "rd"
        exact ⟨rfl, cs, hcs, hz, hc25, hR25, fun b o e n1 _ _ => s025 _ _ e n1⟩
    · rintro σ' H' ⟨rfl, cs', hcs', hz', hc', ⟨ts, hl', ht'⟩, k'⟩
      walk_at "rd"
      refine ⟨Or.inl ⟨rfl, _, SqL.of hl'⟩, ?_⟩
      refine ⟨l, _, rfl, rfl, hl', ?_⟩
      rw [← List.map_reverse]
      have hR28 : RowAt (upd H' l (.lst (ts.reverse.map V.ref))) l r.reverse := ⟨ts.reverse, upd_same, (tups_rev ht').mono fun b ys eb => by
        have nb : b ≠ l := fun z => by
          rw [z, hl'] at eb
          cases eb
        rw [upd_ne nb]
        exact eb⟩
      have hc28 : (upd H' l (.lst (ts.reverse.map V.ref))) c = some (.lst (cs'.map vN)) := by
        rw [upd_ne nlc.symm]
        exact hc'
      have k28 : ∀ b o, H b = some o → b ≠ p → b ≠ l → b ≠ c → (upd H' l (.lst (ts.reverse.map V.ref))) b = some o := fun b o e n1 n2 n3 => by
        rw [upd_ne n2]
        exact k' b o e n1 n2 n3
      generalize upd H' l (.lst (ts.reverse.map V.ref)) = H28 at hR28 hc28 k28
      have V1 := rev_valid V0
      have hcs1 : ∀ q ∈ cs', q < r.reverse.length := fun q hq => by
        rw [List.length_reverse]
        exact hcs' q hq
      have ap1 := apps_len V1 cs' hcs1
      have apz1 : (apps r.reverse cs').length ≤ 1000 := by rw [ap1.2, List.length_reverse]; omega
      generalize r.reverse = r1 at hR28 V1 hcs1 ap1 apz1
      walk_at "rd"
      refine ⟨l, c, r1, cs', rfl, hR28, V1, hc28, hcs1, by omega, fun A4 H29 hA4 s29 gA4 => ?_⟩
      walk_at "rd"
      refine ⟨l, c, r1, cs', rfl, hR28.same s29, V1, s29 _ _ hc28, hcs1, fun B4 H30 hB4 s30 gB4 => ?_⟩
      walk_at "rd"
      refine ⟨by show 2 ≤ sizeLine; decide, fun v4 hv4 => ?_⟩
      have n9 := sNew (o := .lst [.ref A4, .ref B4]) hv4
      have s31 := (s29.trans s30).trans n9
      walk_at "rd"
      refine ⟨l, c, r1, cs', rfl, hR28.same s31, V1, s31 _ _ hc28, hcs1, by omega, fun t2 C2 L2 H32 _ _ s32 g1 g2 g3 => ?_⟩
      walk_at "rd"
      refine ⟨.ref v4, .ref t2, rfl, sd_ex (by omega) apz1 ⟨A4, B4, s32 _ _ upd_same, s32 _ _ (n9 _ _ (s30 _ _ gA4)), (gB4.same n9).same s32⟩ ⟨C2, L2, g1, g2, g3⟩, fun H33 s33 => ?_⟩
      exact kq H33 fun b o e n1 n2 n3 => s33 _ _ (s32 _ _ (s31 _ _ (k28 b o e n1 n2 n3)))
end K14

namespace K14
open PySem L2 LX
local macro_rules | `(tactic| walk_at "rd") => `(tactic| repeat (first
  | with_reducible refine rd_var rfl ?_ | with_reducible refine rd_c ?_ | with_reducible refine rd_op ?_ | with_reducible refine rd_un ?_ | with_reducible refine rd_I0 ?_ | with_reducible refine rd_U ?_
  | with_reducible refine rd_test ?_ | with_reducible refine rd_tB ?_ | with_reducible refine rd_bl ?_ | with_reducible refine rd_chain ?_
  | with_reducible refine rd_and ?_ | with_reducible refine rd_or ?_ | with_reducible refine rd_not ?_ | with_reducible refine rd_andV ?_ | with_reducible refine rd_orV ?_ | with_reducible refine rd_notV ?_
  | with_reducible refine rd_next ?_ | with_reducible refine rd_seq ?_ | with_reducible refine rd_drop ?_ | with_reducible refine rd_ret ?_ | with_reducible refine rd_ifS ?_ | with_reducible refine rd_asg ?_ | with_reducible refine rd_name ?_
  | with_reducible refine rd_par ?_ | with_reducible refine rd_two ?_ | with_reducible refine rd_2i ?_ | with_reducible refine rd_nil ?_ | with_reducible refine rd_cons ?_ | with_reducible refine rd_tup ?_ | with_reducible refine rd_lst ?_ | with_reducible refine rd_cb ?_ | with_reducible refine rd_call ?_
  | with_reducible refine rd_ixL (by assumption) rfl ?_ | with_reducible refine rd_ixT (by assumption) rfl ?_ | with_reducible refine rd_ixL upd_same rfl ?_ | with_reducible refine rd_sub ?_ | with_reducible refine rd_sl ?_ | with_reducible refine rd_nopart ?_ | with_reducible refine rd_part ?_ | with_reducible refine rd_int ?_
  | with_reducible refine rd_len (by assumption) ?_ | with_reducible refine rd_bm ?_ | with_reducible refine rd_bm0 ?_ | with_reducible refine rd_gcons ?_ | with_reducible refine rd_gnil ?_
  | ((with_reducible refine rd_I ?ci ?_); (case ci => first | assumption | (show (0 : Int) < _; decide) | exact Or.inl ⟨by decide, by decide⟩ | exact Or.inr ⟨by decide, by decide⟩ | exact ⟨by decide, by decide, (by decide : Int.natAbs 10 < 2 ^ 1000)⟩))
  | with_reducible refine rd_setL (by assumption) rfl ?_ | with_reducible refine rd_setL upd_same rfl ?_ | with_reducible refine rd_len upd_same ?_
  | with_reducible refine rd_2ty ?_ | with_reducible refine rd_NT ?_ | with_reducible refine rd_2s ?_ | with_reducible refine rd_lenS ?_ | with_reducible refine rd_lenT (by assumption) ?_ | ((with_reducible refine rd_typ ?ct ?_); (case ct => rfl))
  | ((with_reducible refine rd_eq ?cs ?_); (case cs => rfl)) | ((with_reducible refine rd_ne ?cs ?_); (case cs => rfl))
  | with_reducible refine rd_qtru ?_ | with_reducible refine rd_lstRg ?_ | with_reducible refine rd_rg1 ?_ | with_reducible refine rd_tyes ?_ | with_reducible refine rd_tyL (by assumption) ?_ | with_reducible refine rd_tyT (by assumption) ?_
  | with_reducible refine iteT ?_ | with_reducible refine iteF ?_ | with_reducible refine rd_nt ?_ | with_reducible refine rd_nf ?_
  | (dsimp only)))

section
variable {P : Program} {w : World} {K : PySem.W.Frag} {mg : Str → Option Value} {base : Heap} {a : Ad}
def sp_law (K : PySem.W.Frag) : Sp := fun vs H Q _ => ∃ (l : Addr) (ns : List Int), vs = [.ref l] ∧ Scr K H l ns ∧ ns.length ≤ 63 ∧ ∀ H', Q (.bl true) H'
theorem rd_teM {te : TE} {σ : L2.St} {H : Hp} {Q : VK} (M : VK) (h1 : ∀ R : VK, (∀ x H1, M x H1 → R x H1) → te σ H R) (h2 : ∀ x H1, M x H1 → Q x H1) : te σ H Q := h1 _ h2
theorem row2 {H : Hp} {t u L : Addr} {e f : Nat × Nat} (h1 : H t = some (.tup (pr e))) (h2 : H u = some (.tup (pr f))) (h : H L = some (.lst [.ref t, .ref u])) : RowAt H L [e, f] := ⟨[t, u], h, h1, h2, trivial⟩
theorem ok_law (T : Txt K mg a) : FnG P w K mg base 7 a.f_law a.d_law ["script"] (sp_law K) := by
  refine fnG T.F_law sc_law (fun vs H Q E h => ?_) (fun cdv A outer s H vs Q E hr quiet h => ?_)
  · obtain ⟨l, ns, rfl, _⟩ := h
    rfl
  · obtain ⟨l, ns, rfl, hS, hz, kq⟩ := h
    have nd := sc_law.nd
    have hu64 := hr.units
    refine ⟨_, (pss_cons (ps_set (i := 1) nd rfl (Or.inl rfl) (pe_call (ok__law_cells T) (hr.mono (by decide)) rfl T.g__law_cells T.k__law_cells T.n__law_cells .nil pass0 (pa_cons (pv 0) (pa_cons pe_int pa_nil))))
      (pss_cons (ps_for PassesOwn.never rfl (pi_range1 rfl T.b_range (pa_cons (pe_callB (klen (K := K)) (by rfl) T.b_len (by decide +kernel) (pa_cons (pv 1) pa_nil)) pa_nil)) (pg_name (i := 2) nd rfl (Or.inl rfl)) (pss_cons (ps_set (i := 3) nd rfl (Or.inl rfl) (pe_call (ok__law_source T) (hr.mono (by decide)) rfl T.g__law_source T.k__law_source T.n__law_source .nil pass0 (pa_cons (pe_ix (kix_list (K := K)) (pv 1) (pv 2) (fun _ _ => rfl)) (pa_cons (pv 2) pa_nil))))
      (pss_cons (ps_set (i := 4) nd rfl (Or.inl rfl) (pe_call (ok__law_row T) (hr.mono (by decide)) rfl T.g__law_row T.k__law_row T.n__law_row .nil pass0 (pa_cons (pv 3) (pa_cons (pv 0) (pa_cons pe_int pa_nil)))))
      (pss_cons (ps_set (i := 5) nd rfl (Or.inl rfl) (pe_ifExp (pt_cmpR (keqD (K := K) hu64) (pv 0) (pe_lst pa_nil) (nomark _)) pe_int (pe_ix (kix_list (K := K)) (pe_lst (pa_cons pe_int (pa_cons pe_int pa_nil))) (pe_callTy call_int1 (by rfl) T.b_int (by decide +kernel) (pa_cons (pe_cmpR op_gt (pv 2) pe_int (nomark _)) pa_nil)) (fun _ _ => rfl))))
      (pss_one (ps_if (pt_not (pt_val (pe_callG (ok__law_holds T) (hr.mono (by decide)) quiet rfl T.g__law_holds T.k__law_holds T.n__law_holds (pa_cons (pv 3) (pa_cons (pv 4) (pa_cons (pe_call (ok__law_sequence T) (hr.mono (by decide)) rfl T.g__law_sequence T.k__law_sequence T.n__law_sequence .nil pass0 (pa_cons (pv 3) (pa_cons (pe_callB (klen (K := K)) (by rfl) T.b_len (by decide +kernel) (pa_cons (pv 4) pa_nil)) (pa_cons (pv 5) pa_nil)))) pa_nil)))))) (pss_one (ps_ret pe_bl)) pss_nil))))))
      (pss_cons (ps_set (i := 6) nd rfl (Or.inl rfl) (pe_lst (pa_cons (pe_tup (pa_cons pe_int (pa_cons pe_str pa_nil))) (pa_cons (pe_tup (pa_cons pe_int (pa_cons pe_str pa_nil))) pa_nil))))
      (pss_cons (ps_set (i := 7) nd rfl (Or.inl rfl) (pe_call (ok_lineup_after T) (hr.mono (by decide)) rfl T.g_lineup_after T.k_lineup_after T.n_lineup_after .nil pass0 (pa_cons (pv 6) (pa_cons (pe_lst pa_nil) pa_nil))))
      (pss_cons (ps_expr (kbm0 (K := K) PySem.F.plainAttrs_list PySem.F.slot_list_reverse PySem.F.type_list_reverse mt_reverse (pv 7)))
      (pss_cons (ps_if (PW.pt (pw_or (pt_cmpR (kneD (K := K) hu64) (pv 6) (pe_lst (pa_cons (pe_tup (pa_cons pe_int (pa_cons pe_str pa_nil))) (pa_cons (pe_tup (pa_cons pe_int (pa_cons pe_str pa_nil))) pa_nil))) (nomark _)) (pw_or1 (pt_cmpR (kneD (K := K) hu64) (pe_call (ok_colors_taken T) (hr.mono (by decide)) rfl T.g_colors_taken T.k_colors_taken T.n_colors_taken .nil pass0 (pa_cons (pv 6) (pa_cons (pe_lst pa_nil) pa_nil))) (pe_lst pa_nil) (nomark _))))) (pss_one (ps_ret pe_bl)) pss_nil)
      (pss_one (ps_ret (pe_cmpR (keqD (K := K) hu64) (pe_call (ok_lineup_after T) (hr.mono (by decide)) rfl T.g_lineup_after T.k_lineup_after T.n_lineup_after .nil pass0 (pa_cons (pv 6) (pa_cons (pe_lst (pa_cons pe_int (pa_cons pe_int pa_nil))) pa_nil))) (pe_lst (pa_cons (pe_tup (pa_cons pe_int (pa_cons pe_str pa_nil))) (pa_cons (pe_tup (pa_cons pe_int (pa_cons pe_str pa_nil))) pa_nil))) (nomark _)))))))))), ?_⟩
    walk_at "rd"
    refine ⟨l, ns, 6, rfl, hS, hz, fun C H1 cs hC s1 gC cz => ?_⟩
    walk_at "rd"
    refine rd_forR (n := ((cs.length : Nat) : Int)) (fun H2 => H2 = H1) (fun R q => ?_) (by omega) (by omega) ?_
    · walk_at "rd"
      rw [List.length_map]
      exact q _ rfl
    rintro _ rfl
    refine for_range (lo := 0) (n := ((cs.length : Nat) : Int).toNat) (fun i σ H' => ∃ x2 x3 x4 x5 x6 x7, σ = [some (.ref l), some (.ref C), x2, x3, x4, x5, x6, x7] ∧ Same H H' ∧ H' C = some (.lst (cs.map V.int))) ⟨none, none, none, none, none, none, rfl, s1, gC⟩ ?_ ?_
    · rintro i σ H' hi ⟨x2, x3, x4, x5, x6, x7, rfl, s2, gC2⟩
      have hi2 : i < cs.length := by omega
      have e0 : (0 : Int) + (i : Int) = (i : Int) := Int.zero_add _
      rw [e0]
      walk_at "rd"
      refine rd_ixL gC2 (atI_nat (by rw [List.getElem?_map, List.getElem?_eq_getElem hi2]; rfl)) ?_
      walk_at "rd"
      refine ⟨_, _, rfl, by omega, by omega, fun p H3 hp S3 f3 => ?_⟩
      have s3 : Same H' H3 := fun b o e => by rw [f3 b (ne_of_none e hp)]; exact e
      have hCp : C ≠ p := ne_of_none gC2 hp
      have hp0 := s2.free hp
      have s03 := s2.trans s3
      walk_at "rd"
      refine ⟨p, l, ns, rfl, S3, hS.same s03, hz, fun L H5 r hL s5 S5 hR hV => ?_⟩
      have s05 : Same H H5 := fun b o e => s5 _ _ (s03 _ _ e) (ne_of_none e hp0)
      have gC5 := s5 _ _ (s3 _ _ gC2) hCp
      have hL0 := s03.free hL
      have nCL : C ≠ L := ne_of_none (s3 _ _ gC2) hL
      walk_at "rd"
      refine rd_teM (fun x H6 => ∃ m : Nat, x = vN m ∧ m ≤ 200 ∧ Same H5 H6) (fun R q => ?_) ?_
      · refine rd_ifE ?_
        walk_at "rd"
        refine ⟨Nat.zero_le _, fun q1 hq1 => ?_⟩
        have n1 := sNew (o := .lst []) hq1
        refine rd_eqD2 (d := dI ns) (e := dI []) (.lst ((hS.same s05).same n1).seq (dp_ints ns)) (.lst (SqL.of upd_same) .nil) (shp_ints _) (shp_ints _) (eqv_nil ns) ?_
        walk_at "rd"
        refine rd_dec (fun _ => ?_) fun _ => ?_
        · walk_at "rd"
          exact q _ _ ⟨4, rfl, by decide, n1⟩
        · walk_at "rd"
          refine ⟨by show 2 ≤ sizeLine; decide, fun b hb => ?_⟩
          have n2 := n1.trans (sNew (o := .lst [.int 200, .int 40]) hb)
          walk_at "rd"
          refine Or.inr ⟨_, rfl, ?_⟩
          by_cases c : (0 : Int) < (i : Int)
          · rw [if_pos (decide_eq_true c)]
            exact rd_ixL upd_same (atI_nat (j := 1) rfl) (q _ _ ⟨40, rfl, by decide, n2⟩)
          · rw [if_neg (by rw [decide_eq_false c]; decide)]
            exact rd_ixL upd_same (atI_nat (j := 0) rfl) (q _ _ ⟨200, rfl, by decide, n2⟩)
      rintro _ H6 ⟨m, rfl, hm, s6⟩
      have hR6 := hR.same s6
      obtain ⟨ts, hl6, ht6⟩ := id hR6
      have s06 := s05.trans s6
      walk_at "rd"
      rw [List.length_map, ht6.len]
      refine ⟨p, r.length, m, rfl, S5.same s6, hV.n1, hV.n2, by omega, fun Sq H7 ks hSq s7 S7 gSq hlt hlen => ?_⟩
      walk_at "rd"
      have hR7 : RowAt H7 L r := rowS hR6 (S5.same s6) s7
      refine ⟨p, L, Sq, r, ks, rfl, S7, hR7, hV, gSq, hlt, by omega, (S5.same s6).not_none hSq, ne_of_none hl6 hSq, fun H8 k8 => ?_⟩
      walk_at "rd"
      refine ⟨_, _, _, _, _, _, rfl, fun b o e => ?_, ?_⟩
      · have nbp := ne_of_none e hp0
        exact k8 _ _ (s7 _ _ (s06 _ _ e) nbp) nbp (ne_of_none e hL0) (ne_of_none (s06 _ _ e) hSq)
      · exact k8 _ _ (s7 _ _ (s6 _ _ gC5) hCp) hCp nCL (ne_of_none (s6 _ _ gC5) hSq)
    · rintro σ H' ⟨x2, x3, x4, x5, x6, x7, rfl, s2, gC2⟩
      walk_at "rd"
      have eb : ([V.int 1, V.str (Str.ofString "b")] : List V) = pr (1, 98) := by rfl
      have ea : ([V.int 0, V.str (Str.ofString "a")] : List V) = pr (0, 97) := by rfl
      have eb0 : ([V.int 0, V.str (Str.ofString "b")] : List V) = pr (0, 98) := by rfl
      have V0 : Vr [(1, 98), (0, 97)] := ⟨by decide, by decide, by decide, List.Perm.swap _ _ _⟩
      refine ⟨by show 2 ≤ sizeLine; decide, fun t1 h1 => ?_⟩
      walk_at "rd"
      refine ⟨by show 2 ≤ sizeLine; decide, fun t2 h2 => ?_⟩
      walk_at "rd"
      refine ⟨by show 2 ≤ sizeLine; decide, fun PL h3 => ?_⟩
      rw [eb, ea] at *
      have hR : RowAt (upd (upd (upd H' t1 (.tup (pr (1, 98)))) t2 (.tup (pr (0, 97)))) PL (.lst [.ref t1, .ref t2])) PL [(1, 98), (0, 97)] :=
        row2 (sNew h3 _ _ (sNew h2 _ _ upd_same)) (sNew h3 _ _ upd_same) upd_same
      generalize upd (upd (upd H' t1 (.tup (pr (1, 98)))) t2 (.tup (pr (0, 97)))) PL (.lst [.ref t1, .ref t2]) = G at hR
      walk_at "rd"
      refine ⟨Nat.zero_le _, fun em hem => ?_⟩
      have n1 := sNew (o := .lst []) hem
      walk_at "rd"
      refine ⟨PL, em, _, [], rfl, hR.same n1, V0, upd_same, (fun p hp => absurd hp List.not_mem_nil), fun B H2 hB s2 hRB => ?_⟩
      walk_at "rd"
      obtain ⟨us, gB, _⟩ := id hRB
      refine ⟨Or.inl ⟨rfl, _, SqL.of gB⟩, ?_⟩
      refine ⟨B, _, rfl, rfl, gB, ?_⟩
      have s3 : Same G (upd H2 B (.lst (us.map V.ref).reverse)) := sUpd (n1.trans s2) (n1.free hB)
      generalize upd H2 B (.lst (us.map V.ref).reverse) = G3 at s3
      have hR3 := hR.same s3
      walk_at "rd"
      refine ⟨by show 2 ≤ sizeLine; decide, fun t4 h4 => ?_⟩
      walk_at "rd"
      refine ⟨by show 2 ≤ sizeLine; decide, fun t5 h5 => ?_⟩
      walk_at "rd"
      refine ⟨by show 2 ≤ sizeLine; decide, fun P2 h6 => ?_⟩
      have s6 := (sNew h4).trans ((sNew h5).trans (sNew (o := .lst [.ref t4, .ref t5]) h6))
      have c0 : Cok [(1, 98), (0, 97)] := by unfold Cok; decide
      refine rd_neD (d := dR [(1, 98), (0, 97)]) (hR3.same s6).dp (RowAt.dp (row2 (e := (1, 98)) (f := (0, 97)) (sNew h6 _ _ (sNew h5 _ _ upd_same)) (sNew h6 _ _ upd_same) upd_same)) (shp_row _ c0) ?_
      have hR6 := hR3.same s6
      generalize upd (upd (upd G3 t4 _) t5 _) P2 _ = G6 at hR6
      walk_at "rd"
      refine ⟨Nat.zero_le _, fun em2 hem2 => ?_⟩
      have n7 := sNew (o := .lst []) hem2
      walk_at "rd"
      refine ⟨PL, em2, _, [], rfl, hR6.same n7, V0, upd_same, (fun p hp => absurd hp List.not_mem_nil), by decide, fun A H8 hA s8 gA => ?_⟩
      walk_at "rd"
      refine ⟨Nat.zero_le _, fun em3 hem3 => ?_⟩
      have n9 := sNew (o := .lst []) hem3
      refine rd_neD (d := .list []) (.lst (SqL.of (n9 _ _ gA)) .nil) (.lst (SqL.of upd_same) .nil) (by decide) ?_
      have hR9 := ((hR6.same n7).same s8).same n9
      generalize upd H8 em3 _ = G9 at hR9
      walk_at "rd"
      refine ⟨by show 2 ≤ sizeLine; decide, fun c hc => ?_⟩
      have n10 := sNew (o := .lst [V.int 0, V.int 1]) hc
      walk_at "rd"
      refine ⟨PL, c, _, [0, 1], rfl, hR9.same n10, V0, upd_same, by decide, fun Lf Hf hLf sf hRf => ?_⟩
      walk_at "rd"
      refine ⟨by show 2 ≤ sizeLine; decide, fun t7 h7 => ?_⟩
      walk_at "rd"
      refine ⟨by show 2 ≤ sizeLine; decide, fun t8 h8 => ?_⟩
      walk_at "rd"
      refine ⟨by show 2 ≤ sizeLine; decide, fun P3 h9 => ?_⟩
      have s11 := (sNew h7).trans ((sNew h8).trans (sNew (o := .lst [.ref t7, .ref t8]) h9))
      have c1 : Cok [(1, 98), (0, 98)] := by unfold Cok; decide
      have hR11 := hRf.same s11
      have ea : apps [(1, 98), (0, 97)] [0, 1] = [(1, 98), (0, 98)] := by decide
      rw [ea] at hR11
      refine rd_eqD (d := dR [(1, 98), (0, 98)]) hR11.dp (RowAt.dp (row2 (e := (1, 98)) (f := (0, 98)) (sNew h9 _ _ (sNew h8 _ _ upd_same)) (sNew h9 _ _ upd_same) upd_same)) (shp_row _ c1) ?_
      exact kq _
end
theorem all_mk {l : PySem.W.OpenLaw} {w : World} {K : PySem.W.Frag} {h : Heap} {mg : Str → Option Value} {fa : Addr} (X : K.In h) (G : h.Ns mainGlobals mg) (hfa : mg "law" = some (.ref fa))
    {f__law_cells : Addr} {od__law_cells an__law_cells : Option Addr} {sl__law_cells : Array (Option Value)} {oc__law_cells kV__law_cells dc__law_cells pm__law_cells cd__law_cells ct__law_cells : Value}
    {f_is_integer : Addr} {od_is_integer an_is_integer : Option Addr} {sl_is_integer : Array (Option Value)} {oc_is_integer kV_is_integer dc_is_integer pm_is_integer cd_is_integer ct_is_integer : Value}
    {f_is_color : Addr} {od_is_color an_is_color : Option Addr} {sl_is_color : Array (Option Value)} {oc_is_color kV_is_color dc_is_color pm_is_color cd_is_color ct_is_color : Value}
    {f_is_colored_integer : Addr} {od_is_colored_integer an_is_colored_integer : Option Addr} {sl_is_colored_integer : Array (Option Value)} {oc_is_colored_integer kV_is_colored_integer dc_is_colored_integer pm_is_colored_integer cd_is_colored_integer ct_is_colored_integer : Value}
    {f_is_lineup : Addr} {od_is_lineup an_is_lineup : Option Addr} {sl_is_lineup : Array (Option Value)} {oc_is_lineup kV_is_lineup dc_is_lineup pm_is_lineup cd_is_lineup ct_is_lineup : Value}
    {f_check_lineup : Addr} {od_check_lineup an_check_lineup : Option Addr} {sl_check_lineup : Array (Option Value)} {oc_check_lineup kV_check_lineup dc_check_lineup pm_check_lineup cd_check_lineup ct_check_lineup : Value}
    {f_is_person : Addr} {od_is_person an_is_person : Option Addr} {sl_is_person : Array (Option Value)} {oc_is_person kV_is_person dc_is_person pm_is_person cd_is_person ct_is_person : Value}
    {f_check_calls : Addr} {od_check_calls an_check_calls : Option Addr} {sl_check_calls : Array (Option Value)} {oc_check_calls kV_check_calls dc_check_calls pm_check_calls cd_check_calls ct_check_calls : Value}
    {f_first_other_color : Addr} {od_first_other_color an_first_other_color : Option Addr} {sl_first_other_color : Array (Option Value)} {oc_first_other_color kV_first_other_color dc_first_other_color pm_first_other_color cd_first_other_color ct_first_other_color : Value}
    {f_colors_by_person : Addr} {od_colors_by_person an_colors_by_person : Option Addr} {sl_colors_by_person : Array (Option Value)} {oc_colors_by_person kV_colors_by_person dc_colors_by_person pm_colors_by_person cd_colors_by_person ct_colors_by_person : Value}
    {f_apply_call : Addr} {od_apply_call an_apply_call : Option Addr} {sl_apply_call : Array (Option Value)} {oc_apply_call kV_apply_call dc_apply_call pm_apply_call cd_apply_call ct_apply_call : Value}
    {f_lineup_after : Addr} {od_lineup_after an_lineup_after : Option Addr} {sl_lineup_after : Array (Option Value)} {oc_lineup_after kV_lineup_after dc_lineup_after pm_lineup_after cd_lineup_after ct_lineup_after : Value}
    {f__law_source : Addr} {od__law_source an__law_source : Option Addr} {sl__law_source : Array (Option Value)} {oc__law_source kV__law_source dc__law_source pm__law_source cd__law_source ct__law_source : Value}
    {f__law_draw : Addr} {od__law_draw an__law_draw : Option Addr} {sl__law_draw : Array (Option Value)} {oc__law_draw kV__law_draw dc__law_draw pm__law_draw cd__law_draw ct__law_draw : Value}
    {f__law_row : Addr} {od__law_row an__law_row : Option Addr} {sl__law_row : Array (Option Value)} {oc__law_row kV__law_row dc__law_row pm__law_row cd__law_row ct__law_row : Value}
    {f__law_new_color : Addr} {od__law_new_color an__law_new_color : Option Addr} {sl__law_new_color : Array (Option Value)} {oc__law_new_color kV__law_new_color dc__law_new_color pm__law_new_color cd__law_new_color ct__law_new_color : Value}
    {f__law_after_one : Addr} {od__law_after_one an__law_after_one : Option Addr} {sl__law_after_one : Array (Option Value)} {oc__law_after_one kV__law_after_one dc__law_after_one pm__law_after_one cd__law_after_one ct__law_after_one : Value}
    {f__law_expected : Addr} {od__law_expected an__law_expected : Option Addr} {sl__law_expected : Array (Option Value)} {oc__law_expected kV__law_expected dc__law_expected pm__law_expected cd__law_expected ct__law_expected : Value}
    {f__law_same : Addr} {od__law_same an__law_same : Option Addr} {sl__law_same : Array (Option Value)} {oc__law_same kV__law_same dc__law_same pm__law_same cd__law_same ct__law_same : Value}
    {f_colors_taken : Addr} {od_colors_taken an_colors_taken : Option Addr} {sl_colors_taken : Array (Option Value)} {oc_colors_taken kV_colors_taken dc_colors_taken pm_colors_taken cd_colors_taken ct_colors_taken : Value}
    {f__law_holds : Addr} {od__law_holds an__law_holds : Option Addr} {sl__law_holds : Array (Option Value)} {oc__law_holds kV__law_holds dc__law_holds pm__law_holds cd__law_holds ct__law_holds : Value}
    {f__law_sequence : Addr} {od__law_sequence an__law_sequence : Option Addr} {sl__law_sequence : Array (Option Value)} {oc__law_sequence kV__law_sequence dc__law_sequence pm__law_sequence cd__law_sequence ct__law_sequence : Value}
    {f_law : Addr} {od_law an_law : Option Addr} {sl_law : Array (Option Value)} {oc_law kV_law dc_law pm_law cd_law ct_law : Value}
    {t_MOST_PEOPLE : Tok}
    (a__law_cells : PySem.W.nsIn K mainGlobals "_law_cells" = some (some (.ref f__law_cells)))
    (l__law_cells : K.lookup f__law_cells = some ⟨oc__law_cells, od__law_cells, .func (PySem.W.fnOf "_law_cells" "_law_cells" (defArgs s__law_cells) (defBody s__law_cells) (defScope s__law_cells) .none kV__law_cells dc__law_cells pm__law_cells an__law_cells cd__law_cells ct__law_cells), sl__law_cells⟩)
    (c__law_cells : PySem.W.codeIn K cd__law_cells "_law_cells" = true) (k__law_cells : PySem.W.keepIn K (.ref f__law_cells) = true)
    (a_is_integer : PySem.W.nsIn K mainGlobals "is_integer" = some (some (.ref f_is_integer)))
    (l_is_integer : K.lookup f_is_integer = some ⟨oc_is_integer, od_is_integer, .func (PySem.W.fnOf "is_integer" "is_integer" (defArgs s_is_integer) (defBody s_is_integer) (defScope s_is_integer) .none kV_is_integer dc_is_integer pm_is_integer an_is_integer cd_is_integer ct_is_integer), sl_is_integer⟩)
    (c_is_integer : PySem.W.codeIn K cd_is_integer "is_integer" = true) (k_is_integer : PySem.W.keepIn K (.ref f_is_integer) = true)
    (a_is_color : PySem.W.nsIn K mainGlobals "is_color" = some (some (.ref f_is_color)))
    (l_is_color : K.lookup f_is_color = some ⟨oc_is_color, od_is_color, .func (PySem.W.fnOf "is_color" "is_color" (defArgs s_is_color) (defBody s_is_color) (defScope s_is_color) .none kV_is_color dc_is_color pm_is_color an_is_color cd_is_color ct_is_color), sl_is_color⟩)
    (c_is_color : PySem.W.codeIn K cd_is_color "is_color" = true) (k_is_color : PySem.W.keepIn K (.ref f_is_color) = true)
    (a_is_colored_integer : PySem.W.nsIn K mainGlobals "is_colored_integer" = some (some (.ref f_is_colored_integer)))
    (l_is_colored_integer : K.lookup f_is_colored_integer = some ⟨oc_is_colored_integer, od_is_colored_integer, .func (PySem.W.fnOf "is_colored_integer" "is_colored_integer" (defArgs s_is_colored_integer) (defBody s_is_colored_integer) (defScope s_is_colored_integer) .none kV_is_colored_integer dc_is_colored_integer pm_is_colored_integer an_is_colored_integer cd_is_colored_integer ct_is_colored_integer), sl_is_colored_integer⟩)
    (c_is_colored_integer : PySem.W.codeIn K cd_is_colored_integer "is_colored_integer" = true) (k_is_colored_integer : PySem.W.keepIn K (.ref f_is_colored_integer) = true)
    (a_is_lineup : PySem.W.nsIn K mainGlobals "is_lineup" = some (some (.ref f_is_lineup)))
    (l_is_lineup : K.lookup f_is_lineup = some ⟨oc_is_lineup, od_is_lineup, .func (PySem.W.fnOf "is_lineup" "is_lineup" (defArgs s_is_lineup) (defBody s_is_lineup) (defScope s_is_lineup) .none kV_is_lineup dc_is_lineup pm_is_lineup an_is_lineup cd_is_lineup ct_is_lineup), sl_is_lineup⟩)
    (c_is_lineup : PySem.W.codeIn K cd_is_lineup "is_lineup" = true) (k_is_lineup : PySem.W.keepIn K (.ref f_is_lineup) = true)
    (a_check_lineup : PySem.W.nsIn K mainGlobals "check_lineup" = some (some (.ref f_check_lineup)))
    (l_check_lineup : K.lookup f_check_lineup = some ⟨oc_check_lineup, od_check_lineup, .func (PySem.W.fnOf "check_lineup" "check_lineup" (defArgs s_check_lineup) (defBody s_check_lineup) (defScope s_check_lineup) .none kV_check_lineup dc_check_lineup pm_check_lineup an_check_lineup cd_check_lineup ct_check_lineup), sl_check_lineup⟩)
    (c_check_lineup : PySem.W.codeIn K cd_check_lineup "check_lineup" = true) (k_check_lineup : PySem.W.keepIn K (.ref f_check_lineup) = true)
    (a_is_person : PySem.W.nsIn K mainGlobals "is_person" = some (some (.ref f_is_person)))
    (l_is_person : K.lookup f_is_person = some ⟨oc_is_person, od_is_person, .func (PySem.W.fnOf "is_person" "is_person" (defArgs s_is_person) (defBody s_is_person) (defScope s_is_person) .none kV_is_person dc_is_person pm_is_person an_is_person cd_is_person ct_is_person), sl_is_person⟩)
    (c_is_person : PySem.W.codeIn K cd_is_person "is_person" = true) (k_is_person : PySem.W.keepIn K (.ref f_is_person) = true)
    (a_check_calls : PySem.W.nsIn K mainGlobals "check_calls" = some (some (.ref f_check_calls)))
    (l_check_calls : K.lookup f_check_calls = some ⟨oc_check_calls, od_check_calls, .func (PySem.W.fnOf "check_calls" "check_calls" (defArgs s_check_calls) (defBody s_check_calls) (defScope s_check_calls) .none kV_check_calls dc_check_calls pm_check_calls an_check_calls cd_check_calls ct_check_calls), sl_check_calls⟩)
    (c_check_calls : PySem.W.codeIn K cd_check_calls "check_calls" = true) (k_check_calls : PySem.W.keepIn K (.ref f_check_calls) = true)
    (a_first_other_color : PySem.W.nsIn K mainGlobals "first_other_color" = some (some (.ref f_first_other_color)))
    (l_first_other_color : K.lookup f_first_other_color = some ⟨oc_first_other_color, od_first_other_color, .func (PySem.W.fnOf "first_other_color" "first_other_color" (defArgs s_first_other_color) (defBody s_first_other_color) (defScope s_first_other_color) .none kV_first_other_color dc_first_other_color pm_first_other_color an_first_other_color cd_first_other_color ct_first_other_color), sl_first_other_color⟩)
    (c_first_other_color : PySem.W.codeIn K cd_first_other_color "first_other_color" = true) (k_first_other_color : PySem.W.keepIn K (.ref f_first_other_color) = true)
    (a_colors_by_person : PySem.W.nsIn K mainGlobals "colors_by_person" = some (some (.ref f_colors_by_person)))
    (l_colors_by_person : K.lookup f_colors_by_person = some ⟨oc_colors_by_person, od_colors_by_person, .func (PySem.W.fnOf "colors_by_person" "colors_by_person" (defArgs s_colors_by_person) (defBody s_colors_by_person) (defScope s_colors_by_person) .none kV_colors_by_person dc_colors_by_person pm_colors_by_person an_colors_by_person cd_colors_by_person ct_colors_by_person), sl_colors_by_person⟩)
    (c_colors_by_person : PySem.W.codeIn K cd_colors_by_person "colors_by_person" = true) (k_colors_by_person : PySem.W.keepIn K (.ref f_colors_by_person) = true)
    (a_apply_call : PySem.W.nsIn K mainGlobals "apply_call" = some (some (.ref f_apply_call)))
    (l_apply_call : K.lookup f_apply_call = some ⟨oc_apply_call, od_apply_call, .func (PySem.W.fnOf "apply_call" "apply_call" (defArgs s_apply_call) (defBody s_apply_call) (defScope s_apply_call) .none kV_apply_call dc_apply_call pm_apply_call an_apply_call cd_apply_call ct_apply_call), sl_apply_call⟩)
    (c_apply_call : PySem.W.codeIn K cd_apply_call "apply_call" = true) (k_apply_call : PySem.W.keepIn K (.ref f_apply_call) = true)
    (a_lineup_after : PySem.W.nsIn K mainGlobals "lineup_after" = some (some (.ref f_lineup_after)))
    (l_lineup_after : K.lookup f_lineup_after = some ⟨oc_lineup_after, od_lineup_after, .func (PySem.W.fnOf "lineup_after" "lineup_after" (defArgs s_lineup_after) (defBody s_lineup_after) (defScope s_lineup_after) .none kV_lineup_after dc_lineup_after pm_lineup_after an_lineup_after cd_lineup_after ct_lineup_after), sl_lineup_after⟩)
    (c_lineup_after : PySem.W.codeIn K cd_lineup_after "lineup_after" = true) (k_lineup_after : PySem.W.keepIn K (.ref f_lineup_after) = true)
    (a__law_source : PySem.W.nsIn K mainGlobals "_law_source" = some (some (.ref f__law_source)))
    (l__law_source : K.lookup f__law_source = some ⟨oc__law_source, od__law_source, .func (PySem.W.fnOf "_law_source" "_law_source" (defArgs s__law_source) (defBody s__law_source) (defScope s__law_source) .none kV__law_source dc__law_source pm__law_source an__law_source cd__law_source ct__law_source), sl__law_source⟩)
    (c__law_source : PySem.W.codeIn K cd__law_source "_law_source" = true) (k__law_source : PySem.W.keepIn K (.ref f__law_source) = true)
    (a__law_draw : PySem.W.nsIn K mainGlobals "_law_draw" = some (some (.ref f__law_draw)))
    (l__law_draw : K.lookup f__law_draw = some ⟨oc__law_draw, od__law_draw, .func (PySem.W.fnOf "_law_draw" "_law_draw" (defArgs s__law_draw) (defBody s__law_draw) (defScope s__law_draw) .none kV__law_draw dc__law_draw pm__law_draw an__law_draw cd__law_draw ct__law_draw), sl__law_draw⟩)
    (c__law_draw : PySem.W.codeIn K cd__law_draw "_law_draw" = true) (k__law_draw : PySem.W.keepIn K (.ref f__law_draw) = true)
    (a__law_row : PySem.W.nsIn K mainGlobals "_law_row" = some (some (.ref f__law_row)))
    (l__law_row : K.lookup f__law_row = some ⟨oc__law_row, od__law_row, .func (PySem.W.fnOf "_law_row" "_law_row" (defArgs s__law_row) (defBody s__law_row) (defScope s__law_row) .none kV__law_row dc__law_row pm__law_row an__law_row cd__law_row ct__law_row), sl__law_row⟩)
    (c__law_row : PySem.W.codeIn K cd__law_row "_law_row" = true) (k__law_row : PySem.W.keepIn K (.ref f__law_row) = true)
    (a__law_new_color : PySem.W.nsIn K mainGlobals "_law_new_color" = some (some (.ref f__law_new_color)))
    (l__law_new_color : K.lookup f__law_new_color = some ⟨oc__law_new_color, od__law_new_color, .func (PySem.W.fnOf "_law_new_color" "_law_new_color" (defArgs s__law_new_color) (defBody s__law_new_color) (defScope s__law_new_color) .none kV__law_new_color dc__law_new_color pm__law_new_color an__law_new_color cd__law_new_color ct__law_new_color), sl__law_new_color⟩)
    (c__law_new_color : PySem.W.codeIn K cd__law_new_color "_law_new_color" = true) (k__law_new_color : PySem.W.keepIn K (.ref f__law_new_color) = true)
    (a__law_after_one : PySem.W.nsIn K mainGlobals "_law_after_one" = some (some (.ref f__law_after_one)))
    (l__law_after_one : K.lookup f__law_after_one = some ⟨oc__law_after_one, od__law_after_one, .func (PySem.W.fnOf "_law_after_one" "_law_after_one" (defArgs s__law_after_one) (defBody s__law_after_one) (defScope s__law_after_one) .none kV__law_after_one dc__law_after_one pm__law_after_one an__law_after_one cd__law_after_one ct__law_after_one), sl__law_after_one⟩)
    (c__law_after_one : PySem.W.codeIn K cd__law_after_one "_law_after_one" = true) (k__law_after_one : PySem.W.keepIn K (.ref f__law_after_one) = true)
    (a__law_expected : PySem.W.nsIn K mainGlobals "_law_expected" = some (some (.ref f__law_expected)))
    (l__law_expected : K.lookup f__law_expected = some ⟨oc__law_expected, od__law_expected, .func (PySem.W.fnOf "_law_expected" "_law_expected" (defArgs s__law_expected) (defBody s__law_expected) (defScope s__law_expected) .none kV__law_expected dc__law_expected pm__law_expected an__law_expected cd__law_expected ct__law_expected), sl__law_expected⟩)
    (c__law_expected : PySem.W.codeIn K cd__law_expected "_law_expected" = true) (k__law_expected : PySem.W.keepIn K (.ref f__law_expected) = true)
    (a__law_same : PySem.W.nsIn K mainGlobals "_law_same" = some (some (.ref f__law_same)))
    (l__law_same : K.lookup f__law_same = some ⟨oc__law_same, od__law_same, .func (PySem.W.fnOf "_law_same" "_law_same" (defArgs s__law_same) (defBody s__law_same) (defScope s__law_same) .none kV__law_same dc__law_same pm__law_same an__law_same cd__law_same ct__law_same), sl__law_same⟩)
    (c__law_same : PySem.W.codeIn K cd__law_same "_law_same" = true) (k__law_same : PySem.W.keepIn K (.ref f__law_same) = true)
    (a_colors_taken : PySem.W.nsIn K mainGlobals "colors_taken" = some (some (.ref f_colors_taken)))
    (l_colors_taken : K.lookup f_colors_taken = some ⟨oc_colors_taken, od_colors_taken, .func (PySem.W.fnOf "colors_taken" "colors_taken" (defArgs s_colors_taken) (defBody s_colors_taken) (defScope s_colors_taken) .none kV_colors_taken dc_colors_taken pm_colors_taken an_colors_taken cd_colors_taken ct_colors_taken), sl_colors_taken⟩)
    (c_colors_taken : PySem.W.codeIn K cd_colors_taken "colors_taken" = true) (k_colors_taken : PySem.W.keepIn K (.ref f_colors_taken) = true)
    (a__law_holds : PySem.W.nsIn K mainGlobals "_law_holds" = some (some (.ref f__law_holds)))
    (l__law_holds : K.lookup f__law_holds = some ⟨oc__law_holds, od__law_holds, .func (PySem.W.fnOf "_law_holds" "_law_holds" (defArgs s__law_holds) (defBody s__law_holds) (defScope s__law_holds) .none kV__law_holds dc__law_holds pm__law_holds an__law_holds cd__law_holds ct__law_holds), sl__law_holds⟩)
    (c__law_holds : PySem.W.codeIn K cd__law_holds "_law_holds" = true) (k__law_holds : PySem.W.keepIn K (.ref f__law_holds) = true)
    (a__law_sequence : PySem.W.nsIn K mainGlobals "_law_sequence" = some (some (.ref f__law_sequence)))
    (l__law_sequence : K.lookup f__law_sequence = some ⟨oc__law_sequence, od__law_sequence, .func (PySem.W.fnOf "_law_sequence" "_law_sequence" (defArgs s__law_sequence) (defBody s__law_sequence) (defScope s__law_sequence) .none kV__law_sequence dc__law_sequence pm__law_sequence an__law_sequence cd__law_sequence ct__law_sequence), sl__law_sequence⟩)
    (c__law_sequence : PySem.W.codeIn K cd__law_sequence "_law_sequence" = true) (k__law_sequence : PySem.W.keepIn K (.ref f__law_sequence) = true)
    (a_law : PySem.W.nsIn K mainGlobals "law" = some (some (.ref f_law)))
    (l_law : K.lookup f_law = some ⟨oc_law, od_law, .func (PySem.W.fnOf "law" "law" (defArgs s_law) (defBody s_law) (defScope s_law) .none kV_law dc_law pm_law an_law cd_law ct_law), sl_law⟩)
    (c_law : PySem.W.codeIn K cd_law "law" = true) (k_law : PySem.W.keepIn K (.ref f_law) = true)
    (a_MOST_PEOPLE : PySem.W.nsIn K mainGlobals "MOST_PEOPLE" = some (some (.int 60 t_MOST_PEOPLE)))
    (z_all : PySem.W.nsIn K mainGlobals "all" = some none)
    (z_bool : PySem.W.nsIn K mainGlobals "bool" = some none)
    (z_enumerate : PySem.W.nsIn K mainGlobals "enumerate" = some none)
    (z_int : PySem.W.nsIn K mainGlobals "int" = some none)
    (z_isinstance : PySem.W.nsIn K mainGlobals "isinstance" = some none)
    (z_len : PySem.W.nsIn K mainGlobals "len" = some none)
    (z_list : PySem.W.nsIn K mainGlobals "list" = some none)
    (z_max : PySem.W.nsIn K mainGlobals "max" = some none)
    (z_min : PySem.W.nsIn K mainGlobals "min" = some none)
    (z_range : PySem.W.nsIn K mainGlobals "range" = some none)
    (z_repr : PySem.W.nsIn K mainGlobals "repr" = some none)
    (z_sorted : PySem.W.nsIn K mainGlobals "sorted" = some none)
    (z_str : PySem.W.nsIn K mainGlobals "str" = some none)
    (z_tuple : PySem.W.nsIn K mainGlobals "tuple" = some none)
    (z_type : PySem.W.nsIn K mainGlobals "type" = some none)
    (z_zip : PySem.W.nsIn K mainGlobals "zip" = some none)
    : ∃ fd : FuncData, (∀ (s : Shared) (v : Value), BindsTo s fd ⟨[v], []⟩ [("script", v)]) ∧ ∀ base : Heap, K.In base → base.Ns mainGlobals mg → FnG l.prog w K mg base 7 fa fd ["script"] (sp_law K) := by
  have e := hfa.symm.trans (PySem.W.mg_of X G a_law)
  cases e
  have F__law_cells := fun_mk (st := s__law_cells) l__law_cells c__law_cells k__law_cells
  have n__law_cells := F__law_cells.binds (ps := ["script", "count"]) fun _ _ _ _ _ _ us hl => match us, hl with | [_, _], _ => rfl
  have F_is_integer := fun_mk (st := s_is_integer) l_is_integer c_is_integer k_is_integer
  have n_is_integer := F_is_integer.binds (ps := ["value"]) fun _ _ _ _ _ _ us hl => match us, hl with | [_], _ => rfl
  have F_is_color := fun_mk (st := s_is_color) l_is_color c_is_color k_is_color
  have n_is_color := F_is_color.binds (ps := ["value"]) fun _ _ _ _ _ _ us hl => match us, hl with | [_], _ => rfl
  have F_is_colored_integer := fun_mk (st := s_is_colored_integer) l_is_colored_integer c_is_colored_integer k_is_colored_integer
  have n_is_colored_integer := F_is_colored_integer.binds (ps := ["value"]) fun _ _ _ _ _ _ us hl => match us, hl with | [_], _ => rfl
  have F_is_lineup := fun_mk (st := s_is_lineup) l_is_lineup c_is_lineup k_is_lineup
  have n_is_lineup := F_is_lineup.binds (ps := ["value"]) fun _ _ _ _ _ _ us hl => match us, hl with | [_], _ => rfl
  have F_check_lineup := fun_mk (st := s_check_lineup) l_check_lineup c_check_lineup k_check_lineup
  have n_check_lineup := F_check_lineup.binds (ps := ["value"]) fun _ _ _ _ _ _ us hl => match us, hl with | [_], _ => rfl
  have F_is_person := fun_mk (st := s_is_person) l_is_person c_is_person k_is_person
  have n_is_person := F_is_person.binds (ps := ["lineup", "value"]) fun _ _ _ _ _ _ us hl => match us, hl with | [_, _], _ => rfl
  have F_check_calls := fun_mk (st := s_check_calls) l_check_calls c_check_calls k_check_calls
  have n_check_calls := F_check_calls.binds (ps := ["lineup", "value"]) fun _ _ _ _ _ _ us hl => match us, hl with | [_, _], _ => rfl
  have F_first_other_color := fun_mk (st := s_first_other_color) l_first_other_color c_first_other_color k_first_other_color
  have n_first_other_color := F_first_other_color.binds (ps := ["lineup", "color"]) fun _ _ _ _ _ _ us hl => match us, hl with | [_, _], _ => rfl
  have F_colors_by_person := fun_mk (st := s_colors_by_person) l_colors_by_person c_colors_by_person k_colors_by_person
  have n_colors_by_person := F_colors_by_person.binds (ps := ["lineup"]) fun _ _ _ _ _ _ us hl => match us, hl with | [_], _ => rfl
  have F_apply_call := fun_mk (st := s_apply_call) l_apply_call c_apply_call k_apply_call
  have n_apply_call := F_apply_call.binds (ps := ["lineup", "person"]) fun _ _ _ _ _ _ us hl => match us, hl with | [_, _], _ => rfl
  have F_lineup_after := fun_mk (st := s_lineup_after) l_lineup_after c_lineup_after k_lineup_after
  have n_lineup_after := F_lineup_after.binds (ps := ["lineup", "calls"]) fun _ _ _ _ _ _ us hl => match us, hl with | [_, _], _ => rfl
  have kb_lineup_after_0_calls_lineup := F_lineup_after.kb (ps := ["lineup", "calls"]) (n := 0) (ks := ["calls", "lineup"]) (ix := [1, 0]) fun _ _ _ _ _ _ us ws h1 h2 => match us, ws, h1, h2 with | [], [_, _], _, _ => rfl
  have F__law_source := fun_mk (st := s__law_source) l__law_source c__law_source k__law_source
  have n__law_source := F__law_source.binds (ps := ["cell", "index"]) fun _ _ _ _ _ _ us hl => match us, hl with | [_, _], _ => rfl
  have F__law_draw := fun_mk (st := s__law_draw) l__law_draw c__law_draw k__law_draw
  have n__law_draw := F__law_draw.binds (ps := ["source", "count"]) fun _ _ _ _ _ _ us hl => match us, hl with | [_, _], _ => rfl
  have F__law_row := fun_mk (st := s__law_row) l__law_row c__law_row k__law_row
  have n__law_row := F__law_row.binds (ps := ["source", "script", "limit"]) fun _ _ _ _ _ _ us hl => match us, hl with | [_, _, _], _ => rfl
  have F__law_new_color := fun_mk (st := s__law_new_color) l__law_new_color c__law_new_color k__law_new_color
  have n__law_new_color := F__law_new_color.binds (ps := ["row", "who"]) fun _ _ _ _ _ _ us hl => match us, hl with | [_, _], _ => rfl
  have F__law_after_one := fun_mk (st := s__law_after_one) l__law_after_one c__law_after_one k__law_after_one
  have n__law_after_one := F__law_after_one.binds (ps := ["row", "who"]) fun _ _ _ _ _ _ us hl => match us, hl with | [_, _], _ => rfl
  have F__law_expected := fun_mk (st := s__law_expected) l__law_expected c__law_expected k__law_expected
  have n__law_expected := F__law_expected.binds (ps := ["row", "sequence"]) fun _ _ _ _ _ _ us hl => match us, hl with | [_, _], _ => rfl
  have F__law_same := fun_mk (st := s__law_same) l__law_same c__law_same k__law_same
  have n__law_same := F__law_same.binds (ps := ["value", "expected"]) fun _ _ _ _ _ _ us hl => match us, hl with | [_, _], _ => rfl
  have F_colors_taken := fun_mk (st := s_colors_taken) l_colors_taken c_colors_taken k_colors_taken
  have n_colors_taken := F_colors_taken.binds (ps := ["lineup", "calls"]) fun _ _ _ _ _ _ us hl => match us, hl with | [_, _], _ => rfl
  have kb_colors_taken_0_calls_lineup := F_colors_taken.kb (ps := ["lineup", "calls"]) (n := 0) (ks := ["calls", "lineup"]) (ix := [1, 0]) fun _ _ _ _ _ _ us ws h1 h2 => match us, ws, h1, h2 with | [], [_, _], _, _ => rfl
  have F__law_holds := fun_mk (st := s__law_holds) l__law_holds c__law_holds k__law_holds
  have n__law_holds := F__law_holds.binds (ps := ["source", "row", "sequence"]) fun _ _ _ _ _ _ us hl => match us, hl with | [_, _, _], _ => rfl
  have F__law_sequence := fun_mk (st := s__law_sequence) l__law_sequence c__law_sequence k__law_sequence
  have n__law_sequence := F__law_sequence.binds (ps := ["source", "size", "limit"]) fun _ _ _ _ _ _ us hl => match us, hl with | [_, _, _], _ => rfl
  have F_law := fun_mk (st := s_law) l_law c_law k_law
  have n_law := F_law.binds (ps := ["script"]) fun _ _ _ _ _ _ us hl => match us, hl with | [_], _ => rfl
  have T : Txt K mg { f__law_cells := _, d__law_cells := _, f_is_integer := _, d_is_integer := _, f_is_color := _, d_is_color := _, f_is_colored_integer := _, d_is_colored_integer := _, f_is_lineup := _, d_is_lineup := _, f_check_lineup := _, d_check_lineup := _, f_is_person := _, d_is_person := _, f_check_calls := _, d_check_calls := _, f_first_other_color := _, d_first_other_color := _, f_colors_by_person := _, d_colors_by_person := _, f_apply_call := _, d_apply_call := _, f_lineup_after := _, d_lineup_after := _, f__law_source := _, d__law_source := _, f__law_draw := _, d__law_draw := _, f__law_row := _, d__law_row := _, f__law_new_color := _, d__law_new_color := _, f__law_after_one := _, d__law_after_one := _, f__law_expected := _, d__law_expected := _, f__law_same := _, d__law_same := _, f_colors_taken := _, d_colors_taken := _, f__law_holds := _, d__law_holds := _, f__law_sequence := _, d__law_sequence := _, f_law := _, d_law := _, t_MOST_PEOPLE := t_MOST_PEOPLE } := {
    b_all := PySem.W.mg_none_of X G z_all,
    b_bool := PySem.W.mg_none_of X G z_bool,
    b_enumerate := PySem.W.mg_none_of X G z_enumerate,
    b_int := PySem.W.mg_none_of X G z_int,
    b_isinstance := PySem.W.mg_none_of X G z_isinstance,
    b_len := PySem.W.mg_none_of X G z_len,
    b_list := PySem.W.mg_none_of X G z_list,
    b_max := PySem.W.mg_none_of X G z_max,
    b_min := PySem.W.mg_none_of X G z_min,
    b_range := PySem.W.mg_none_of X G z_range,
    b_repr := PySem.W.mg_none_of X G z_repr,
    b_sorted := PySem.W.mg_none_of X G z_sorted,
    b_str := PySem.W.mg_none_of X G z_str,
    b_tuple := PySem.W.mg_none_of X G z_tuple,
    b_type := PySem.W.mg_none_of X G z_type,
    b_zip := PySem.W.mg_none_of X G z_zip,
    c_MOST_PEOPLE := PySem.W.mg_of X G a_MOST_PEOPLE,
    F__law_cells := F__law_cells,
    n__law_cells := n__law_cells,
    g__law_cells := PySem.W.mg_of X G a__law_cells,
    k__law_cells := k__law_cells,
    F_is_integer := F_is_integer,
    n_is_integer := n_is_integer,
    g_is_integer := PySem.W.mg_of X G a_is_integer,
    k_is_integer := k_is_integer,
    F_is_color := F_is_color,
    n_is_color := n_is_color,
    g_is_color := PySem.W.mg_of X G a_is_color,
    k_is_color := k_is_color,
    F_is_colored_integer := F_is_colored_integer,
    n_is_colored_integer := n_is_colored_integer,
    g_is_colored_integer := PySem.W.mg_of X G a_is_colored_integer,
    k_is_colored_integer := k_is_colored_integer,
    F_is_lineup := F_is_lineup,
    n_is_lineup := n_is_lineup,
    g_is_lineup := PySem.W.mg_of X G a_is_lineup,
    k_is_lineup := k_is_lineup,
    F_check_lineup := F_check_lineup,
    n_check_lineup := n_check_lineup,
    g_check_lineup := PySem.W.mg_of X G a_check_lineup,
    k_check_lineup := k_check_lineup,
    F_is_person := F_is_person,
    n_is_person := n_is_person,
    g_is_person := PySem.W.mg_of X G a_is_person,
    k_is_person := k_is_person,
    F_check_calls := F_check_calls,
    n_check_calls := n_check_calls,
    g_check_calls := PySem.W.mg_of X G a_check_calls,
    k_check_calls := k_check_calls,
    F_first_other_color := F_first_other_color,
    n_first_other_color := n_first_other_color,
    g_first_other_color := PySem.W.mg_of X G a_first_other_color,
    k_first_other_color := k_first_other_color,
    F_colors_by_person := F_colors_by_person,
    n_colors_by_person := n_colors_by_person,
    g_colors_by_person := PySem.W.mg_of X G a_colors_by_person,
    k_colors_by_person := k_colors_by_person,
    F_apply_call := F_apply_call,
    n_apply_call := n_apply_call,
    g_apply_call := PySem.W.mg_of X G a_apply_call,
    k_apply_call := k_apply_call,
    F_lineup_after := F_lineup_after,
    n_lineup_after := n_lineup_after,
    g_lineup_after := PySem.W.mg_of X G a_lineup_after,
    k_lineup_after := k_lineup_after,
    F__law_source := F__law_source,
    n__law_source := n__law_source,
    g__law_source := PySem.W.mg_of X G a__law_source,
    k__law_source := k__law_source,
    F__law_draw := F__law_draw,
    n__law_draw := n__law_draw,
    g__law_draw := PySem.W.mg_of X G a__law_draw,
    k__law_draw := k__law_draw,
    F__law_row := F__law_row,
    n__law_row := n__law_row,
    g__law_row := PySem.W.mg_of X G a__law_row,
    k__law_row := k__law_row,
    F__law_new_color := F__law_new_color,
    n__law_new_color := n__law_new_color,
    g__law_new_color := PySem.W.mg_of X G a__law_new_color,
    k__law_new_color := k__law_new_color,
    F__law_after_one := F__law_after_one,
    n__law_after_one := n__law_after_one,
    g__law_after_one := PySem.W.mg_of X G a__law_after_one,
    k__law_after_one := k__law_after_one,
    F__law_expected := F__law_expected,
    n__law_expected := n__law_expected,
    g__law_expected := PySem.W.mg_of X G a__law_expected,
    k__law_expected := k__law_expected,
    F__law_same := F__law_same,
    n__law_same := n__law_same,
    g__law_same := PySem.W.mg_of X G a__law_same,
    k__law_same := k__law_same,
    F_colors_taken := F_colors_taken,
    n_colors_taken := n_colors_taken,
    g_colors_taken := PySem.W.mg_of X G a_colors_taken,
    k_colors_taken := k_colors_taken,
    F__law_holds := F__law_holds,
    n__law_holds := n__law_holds,
    g__law_holds := PySem.W.mg_of X G a__law_holds,
    k__law_holds := k__law_holds,
    F__law_sequence := F__law_sequence,
    n__law_sequence := n__law_sequence,
    g__law_sequence := PySem.W.mg_of X G a__law_sequence,
    k__law_sequence := k__law_sequence,
    F_law := F_law,
    n_law := n_law,
    g_law := PySem.W.mg_of X G a_law,
    k_law := k_law,
    kb_colors_taken_0_calls_lineup := kb_colors_taken_0_calls_lineup,
    kb_lineup_after_0_calls_lineup := kb_lineup_after_0_calls_lineup }
  exact ⟨_, fun s v => .of_eq rfl, fun base _ _ => ok_law T⟩
theorem walk {l : PySem.W.OpenLaw} {q : Program} {loose : List Str} {XP : (Str → Option Value) → Heap → Prop} {YP : World → Heap → Prop} {d : DefRec} {K : Params → PySem.W.Frag} (hn : l.most = some 63) (hdf : d.params.defaults = [])
    (hY : ∀ (w : World) (h : Heap), YP w h → (K w.params).In h)
    (F : ∀ (w : World) (mg : Str → Option Value) (fa : Addr) (h : Heap), (K w.params).In h → h.Ns mainGlobals mg → mg d.name = some (.ref fa) →
      ∃ fd : FuncData, (∀ (s : Shared) (u : Value), BindsTo s fd ⟨[u], []⟩ [("script", u)]) ∧ ∀ base : Heap, (K w.params).In base → base.Ns mainGlobals mg → FnG l.prog w (K w.params) mg base 7 fa fd ["script"] (sp_law (K w.params))) :
    PySem.W.WalkO q loose XP YP l.row.toRowW d [] (fun f vs => PySem.call f vs) :=
  walk_ofG (n := 63) (k := 7) (x := "script") (sp := fun K => sp_law K) hn (by decide) hdf ⟨rfl, by decide, by decide⟩ hY F (fun _ _ a ns hl hO hS => ⟨a, ns, rfl, Scr.of hO hS, hl, fun _ => rfl⟩)
end K14
open PySem PySem.W PyProof.Rows
set_option maxRecDepth 100000 in
set_option maxHeartbeats 0 in
theorem PySem.Challenge.cw_lastother_k14_calls_applied_holds : PySem.Challenge.rw_lastother_k14_calls_applied.Holds := by
  w_on; o_law; k_head; (case hw => w_witness2)
  k_fill
  refine K14.walk (l := PySem.Challenge.rw_lastother_k14_calls_applied) rfl rfl (fun w h Y => PySem.W.kIn_of Y) ?F
  case F =>
    intro w mg fa h KX G hmg
    refine' K14.all_mk KX G hmg ?a__law_cells ?l__law_cells ?c__law_cells ?k__law_cells ?a_is_integer ?l_is_integer ?c_is_integer ?k_is_integer ?a_is_color ?l_is_color ?c_is_color ?k_is_color ?a_is_colored_integer ?l_is_colored_integer ?c_is_colored_integer ?k_is_colored_integer ?a_is_lineup ?l_is_lineup ?c_is_lineup ?k_is_lineup ?a_check_lineup ?l_check_lineup ?c_check_lineup ?k_check_lineup ?a_is_person ?l_is_person ?c_is_person ?k_is_person ?a_check_calls ?l_check_calls ?c_check_calls ?k_check_calls ?a_first_other_color ?l_first_other_color ?c_first_other_color ?k_first_other_color ?a_colors_by_person ?l_colors_by_person ?c_colors_by_person ?k_colors_by_person ?a_apply_call ?l_apply_call ?c_apply_call ?k_apply_call ?a_lineup_after ?l_lineup_after ?c_lineup_after ?k_lineup_after ?a__law_source ?l__law_source ?c__law_source ?k__law_source ?a__law_draw ?l__law_draw ?c__law_draw ?k__law_draw ?a__law_row ?l__law_row ?c__law_row ?k__law_row ?a__law_new_color ?l__law_new_color ?c__law_new_color ?k__law_new_color ?a__law_after_one ?l__law_after_one ?c__law_after_one ?k__law_after_one ?a__law_expected ?l__law_expected ?c__law_expected ?k__law_expected ?a__law_same ?l__law_same ?c__law_same ?k__law_same ?a_colors_taken ?l_colors_taken ?c_colors_taken ?k_colors_taken ?a__law_holds ?l__law_holds ?c__law_holds ?k__law_holds ?a__law_sequence ?l__law_sequence ?c__law_sequence ?k__law_sequence ?a_law ?l_law ?c_law ?k_law ?a_MOST_PEOPLE ?z_all ?z_bool ?z_enumerate ?z_int ?z_isinstance ?z_len ?z_list ?z_max ?z_min ?z_range ?z_repr ?z_sorted ?z_str ?z_tuple ?z_type ?z_zip
    (case a__law_cells => k_is)
    (case l__law_cells => k_is)
    (case c__law_cells => k_is)
    (case k__law_cells => k_is)
    (case a_is_integer => k_is)
    (case l_is_integer => k_is)
    (case c_is_integer => k_is)
    (case k_is_integer => k_is)
    (case a_is_color => k_is)
    (case l_is_color => k_is)
    (case c_is_color => k_is)
    (case k_is_color => k_is)
    (case a_is_colored_integer => k_is)
    (case l_is_colored_integer => k_is)
    (case c_is_colored_integer => k_is)
    (case k_is_colored_integer => k_is)
    (case a_is_lineup => k_is)
    (case l_is_lineup => k_is)
    (case c_is_lineup => k_is)
    (case k_is_lineup => k_is)
    (case a_check_lineup => k_is)
    (case l_check_lineup => k_is)
    (case c_check_lineup => k_is)
    (case k_check_lineup => k_is)
    (case a_is_person => k_is)
    (case l_is_person => k_is)
    (case c_is_person => k_is)
    (case k_is_person => k_is)
    (case a_check_calls => k_is)
    (case l_check_calls => k_is)
    (case c_check_calls => k_is)
    (case k_check_calls => k_is)
    (case a_first_other_color => k_is)
    (case l_first_other_color => k_is)
    (case c_first_other_color => k_is)
    (case k_first_other_color => k_is)
    (case a_colors_by_person => k_is)
    (case l_colors_by_person => k_is)
    (case c_colors_by_person => k_is)
    (case k_colors_by_person => k_is)
    (case a_apply_call => k_is)
    (case l_apply_call => k_is)
    (case c_apply_call => k_is)
    (case k_apply_call => k_is)
    (case a_lineup_after => k_is)
    (case l_lineup_after => k_is)
    (case c_lineup_after => k_is)
    (case k_lineup_after => k_is)
    (case a__law_source => k_is)
    (case l__law_source => k_is)
    (case c__law_source => k_is)
    (case k__law_source => k_is)
    (case a__law_draw => k_is)
    (case l__law_draw => k_is)
    (case c__law_draw => k_is)
    (case k__law_draw => k_is)
    (case a__law_row => k_is)
    (case l__law_row => k_is)
    (case c__law_row => k_is)
    (case k__law_row => k_is)
    (case a__law_new_color => k_is)
    (case l__law_new_color => k_is)
    (case c__law_new_color => k_is)
    (case k__law_new_color => k_is)
    (case a__law_after_one => k_is)
    (case l__law_after_one => k_is)
    (case c__law_after_one => k_is)
    (case k__law_after_one => k_is)
    (case a__law_expected => k_is)
    (case l__law_expected => k_is)
    (case c__law_expected => k_is)
    (case k__law_expected => k_is)
    (case a__law_same => k_is)
    (case l__law_same => k_is)
    (case c__law_same => k_is)
    (case k__law_same => k_is)
    (case a_colors_taken => k_is)
    (case l_colors_taken => k_is)
    (case c_colors_taken => k_is)
    (case k_colors_taken => k_is)
    (case a__law_holds => k_is)
    (case l__law_holds => k_is)
    (case c__law_holds => k_is)
    (case k__law_holds => k_is)
    (case a__law_sequence => k_is)
    (case l__law_sequence => k_is)
    (case c__law_sequence => k_is)
    (case k__law_sequence => k_is)
    (case a_law => k_is)
    (case l_law => k_is)
    (case c_law => k_is)
    (case k_law => k_is)
    (case a_MOST_PEOPLE => k_is)
    (case z_all => k_is)
    (case z_bool => k_is)
    (case z_enumerate => k_is)
    (case z_int => k_is)
    (case z_isinstance => k_is)
    (case z_len => k_is)
    (case z_list => k_is)
    (case z_max => k_is)
    (case z_min => k_is)
    (case z_range => k_is)
    (case z_repr => k_is)
    (case z_sorted => k_is)
    (case z_str => k_is)
    (case z_tuple => k_is)
    (case z_type => k_is)
    (case z_zip => k_is)
