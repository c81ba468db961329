import PyProof.Rows.All
import Wide.All
import OpenK.AllK
import Wide.FinOn
import HandS.Base
import HandS.Call
import HandS.List
import HandS.Comp
import HandS.Conv
import HandS.Text
import HandS.Words
import HandS.WordsList
import HandS.Ends
import HandS.SortInts
import HandS.Wide
import HandS.IsInst
import HandS.More
import HandS.Evl
import HandS.Defaults
import HandS.Zip
import HandS.ExcOwn
import HandS.Iter
import HandS.Style
import KE.KDictZip
import PyProof.Rows.RegZipMeets
import PyProof.ReprRoads
import HandS.Set
import HandS.Walk
import HandS.Dict
import PyProof.StrLawsIn
import PyProof.Rows.StrInSeq
import PyProof.EqAt
import PyProof.EqKinds
import PyProof.Rows.SetFrom
import PyProof.Rows.SortShellAny
import HandS.SetBool
import KE.SortData
import HandS.SetFor
import HandS.Deep
import HandS.TryOnly
import KE.KRevSl
import KE.GoesMore
import KE.GoesZip
import PySem.Challenge.RW_lastother_k74_whole_sides_by_counting_ca
set_option Elab.async false
set_option linter.all false
set_option maxRecDepth 100000
set_option maxHeartbeats 4000000
/-! Lineups over the hand layer: what stands where, and rules of my own. -/
namespace LX
open PySem L2

/-! ### own operator rules -/
def CPowW (i j : Int) : Prop := 0 ≤ j ∧ j ≤ 1000 ∧ i.natAbs < 2 ^ 1000
theorem op_powW {X : Cx} : OpR X (binaryOp .Pow) (rI CPowW fun i j => .int (i ^ j.toNat)) := opI fun i j _ _ _ _ _ hc q => by
  refine PyProof.Rows.pow_int hc.1 ?_ q
  have h1 : Builtin.Int.intBits i ≤ 1000 := PyProof.Rows.intBits_le hc.2.2
  have h2 : (Builtin.Int.intBits i : Int) ≤ 1000 := by omega
  have h3 := Int.mul_le_mul h2 hc.2.1 hc.1 (by decide : (0:Int) ≤ 1000)
  exact Int.le_trans h3 (by decide)

/-! ### the rules that speak of the written part, with its name -/
section
variable {X : Cx} {K : PySem.W.Frag} {e o : Expr} {es : List Expr} {te to : TE} {t : TA} {pos apos cpos : Pos}
theorem kix_list (h : X.K = K := by rfl) : IxR X (rIxL K) := h ▸ ix_list
theorem kix_tup (h : X.K = K := by rfl) : IxR X (rIxT K) := h ▸ ix_tup
theorem ksl_list (h : X.K = K := by rfl) : SlR X (rSlL K) := h ▸ sl_list
def qLen (K : PySem.W.Frag) : List V → Hp → VK → Prop := fun xs H Q => ∃ p ys, xs = [.ref p] ∧ (SqL K H p ys ∨ SqT K H p ys) ∧ Q (.int ys.length) H
theorem klen (h : X.K = K := by rfl) : CallR X (.builtin "len") (qLen K) := h ▸ call_len_seq
def qList (K : PySem.W.Frag) : List V → Hp → VK → Prop := fun xs H Q => ∃ p ys, xs = [.ref p] ∧ (SqL K H p ys ∨ SqT K H p ys) ∧ ∀ l, H l = none → Q (.ref l) (upd H l (.lst ys))
theorem klist (h : X.K = K := by rfl) : CallR X (.type "list") (qList K) := h ▸ call_list_of
theorem ksorted (h : X.K = K := by rfl) : CallR X (.builtin "sorted") (rSortedI K) := h ▸ cr_sortedI
theorem kall (hc : X.calm = true) (h : X.K = K := by rfl) : CallR X (.builtin "all") (rAll K) := h ▸ cr_all hc
theorem kany (hc : X.calm = true) (h : X.K = K := by rfl) : CallR X (.builtin "any") (rAny K) := h ▸ cr_any hc
theorem ksum (hc : X.calm = true) (h : X.K = K := by rfl) : CallR X (.builtin "sum") (rSum K) := h ▸ cr_sum hc
theorem kisi (h : X.K = K := by rfl) : CallR X (.builtin "isinstance") (rIsi K) := h ▸ call_isi
theorem kisiT (h : X.K = K := by rfl) : CallR X (.builtin "isinstance") (rIsiT K) := h ▸ call_isiT
theorem kin (h : X.K = K := by rfl) : OpR X (compareOp .In) (rIn K false) := h ▸ op_in_seq
theorem knotIn (h : X.K = K := by rfl) : OpR X (compareOp .NotIn) (rIn K true) := h ▸ op_notIn_seq
theorem keqD (hu : X.A.units + 64 < cLine) (h : X.K = K := by rfl) : OpR X (compareOp .Eq) (rEqD K) := h ▸ op_eqD hu
theorem kneD (hu : X.A.units + 64 < cLine) (h : X.K = K := by rfl) : OpR X (compareOp .NotEq) (rNeD K) := h ▸ op_neD hu
theorem kpi_list {tg : Expr} (he : PE X e te) (h : X.K = K := by rfl) : PI X tg e (iList K te) := h ▸ pi_list he
theorem kbm {T id : String} {name : Str} {r : V → List V → Hp → VK → Prop} (p1 : PySem.PlainAttrs T) (p2 : PySem.Slot T name id) (p3 : typeOf (.builtin id) = pure (.type "method_descriptor")) (m : MtR X id r) (ho : PE X o to) (ha : PA X (e :: es) t)
    (q1 : attributeBase o name X.env (eval o X.env) = eval o X.env := by rfl)
    (q2 : ((backTo cpos (starEach (e :: es) X.env)).all (fun y => !y.1) && (backToKw cpos (keywordEach [] X.env)).all (fun y => y.1.isSome) && decide ((e :: es).length + ([] : List Keyword).length + (if ([] : List Keyword).isEmpty then 0 else 1) < 30)) = true := by rfl)
    (q3 : (apos.endLine == cpos.line) = true := by rfl) (q4 : starEach (e :: es) X.env = (false, eval e X.env) :: starEach es X.env := by rfl) (q5 : (backTo cpos (starEach es X.env)).any (·.1) = false := by rfl) (h : X.K = K := by rfl) :
    PE X (.Call (.Attribute o name apos) (e :: es) [] cpos) (tBM K T r to t) := h ▸ pe_bm p1 p2 p3 m ho ha q1 q2 q3 q4 q5
theorem kbm0 {T id : String} {name : Str} {r : V → List V → Hp → VK → Prop} (p1 : PySem.PlainAttrs T) (p2 : PySem.Slot T name id) (p3 : typeOf (.builtin id) = pure (.type "method_descriptor")) (m : MtR X id r) (ho : PE X o to)
    (q1 : attributeBase o name X.env (eval o X.env) = eval o X.env := by rfl) (q3 : (apos.endLine == cpos.line) = true := by rfl) (h : X.K = K := by rfl) :
    PE X (.Call (.Attribute o name apos) [] [] cpos) (tBM0 K T r to) := h ▸ pe_bm0 p1 p2 p3 m ho q1 q3
def qTru (K : PySem.W.Frag) (ta : TE) : TT := fun σ H Q => ta σ H fun x H' => ∃ k, TruV K x H' k ∧ Q k H'
theorem kpt_truth {b : Expr} {tb : TE} (hb : PE X b tb) (g : ∀ whole, isTrue b X.env whole = (do let v ← whole; standAt b.pos; holding [v] (truthy v))) (h : X.K = K := by rfl) : PT X b (qTru K tb) := h ▸ pt_truth hb g
theorem kpg_tup {k n : Nat} {u : TGs} (hc : X.calm = true) (hp : PGs X es u) (hn : (assignEach es X.env).length = n := by rfl) (hst : (assignEach es X.env).findIdx? (·.1) = none := by rfl) (h : X.K = K := by rfl) :
    PG X (.Tuple es k pos) (gTup K n u) := h ▸ pg_tup hc hp hn hst
end

/-! ### heaps -/
def Same' (p : Addr) (H H' : Hp) : Prop := ∀ b o, H b = some o → b ≠ p → H' b = some o
theorem Same'.refl (p : Addr) (H : Hp) : Same' p H H := fun _ _ h _ => h
theorem Same'.trans {p : Addr} {H H1 H2 : Hp} (a : Same' p H H1) (b : Same' p H1 H2) : Same' p H H2 := fun c o h n => b c o (a c o h n) n
theorem Same'.upd {p : Addr} {H : Hp} {o : HO} : Same' p H (upd H p o) := fun b u h n => by
  rw [upd_ne n]
  exact h
/-- a row of people: person, color (a code) -/
abbrev Row := List (Nat × Nat)
abbrev sg (c : Nat) : V := .str ⟨#[c]⟩
def oV : Option Nat → V
  | some c => sg c
  | none => .non
abbrev pr (e : Nat × Nat) : List V := [.int (e.1 : Int), sg e.2]
def TupsAt (H : Hp) : List Addr → Row → Prop
  | [], [] => True
  | t :: ts, e :: r => H t = some (.tup (pr e)) ∧ TupsAt H ts r
  | _, _ => False
theorem TupsAt.len {H : Hp} : ∀ {ts : List Addr} {r : Row}, TupsAt H ts r → ts.length = r.length
  | [], [], _ => rfl
  | _ :: ts, _ :: r, h => congrArg (· + 1) (TupsAt.len (ts := ts) (r := r) h.2)
  | [], _ :: _, h => h.elim
  | _ :: _, [], h => h.elim
theorem TupsAt.mono {H H' : Hp} : ∀ {ts : List Addr} {r : Row}, TupsAt H ts r → (∀ b xs, H b = some (.tup xs) → H' b = some (.tup xs)) → TupsAt H' ts r
  | [], [], _, _ => True.intro
  | _ :: ts, _ :: r, h, k => ⟨k _ _ h.1, TupsAt.mono (ts := ts) (r := r) h.2 k⟩
  | [], _ :: _, h, _ => h.elim
  | _ :: _, [], h, _ => h.elim
theorem TupsAt.get {H : Hp} : ∀ {ts : List Addr} {r : Row} {i : Nat} {t : Addr}, TupsAt H ts r → ts[i]? = some t → ∃ e, r[i]? = some e ∧ H t = some (.tup (pr e))
  | [], [], i, t, _, h => by simp at h
  | _ :: ts, e :: r, 0, t, h, q => by
    simp at q
    subst q
    exact ⟨e, rfl, h.1⟩
  | _ :: ts, _ :: r, i + 1, t, h, q => by
    simp at q
    obtain ⟨e, h1, h2⟩ := TupsAt.get (ts := ts) (r := r) h.2 q
    exact ⟨e, by simpa using h1, h2⟩
  | [], _ :: _, _, _, h, _ => h.elim
  | _ :: _, [], _, _, h, _ => h.elim
theorem TupsAt.app {H : Hp} : ∀ {ts us : List Addr} {r q : Row}, TupsAt H ts r → TupsAt H us q → TupsAt H (ts ++ us) (r ++ q)
  | [], _, [], _, _, h => h
  | _ :: ts, us, _ :: r, q, h, k => ⟨h.1, TupsAt.app (ts := ts) (r := r) h.2 k⟩
  | [], _, _ :: _, _, h, _ => h.elim
  | _ :: _, _, [], _, h, _ => h.elim
theorem TupsAt.take {H : Hp} : ∀ {ts : List Addr} {r : Row} (n : Nat), TupsAt H ts r → TupsAt H (ts.take n) (r.take n)
  | _, _, 0, _ => True.intro
  | [], [], _ + 1, _ => True.intro
  | _ :: ts, _ :: r, n + 1, h => ⟨h.1, TupsAt.take (ts := ts) (r := r) n h.2⟩
  | [], _ :: _, _ + 1, h => h.elim
  | _ :: _, [], _ + 1, h => h.elim
theorem TupsAt.drop {H : Hp} : ∀ {ts : List Addr} {r : Row} (n : Nat), TupsAt H ts r → TupsAt H (ts.drop n) (r.drop n)
  | _, _, 0, h => h
  | [], [], _ + 1, _ => True.intro
  | _ :: ts, _ :: r, n + 1, h => TupsAt.drop (ts := ts) (r := r) n h.2
  | [], _ :: _, _ + 1, h => h.elim
  | _ :: _, [], _ + 1, h => h.elim
theorem TupsAt.one {H : Hp} {t : Addr} {e : Nat × Nat} (h : H t = some (.tup (pr e))) : TupsAt H [t] [e] := ⟨h, True.intro⟩
def RowAt (H : Hp) (a : Addr) (r : Row) : Prop := ∃ ts : List Addr, H a = some (.lst (ts.map V.ref)) ∧ TupsAt H ts r
theorem sTups {H H' : Hp} (s : Same H H') : ∀ b xs, H b = some (.tup xs) → H' b = some (.tup xs) := fun b xs h => s b _ h
theorem RowAt.same {H H' : Hp} {a : Addr} {r : Row} (h : RowAt H a r) (s : Same H H') : RowAt H' a r :=
  let ⟨ts, h1, h2⟩ := h
  ⟨ts, s _ _ h1, h2.mono (sTups s)⟩
/-- a list at p is not the tuples' -/
theorem RowAt.same' {H H' : Hp} {a p : Addr} {r : Row} {xs : List V} (h : RowAt H a r) (s : Same' p H H') (hp : H p = some (.lst xs)) (n : a ≠ p) : RowAt H' a r :=
  let ⟨ts, h1, h2⟩ := h
  ⟨ts, s _ _ h1 n, h2.mono fun b ys e => s b _ e fun q => by
    rw [q, hp] at e
    cases e⟩
theorem sNew {H : Hp} {p : Addr} {o : HO} (h : H p = none) : Same H (upd H p o) := fun a u e => by
  rw [upd_ne (ne_of_none e h)]
  exact e
/-- a change of an object that H does not know -/
theorem sUpd {H H' : Hp} {p : Addr} {o : HO} (s : Same H H') (h : H p = none) : Same H (upd H' p o) := fun a u e => by
  rw [upd_ne (ne_of_none e h)]
  exact s a u e
theorem sTo {H H' : Hp} (p : Addr) (s : Same H H') : Same' p H H' := fun b o h _ => s b o h

/-! ### the draws' bag -/
structure Src (H : Hp) (p : Addr) : Prop where
  ex : ∃ s0 s1 s2 : Int, H p = some (.lst [.int s0, .int s1, .int s2]) ∧ s1.natAbs < 2 ^ 400
theorem Src.same {H H' : Hp} {p : Addr} (h : Src H p) (s : Same H H') : Src H' p :=
  let ⟨s0, s1, s2, h1, h2⟩ := h.ex
  ⟨s0, s1, s2, s _ _ h1, h2⟩
theorem Src.lst {H : Hp} {p : Addr} (h : Src H p) : ∃ xs, H p = some (.lst xs) :=
  let ⟨s0, s1, s2, h1, _⟩ := h.ex
  ⟨_, h1⟩

/-! ### readings, step by step -/
section
variable {σ : St} {H : Hp} {Q : VK} {v x y : V} {ta tb tc te : TE} {r r' : R2} {i : Nat} {K : PySem.W.Frag} {t u : TT} {t1 t2 : TS} {D : Ends} {g : TG} {QB : Bool → Hp → Prop} {QA : List V → Hp → Prop} {tr : TA}
theorem rd_var (e : σ[i]? = some (some v)) (q : Q v H) : tVar i σ H Q := ⟨v, e, q⟩
theorem rd_c (q : Q v H) : tC v σ H Q := q
theorem rd_op (q : ta σ H fun x H1 => tb σ H1 fun y H2 => r x y H2 Q) : tOp r ta tb σ H Q := q
theorem rd_un {r : V → Hp → VK → Prop} (q : ta σ H fun x H1 => r x H1 Q) : tUn r ta σ H Q := q
theorem rd_I0 {f : Int → Int → V} {a b : Int} (q : Q (f a b) H) : rI0 f (.int a) (.int b) H Q := ⟨a, b, rfl, rfl, q⟩
theorem rd_I {C : Int → Int → Prop} {f : Int → Int → V} {a b : Int} (c : C a b) (q : Q (f a b) H) : rI C f (.int a) (.int b) H Q := ⟨a, b, rfl, rfl, c, q⟩
theorem rd_U {f : Int → V} {a : Int} (q : Q (f a) H) : rU f (.int a) H Q := ⟨a, rfl, q⟩
theorem rd_eq (s : scal x y = true) (q : Q (.bl (decide (x = y))) H) : rEq x y H Q := ⟨s, q⟩
theorem rd_ne (s : scal x y = true) (q : Q (.bl (!decide (x = y))) H) : rNe x y H Q := ⟨s, q⟩
theorem rd_test (q : te σ H fun x H' => ∃ k, x = .bl k ∧ QB k H') : tTest te σ H QB := q
theorem rd_tB (q : te σ H fun x H' => ∃ k, x = .bl k ∧ QB k H') : tB te σ H QB := q
theorem rd_bl {b : Bool} {R : Bool → Prop} (q : R b) : ∃ k, V.bl b = .bl k ∧ R k := ⟨b, rfl, q⟩
theorem rd_dec {p A B : Prop} [Decidable p] (h1 : p → A) (h2 : ¬ p → B) : if decide p = true then A else B := by
  by_cases h : p
  · rw [decide_eq_true h]
    exact iteT (h1 h)
  · rw [decide_eq_false h]
    exact iteF (h2 h)
theorem rd_ndec {p A B : Prop} [Decidable p] (h1 : ¬ p → A) (h2 : p → B) : if (!decide p) = true then A else B := by
  by_cases h : p
  · rw [decide_eq_true h]
    exact iteF (h2 h)
  · rw [decide_eq_false h]
    exact iteT (h1 h)
theorem rd_nt {A B : Prop} (h : B) : if (!true) = true then A else B := iteF h
theorem rd_nf {A B : Prop} (h : A) : if (!false) = true then A else B := iteT h
theorem rd_yes {p A B : Prop} [Decidable p] (h : p) (q : A) : if decide p = true then A else B := rd_dec (fun _ => q) fun n => absurd h n
theorem rd_no {p A B : Prop} [Decidable p] (h : ¬ p) (q : B) : if decide p = true then A else B := rd_dec (fun n => absurd n h) fun _ => q
theorem rd_2i {a b : Int} {R : Int → Int → Prop} (q : R a b) : ∃ i j, [V.int a, V.int b] = [V.int i, V.int j] ∧ R i j := ⟨a, b, rfl, q⟩
theorem rd_chain (q : ta σ H fun x H1 => tb σ H1 fun y H2 => r x y H2 fun z H3 => ∃ k, z = .bl k ∧ (if k = true then tc σ H3 fun w' H4 => r' y w' H4 Q else Q (.bl false) H3)) : tChain r r' ta tb tc σ H Q := q
theorem rd_and (q : t σ H fun c H1 => if c = true then u σ H1 QB else QB false H1) : tAnd t u σ H QB := q
theorem rd_or (q : t σ H fun c H1 => if c = true then QB true H1 else u σ H1 QB) : tOr t u σ H QB := q
theorem rd_not (q : t σ H fun c H1 => QB (!c) H1) : tNot t σ H QB := q
theorem rd_andV (q : ta σ H fun x H1 => ∃ c, x = .bl c ∧ if c = true then tb σ H1 Q else Q (.bl false) H1) : tAndV ta tb σ H Q := q
theorem rd_orV (q : ta σ H fun x H1 => ∃ c, x = .bl c ∧ if c = true then Q (.bl true) H1 else tb σ H1 Q) : tOrV ta tb σ H Q := q
theorem rd_notV (q : ta σ H fun x H1 => ∃ c, x = .bl c ∧ Q (.bl (!c)) H1) : tNotV ta σ H Q := q
theorem rd_ifE (q : t σ H fun c H1 => if c = true then ta σ H1 Q else tb σ H1 Q) : tIf t ta tb σ H Q := q
theorem rd_next (q : D.nx σ H) : tNext D σ H := q
theorem rd_seq (q : t1 { D with nx := t2 D } σ H) : tSeq t1 t2 D σ H := q
theorem rd_drop (q : te σ H fun _ H1 => D.nx σ H1) : tDrop te D σ H := q
theorem rd_ret (q : te σ H D.rt) : tRet te D σ H := q
theorem rd_ifS (q : t σ H fun b H1 => if b = true then t1 D σ H1 else t2 D σ H1) : tIfS t t1 t2 D σ H := q
theorem rd_asg (q : te σ H fun x H1 => g x σ H1 D.nx) : tAsg te g D σ H := q
theorem rd_name {R : St → Hp → Prop} (q : R (σ.set i (some v)) H) : gName i v σ H R := q
theorem rd_par {j : Nat} (q : tr σ H fun vs H1 => ∃ v w, vs = [v, w] ∧ D.nx ((σ.set i (some v)).set j (some w)) H1) : tPar i j tr D σ H := q
theorem rd_two {v w : V} {R : V → V → Prop} (q : R v w) : ∃ a b, [v, w] = [a, b] ∧ R a b := ⟨v, w, rfl, q⟩
theorem rd_nil (q : QA [] H) : tNil σ H QA := q
theorem rd_cons (q : ta σ H fun x H1 => tr σ H1 fun xs H2 => QA (x :: xs) H2) : tCons ta tr σ H QA := q
theorem rd_tup (q : tr σ H fun xs H1 => xs.length ≤ sizeLine ∧ ∀ p, H1 p = none → Q (.ref p) (upd H1 p (.tup xs))) : tTup tr σ H Q := q
theorem rd_lst (q : tr σ H fun xs H1 => xs.length ≤ sizeLine ∧ ∀ p, H1 p = none → Q (.ref p) (upd H1 p (.lst xs))) : tLst tr σ H Q := q
theorem rd_cb {r : List V → Hp → VK → Prop} (q : tr σ H fun vs H1 => r vs H1 Q) : tCB r tr σ H Q := q
theorem rd_call {sp : Sp} {dvs : List V} {E : XK} (q : tr σ H fun vs H1 => sp (vs ++ dvs) H1 Q E) : tCall sp dvs E tr σ H Q := q
theorem rd_ixL {p : Addr} {xs : List V} {j : Int} (h : H p = some (.lst xs)) (a : atI xs j = some v) (q : Q v H) : rIxL K (.ref p) (.int j) H Q := ⟨p, xs, j, v, rfl, rfl, SqL.of h, a, q⟩
theorem rd_ixT {p : Addr} {xs : List V} {j : Int} (h : H p = some (.tup xs)) (a : atI xs j = some v) (q : Q v H) : rIxT K (.ref p) (.int j) H Q := ⟨p, xs, j, v, rfl, rfl, SqT.of h, a, q⟩
theorem rd_sub {to ti : TE} {s : TSet} {R : St → Hp → Prop} (q : to σ H fun o H1 => ti σ H1 fun i H2 => s o i v H2 fun H3 => R σ H3) : gSub to ti s v σ H R := q
theorem rd_setL {p : Addr} {xs : List V} {k : Int} {j : Nat} {R : Hp → Prop} (h : H p = some (.lst xs)) (e : ixN xs.length k = some j) (q : R (upd H p (.lst (xs.set j v)))) : rSetL (.ref p) (.int k) v H R := ⟨p, xs, k, j, rfl, rfl, h, e, q⟩
theorem rd_len {p : Addr} {xs : List V} (h : H p = some (.lst xs)) (q : Q (.int xs.length) H) : qLen K [.ref p] H Q := ⟨p, xs, rfl, Or.inl (SqL.of h), q⟩
theorem rd_sl {tl th : TO} {r : V → Option Int → Option Int → Hp → VK → Prop} (q : te σ H fun x H1 => tl σ H1 fun l H2 => th σ H2 fun u H3 => r x l u H3 Q) : tSl r te tl th σ H Q := q
theorem rd_nopart {R : Option Int → Hp → Prop} (q : R none H) : tNoPart σ H R := q
theorem rd_part {R : Option Int → Hp → Prop} (q : te σ H fun x H1 => ∃ i, x = .int i ∧ R (some i) H1) : tPart te σ H R := q
theorem rd_int {j : Int} {R : Int → Prop} (q : R j) : ∃ i, V.int j = .int i ∧ R i := ⟨j, rfl, q⟩
theorem rd_slL {p : Addr} {xs : List V} {l u : Option Int} (h : H p = some (.lst xs)) (q : ∀ b, H b = none → Q (.ref b) (upd H b (.lst (cutV xs l u)))) : rSlL K (.ref p) l u H Q := ⟨p, xs, rfl, SqL.of h, q⟩
theorem rd_cat {p b : Addr} {xs ys : List V} (h : H p = some (.lst xs)) (h2 : H b = some (.lst ys)) (z : xs.length + ys.length ≤ sizeLine) (q : ∀ c, H c = none → Q (.ref c) (upd H c (.lst (xs ++ ys)))) : rCat (.ref p) (.ref b) H Q := ⟨p, b, xs, ys, rfl, rfl, h, h2, z, q⟩
theorem rd_isN (q : Q (.bl (decide (x = .non))) H) : (fun x y H Q => y = V.non ∧ Q (.bl (decide (x = .non))) H : R2) x .non H Q := ⟨rfl, q⟩
theorem rd_bm {T : String} {r : V → List V → Hp → VK → Prop} (q : te σ H fun x H1 => tyV K T x H1 ∧ tr σ H1 fun xs H2 => r x xs H2 Q) : tBM K T r te tr σ H Q := q
theorem rd_bm0 {T : String} {r : V → List V → Hp → VK → Prop} (q : te σ H fun x H1 => tyV K T x H1 ∧ r x [] H1 Q) : tBM0 K T r te σ H Q := q
theorem rd_for {wi : TI} (q : wi σ H fun J H1 => ∃ W : Nat → Nat → St → Hp → Prop, (∃ m, W 0 m σ H1) ∧ ∀ i m σ H, W i m σ H →
  (J.stop i H ∧ D.nx σ H) ∨ (J.go i H ∧ ∃ N : St → Hp → Prop, (∀ σ' H', N σ' H' → ∃ m', m' < m ∧ W (i + 1) m' σ' H') ∧ ∀ x H', J.yld i H x H' → g x σ H' fun σ2 H2 => t1 { D with nx := N, ct := N, bk := D.nx } σ2 H2)) : tFor wi g t1 D σ H := q
theorem rd_iList {tl : TE} {R : It → Hp → Prop} (q : tl σ H fun x H1 => ∃ a, x = .ref a ∧ (∃ xs, SqL K H1 a xs) ∧ R (Itl K a) H1) : iList K tl σ H R := q
theorem rd_gtup {n : Nat} {s : TGs} {p : Addr} {xs : List V} {R : St → Hp → Prop} (h : H p = some (.tup xs)) (z : xs.length = n) (q : s xs σ H R) : gTup K n s (.ref p) σ H R := ⟨p, xs, rfl, SqT.of h, z, q⟩
theorem rd_gcons {s : TG} {w : TGs} {vs : List V} {R : St → Hp → Prop} (q : s v σ H fun σ' H' => w vs σ' H' R) : gCons s w (v :: vs) σ H R := ⟨v, vs, rfl, q⟩
theorem rd_gnil {R : St → Hp → Prop} (q : R σ H) : gNil [] σ H R := ⟨rfl, q⟩
theorem rd_sl_len {n : Nat} (h : n ≤ 1000) : n ≤ sizeLine := Nat.le_of_lt (small1000 h)
end

section
variable {σ : St} {H : Hp} {Q : VK} {v x y : V} {K : PySem.W.Frag} {ta te : TE} {D : Ends} {g : TG} {tb : TS}
theorem rd_typ {n : String} (h : zTyV v H = some n) (q : Q (.ty n) H) : r1 kTyp [v] H Q := ⟨n, h, q⟩
theorem rd_2ty {m n : String} {R : String → String → Prop} (q : R m n) : ∃ a b, V.ty m = V.ty a ∧ V.ty n = V.ty b ∧ R a b := ⟨m, n, rfl, rfl, q⟩
theorem rd_NT {m n : String} (q : Q (.bl (!decide (m = n))) H) : rNT (.ty m) (.ty n) H Q := ⟨m, n, rfl, rfl, q⟩
theorem rd_2s {m n : Str} {R : Str → Str → Prop} (q : R m n) : ∃ a b, V.str m = V.str a ∧ V.str n = V.str b ∧ R a b := ⟨m, n, rfl, rfl, q⟩
theorem rd_lenS {m : Str} {R : Str → Prop} (q : R m) : ∃ a, [V.str m] = [V.str a] ∧ R a := ⟨m, rfl, q⟩
theorem rd_lenT {p : Addr} {xs : List V} (h : H p = some (.tup xs)) (q : Q (.int xs.length) H) : qLen K [.ref p] H Q := ⟨p, xs, rfl, Or.inr (SqT.of h), q⟩
theorem rd_isi {t u : Value} {c : V} {b : Bool} (h1 : ClsV c u) (h2 : TyX K H v t) (h3 : PySem.W.kitOne K t u = some b) (q : Q (.bl b) H) : rIsi K [v, c] H Q := ⟨v, c, t, u, b, rfl, h1, h2, h3, q⟩
theorem rd_listOf {p : Addr} {xs : List V} (h : H p = some (.lst xs)) (q : ∀ l, H l = none → Q (.ref l) (upd H l (.lst xs))) : qList K [.ref p] H Q := ⟨p, xs, rfl, Or.inl (SqL.of h), q⟩
theorem rd_rep {p : Addr} {xs : List V} {k : Int} (h : H p = some (.lst xs)) (h1 : 0 ≤ k) (h2 : k < 2 ^ 62) (z : xs.length * k.toNat ≤ sizeLine) (q : rRep (.ref p) (.int k) H Q) : rRep (.ref p) (.int k) H Q := q
/-- for i, x in enumerate(xs): every turn has a new tuple -/
theorem for_enum {a : Addr} {xs : List V} {σ : St} {H : Hp} (Pv : Nat → St → Hp → Prop) (h0 : Pv 0 σ H) (hl : ∀ i σ H, i ≤ xs.length → Pv i σ H → SqL K H a xs)
    (hs : ∀ i x (T : Addr) σ H, xs[i]? = some x → Pv i σ H → H T = none → g (.ref T) σ (upd H T (.tup [.int (i : Nat), x])) fun σ2 H2 => tb { D with nx := Pv (i + 1), ct := Pv (i + 1), bk := D.nx } σ2 H2) (hd : ∀ σ H, Pv xs.length σ H → D.nx σ H) :
    ∃ W : Nat → Nat → St → Hp → Prop, (∃ m, W 0 m σ H) ∧ ∀ i m σ H, W i m σ H →
      ((Ite K a).stop i H ∧ D.nx σ H) ∨ ((Ite K a).go i H ∧ ∃ N : St → Hp → Prop, (∀ σ' H', N σ' H' → ∃ m', m' < m ∧ W (i + 1) m' σ' H') ∧ ∀ x H', (Ite K a).yld i H x H' → g x σ H' fun σ2 H2 => tb { D with nx := N, ct := N, bk := D.nx } σ2 H2) := by
  refine ⟨fun i m σ H => m = xs.length - i ∧ i ≤ xs.length ∧ Pv i σ H, ⟨_, rfl, Nat.zero_le _, h0⟩, fun i m σ H hw => ?_⟩
  obtain ⟨rfl, hi, p⟩ := hw
  have q := hl i σ H hi p
  by_cases hlt : i < xs.length
  · have hx : xs[i]? = some xs[i] := List.getElem?_eq_getElem hlt
    refine Or.inr ⟨⟨xs, xs[i], q, hx⟩, Pv (i + 1), fun σ' H' p' => ⟨xs.length - (i + 1), by omega, rfl, hlt, p'⟩, fun x H' ⟨T, z, e1, e2, e3, e4⟩ => ?_⟩
    subst e1 e3
    have ez : z = xs[i] := Option.some.inj ((e4 xs q).symm.trans hx)
    subst ez
    exact hs i _ T σ H hx p e2
  · have e : i = xs.length := by omega
    subst e
    exact Or.inl ⟨⟨xs, q, Nat.le_refl _⟩, hd σ H p⟩
end

/-! ### rows: the first other color, the colors by person, a call -/
def fo (r : Row) (c : Nat) : Option Nat := (r.find? fun e => e.2 != c).map (·.2)
def colOf (r : Row) (q : Nat) : Nat := ((r.find? fun e => e.1 == q).map (·.2)).getD 0
theorem fo_nil (c : Nat) : fo [] c = none := rfl
theorem fo_yes {e : Nat × Nat} {r : Row} {c : Nat} (h : e.2 ≠ c) : fo (e :: r) c = some e.2 := by
  unfold fo
  rw [List.find?_cons_of_pos (by simpa using h)]
  rfl
theorem fo_no {e : Nat × Nat} {r : Row} {c : Nat} (h : e.2 = c) : fo (e :: r) c = fo r c := by
  unfold fo
  rw [List.find?_cons_of_neg (by simpa using h)]
theorem drop_of {α : Type} {l : List α} {i : Nat} {x : α} (h : l[i]? = some x) : l.drop i = x :: l.drop (i + 1) := by
  obtain ⟨h1, h2⟩ := List.getElem?_eq_some_iff.mp h
  rw [← h2]
  exact List.drop_eq_getElem_cons h1
structure Vr (r : Row) : Prop where
  n1 : 1 ≤ r.length
  n2 : r.length ≤ 60
  col : ∀ e ∈ r, 97 ≤ e.2 ∧ e.2 ≤ 122
  perm : (r.map (·.1)).Perm (List.range r.length)
theorem Vr.lt {r : Row} (h : Vr r) {e : Nat × Nat} (he : e ∈ r) : e.1 < r.length := by
  have := h.perm.mem_iff.mp (List.mem_map_of_mem (f := (·.1)) he)
  exact List.mem_range.mp this
theorem Vr.nodup {r : Row} (h : Vr r) : (r.map (·.1)).Nodup := h.perm.nodup_iff.mpr List.nodup_range
theorem Vr.has {r : Row} (h : Vr r) {q : Nat} (hq : q < r.length) : ∃ e ∈ r, e.1 = q := by
  have := h.perm.mem_iff.mpr (List.mem_range.mpr hq)
  obtain ⟨e, h1, h2⟩ := List.mem_map.mp this
  exact ⟨e, h1, h2⟩
/-- the list that colors_by_person fills -/
def fillC (l : List V) (r : Row) : List V := r.foldl (fun l e => l.set e.1 (sg e.2)) l
theorem fillC_len (r : Row) : ∀ l : List V, (fillC l r).length = l.length := by
  induction r with
  | nil => intro l; rfl
  | cons e r ih =>
    intro l
    show (fillC (l.set e.1 (sg e.2)) r).length = _
    rw [ih, List.length_set]
theorem fillC_no {q : Nat} : ∀ (r : Row) (l : List V), (∀ e ∈ r, e.1 ≠ q) → (fillC l r)[q]? = l[q]? := by
  intro r
  induction r with
  | nil => intro l _; rfl
  | cons e r ih =>
    intro l h
    show (fillC (l.set e.1 (sg e.2)) r)[q]? = _
    rw [ih _ fun x hx => h x (List.mem_cons_of_mem _ hx), List.getElem?_set_ne (h e List.mem_cons_self)]
theorem fillC_at {q : Nat} : ∀ (r : Row) (l : List V), (r.map (·.1)).Nodup → q < l.length → (∃ e ∈ r, e.1 = q) → (fillC l r)[q]? = some (sg (colOf r q)) := by
  intro r
  induction r with
  | nil =>
    intro l _ _ h
    obtain ⟨e, he, _⟩ := h
    cases he
  | cons e r ih =>
    intro l nd hl h
    have nd' := List.nodup_cons.mp (show (e.1 :: r.map (·.1)).Nodup from nd)
    show (fillC (l.set e.1 (sg e.2)) r)[q]? = _
    by_cases c : e.1 = q
    · rw [fillC_no r _ fun x hx z => nd'.1 (by rw [c, ← z]; exact List.mem_map_of_mem (f := (·.1)) hx), c, List.getElem?_set_self hl]
      unfold colOf
      rw [List.find?_cons_of_pos (by simpa using c)]
      rfl
    · rw [ih _ nd'.2 (by rw [List.length_set]; exact hl) ?_]
      · unfold colOf
        rw [List.find?_cons_of_neg (by simpa using c)]
      · obtain ⟨x, hx, hq⟩ := h
        rcases List.mem_cons.mp hx with z | z
        · exact absurd (z ▸ hq) c
        · exact ⟨x, z, hq⟩
def byPerson (r : Row) : List V := (List.range r.length).map fun q => sg (colOf r q)
theorem fillC_is {r : Row} (h : Vr r) {x : V} : fillC (List.replicate r.length x) r = byPerson r := by
  apply List.ext_getElem?
  intro q
  unfold byPerson
  rw [List.getElem?_map]
  by_cases c : q < r.length
  · rw [fillC_at r _ h.nodup (by rw [List.length_replicate]; exact c) (h.has c), List.getElem?_range c]
    rfl
  · rw [List.getElem?_eq_none (by rw [fillC_len, List.length_replicate]; omega), List.getElem?_eq_none (by rw [List.length_range]; omega)]
    rfl
def app (r : Row) (p : Nat) : Row := (p, (fo r (colOf r p)).getD (colOf r p)) :: r.filter fun e => e.1 != p
theorem flat_rep {α : Type} (x : α) : ∀ n : Nat, (List.replicate n [x]).flatten = List.replicate n x
  | 0 => rfl
  | n + 1 => by
    rw [List.replicate_succ, List.flatten_cons, flat_rep x n]
    rfl
theorem fillC_snoc (l : List V) (r : Row) (e : Nat × Nat) : fillC l (r ++ [e]) = (fillC l r).set e.1 (sg e.2) := by
  unfold fillC
  rw [List.foldl_append]
  rfl
theorem take_of {α : Type} {l : List α} {i : Nat} {x : α} (h : l[i]? = some x) : l.take (i + 1) = l.take i ++ [x] := by
  rw [List.take_add_one, h]
  rfl
theorem ixN_nat {n j : Nat} (h : j < n) : ixN n (j : Int) = some j := by
  unfold ixN
  rw [if_pos (by omega), if_pos (by omega)]
  simp
theorem sz60 {n : Nat} (h : n ≤ 60) : n ≤ sizeLine := Nat.le_trans h (by decide)
theorem getElem?_mem {α : Type} {l : List α} {i : Nat} {x : α} (h : l[i]? = some x) : x ∈ l := List.mem_of_getElem? h
/-! ### data -/
theorem dp_ints {K : PySem.W.Frag} {H : Hp} : ∀ ns : List Int, DpAll K H (ns.map V.int) (ns.map PyData.int)
  | [] => .nil
  | n :: ns => .cons (.int n) (dp_ints ns)
theorem lay_ints : ∀ ns : List Int, PyData.canLayAll0 (ns.map PyData.int) = true
  | [] => by simp only [List.map_nil, PyData.canLayAll0]
  | n :: ns => by
    simp only [List.map_cons, PyData.canLayAll0, PyData.canLay0, Bool.true_and]
    exact lay_ints ns
theorem dep_ints : ∀ ns : List Int, PyData.depthAll (ns.map PyData.int) = 0
  | [] => by simp only [List.map_nil, PyData.depthAll]
  | n :: ns => by
    simp only [List.map_cons, PyData.depthAll, PyData.depth]
    rw [dep_ints ns]
    rfl
abbrev dI (ns : List Int) : PyData := .list (ns.map PyData.int)
theorem shp_ints (ns : List Int) : SeqAt.shaped (dI ns) = true := by
  refine Bool.and_eq_true_iff.mpr ⟨?_, decide_eq_true ?_⟩
  · simp only [PyData.canLay0]
    exact lay_ints ns
  · simp only [PyData.depth]
    rw [dep_ints]
    decide
/-- a row as data -/
abbrev dE (e : Nat × Nat) : PyData := .tuple [.int (e.1 : Int), .str ⟨#[e.2]⟩]
abbrev dR (r : Row) : PyData := .list (r.map dE)
theorem dp_tups {K : PySem.W.Frag} {H : Hp} : ∀ {ts : List Addr} {r : Row}, TupsAt H ts r → DpAll K H (ts.map V.ref) (r.map dE)
  | [], [], _ => .nil
  | _ :: ts, e :: r, h => .cons (.tup (SqT.of h.1) (.cons (.int _) (.cons (.str _) .nil))) (dp_tups (ts := ts) (r := r) h.2)
  | [], _ :: _, h => h.elim
  | _ :: _, [], h => h.elim
theorem RowAt.dp {K : PySem.W.Frag} {H : Hp} {a : Addr} {r : Row} (h : RowAt H a r) : Dp K H (.ref a) (dR r) :=
  let ⟨_, h1, h2⟩ := h
  .lst (SqL.of h1) (dp_tups h2)
def Cok (r : Row) : Prop := ∀ e ∈ r, 97 ≤ e.2 ∧ e.2 ≤ 122
theorem str_ok {c : Nat} (h : c ≤ 122) : PyData.strOk ⟨#[c]⟩ = true := by
  show (#[c] : Array Nat).all (· < 0x110000) = true
  simp
  omega
theorem lay_row : ∀ r : Row, Cok r → PyData.canLayAll0 (r.map dE) = true ∧ PyData.depthAll (r.map dE) ≤ 1
  | [], _ => by
    simp only [List.map_nil, PyData.canLayAll0, PyData.depthAll]
    exact ⟨trivial, Nat.zero_le _⟩
  | e :: r, h => by
    obtain ⟨h1, h2⟩ := lay_row r fun x hx => h x (List.mem_cons_of_mem _ hx)
    simp only [List.map_cons, PyData.canLayAll0, PyData.canLay0, PyData.depthAll, PyData.depth, Bool.true_and, Bool.and_true]
    rw [h1, str_ok (h e List.mem_cons_self).2]
    refine ⟨rfl, ?_⟩
    omega
theorem shp_row (r : Row) (h : Cok r) : SeqAt.shaped (dR r) = true := by
  obtain ⟨h1, h2⟩ := lay_row r h
  refine Bool.and_eq_true_iff.mpr ⟨?_, decide_eq_true ?_⟩
  · simp only [PyData.canLay0]
    exact h1
  · simp only [PyData.depth]
    omega
theorem shp_ent (e : Nat × Nat) (h : e.2 ≤ 122) : SeqAt.shaped (dE e) = true := by
  refine Bool.and_eq_true_iff.mpr ⟨?_, decide_eq_true ?_⟩
  · simp only [PyData.canLay0, PyData.canLayAll0, Bool.true_and, Bool.and_true]
    exact str_ok h
  · simp only [PyData.depth, PyData.depthAll]
    decide
section
variable {σ : St} {H : Hp} {Q : VK} {v x y : V} {K : PySem.W.Frag} {ta te : TE} {D : Ends} {g : TG} {tb : TS}
theorem rd_eqD {d : PyData} (h1 : Dp K H x d) (h2 : Dp K H y d) (s : SeqAt.shaped d = true) (q : Q (.bl true) H) : rEqD K x y H Q :=
  ⟨d, d, h1, h2, s, s, by rw [SeqAt.eqv_refl d (SeqAt.canLay_of_shaped s)]; exact q⟩
theorem rd_neD {d : PyData} (h1 : Dp K H x d) (h2 : Dp K H y d) (s : SeqAt.shaped d = true) (q : Q (.bl false) H) : rNeD K x y H Q :=
  ⟨d, d, h1, h2, s, s, by rw [SeqAt.eqv_refl d (SeqAt.canLay_of_shaped s)]; exact q⟩
theorem rd_eqD2 {d e : PyData} (h1 : Dp K H x d) (h2 : Dp K H y e) (s : SeqAt.shaped d = true) (s2 : SeqAt.shaped e = true) {b : Bool} (hb : PyData.eqv d e = b) (q : Q (.bl b) H) : rEqD K x y H Q :=
  ⟨d, e, h1, h2, s, s2, by rw [hb]; exact q⟩
theorem rd_neD2 {d e : PyData} (h1 : Dp K H x d) (h2 : Dp K H y e) (s : SeqAt.shaped d = true) (s2 : SeqAt.shaped e = true) {b : Bool} (hb : PyData.eqv d e = b) (q : Q (.bl (!b)) H) : rNeD K x y H Q :=
  ⟨d, e, h1, h2, s, s2, by rw [hb]; exact q⟩
theorem rd_tyes {R : Bool → Hp → Prop} (q : R true H) : tYes σ H R := q
theorem rd_lstRg {tr : St → Hp → (Int → Int → Hp → Prop) → Prop} (q : tr σ H fun a b H1 => RgOk a b ∧ ∀ q, H1 q = none → Q (.ref q) (upd H1 q (.lst (rgV a b)))) : tLstRg tr σ H Q := q
theorem rd_rg1 {R : Int → Int → Hp → Prop} (q : ta σ H fun x H1 => ∃ n, x = .int n ∧ R 0 n H1) : tRg1 ta σ H R := q
theorem rd_tyL {p : Addr} {xs : List V} (h : H p = some (.lst xs)) (q : Q (.ty "list") H) : r1 kTyp [.ref p] H Q :=
  ⟨"list", by show (match H p with | some (.lst _) => _ | some (.tup _) => _ | _ => _) = _; rw [h], q⟩
theorem rd_tyT {p : Addr} {xs : List V} (h : H p = some (.tup xs)) (q : Q (.ty "tuple") H) : r1 kTyp [.ref p] H Q :=
  ⟨"tuple", by show (match H p with | some (.lst _) => _ | some (.tup _) => _ | _ => _) = _; rw [h], q⟩
end
abbrev pI (r : Row) : List Int := r.map fun e => (e.1 : Int)
theorem pI_map (r : Row) : (pI r).map V.int = r.map fun e => V.int (e.1 : Int) := by
  show (r.map _).map _ = _
  rw [List.map_map]
  rfl
abbrev rI' (n : Nat) : List Int := (List.range n).map fun i : Nat => (i : Int)
theorem rgV_is (n : Nat) : rgV 0 (n : Int) = (rI' n).map V.int := by
  unfold rgV
  rw [List.map_map, show ((n : Int) - 0).toNat = n by omega]
  apply List.map_congr_left
  intro i _
  show V.int (0 + (i : Int)) = V.int (i : Int)
  rw [Int.zero_add]
theorem sorted_is {r : Row} (h : Vr r) {ns : List Int} (hp : ns.Perm (pI r)) (hs : ns.Pairwise (· ≤ ·)) : ns = rI' r.length := by
  have h1 : (pI r).Perm (rI' r.length) := by
    have q := h.perm.map fun i : Nat => (i : Int)
    rw [List.map_map] at q
    exact q
  have h2 : (rI' r.length).Pairwise (· ≤ ·) := by
    refine List.pairwise_map.mpr (List.pairwise_lt_range.imp fun {a b} k => ?_)
    omega
  exact List.Perm.eq_of_pairwise (fun a b _ _ x y => Int.le_antisymm x y) hs h2 (hp.trans h1)
theorem lt60 {n : Nat} (h : n ≤ 60) : n < sizeLine := Nat.lt_of_le_of_lt h (by decide)
abbrev vN (p : Nat) : V := .int (p : Int)
/-! ### a call keeps a row a row -/
theorem byPerson_at {r : Row} {p : Nat} (h : p < r.length) : (byPerson r)[p]? = some (sg (colOf r p)) := by
  unfold byPerson
  rw [List.getElem?_map, List.getElem?_range h]
  rfl
def takenEach (r : Row) : List V := (List.range r.length).map fun q => oV (fo r (colOf r q))
theorem takenEach_at {r : Row} {p : Nat} (h : p < r.length) : (takenEach r)[p]? = some (oV (fo r (colOf r p))) := by
  unfold takenEach
  rw [List.getElem?_map, List.getElem?_range h]
  rfl
theorem fo_mem {r : Row} {c d : Nat} (h : fo r c = some d) : ∃ e ∈ r, e.2 = d ∧ d ≠ c := by
  unfold fo at h
  obtain ⟨e, h1, h2⟩ := Option.map_eq_some_iff.mp h
  have h3 := List.find?_some h1
  refine ⟨e, List.mem_of_find?_eq_some h1, h2, ?_⟩
  rw [← h2]
  simpa using h3
theorem colOf_mem {r : Row} {p : Nat} (h : ∃ e ∈ r, e.1 = p) : (p, colOf r p) ∈ r := by
  unfold colOf
  cases q : r.find? fun e => e.1 == p with
  | none =>
    obtain ⟨e, h1, h2⟩ := h
    have := List.find?_eq_none.mp q e h1
    exact absurd (by simpa using h2) this
  | some e =>
    have h1 := List.mem_of_find?_eq_some q
    have h2 : e.1 = p := by simpa using List.find?_some q
    show (p, e.2) ∈ r
    rw [← h2]
    exact h1
theorem perm_out {p : Nat} : ∀ {r : Row}, (r.map (·.1)).Nodup → (∃ e ∈ r, e.1 = p) → (p :: (r.filter fun e => e.1 != p).map (·.1)).Perm (r.map (·.1))
  | [], _, h => by
    obtain ⟨e, he, _⟩ := h
    cases he
  | e :: r, nd, h => by
    have nd' := List.nodup_cons.mp (show (e.1 :: r.map (·.1)).Nodup from nd)
    by_cases c : e.1 = p
    · rw [List.filter_cons_of_neg (by simpa using c)]
      have e2 : (r.filter fun e => e.1 != p) = r := by
        apply List.filter_eq_self.mpr
        intro x hx
        simp only [bne_iff_ne, ne_eq]
        intro z
        exact nd'.1 (by rw [c, ← z]; exact List.mem_map_of_mem (f := (·.1)) hx)
      rw [e2, List.map_cons, c]
    · rw [List.filter_cons_of_pos (by simpa using c), List.map_cons, List.map_cons]
      have h' : ∃ e ∈ r, e.1 = p := by
        obtain ⟨x, hx, hq⟩ := h
        rcases List.mem_cons.mp hx with z | z
        · exact absurd (z ▸ hq) c
        · exact ⟨x, z, hq⟩
      exact (List.Perm.swap _ _ _).trans ((perm_out nd'.2 h').cons _)
theorem app_perm {r : Row} (h : Vr r) {p : Nat} (hp : p < r.length) : ((app r p).map (·.1)).Perm (r.map (·.1)) := perm_out h.nodup (h.has hp)
theorem app_len {r : Row} (h : Vr r) {p : Nat} (hp : p < r.length) : (app r p).length = r.length := by
  have := (app_perm h hp).length_eq
  rw [List.length_map, List.length_map] at this
  exact this
theorem Vr.colOf {r : Row} (h : Vr r) {p : Nat} (hp : p < r.length) : 97 ≤ LX.colOf r p ∧ LX.colOf r p ≤ 122 := h.col _ (colOf_mem (h.has hp))
theorem Vr.fo {r : Row} (h : Vr r) {c d : Nat} (e : LX.fo r c = some d) : 97 ≤ d ∧ d ≤ 122 := by
  obtain ⟨x, h1, h2, _⟩ := fo_mem e
  rw [← h2]
  exact h.col x h1
theorem Vr.app {r : Row} (h : Vr r) {p : Nat} (hp : p < r.length) : Vr (LX.app r p) where
  n1 := by rw [app_len h hp]; exact h.n1
  n2 := by rw [app_len h hp]; exact h.n2
  col := by
    intro e he
    rcases List.mem_cons.mp he with z | z
    · rw [z]
      show 97 ≤ (LX.fo r (LX.colOf r p)).getD (LX.colOf r p) ∧ (LX.fo r (LX.colOf r p)).getD (LX.colOf r p) ≤ 122
      cases q : LX.fo r (LX.colOf r p) with
      | none => exact h.colOf hp
      | some d => exact h.fo q
    · exact h.col e (List.mem_filter.mp z).1
  perm := by rw [app_len h hp]; exact (app_perm h hp).trans h.perm
/-- calls one after the other -/
def apps (r : Row) (cs : List Nat) : Row := cs.foldl app r
theorem apps_snoc (r : Row) (cs : List Nat) (p : Nat) : apps r (cs ++ [p]) = app (apps r cs) p := by
  unfold apps
  rw [List.foldl_append]
  rfl
theorem apps_len {r : Row} (h : Vr r) : ∀ (cs : List Nat), (∀ p ∈ cs, p < r.length) → Vr (apps r cs) ∧ (apps r cs).length = r.length := by
  intro cs
  induction cs generalizing r with
  | nil => intro _; exact ⟨h, rfl⟩
  | cons p cs ih =>
    intro hc
    have hp := hc p List.mem_cons_self
    have := ih (h.app hp) fun q hq => by
      rw [app_len h hp]
      exact hc q (List.mem_cons_of_mem _ hq)
    exact ⟨this.1, this.2.trans (app_len h hp)⟩
theorem oV_none {o : Option Nat} : decide (oV o = V.non) = o.isNone := by
  cases o with
  | none => rfl
  | some c => rfl
theorem sz60' {n : Nat} (h : n ≤ 100) : n ≤ sizeLine := Nat.le_trans h (by decide)
/-! ### the script and its cells -/
theorem cut_ints (ns : List Int) (lo hi : Option Int) : ∃ ms : List Int, cutV (ns.map V.int) lo hi = ms.map V.int ∧ ms.length ≤ ns.length := by
  unfold cutV
  rw [← List.map_drop, ← List.map_take]
  refine ⟨_, rfl, ?_⟩
  rw [List.length_take, List.length_drop]
  omega
theorem eqv_nil (ns : List Int) : PyData.eqv (dI ns) (dI []) = decide (ns = []) := by
  cases ns with
  | nil => rfl
  | cons n ns => simp [PyData.eqv, PyData.eqvAll]
theorem rd_cut {t u : TS} {D : Ends} {σ : St} {H : Hp} (M : St → Hp → Prop) (h : t { D with nx := M } σ H) (k : ∀ σ' H', M σ' H' → u D σ' H') : Evl.tCut t u D σ H := ⟨M, h, k⟩
theorem rd_bool {H : Hp} {b : Bool} {R : Int → Prop} {Q : VK} (q : Q (.int (if b then 1 else 0)) H) : (∃ i, [V.bl b] = [V.int i] ∧ Q (.int i) H) ∨ ∃ k, [V.bl b] = [V.bl k] ∧ Q (.int (if k then 1 else 0)) H := Or.inr ⟨b, rfl, q⟩
theorem Same'.of {p : Addr} {H H' : Hp} (h : ∀ b, b ≠ p → H' b = H b) : Same' p H H' := fun b o e n => by rw [h b n]; exact e
theorem Same'.free {p q : Addr} {H H' : Hp} (s : Same' p H H') (h : H' q = none) (n : q ≠ p) : H q = none := by
  cases e : H q with
  | none => rfl
  | some o =>
    rw [s q o e n] at h
    cases h
theorem Src.not_none {H : Hp} {p q : Addr} (h : Src H p) (hq : H q = none) : q ≠ p := fun e => by
  obtain ⟨xs, h1⟩ := h.lst
  rw [e, h1] at hq
  cases hq
/-- the script: locked, or an object of the module -/
def Scr (K : PySem.W.Frag) (H : Hp) (l : Addr) (ns : List Int) : Prop := (∃ o, H l = some (.frz o (.lst (ns.map V.int)))) ∨ ∀ H', SqL K H' l (ns.map V.int)
theorem Scr.of {K : PySem.W.Frag} {H : Hp} {l : Addr} {ns : List Int} (hO : Only H) (h : SqL K H l (ns.map V.int)) : Scr K H l ns := by
  rcases h with (h | ⟨o, h⟩) | h
  · rcases hO l with z | ⟨o, xs, z⟩
    · rw [h] at z
      cases z
    · rw [h] at z
      cases z
  · exact Or.inl ⟨o, h⟩
  · exact Or.inr fun H' => Or.inr h
theorem Scr.seq {K : PySem.W.Frag} {H : Hp} {l : Addr} {ns : List Int} (h : Scr K H l ns) : SqL K H l (ns.map V.int) := by
  rcases h with ⟨o, h⟩ | h
  · exact Or.inl (Or.inr ⟨o, h⟩)
  · exact h H
theorem Scr.same {K : PySem.W.Frag} {H H' : Hp} {l : Addr} {ns : List Int} (h : Scr K H l ns) (s : Same H H') : Scr K H' l ns := by
  rcases h with ⟨o, h⟩ | h
  · exact Or.inl ⟨o, s _ _ h⟩
  · exact Or.inr h
theorem Scr.same' {K : PySem.W.Frag} {H H' : Hp} {l p : Addr} {ns : List Int} (h : Scr K H l ns) (s : Same' p H H') (hp : ∃ xs, H p = some (.lst xs)) : Scr K H' l ns := by
  rcases h with ⟨o, h⟩ | h
  · refine Or.inl ⟨o, s _ _ h fun e => ?_⟩
    obtain ⟨xs, hx⟩ := hp
    rw [e, hx] at h
    cases h
  · exact Or.inr h
theorem seqIx {n j : Nat} (h : j < n) : PySem.seqIndex? (j : Int) n = some j := by
  show (if (decide (0 ≤ if (j : Int) < 0 then (j : Int) + n else j) && decide ((if (j : Int) < 0 then (j : Int) + n else j) < (n : Int))) = true then some (if (j : Int) < 0 then (j : Int) + n else j).toNat else none) = some j
  have e : (if (j : Int) < 0 then (j : Int) + n else (j : Int)) = (j : Int) := if_neg (by omega)
  rw [e, if_pos (by rw [decide_eq_true (show (0 : Int) ≤ j by omega), decide_eq_true (show (j : Int) < n by omega)]; rfl)]
  simp
theorem erase_map {α β : Type} (f : α → β) : ∀ (l : List α) (j : Nat), (l.map f).eraseIdx j = (l.eraseIdx j).map f
  | [], _ => rfl
  | x :: l, 0 => rfl
  | x :: l, j + 1 => by
    show f x :: (l.map f).eraseIdx j = f x :: (l.eraseIdx j).map f
    rw [erase_map f l j]
theorem erase_perm {α : Type} : ∀ {l : List α} {j : Nat} {x : α}, l[j]? = some x → (x :: l.eraseIdx j).Perm l
  | [], j, x, h => by simp at h
  | y :: l, 0, x, h => by
    have e : y = x := Option.some.inj h
    rw [e]
    exact List.Perm.refl _
  | y :: l, j + 1, x, h => by
    have ih := erase_perm (l := l) (j := j) (x := x) (by simpa using h)
    exact (List.Perm.swap _ _ _).trans (ih.cons _)
theorem abc_at : ∀ m : Nat, m < 26 → atI (Str.ofString "abcdefghijklmnopqrstuvwxyz").cps.toList (m : Int) = some (97 + m) := by
  decide +kernel
theorem abc_len : (Str.ofString "abcdefghijklmnopqrstuvwxyz").length ≤ sizeLine := by
  have e : (Str.ofString "abcdefghijklmnopqrstuvwxyz").length = 26 := by decide +kernel
  rw [e]
  decide
theorem Same'.tups {p : Addr} {H H' : Hp} (s : Same' p H H') {xs : List V} (hp : H p = some (.lst xs)) : ∀ b ys, H b = some (.tup ys) → H' b = some (.tup ys) := fun b ys e => s b _ e fun q => by
  rw [q, hp] at e
  cases e
/-- a row that is being drawn -/
structure Drw (H : Hp) (D q p : Addr) (n i : Nat) (H0 : Hp) : Prop where
  ex : ∃ (us : List Addr) (rr : Row) (ls : List Nat), H D = some (.lst (us.map V.ref)) ∧ H q = some (.lst (ls.map vN)) ∧ TupsAt H us rr ∧ rr.length = i ∧ (rr.map (·.1) ++ ls).Perm (List.range n) ∧ Cok rr
  src : Src H p
  same : Same' p H0 H
theorem drw_end {H H0 : Hp} {D q p : Addr} {n : Nat} (h : Drw H D q p n n H0) (n1 : 1 ≤ n) (n2 : n ≤ 60) : ∃ r, RowAt H D r ∧ Vr r := by
  obtain ⟨us, rr, ls, h1, h2, h3, h4, h5, h6⟩ := h.ex
  have e := h5.length_eq
  rw [List.length_append, List.length_map, List.length_range] at e
  have : ls = [] := List.length_eq_zero_iff.mp (by omega)
  rw [this, List.append_nil] at h5
  exact ⟨rr, ⟨us, h1, h3⟩, ⟨by omega, by omega, h6, by rw [h4]; exact h5⟩⟩
theorem pick4 (a b c d : Int) {j : Int} (h0 : 0 ≤ j) (h1 : j < 4) : ∃ x : Int, atI [V.int a, V.int b, V.int c, V.int d] j = some (.int x) ∧ (x = a ∨ x = b ∨ x = c ∨ x = d) := by
  have : j = 0 ∨ j = 1 ∨ j = 2 ∨ j = 3 := by omega
  rcases this with e | e | e | e
  · subst e
    exact ⟨a, rfl, Or.inl rfl⟩
  · subst e
    exact ⟨b, rfl, Or.inr (Or.inl rfl)⟩
  · subst e
    exact ⟨c, rfl, Or.inr (Or.inr (Or.inl rfl))⟩
  · subst e
    exact ⟨d, rfl, Or.inr (Or.inr (Or.inr rfl))⟩
theorem rgV_nat {z : Int} (h : 0 ≤ z) : rgV 0 z = (List.range z.toNat).map vN := by
  have e : z = (z.toNat : Int) := by omega
  rw [e, rgV_is, List.map_map]
  rfl
theorem rd_ifV {σ : St} {H : Hp} {Q : VK} {v : V} {t : TT} {ta tb : TE} (b : Bool) (ht : ∀ R : Bool → Hp → Prop, R b H → t σ H R) (ha : b = true → ∀ R : VK, R v H → ta σ H R) (hb : b = false → ∀ R : VK, R v H → tb σ H R) (q : Q v H) : tIf t ta tb σ H Q := by
  refine ht _ ?_
  cases b with
  | true => exact ha rfl _ q
  | false => exact hb rfl _ q
theorem scal_oV (x y : Option Nat) : scal (oV x) (oV y) = true := by
  cases x <;> cases y <;> rfl
theorem oV_inj {x y : Option Nat} (h : oV x = oV y) : x = y := by
  cases x with
  | none =>
    cases y with
    | none => rfl
    | some b => cases h
  | some a =>
    cases y with
    | none => cases h
    | some b =>
      injection h with h
      injection h with h
      injection h with h
      injection h with h
      rw [h]
theorem sg_inj {x y : Nat} (h : sg x = sg y) : x = y := by
  have := oV_inj (x := some x) (y := some y) h
  exact Option.some.inj this
theorem sIx_nat (n d : Nat) (k : Nat) (h : k ≤ n) : HT.sIx n d (some (k : Int)) = k := by
  rw [HT.sIx_nat]
  omega
theorem cut_take (xs : List V) (k : Nat) (h : k ≤ xs.length) : cutV xs none (some (k : Int)) = xs.take k := by
  unfold cutV
  rw [sIx_nat _ _ _ h]
  have e : HT.sIx xs.length 0 none = 0 := rfl
  rw [e]
  rfl
theorem cut_drop (xs : List V) (k : Nat) (h : k ≤ xs.length) : cutV xs (some (k : Int)) none = xs.drop k := by
  unfold cutV
  rw [sIx_nat _ _ _ h]
  have e : HT.sIx xs.length xs.length none = xs.length := rfl
  rw [e]
  apply List.take_of_length_le
  rw [List.length_drop]
  omega
theorem at_last {α : Type} {l : List α} (h : 0 < l.length) : ∃ x ∈ l, atI l (-1) = some x := by
  have h2 : l.length - 1 < l.length := by omega
  refine ⟨l[l.length - 1], List.getElem_mem h2, ?_⟩
  unfold atI ixN
  rw [if_neg (by omega), if_pos (by omega)]
  show l[((-1 : Int) + l.length).toNat]? = _
  rw [show ((-1 : Int) + l.length).toNat = l.length - 1 by omega]
  exact List.getElem?_eq_getElem h2
theorem pick3 (a b c : Nat) {j : Int} (h0 : 0 ≤ j) (h1 : j < 3) : ∃ x : Nat, atI [sg a, sg b, sg c] j = some (sg x) ∧ (x = a ∨ x = b ∨ x = c) := by
  have : j = 0 ∨ j = 1 ∨ j = 2 := by omega
  rcases this with e | e | e
  · subst e
    exact ⟨a, rfl, Or.inl rfl⟩
  · subst e
    exact ⟨b, rfl, Or.inr (Or.inl rfl)⟩
  · subst e
    exact ⟨c, rfl, Or.inr (Or.inr rfl)⟩
theorem rd_forL {K : PySem.W.Frag} {σ : St} {H : Hp} {tl : TE} {g : TG} {tb : TS} {D : Ends} (M : Addr → Hp → Prop) (h1 : ∀ R : VK, (∀ b H1, M b H1 → R (.ref b) H1) → tl σ H R)
    (h2 : ∀ b H1, M b H1 → (∃ xs, SqL K H1 b xs) ∧ ∃ W : Nat → Nat → St → Hp → Prop, (∃ m, W 0 m σ H1) ∧ ∀ i m σ H, W i m σ H →
      ((Itl K b).stop i H ∧ D.nx σ H) ∨ ((Itl K b).go i H ∧ ∃ N : St → Hp → Prop, (∀ σ' H', N σ' H' → ∃ m', m' < m ∧ W (i + 1) m' σ' H') ∧ ∀ x H', (Itl K b).yld i H x H' → g x σ H' fun σ2 H2 => tb { D with nx := N, ct := N, bk := D.nx } σ2 H2)) :
    tFor (iList K tl) g tb D σ H := h1 _ fun b H1 m => ⟨b, rfl, (h2 b H1 m).1, (h2 b H1 m).2⟩
theorem cut_tail (xs : List V) : cutV xs (some 1) none = xs.drop 1 := by
  by_cases h : 1 ≤ xs.length
  · exact cut_drop xs 1 h
  · have e : xs = [] := List.length_eq_zero_iff.mp (by omega)
    rw [e]
    rfl
theorem rd_in {neg : Bool} {K : PySem.W.Frag} {H : Hp} {Q : VK} {x : V} {p : Addr} {xs : List V} {b : Bool} (h : H p = some (.lst xs)) (f : flatV x = true) (fs : xs.all flatV = true) (hb : inV x xs = b) (q : Q (.bl (if neg then !b else b)) H) : rIn K neg x (.ref p) H Q :=
  ⟨p, xs, rfl, Or.inl (SqL.of h), f, fs, by rw [hb]; exact q⟩
theorem rd_notin {K : PySem.W.Frag} {H : Hp} {Q : VK} {x : V} {p : Addr} {xs : List V} {b : Bool} (h : H p = some (.lst xs)) (f : flatV x = true) (fs : xs.all flatV = true) (hb : inV x xs = b) (q : Q (.bl (!b)) H) : rIn K true x (.ref p) H Q :=
  rd_in h f fs hb q
theorem rd_isin {K : PySem.W.Frag} {H : Hp} {Q : VK} {x : V} {p : Addr} {xs : List V} {b : Bool} (h : H p = some (.lst xs)) (f : flatV x = true) (fs : xs.all flatV = true) (hb : inV x xs = b) (q : Q (.bl b) H) : rIn K false x (.ref p) H Q :=
  rd_in h f fs hb q
theorem rd_forR {σ : St} {H : Hp} {ta : TA} {n : Int} {g : TG} {tb : TS} {D : Ends} (M : Hp → Prop) (h1 : ∀ R : List V → Hp → Prop, (∀ H1, M H1 → R [.int n] H1) → ta σ H R) (n0 : 0 ≤ n) (n1 : n ≤ 100000)
    (h2 : ∀ H1, M H1 → ∃ W : Nat → Nat → St → Hp → Prop, (∃ m, W 0 m σ H1) ∧ ∀ i m σ H, W i m σ H →
      ((Itr 0 n.toNat).stop i H ∧ D.nx σ H) ∨ ((Itr 0 n.toNat).go i H ∧ ∃ N : St → Hp → Prop, (∀ σ' H', N σ' H' → ∃ m', m' < m ∧ W (i + 1) m' σ' H') ∧ ∀ x H', (Itr 0 n.toNat).yld i H x H' → g x σ H' fun σ2 H2 => tb { D with nx := N, ct := N, bk := D.nx } σ2 H2)) :
    tFor (iRng1 ta) g tb D σ H := h1 _ fun H1 m => ⟨n, rfl, by omega, by omega, h2 H1 m⟩
theorem rd_forRn {σ : St} {H : Hp} {ta : TA} {g : TG} {tb : TS} {D : Ends} (M : Int → Hp → Prop) (h1 : ∀ R : List V → Hp → Prop, (∀ n H1, M n H1 → R [.int n] H1) → ta σ H R)
    (h2 : ∀ n H1, M n H1 → 0 ≤ n ∧ n ≤ 100000 ∧ ∃ W : Nat → Nat → St → Hp → Prop, (∃ m, W 0 m σ H1) ∧ ∀ i m σ H, W i m σ H →
      ((Itr 0 n.toNat).stop i H ∧ D.nx σ H) ∨ ((Itr 0 n.toNat).go i H ∧ ∃ N : St → Hp → Prop, (∀ σ' H', N σ' H' → ∃ m', m' < m ∧ W (i + 1) m' σ' H') ∧ ∀ x H', (Itr 0 n.toNat).yld i H x H' → g x σ H' fun σ2 H2 => tb { D with nx := N, ct := N, bk := D.nx } σ2 H2)) :
    tFor (iRng1 ta) g tb D σ H := h1 _ fun n H1 m => ⟨n, rfl, by have := (h2 n H1 m).1; omega, by have := (h2 n H1 m).2.1; omega, (h2 n H1 m).2.2⟩
/-! ### what calls take, runs -/
def takens : Row → List Nat → List (Option Nat)
  | _, [] => []
  | r, p :: cs => fo r (colOf r p) :: takens (app r p) cs
theorem takens_snoc : ∀ (r : Row) (cs : List Nat) (p : Nat), takens r (cs ++ [p]) = takens r cs ++ [fo (apps r cs) (colOf (apps r cs) p)]
  | _, [], _ => rfl
  | r, q :: cs, p => by
    show fo r (colOf r q) :: takens (app r q) (cs ++ [p]) = fo r (colOf r q) :: (takens (app r q) cs ++ [_])
    rw [takens_snoc (app r q) cs p]
    rfl
theorem takens_len : ∀ (r : Row) (cs : List Nat), (takens r cs).length = cs.length
  | _, [] => rfl
  | r, p :: cs => congrArg (· + 1) (takens_len (app r p) cs)
/-- the last run grows, or a new one begins -/
def rsnoc (acc : List (Int × Nat)) (x : Int) : List (Int × Nat) :=
  match acc.getLast? with
  | some (y, k) => if y = x then acc.set (acc.length - 1) (x, k + 1) else acc ++ [(x, 1)]
  | none => acc ++ [(x, 1)]
def runsI (cs : List Int) : List (Int × Nat) := cs.foldl rsnoc []
theorem runsI_snoc (cs : List Int) (x : Int) : runsI (cs ++ [x]) = rsnoc (runsI cs) x := by
  unfold runsI
  rw [List.foldl_append]
  rfl
theorem rsnoc_len (acc : List (Int × Nat)) (x : Int) : (rsnoc acc x).length ≤ acc.length + 1 := by
  unfold rsnoc
  split
  · split
    · rw [List.length_set]
      omega
    · rw [List.length_append]
      simp
  · rw [List.length_append]
    simp
theorem runs_fold_len : ∀ (cs : List Int) (acc : List (Int × Nat)), (cs.foldl rsnoc acc).length ≤ acc.length + cs.length
  | [], acc => Nat.le_refl _
  | x :: cs, acc => by
    have h1 := runs_fold_len cs (rsnoc acc x)
    have h2 := rsnoc_len acc x
    show (cs.foldl rsnoc (rsnoc acc x)).length ≤ acc.length + (cs.length + 1)
    omega
theorem runsI_len (cs : List Int) : (runsI cs).length ≤ cs.length := by
  have := runs_fold_len cs []
  have e : ([] : List (Int × Nat)).length = 0 := rfl
  rw [e] at this
  unfold runsI
  omega
def shortR (rs : List (Int × Nat)) : List Int := rs.flatMap fun e => List.replicate (if e.2 % 2 = 1 then 1 else 2) e.1
def short (cs : List Int) : List Int := shortR (runsI cs)
theorem shortR_snoc (rs : List (Int × Nat)) (e : Int × Nat) : shortR (rs ++ [e]) = shortR rs ++ List.replicate (if e.2 % 2 = 1 then 1 else 2) e.1 := by
  unfold shortR
  rw [List.flatMap_append, List.flatMap_cons, List.flatMap_nil, List.append_nil]
theorem shortR_len (rs : List (Int × Nat)) : (shortR rs).length ≤ 2 * rs.length := by
  induction rs with
  | nil => exact Nat.le_refl _
  | cons e rs ih =>
    unfold shortR at ih ⊢
    rw [List.flatMap_cons, List.length_append, List.length_replicate, List.length_cons]
    split <;> omega
abbrev prI (e : Int × Nat) : List V := [.int e.1, .int (e.2 : Int)]
/-- tuples of two ints -/
def PairsAt (H : Hp) : List Addr → List (Int × Nat) → Prop
  | [], [] => True
  | t :: ts, e :: r => H t = some (.tup (prI e)) ∧ PairsAt H ts r
  | _, _ => False
theorem PairsAt.len {H : Hp} : ∀ {ts : List Addr} {r : List (Int × Nat)}, PairsAt H ts r → ts.length = r.length
  | [], [], _ => rfl
  | _ :: ts, _ :: r, h => congrArg (· + 1) (PairsAt.len (ts := ts) (r := r) h.2)
  | [], _ :: _, h => h.elim
  | _ :: _, [], h => h.elim
theorem PairsAt.mono {H H' : Hp} : ∀ {ts : List Addr} {r : List (Int × Nat)}, PairsAt H ts r → (∀ b xs, H b = some (.tup xs) → H' b = some (.tup xs)) → PairsAt H' ts r
  | [], [], _, _ => True.intro
  | _ :: ts, _ :: r, h, k => ⟨k _ _ h.1, PairsAt.mono (ts := ts) (r := r) h.2 k⟩
  | [], _ :: _, h, _ => h.elim
  | _ :: _, [], h, _ => h.elim
theorem PairsAt.get {H : Hp} : ∀ {ts : List Addr} {r : List (Int × Nat)} {i : Nat} {t : Addr}, PairsAt H ts r → ts[i]? = some t → ∃ e, r[i]? = some e ∧ H t = some (.tup (prI e))
  | [], [], i, t, _, h => by simp at h
  | _ :: ts, e :: r, 0, t, h, q => by
    simp at q
    subst q
    exact ⟨e, rfl, h.1⟩
  | _ :: ts, _ :: r, i + 1, t, h, q => by
    simp at q
    obtain ⟨e, h1, h2⟩ := PairsAt.get (ts := ts) (r := r) h.2 q
    exact ⟨e, by simpa using h1, h2⟩
  | [], _ :: _, _, _, h, _ => h.elim
  | _ :: _, [], _, _, h, _ => h.elim
theorem PairsAt.snoc {H : Hp} {t : Addr} {e : Int × Nat} (ht : H t = some (.tup (prI e))) : ∀ {ts : List Addr} {r : List (Int × Nat)}, PairsAt H ts r → PairsAt H (ts ++ [t]) (r ++ [e])
  | [], [], _ => ⟨ht, True.intro⟩
  | _ :: ts, _ :: r, h => ⟨h.1, PairsAt.snoc ht (ts := ts) (r := r) h.2⟩
  | [], _ :: _, h => h.elim
  | _ :: _, [], h => h.elim
theorem PairsAt.set {H : Hp} {t : Addr} {e : Int × Nat} (ht : H t = some (.tup (prI e))) : ∀ {ts : List Addr} {r : List (Int × Nat)} (j : Nat), PairsAt H ts r → PairsAt H (ts.set j t) (r.set j e)
  | [], [], _, _ => True.intro
  | _ :: ts, _ :: r, 0, h => ⟨ht, h.2⟩
  | _ :: ts, _ :: r, j + 1, h => ⟨h.1, PairsAt.set ht (ts := ts) (r := r) j h.2⟩
  | [], _ :: _, _, h => h.elim
  | _ :: _, [], _, h => h.elim
theorem PairsAt.last {H : Hp} {ts : List Addr} {r : List (Int × Nat)} (h : PairsAt H ts r) {e : Int × Nat} (he : r.getLast? = some e) : ∃ t, ts[ts.length - 1]? = some t ∧ H t = some (.tup (prI e)) := by
  have hl := h.len
  rw [List.getLast?_eq_getElem?] at he
  have h1 : r.length - 1 < r.length := (List.getElem?_eq_some_iff.mp he).1
  have h2 : ts.length - 1 < ts.length := by omega
  have h3 := List.getElem?_eq_getElem h2
  obtain ⟨e', h4, h5⟩ := h.get h3
  rw [show ts.length - 1 = r.length - 1 by omega, he] at h4
  cases h4
  exact ⟨_, h3, h5⟩
theorem at_neg1 {α : Type} {l : List α} {x : α} (h : l[l.length - 1]? = some x) : atI l (-1) = some x := by
  have h1 := (List.getElem?_eq_some_iff.mp h).1
  unfold atI ixN
  rw [if_neg (by omega), if_pos (by omega)]
  show l[((-1 : Int) + l.length).toNat]? = _
  rw [show ((-1 : Int) + l.length).toNat = l.length - 1 by omega]
  exact h
theorem ix_neg1 {n : Nat} (h : 0 < n) : ixN n (-1) = some (n - 1) := by
  unfold ixN
  rw [if_neg (by omega), if_pos (by omega)]
  congr 1
  omega
theorem rd_truL {K : PySem.W.Frag} {H : Hp} {p : Addr} {xs : List V} {R : Bool → Prop} (h : H p = some (.lst xs)) (q : R (!xs.isEmpty)) : ∃ k, TruV K (.ref p) H k ∧ R k := ⟨_, Or.inl ⟨xs, SqL.of h, rfl⟩, q⟩
theorem rd_qtru {K : PySem.W.Frag} {σ : St} {H : Hp} {ta : TE} {Q : Bool → Hp → Prop} (q : ta σ H fun x H' => ∃ k, TruV K x H' k ∧ Q k H') : qTru K ta σ H Q := q
theorem sz1000 {n : Nat} (h : n ≤ 100000) : n < sizeLine := Nat.lt_of_le_of_lt h (by decide)
/-- a row that is filtered, its entries as they stand -/
theorem filt_turn {H : Hp} {us : List Addr} {r : Row} {i : Nat} {p : Nat × Nat → Bool} {t : Addr} {e : Nat × Nat} (h : TupsAt H us ((r.take i).filter p)) (he : r[i]? = some e) (ht : H t = some (.tup (pr e))) :
    TupsAt H (if p e = true then us ++ [t] else us) ((r.take (i + 1)).filter p) := by
  rw [take_of he, List.filter_append]
  by_cases c : p e = true
  · rw [if_pos c, List.filter_cons_of_pos c]
    exact h.app (TupsAt.one ht)
  · rw [if_neg c, List.filter_cons_of_neg c]
    show TupsAt H us (_ ++ [])
    rw [List.append_nil]
    exact h
/-- what happens to the runs, by the last one -/
theorem rsnoc_grow {acc : List (Int × Nat)} {x : Int} {k : Nat} (h : acc.getLast? = some (x, k)) : rsnoc acc x = acc.set (acc.length - 1) (x, k + 1) := by
  unfold rsnoc
  rw [h]
  show (if x = x then _ else _) = _
  rw [if_pos rfl]
theorem rsnoc_new {acc : List (Int × Nat)} {x y : Int} {k : Nat} (h : acc.getLast? = some (y, k)) (n : y ≠ x) : rsnoc acc x = acc ++ [(x, 1)] := by
  unfold rsnoc
  rw [h]
  show (if y = x then _ else _) = _
  rw [if_neg n]
theorem rsnoc_nil (x : Int) : rsnoc [] x = [(x, 1)] := rfl
theorem last_of_ne {acc : List (Int × Nat)} (h : acc ≠ []) : ∃ e, acc.getLast? = some e := ⟨_, List.getLast?_eq_some_getLast h⟩
theorem rd_iteJ {b : Bool} {σ : St} {H : Hp} {ta tb : TE} {Q : VK} (v : V) (h1 : b = true → ∀ R : VK, R v H → ta σ H R) (h2 : b = false → ∀ R : VK, R v H → tb σ H R) (q : Q v H) : if b = true then ta σ H Q else tb σ H Q := by
  cases b with
  | true => exact iteT (h1 rfl _ q)
  | false => exact iteF (h2 rfl _ q)
end LX

/-! ### comprehensions that add only new objects: the list they make -/
namespace LX
open PySem L2
theorem range_fm {α β : Type} (f : α → Option β) : ∀ l : List α, (List.range l.length).filterMap (fun i => (l[i]?).bind f) = l.filterMap f
  | [] => rfl
  | x :: l => by
    rw [List.length_cons, List.range_succ_eq_map, List.filterMap_cons, List.filterMap_map]
    have ih := range_fm f l
    show (match f x with | none => _ | some b => b :: _) = _
    have e : ((fun i => ((x :: l)[i]?).bind f) ∘ Nat.succ) = fun i => (l[i]?).bind f := rfl
    rw [e, ih]
    cases q : f x with
    | none => rw [List.filterMap_cons_none q]
    | some y => rw [List.filterMap_cons_some q]
section
variable {K : PySem.W.Frag} {a D : Addr} {xs : List V} {g : TG} {tt : TT} {te : TE} {vs : List Nat} {σ : L2.St} {H1 : Hp} {Qd : Hp → Prop}
theorem lc_ix (f : Nat → Option V) (hD : H1 D = none) (ha : ∀ H, Same H1 H → SqL K H a xs) (hz : xs.length ≤ 1000)
    (hs : ∀ i x, xs[i]? = some x → ∀ H, Same H1 H → ∀ (T : V → Hp → Prop) (F : Hp → Prop), (∀ y H', f i = some y → Same H H' → T y H') → (∀ H', f i = none → Same H H' → F H') →
      g x (wipe σ vs) H fun σ2 H2 => wipe σ2 vs = wipe σ vs ∧ tt σ2 H2 fun b H3 => if b = true then te σ2 H3 T else F H3)
    (hd : ∀ H', Same H1 H' → H' D = some (.lst ((List.range xs.length).filterMap f)) → Qd H') :
    ∃ W : Nat → Nat → Hp → Prop, (∃ m, W 0 m (upd H1 D (.lst []))) ∧ ∀ i m H, W i m H →
      ((Itl K a).stop i H ∧ Qd H) ∨ ((Itl K a).go i H ∧ ∃ Nx : Hp → Prop, (∀ H', Nx H' → ∃ m', m' < m ∧ W (i + 1) m' H') ∧ ∀ x H', (Itl K a).yld i H x H' → g x (wipe σ vs) H' fun σ2 H2 => wipe σ2 vs = wipe σ vs ∧ tt σ2 H2 fun b H3 =>
        if b = true then te σ2 H3 fun y H4 => ∃ acc, H4 D = some (.lst acc) ∧ acc.length < sizeLine ∧ Nx (upd H4 D (.lst (acc ++ [y]))) else Nx H3) := by
  refine lc_list (K := K) (a := a) (xs := xs) (fun i H => Same H1 H ∧ H D = some (.lst ((List.range i).filterMap f)) ∧ i ≤ 1000) ⟨sNew hD, upd_same, Nat.zero_le _⟩ (fun i H _ h => ha H h.1) ?_ ?_
  · rintro i x H hi ⟨s, e, hi2⟩
    have hil : i < xs.length := (List.getElem?_eq_some_iff.mp hi).1
    have ln : ((List.range i).filterMap f).length ≤ i := by
      have := List.length_filterMap_le f (List.range i)
      rw [List.length_range] at this
      exact this
    refine hs i x hi H s _ _ (fun y H' hy s2 => ⟨_, s2 _ _ e, small1000 (Nat.le_trans ln hi2), sUpd (s.trans s2) hD, ?_, by omega⟩) fun H' hn s2 => ⟨s.trans s2, ?_, by omega⟩
    · rw [upd_same, List.range_succ, List.filterMap_append, List.filterMap_cons_some hy]
      rfl
    · rw [s2 _ _ e, List.range_succ, List.filterMap_append, List.filterMap_cons_none hn]
      show _ = some (HO.lst (_ ++ []))
      rw [List.append_nil]
  · rintro H ⟨s, e, _⟩
    exact hd H s e
theorem lc_rng {n : Nat} (f : Nat → Option V) (hD : H1 D = none) (hz : n ≤ 1000)
    (hs : ∀ i, i < n → ∀ H, Same H1 H → ∀ (T : V → Hp → Prop) (F : Hp → Prop), (∀ y H', f i = some y → Same H H' → T y H') → (∀ H', f i = none → Same H H' → F H') →
      g (.int (i : Int)) (wipe σ vs) H fun σ2 H2 => wipe σ2 vs = wipe σ vs ∧ tt σ2 H2 fun b H3 => if b = true then te σ2 H3 T else F H3)
    (hd : ∀ H', Same H1 H' → H' D = some (.lst ((List.range n).filterMap f)) → Qd H') :
    ∃ W : Nat → Nat → Hp → Prop, (∃ m, W 0 m (upd H1 D (.lst []))) ∧ ∀ i m H, W i m H →
      ((Itr 0 n).stop i H ∧ Qd H) ∨ ((Itr 0 n).go i H ∧ ∃ Nx : Hp → Prop, (∀ H', Nx H' → ∃ m', m' < m ∧ W (i + 1) m' H') ∧ ∀ x H', (Itr 0 n).yld i H x H' → g x (wipe σ vs) H' fun σ2 H2 => wipe σ2 vs = wipe σ vs ∧ tt σ2 H2 fun b H3 =>
        if b = true then te σ2 H3 fun y H4 => ∃ acc, H4 D = some (.lst acc) ∧ acc.length < sizeLine ∧ Nx (upd H4 D (.lst (acc ++ [y]))) else Nx H3) := by
  refine lc_range (lo := 0) (n := n) (fun i H => Same H1 H ∧ H D = some (.lst ((List.range i).filterMap f)) ∧ i ≤ 1000) ⟨sNew hD, upd_same, Nat.zero_le _⟩ ?_ ?_
  · rintro i H hi ⟨s, e, hi2⟩
    have ln : ((List.range i).filterMap f).length ≤ i := by
      have := List.length_filterMap_le f (List.range i)
      rw [List.length_range] at this
      exact this
    rw [Int.zero_add]
    refine hs i hi H s _ _ (fun y H' hy s2 => ⟨_, s2 _ _ e, small1000 (Nat.le_trans ln hi2), sUpd (s.trans s2) hD, ?_, by omega⟩) fun H' hn s2 => ⟨s.trans s2, ?_, by omega⟩
    · rw [upd_same, List.range_succ, List.filterMap_append, List.filterMap_cons_some hy]
      rfl
    · rw [s2 _ _ e, List.range_succ, List.filterMap_append, List.filterMap_cons_none hn]
      show _ = some (HO.lst (_ ++ []))
      rw [List.append_nil]
  · rintro H ⟨s, e, _⟩
    exact hd H s e
theorem rd_lc {wi : TI} {H : Hp} {Q : VK} (q : wi σ H fun J H1 => ∀ D, H1 D = none → ∃ W : Nat → Nat → Hp → Prop, (∃ m, W 0 m (upd H1 D (.lst []))) ∧ ∀ i m H, W i m H →
  (J.stop i H ∧ Q (.ref D) H) ∨ (J.go i H ∧ ∃ Nx : Hp → Prop, (∀ H', Nx H' → ∃ m', m' < m ∧ W (i + 1) m' H') ∧ ∀ x H', J.yld i H x H' → g x (wipe σ vs) H' fun σ2 H2 => wipe σ2 vs = wipe σ vs ∧ tt σ2 H2 fun b H3 =>
    if b = true then te σ2 H3 fun y H4 => ∃ acc, H4 D = some (.lst acc) ∧ acc.length < sizeLine ∧ Nx (upd H4 D (.lst (acc ++ [y]))) else Nx H3)) : tLc wi g tt te vs σ H Q := q
theorem rd_iR {ta : TA} {H : Hp} {R : It → Hp → Prop} (q : ta σ H fun vs H1 => ∃ j : Int, vs = [.int j] ∧ -(2 ^ 62) ≤ j ∧ j < 2 ^ 62 ∧ R (Itr 0 j.toNat) H1) : iRng1 ta σ H R := q
theorem rd_n {n : Nat} {R : It → Prop} (h : n ≤ 1000) (q : R (Itr 0 n)) : ∃ j : Int, [V.int (n : Int)] = [.int j] ∧ -(2 ^ 62) ≤ j ∧ j < 2 ^ 62 ∧ R (Itr 0 j.toNat) := ⟨n, rfl, by omega, by omega, q⟩
/-- over a list of plain values -/
theorem lc_vals {α : Type} {zs : List α} {v : α → V} (f : α → Option V) (hD : H1 D = none) (ha : H1 a = some (.lst (zs.map v))) (hz : zs.length ≤ 1000)
    (hs : ∀ x, x ∈ zs → ∀ H, Same H1 H → ∀ (T : V → Hp → Prop) (F : Hp → Prop), (∀ y H', f x = some y → Same H H' → T y H') → (∀ H', f x = none → Same H H' → F H') →
      g (v x) (wipe σ vs) H fun σ2 H2 => wipe σ2 vs = wipe σ vs ∧ tt σ2 H2 fun b H3 => if b = true then te σ2 H3 T else F H3)
    (hd : ∀ H', Same H1 H' → H' D = some (.lst (zs.filterMap f)) → Qd H') :
    ∃ W : Nat → Nat → Hp → Prop, (∃ m, W 0 m (upd H1 D (.lst []))) ∧ ∀ i m H, W i m H →
      ((Itl K a).stop i H ∧ Qd H) ∨ ((Itl K a).go i H ∧ ∃ Nx : Hp → Prop, (∀ H', Nx H' → ∃ m', m' < m ∧ W (i + 1) m' H') ∧ ∀ x H', (Itl K a).yld i H x H' → g x (wipe σ vs) H' fun σ2 H2 => wipe σ2 vs = wipe σ vs ∧ tt σ2 H2 fun b H3 =>
        if b = true then te σ2 H3 fun y H4 => ∃ acc, H4 D = some (.lst acc) ∧ acc.length < sizeLine ∧ Nx (upd H4 D (.lst (acc ++ [y]))) else Nx H3) := by
  refine lc_ix (xs := zs.map v) (fun i => (zs[i]?).bind f) hD (fun H s => SqL.of (s _ _ ha)) (by rw [List.length_map]; exact hz) (fun i x hi H s T F hT hF => ?_) fun H' s e => hd H' s ?_
  · rw [List.getElem?_map] at hi
    obtain ⟨z, h1, rfl⟩ := Option.map_eq_some_iff.mp hi
    refine hs z (List.mem_of_getElem? h1) H s T F (fun y H' hy => hT y H' ?_) fun H' hn => hF H' ?_
    · rw [h1]
      exact hy
    · rw [h1]
      exact hn
  · rw [List.length_map, range_fm] at e
    exact e
/-- over a row -/
theorem lc_row {ts : List Addr} {r : Row} (f : Nat × Nat → Option V) (hD : H1 D = none) (ha : H1 a = some (.lst (ts.map V.ref))) (ht : TupsAt H1 ts r) (hz : r.length ≤ 1000)
    (hs : ∀ t e, e ∈ r → t ∈ ts → ∀ H, Same H1 H → H t = some (.tup (pr e)) → ∀ (T : V → Hp → Prop) (F : Hp → Prop), (∀ y H', f e = some y → Same H H' → T y H') → (∀ H', f e = none → Same H H' → F H') →
      g (.ref t) (wipe σ vs) H fun σ2 H2 => wipe σ2 vs = wipe σ vs ∧ tt σ2 H2 fun b H3 => if b = true then te σ2 H3 T else F H3)
    (hd : ∀ H', Same H1 H' → H' D = some (.lst (r.filterMap f)) → Qd H') :
    ∃ W : Nat → Nat → Hp → Prop, (∃ m, W 0 m (upd H1 D (.lst []))) ∧ ∀ i m H, W i m H →
      ((Itl K a).stop i H ∧ Qd H) ∨ ((Itl K a).go i H ∧ ∃ Nx : Hp → Prop, (∀ H', Nx H' → ∃ m', m' < m ∧ W (i + 1) m' H') ∧ ∀ x H', (Itl K a).yld i H x H' → g x (wipe σ vs) H' fun σ2 H2 => wipe σ2 vs = wipe σ vs ∧ tt σ2 H2 fun b H3 =>
        if b = true then te σ2 H3 fun y H4 => ∃ acc, H4 D = some (.lst acc) ∧ acc.length < sizeLine ∧ Nx (upd H4 D (.lst (acc ++ [y]))) else Nx H3) := by
  have hl := ht.len
  refine lc_ix (xs := ts.map V.ref) (fun i => (r[i]?).bind f) hD (fun H s => SqL.of (s _ _ ha)) (by rw [List.length_map, hl]; exact hz) (fun i x hi H s T F hT hF => ?_) fun H' s e => hd H' s ?_
  · rw [List.getElem?_map] at hi
    obtain ⟨t, h1, rfl⟩ := Option.map_eq_some_iff.mp hi
    obtain ⟨e, h2, h3⟩ := ht.get h1
    refine hs t e (List.mem_of_getElem? h2) (List.mem_of_getElem? h1) H s (s _ _ h3) T F (fun y H' hy => hT y H' ?_) fun H' hn => hF H' ?_
    · rw [h2]
      exact hy
    · rw [h2]
      exact hn
  · rw [List.length_map, hl, range_fm] at e
    exact e
/-- over a row, the entries as they stand -/
theorem lc_rowF {ts : List Addr} {r : Row} (p : Nat × Nat → Bool) (hD : H1 D = none) (ha : H1 a = some (.lst (ts.map V.ref))) (ht : TupsAt H1 ts r) (hz : r.length ≤ 1000)
    (hs : ∀ t e, e ∈ r → ∀ H, Same H1 H → H t = some (.tup (pr e)) → ∀ (T : V → Hp → Prop) (F : Hp → Prop), (∀ H', p e = true → Same H H' → T (.ref t) H') → (∀ H', ¬ p e = true → Same H H' → F H') →
      g (.ref t) (wipe σ vs) H fun σ2 H2 => wipe σ2 vs = wipe σ vs ∧ tt σ2 H2 fun b H3 => if b = true then te σ2 H3 T else F H3)
    (hd : ∀ H' us, Same H1 H' → H' D = some (.lst (us.map V.ref)) → TupsAt H' us (r.filter p) → Qd H') :
    ∃ W : Nat → Nat → Hp → Prop, (∃ m, W 0 m (upd H1 D (.lst []))) ∧ ∀ i m H, W i m H →
      ((Itl K a).stop i H ∧ Qd H) ∨ ((Itl K a).go i H ∧ ∃ Nx : Hp → Prop, (∀ H', Nx H' → ∃ m', m' < m ∧ W (i + 1) m' H') ∧ ∀ x H', (Itl K a).yld i H x H' → g x (wipe σ vs) H' fun σ2 H2 => wipe σ2 vs = wipe σ vs ∧ tt σ2 H2 fun b H3 =>
        if b = true then te σ2 H3 fun y H4 => ∃ acc, H4 D = some (.lst acc) ∧ acc.length < sizeLine ∧ Nx (upd H4 D (.lst (acc ++ [y]))) else Nx H3) := by
  have hl := ht.len
  refine lc_list (K := K) (a := a) (xs := ts.map V.ref) (fun i H => Same H1 H ∧ ∃ us, H D = some (.lst (us.map V.ref)) ∧ TupsAt H us ((r.take i).filter p)) ⟨sNew hD, [], upd_same, True.intro⟩ (fun i H _ h => SqL.of (h.1 _ _ ha)) ?_ ?_
  · rintro i x H hi ⟨s, us, e, hU⟩
    rw [List.getElem?_map] at hi
    obtain ⟨t, h1, rfl⟩ := Option.map_eq_some_iff.mp hi
    obtain ⟨en, h2, h3⟩ := ht.get h1
    have hz2 := hU.len
    have ln : us.length ≤ 1000 := by
      have q := List.length_filter_le p (r.take i)
      rw [List.length_take] at q
      omega
    refine hs t en (List.mem_of_getElem? h2) H s (s _ _ h3) _ _ (fun H' c s2 => ⟨_, s2 _ _ e, small1000 (by rw [List.length_map]; exact ln), sUpd (s.trans s2) hD, us ++ [t], ?_, ?_⟩) fun H' c s2 => ⟨s.trans s2, us, s2 _ _ e, ?_⟩
    · rw [upd_same, List.map_append]
      rfl
    · have q := filt_turn hU h2 (s _ _ h3)
      rw [if_pos c] at q
      refine q.mono fun b ys eb => ?_
      have nb : b ≠ D := fun z => by
        rw [z, e] at eb
        cases eb
      rw [upd_ne nb]
      exact s2 _ _ eb
    · have q := filt_turn hU h2 (s _ _ h3)
      rw [if_neg c] at q
      exact q.mono (sTups s2)
  · rintro H ⟨s, us, e, hU⟩
    rw [List.length_map, hl, List.take_length] at hU
    exact hd H us s e hU
end
/-! ### the colors of the others -/
def ot (r : Row) (w : Nat) : List Nat := (r.filter fun e => e.1 != w).map (·.2)
theorem fm_if {α : Type} {p : α → Bool} {v : α → V} : ∀ l : List α, l.filterMap (fun e => if p e = true then some (v e) else none) = (l.filter p).map v
  | [] => rfl
  | x :: l => by
    by_cases h : p x = true
    · rw [List.filterMap_cons_some (b := v x) (by rw [if_pos h]), List.filter_cons_of_pos h, List.map_cons, fm_if l]
    · rw [List.filterMap_cons_none (by rw [if_neg h]), List.filter_cons_of_neg h, fm_if l]
theorem fm_all {α : Type} {v : α → V} : ∀ l : List α, l.filterMap (fun e => some (v e)) = l.map v
  | [] => rfl
  | x :: l => by
    have e : (x :: l).filterMap (fun e => some (v e)) = v x :: l.filterMap fun e => some (v e) := List.filterMap_cons_some (f := fun e => some (v e)) rfl
    rw [e, fm_all l, List.map_cons]
theorem colOf_is {r : Row} (nd : (r.map (·.1)).Nodup) {e : Nat × Nat} (he : e ∈ r) : colOf r e.1 = e.2 := by
  induction r with
  | nil => cases he
  | cons x r ih =>
    have nd' := List.nodup_cons.mp (show (x.1 :: r.map (·.1)).Nodup from nd)
    unfold colOf
    rcases List.mem_cons.mp he with z | z
    · rw [z, List.find?_cons_of_pos (by simp)]
      rfl
    · have : x.1 ≠ e.1 := fun q => nd'.1 (by rw [q]; exact List.mem_map_of_mem (f := (·.1)) z)
      rw [List.find?_cons_of_neg (by simpa using this)]
      exact ih nd'.2 z
theorem ot_find {c w : Nat} : ∀ {r : Row}, (∀ e ∈ r, e.1 = w → e.2 = c) → (ot r w).find? (fun x => x != c) = fo r c
  | [], _ => rfl
  | e :: r, h => by
    have ih := ot_find (r := r) fun x hx => h x (List.mem_cons_of_mem _ hx)
    by_cases k : e.1 = w
    · rw [fo_no (h e List.mem_cons_self k), ← ih]
      unfold ot
      rw [List.filter_cons_of_neg (by simpa using k)]
    · have e2 : ot (e :: r) w = e.2 :: ot r w := by
        unfold ot
        rw [List.filter_cons_of_pos (by simpa using k)]
        rfl
      rw [e2]
      by_cases d : e.2 = c
      · rw [fo_no d, ← ih, List.find?_cons_of_neg (by simpa using d)]
      · rw [fo_yes d, List.find?_cons_of_pos (by simpa using d)]
/-- what a called person takes, counted from the others -/
def cand (o : List Nat) (c : Nat) : List Nat := (o.take 1).filter (fun x => x != c) ++ o.filter fun x => x != o.headD 0
theorem cand_head (o : List Nat) (c : Nat) : (cand o c).head? = o.find? fun x => x != c := by
  unfold cand
  cases o with
  | nil => rfl
  | cons x o =>
    show (([x] : List Nat).filter (fun y => y != c) ++ (x :: o).filter fun y => y != x).head? = _
    by_cases h : x = c
    · rw [List.filter_cons_of_neg (by simpa using h), List.filter_nil, List.nil_append, List.filter_cons_of_neg (by simp), List.head?_filter, List.find?_cons_of_neg (by simpa using h), h]
    · rw [List.filter_cons_of_pos (by simpa using h), List.find?_cons_of_pos (by simpa using h)]
      rfl
theorem cand_is {r : Row} (h : Vr r) {w : Nat} : (cand (ot r w) (colOf r w)).head? = fo r (colOf r w) := by
  rw [cand_head]
  exact ot_find fun e he k => by rw [← k, colOf_is h.nodup he]
/-- letters as data -/
abbrev dS (cs : List Nat) : PyData := .list (cs.map fun c => .str ⟨#[c]⟩)
theorem dp_strs {K : PySem.W.Frag} {H : Hp} : ∀ cs : List Nat, DpAll K H (cs.map sg) (cs.map fun c => PyData.str ⟨#[c]⟩)
  | [] => .nil
  | c :: cs => .cons (.str _) (dp_strs cs)
theorem lay_strs : ∀ cs : List Nat, (∀ c ∈ cs, c ≤ 122) → PyData.canLayAll0 (cs.map fun c => PyData.str ⟨#[c]⟩) = true ∧ PyData.depthAll (cs.map fun c => PyData.str ⟨#[c]⟩) ≤ 1
  | [], _ => by
    simp only [List.map_nil, PyData.canLayAll0, PyData.depthAll]
    exact ⟨trivial, Nat.zero_le _⟩
  | c :: cs, h => by
    obtain ⟨h1, h2⟩ := lay_strs cs fun x hx => h x (List.mem_cons_of_mem _ hx)
    simp only [List.map_cons, PyData.canLayAll0, PyData.canLay0, PyData.depthAll, PyData.depth]
    rw [h1, str_ok (h c List.mem_cons_self)]
    exact ⟨rfl, by omega⟩
theorem shp_strs (cs : List Nat) (h : ∀ c ∈ cs, c ≤ 122) : SeqAt.shaped (dS cs) = true := by
  obtain ⟨h1, h2⟩ := lay_strs cs h
  refine Bool.and_eq_true_iff.mpr ⟨?_, decide_eq_true ?_⟩
  · simp only [PyData.canLay0]
    exact h1
  · simp only [PyData.depth]
    omega
theorem eqv_nilS (cs : List Nat) : PyData.eqv (dS cs) (.list []) = cs.isEmpty := by
  cases cs with
  | nil => rfl
  | cons n ns => simp [PyData.eqv, PyData.eqvAll]
theorem cut1 (xs : List V) : cutV xs none (some 1) = xs.take 1 := by
  unfold cutV HT.sIx
  cases xs with
  | nil => rfl
  | cons x xs => simp
end LX

/-! ### defs that show data (repr): the same promises, said where no repr runs -/
namespace LX
open PySem L2
open PySem.Spec PyProof.Rows
/-- as FnOk, for callers among whom no repr runs -/
structure FnG (P : Program) (w : World) (K : PySem.W.Frag) (mg : Str → Option Value) (base : Heap) (k : Nat) (f : Addr) (fd : FuncData) (ps : List Str) (sp : Sp) : Prop where
  len : ∀ vs H Q E, sp vs H Q E → vs.length = ps.length
  go : ∀ (A : Around) (o : List Env) (s : Shared) (H : Hp) (ar : Args) (us : List Value) (vs : List V) (Q : VK) (E : XK), Room k A → A.guards = some [] → Env0 P w K mg base A o s H →
    BindsTo s fd ar (ps.zip us) → Vals vs us → sp vs H Q E → codeAny (model P w) A (.call (.ref f) ar) (CR CX0 o P w H s Q E) s
section
variable {P : Program} {w : World} {K : PySem.W.Frag} {mg : Str → Option Value} {base : Heap} {x qual : Str} {st : Stmt} {f : Addr} {fd : FuncData} {N ps : List Str} {k : Nat} {sp : Sp}
/-- a def of the text by its body, as Fun.ok, with the word that no repr runs around it -/
theorem fnG (F : Fun K x qual st f fd) (S : FnScope N ps (defScope st)) (len : ∀ vs H Q E, sp vs H Q E → vs.length = ps.length)
    (body : ∀ (cdv : Value) (A : Around) (outer : List Env) (s : Shared) (H : Hp) (vs : List V) (Q : VK) (E : XK), Room k (A.deeper (envOfC qual (defScope st) s.heap.objs.size f cdv)) →
      (A.deeper (envOfC qual (defScope st) s.heap.objs.size f cdv)).guards = some [] → sp vs H Q E →
      ∃ t, PSs (cxOf CX0 P w K mg base N qual (defScope st) f cdv A outer s H E).nox (defBody st) t ∧ t { nx := fun _ H' => Q .non H', rt := Q } (start N vs) H) :
    FnG P w K mg base (k + 1) f fd ps sp := by
  obtain ⟨oc, od, kV, doc, pm, an, cdv, ct, osl, rfl, lk, hcd⟩ := F.ex
  constructor
  · exact len
  intro A o s H ar us vs Q E room quiet e0 bind r want
  have n := len vs H Q E want
  have KH := e0.mod.kin.keeps fun b ob e => (e0.bs b ob e).1
  have NL := e0.mod.nolimit.keeps fun b ob e => (e0.bs b ob e).1
  -- every parameter is a local or a cell
  have par : ∀ q ∈ ps.zip us, (defScope st).names.lookup q.1 = some .local ∨ ((defScope st).names.lookup q.1 = some .cell ∧ ((cellsFrom (s.heap.objs.size + 1) (defScope st).names []).lookup q.1).isSome = true) := by
    intro q hq
    have hm : q.1 ∈ ps := (List.of_mem_zip (show (q.1, q.2) ∈ ps.zip us from hq)).1
    exact (S.par q.1 hm).imp id fun c => ⟨c, PySem.W.cellsFrom_some _ _ _ (Or.inl c)⟩
  apply codeAny_call_function room.depth (KH _ _ lk) rfl S.co S.gen rfl (PySem.W.codeRec_of KH hcd)
  apply bind
  apply wpAny_newFunctionEnv_cells S.kind par
  intro env henv s1 made
  cases henv
  refine ⟨NL.keeps made.toInCall.keep, ?_⟩
  apply codeAny_func
  obtain ⟨t, der, rd⟩ := body cdv A o s H vs Q E (room.deeper _) quiet want
  have inv := inv_start (CX := CX0) (E := E) (N := N) S room.hd e0 n r made
  apply wpAny_mono (der.nox.run [] s1 (start N vs) H _ inv rd)
  · intro fl s2 hs
    cases fl with
    | brk =>
      obtain ⟨_, _, _, no⟩ := hs
      exact no.elim
    | cont =>
      obtain ⟨_, _, _, no⟩ := hs
      exact no.elim
    | next =>
      obtain ⟨σ', H', J, q⟩ := hs
      exact ⟨.non, H', J.os, J.bare, J.base, J.hok, rfl, q⟩
    | ret u =>
      obtain ⟨v, σ', H', J, rv, q⟩ := hs
      exact ⟨v, H', J.os, J.bare, J.base, J.hok, rv, q⟩
  · exact fun _ _ z => z
theorem FnG.mono {j : Nat} (F : FnG P w K mg base j f fd ps sp) (h : j ≤ k) : FnG P w K mg base k f fd ps sp := ⟨F.len, fun A o s H ar us vs Q E room => F.go A o s H ar us vs Q E (room.mono h)⟩
end
section
variable {X : Cx} {k n : Nat} {f : Addr} {fd : FuncData} {ps ks : List Str} {sp : Sp} {x : Str} {p pos : Pos} {e : Expr} {es : List Expr} {kws : List Keyword} {t tk : TA} {g : List Value → List Value → List Value} {gV : List V → List V → List V}
/-- f(e, ..), f a def that shows data -/
theorem pe_callG (F : FnG X.prog X.w X.K X.mg X.base k f fd ps sp) (room : Room k X.A) (quiet : X.A.guards = some []) (g0 : Gl X x) (g1 : X.mg x = some (.ref f)) (g2 : PySem.W.keepIn X.K (.ref f) = true) (b : Binds X.K fd ps [])
    (ha : PA X (e :: es) t) (q0 : (x == ("__debug__" : Str)) = false := by decide) (q1 : starEach (e :: es) X.env = (false, eval e X.env) :: starEach es X.env := by rfl) (q2 : (backTo pos (starEach es X.env)).any (·.1) = false := by rfl) :
    PE X (.Call (.Name x p) (e :: es) [] pos) (tCall sp [] E0 t) := by
  constructor
  intro pins s σ H Q I h
  apply wpAny_Call_Name_kw
  apply ld_glob I g0 g1 _ q0
  refine PySem.W.callWith_K (h₀ := X.base) I.ok.mod.kin g2 (thn (ha.run pos pins s σ H _ I h) ?_) q1 q2
  rintro us s1 ⟨vs, H1, J, r, q⟩
  refine ⟨J.kIn, ?_⟩
  have q' : sp vs H1 Q E0 := by rw [List.append_nil] at q; exact q
  have lu : (us ++ []).length = ps.length := by
    rw [List.append_nil, ← r.length]
    exact F.len _ _ _ _ q'
  have bd := b s1 us J.kIn lu
  rw [List.append_nil] at bd
  refine wpAny_call (codeAny_mono (F.go X.A X.stack s1 H1 ⟨us, []⟩ us vs Q E0 room quiet J.env0 bd r q') ?_)
  intro res s2 hq
  match res, hq with
  | .error _, hq => exact hq.elim
  | .ok (.ret _), hq => exact J.after hq
  | .ok .next, hq => exact hq.elim
  | .ok .brk, hq => exact hq.elim
  | .ok .cont, hq => exact hq.elim
/-- f(k = v, ..): nothing by position -/
theorem pe_callN0 (F : FnOk X.prog X.w X.K X.mg X.base CX0 k f fd ps sp) (room : Room k X.A) (g0 : Gl X x) (g1 : X.mg x = some (.ref f)) (g2 : PySem.W.keepIn X.K (.ref f) = true) (b : KBn X.K fd ps 0 ks g gV) (hk : PK X kws tk)
    (q1 : (backToKw pos (keywordEach kws X.env)).all (·.1.isSome) = true := by rfl) (q2 : (backToKw pos (keywordEach kws X.env)).filterMap (·.1) = ks := by rfl) (q0 : (x == ("__debug__" : Str)) = false := by decide)
    (q3 : ((backTo pos (starEach [] X.env)).any (·.1) || (backToKw pos (keywordEach kws X.env)).any (·.1.isNone)) = false := by rfl) :
    PE X (.Call (.Name x p) [] kws pos) (tCallN 0 ks.length sp gV E0 tNil tk) := by
  constructor
  intro pins s σ H Q I h
  apply wpAny_Call_Name_kw
  apply ld_glob I g0 g1 _ q0
  refine PySem.W.callWith_KW0 (h₀ := X.base) I.ok.mod.kin g2 q1 ?_ q3
  refine thn (hk.run pos pins s σ H _ I h) ?_
  rintro ws s2 ⟨zs, H2, J, rz, l1, l2, q⟩
  refine ⟨J.kIn, ?_⟩
  rw [q2]
  exact run_fnN (us := []) (vs := []) F room b pass0 J .nil rz l1 l2 q
/-- repr of data: none, bools, ints, texts, lists and tuples of these -/
def qRepr (K : PySem.W.Frag) : List V → Hp → VK → Prop := fun vs H Q => ∃ (v : V) (d : PyData), vs = [v] ∧ (∃ a, v = .ref a) ∧ Dp K H v d ∧ d.showable = true ∧ d.hasDict = false ∧ d.depth ≤ 20 ∧ d.shown.length ≤ sizeLine ∧ Q (.str d.shown) H
theorem krepr {K : PySem.W.Frag} (quiet : X.A.guards = some []) (hu : X.A.units + 64 < cLine) (h : X.K = K := by rfl) : CallR X (.builtin "repr") (qRepr K) := by
  subst h
  intro pins s σ H vs us Q I r want
  obtain ⟨v, d, rfl, ⟨a, rfl⟩, dp, sh, nd, dd, sz, q⟩ := want
  obtain ⟨u, rfl, ru⟩ : ∃ u, us = [u] ∧ RelV (.ref a) u := by
    cases r with
    | cons r1 r2 =>
      cases r2
      exact ⟨_, rfl, r1⟩
  cases ru
  obtain ⟨as, rs⟩ := Dp.reads I d (.ref a) (.ref a) dp rfl
  refine PySem.repr_of_reads' rs sh (fun z => by rw [nd] at z; cases z) quiet (by omega) (fun _ _ e => e) ?_ sz
  intro h' y tk keep
  exact ⟨.str d.shown, H, I.kept keep, ⟨y, rfl⟩, q⟩
end
/-! ### the law's own head, for a law that shows data -/
/-- what is tracked at the start: the script, locked, if it is none of the module's own objects -/
def H0 (K : PySem.W.Frag) (a : Addr) (o : Obj) (xs : List V) : Hp := fun b => if b = a ∧ (K.lookup a).isNone = true then some (.frz o (.lst xs)) else none
theorem H0_some {K : PySem.W.Frag} {a b : Addr} {o : Obj} {xs : List V} {u : HO} (h : H0 K a o xs b = some u) : b = a ∧ K.lookup a = none ∧ u = .frz o (.lst xs) := by
  unfold H0 at h
  by_cases c : b = a ∧ (K.lookup a).isNone = true
  · rw [if_pos c] at h
    exact ⟨c.1, Option.isNone_iff_eq_none.mp c.2, (Option.some.inj h).symm⟩
  · rw [if_neg c] at h
    cases h
theorem law_callG {P : Program} {w : World} {K : PySem.W.Frag} {mg mb : Str → Option Value} {k : Nat} {fa a : Addr} {fd : FuncData} {x : Str} {sp : Sp} {s₁ : Shared} {vs : List Value} {ns : List Int} (inK : K.In s₁.heap) (gm : s₁.heap.Ns mainGlobals mg) (gb : s₁.heap.Ns builtinsNs mb)
    (bb : ∀ y : Str, y ≠ "__name__" → mb y = bootBuiltins y) (nl : s₁.heap.NoLimit) (gens : s₁.gens = #[]) (at_a : s₁.heap.get? a = some { cls := .type "list", data := .seq vs.toArray }) (hin : IntsAre vs ns) (few : ns.length ≤ sizeLine) (room : Room k callerA)
    (F : ∀ base : Heap, K.In base → base.Ns mainGlobals mg → FnG P w K mg base k fa fd [x] sp) (bind : ∀ (s : Shared) (u : Value), BindsTo s fd ⟨[u], []⟩ [(x, u)])
    (good : ∀ H : Hp, Only H → SqL K H a (ns.map V.int) → sp [.ref a] H (fun v _ => v = .bl true) fun _ _ _ => False) :
    codeAny (model P w) callerA (.call (.ref fa) ⟨[.ref a], []⟩) (fun r s' => r = .ok (.ret (.bool true)) ∧ OldK s₁.heap s'.heap ∧ s'.os = s₁.os ∧ AllBare s'.gens) s₁ := by
  have rv := vals_ints hin
  have nv := hin.length
  generalize ho : ({ cls := .type "list", data := .seq vs.toArray } : Obj) = o at at_a
  have only : Only (H0 K a o (ns.map V.int)) := fun b => by
    cases q : H0 K a o (ns.map V.int) b with
    | none => exact Or.inl rfl
    | some u => exact Or.inr ⟨o, _, by rw [(H0_some q).2.2]⟩
  have seq : SqL K (H0 K a o (ns.map V.int)) a (ns.map V.int) := by
    cases q : K.lookup a with
    | none => exact Or.inl (Or.inr ⟨o, if_pos ⟨rfl, by rw [q]; rfl⟩⟩)
    | some o' =>
      have e := inK a o' q
      rw [at_a] at e
      cases e
      subst ho
      exact Or.inr ⟨_, vs.toArray, _, q, rfl, rfl, rfl, by rw [List.size_toArray, nv]; exact few, by simpa using rv⟩
  have held : HOk P w (H0 K a o (ns.map V.int)) s₁.heap := fun b u q => by
    obtain ⟨rfl, _, rfl⟩ := H0_some q
    subst ho
    exact ⟨at_a, by rw [List.length_map]; exact few, vs, _, rv, at_a⟩
  -- what is not the script stands in the base
  have out : ∀ {b : Addr} {ob : Obj}, s₁.heap.get? b = some ob → H0 K a o (ns.map V.int) b = none → (hidT s₁.heap (H0 K a o (ns.map V.int))).get? b = some ob := fun e n => hidT_get e n
  have dicts : ∀ {b : Addr} {ob : Obj} {es : Array DictEntry} {n : Nat}, s₁.heap.get? b = some ob → ob.data = .dict es n → H0 K a o (ns.map V.int) b = none := by
    intro b ob es n e d
    cases q : H0 K a o (ns.map V.int) b with
    | none => rfl
    | some u =>
      obtain ⟨rfl, _, _⟩ := H0_some q
      rw [at_a] at e
      cases e
      subst ho
      cases d
  have names : ∀ {b : Addr} {m : Str → Option Value}, s₁.heap.Ns b m → (hidT s₁.heap (H0 K a o (ns.map V.int))).Ns b m := by
    rintro b m ⟨ob, es, n, e, d, z⟩
    exact ⟨ob, es, n, out e (dicts e d), d, z⟩
  have kb : K.In (hidT s₁.heap (H0 K a o (ns.map V.int))) := fun b ob e => by
    refine out (inK b ob e) ?_
    cases q : H0 K a o (ns.map V.int) b with
    | none => rfl
    | some u =>
      obtain ⟨rfl, q2, _⟩ := H0_some q
      rw [q2] at e
      cases e
  obtain ⟨mc, c1, c2⟩ := nl
  have e0 : Env0 P w K mg (hidT s₁.heap (H0 K a o (ns.map V.int))) callerA [] s₁ (H0 K a o (ns.map V.int)) := {
    frames := rfl
    mod := ⟨kb, names gm, ⟨mb, names gb, bb⟩, ⟨mc, names c1, c2⟩⟩
    bs := fun b ob e => of_hidT e
    bsz := Nat.le_of_eq (hidT_size _ _)
    funs := trivial
    frf := fun b hb => absurd (show b ∈ ([] : List Addr) from hb) List.not_mem_nil
    hok := held
    bare := .of_eq gens }
  refine codeAny_mono ((F _ kb (names gm)).go callerA [] s₁ (H0 K a o (ns.map V.int)) ⟨[.ref a], []⟩ [.ref a] [.ref a] _ _ room rfl e0 (bind s₁ (.ref a)) (.cons rfl .nil) (good _ only seq)) ?_
  intro res s' hq
  match res, hq with
  | .error _, hq => exact hq.elim
  | .ok .next, hq => exact hq.elim
  | .ok .brk, hq => exact hq.elim
  | .ok .cont, hq => exact hq.elim
  | .ok (.ret u), hq =>
    obtain ⟨v, H', os, bare, un, held', r', q⟩ := hq
    have q' : v = .bl true := q
    subst q'
    cases (show u = Value.bool true from r')
    refine ⟨rfl, OldK.of_keep fun b ob e => ?_, os, bare⟩
    cases z : H0 K a o (ns.map V.int) b with
    | none => exact un.keep b ob e z (fun y => absurd (show b ∈ ([] : List Addr) from y) List.not_mem_nil) List.not_mem_nil
    | some y =>
      obtain ⟨rfl, _, rfl⟩ := H0_some z
      obtain ⟨e1, _⟩ := held _ _ z
      obtain ⟨e2, _⟩ := held' _ _ (un.frzs _ _ _ z)
      rw [e] at e1
      cases e1
      exact e2
theorem walk_ofG {l : PySem.W.OpenLaw} {n k : Nat} {q : Program} {loose : List Str} {XP : (Str → Option Value) → Heap → Prop} {YP : World → Heap → Prop} {d : DefRec} {K : Params → PySem.W.Frag} {sp : PySem.W.Frag → Sp} {x : Str} (hn : l.most = some n) (few : n ≤ sizeLine)
    (nodef : d.params.defaults = []) (room : Room k callerA) (hY : ∀ (w : World) (h : Heap), YP w h → (K w.params).In h)
    (F : ∀ (w : World) (mg : Str → Option Value) (fa : Addr) (h : Heap), (K w.params).In h → h.Ns mainGlobals mg → mg d.name = some (.ref fa) → ∃ fd : FuncData, (∀ (s : Shared) (u : Value), BindsTo s fd ⟨[u], []⟩ [(x, u)]) ∧
      ∀ base : Heap, (K w.params).In base → base.Ns mainGlobals mg → FnG l.prog w (K w.params) mg base k fa fd [x] (sp (K w.params)))
    (good : ∀ (K : PySem.W.Frag) (H : Hp) (a : Addr) (ns : List Int), ns.length ≤ n → Only H → SqL K H a (ns.map V.int) → sp K [.ref a] H (fun v _ => v = .bl true) fun _ _ _ => False) :
    PySem.W.WalkO q loose XP YP l.row.toRowW d [] (fun f vs => PySem.call f vs) := by
  apply Att.attach_call hn nodef
  intro w s₀ s₁ mg mb fa o pm cd doc a vs ns G Y ho hd hcd hmg at_a hin most gens
  have inK := hY w _ Y
  obtain ⟨fd, bind, hF⟩ := F w mg fa _ inK G.T.g hmg
  exact law_callG inK G.T.g G.T.b G.T.builtins G.T.nolimit gens at_a hin (Nat.le_trans most few) room hF bind fun H only seq => good _ H a ns most only seq
/-! ### calls with keywords: the values in the parameters' order -/
def pick {α : Type} (ix : List Nat) (l : List α) : List α := ix.filterMap (l[·]?)
theorem vals_at {vs : List V} {us : List Value} (h : Vals vs us) : ∀ i : Nat, (vs[i]? = none ∧ us[i]? = none) ∨ ∃ v u, vs[i]? = some v ∧ us[i]? = some u ∧ RelV v u := by
  induction h with
  | nil => exact fun i => Or.inl ⟨rfl, rfl⟩
  | cons r _ ih =>
    intro i
    cases i with
    | zero => exact Or.inr ⟨_, _, rfl, rfl, r⟩
    | succ i => exact ih i
theorem vals_pick {vs : List V} {us : List Value} (h : Vals vs us) : ∀ ix : List Nat, Vals (pick ix vs) (pick ix us)
  | [] => .nil
  | i :: ix => by
    unfold pick
    rcases vals_at h i with ⟨h1, h2⟩ | ⟨v, u, h1, h2, r⟩
    · rw [List.filterMap_cons_none h1, List.filterMap_cons_none h2]
      exact vals_pick h ix
    · rw [List.filterMap_cons_some h1, List.filterMap_cons_some h2]
      exact .cons r (vals_pick h ix)
theorem _root_.L2.Fun.kb {K : PySem.W.Frag} {x qual : Str} {st : Stmt} {f : Addr} {fd : FuncData} {ps ks : List Str} {n : Nat} {ix : List Nat} (F : Fun K x qual st f fd)
    (h : ∀ (kV doc pm : Value) (an : Option Addr) (cdv ct : Value) (us ws : List Value), us.length = n → ws.length = ks.length → bindArgs (PySem.W.fnOf x qual (defArgs st) (defBody st) (defScope st) .none kV doc pm an cdv ct) ⟨us, ks.zip ws⟩ = pure (ps.zip (pick ix (us ++ ws)))) :
    KBn K fd ps n ks (fun us ws => pick ix (us ++ ws)) (fun vs zs => pick ix (vs ++ zs)) := by
  obtain ⟨oc, od, kV, doc, pm, an, cdv, ct, osl, rfl, lk, hcd⟩ := F.ex
  exact ⟨fun s us ws _ l1 l2 => .of_eq (h kV doc pm an cdv ct us ws l1 l2), fun r1 r2 => vals_pick (r1.append r2) ix⟩
theorem rd_callN0 {σ : L2.St} {H : Hp} {Q : VK} {m : Nat} {sp : Sp} {gV : List V → List V → List V} {E : XK} {tk : TA} (q : tk σ H fun zs H2 => zs.length = m ∧ sp (gV [] zs) H2 Q E) : tCallN 0 m sp gV E tNil tk σ H Q := by
  show tk σ H fun zs H2 => ([] : List V).length = 0 ∧ zs.length = m ∧ sp (gV [] zs) H2 Q E
  have e : (fun (zs : List V) (H2 : Hp) => ([] : List V).length = 0 ∧ zs.length = m ∧ sp (gV [] zs) H2 Q E) = fun zs H2 => zs.length = m ∧ sp (gV [] zs) H2 Q E := by
    funext zs H2
    exact propext ⟨fun z => z.2, fun z => ⟨rfl, z⟩⟩
  rw [e]
  exact q
/-! ### what can be shown: no deeper than n, the leaves no longer than B, no heavier than m -/
structure Sh (B n m : Nat) (d : PyData) : Prop where
  sh : d.showable = true
  nd : d.hasDict = false
  dp : d.depth ≤ n
  ls : d.leavesShort B = true
  wt : d.weight ≤ m
theorem sh_all {B n m : Nat} : ∀ {xs : List PyData}, (∀ x ∈ xs, Sh B n m x) → PyData.showableAll xs = true ∧ PyData.hasDictAll xs = false ∧ PyData.depthAll xs ≤ n ∧ PyData.leavesShortAll B xs = true ∧ PyData.weightAll xs ≤ xs.length * (m + 1)
  | [], _ => by
    simp only [PyData.showableAll, PyData.hasDictAll, PyData.depthAll, PyData.leavesShortAll, PyData.weightAll]
    exact ⟨trivial, trivial, Nat.zero_le _, trivial, Nat.zero_le _⟩
  | x :: xs, h => by
    obtain ⟨a1, a2, a3, a4, a5⟩ := h x List.mem_cons_self
    obtain ⟨b1, b2, b3, b4, b5⟩ := sh_all fun y hy => h y (List.mem_cons_of_mem _ hy)
    have e : (xs.length + 1) * (m + 1) = xs.length * (m + 1) + (m + 1) := Nat.succ_mul ..
    simp only [PyData.showableAll, PyData.hasDictAll, PyData.depthAll, PyData.leavesShortAll, PyData.weightAll, List.length_cons, a1, a2, a4, b1, b2, b4, Bool.and_self, Bool.or_self, true_and, e]
    omega
theorem Sh.list {B n m : Nat} {xs : List PyData} (h : ∀ x ∈ xs, Sh B n m x) : Sh B (n + 1) (xs.length * (m + 1)) (.list xs) := by
  obtain ⟨a1, a2, a3, a4, a5⟩ := sh_all h
  exact ⟨by simpa only [PyData.showable] using a1, by simpa only [PyData.hasDict] using a2, by simp only [PyData.depth]; omega, by simpa only [PyData.leavesShort] using a4, by simpa only [PyData.weight] using a5⟩
theorem Sh.tuple {B n m : Nat} {xs : List PyData} (h : ∀ x ∈ xs, Sh B n m x) : Sh B (n + 1) (xs.length * (m + 1)) (.tuple xs) := by
  obtain ⟨a1, a2, a3, a4, a5⟩ := sh_all h
  exact ⟨by simpa only [PyData.showable] using a1, by simpa only [PyData.hasDict] using a2, by simp only [PyData.depth]; omega, by simpa only [PyData.leavesShort] using a4, by simpa only [PyData.weight] using a5⟩
theorem Sh.mono {B n m n' m' : Nat} {d : PyData} (h : Sh B n m d) (h1 : n ≤ n') (h2 : m ≤ m') : Sh B n' m' d := ⟨h.sh, h.nd, Nat.le_trans h.dp h1, h.ls, Nat.le_trans h.wt h2⟩
theorem Sh.none {B : Nat} : Sh B 0 0 .none := ⟨by simp only [PyData.showable], by simp only [PyData.hasDict], by simp only [PyData.depth]; omega, by simp only [PyData.leavesShort], by simp only [PyData.weight]; omega⟩
theorem Sh.chr {B c : Nat} (h : c ≤ 122) : Sh B 0 1 (.str ⟨#[c]⟩) := ⟨by simp only [PyData.showable], by simp only [PyData.hasDict], by simp only [PyData.depth]; omega, by
  simp only [PyData.leavesShort]
  show [c].all (fun c => decide (c < 16 ^ 8)) = true
  have : c < 16 ^ 8 := Nat.lt_of_le_of_lt h (by decide)
  simp only [List.all_cons, List.all_nil, Bool.and_true, decide_eq_true_eq]
  exact this, by simp only [PyData.weight]; exact Nat.le_refl 1⟩
theorem Sh.int {i : Int} (h : i.natAbs < 10 ^ 12) : Sh 13 0 40 (.int i) := by
  have l : i.natAbs.log2 < 40 := by
    by_cases z : i.natAbs = 0
    · rw [z]
      decide
    · exact (Nat.log2_lt z).mpr (Nat.lt_of_lt_of_le h (by decide))
  refine ⟨?_, by simp only [PyData.hasDict], by simp only [PyData.depth]; omega, ?_, ?_⟩
  · simp only [PyData.showable, decide_eq_true_eq]
    omega
  · simp only [PyData.leavesShort, decide_eq_true_eq]
    exact PyData.shown_int_le h
  · simp only [PyData.weight]
    split
    · omega
    · omega
theorem Sh.fits {n m : Nat} {d : PyData} (h : Sh 13 n m d) (hm : m ≤ 2 ^ 20) : d.shown.length ≤ sizeLine := PyData.shown_fits (by decide) (by decide) h.ls (Nat.le_trans h.wt hm)
theorem rd_repr {K : PySem.W.Frag} {H : Hp} {Q : VK} {a : Addr} {n m : Nat} {d : PyData} (hd : Dp K H (.ref a) d) (h : Sh 13 n m d) (hn : n ≤ 20) (hm : m ≤ 2 ^ 20) (q : Q (.str d.shown) H) : qRepr K [.ref a] H Q :=
  ⟨_, d, rfl, ⟨a, rfl⟩, hd, h.sh, h.nd, Nat.le_trans h.dp hn, h.fits hm, q⟩
theorem sh_row {r : Row} (h : Vr r) : Sh 13 2 (60 * 83) (dR r) := by
  have e : ∀ x ∈ r.map dE, Sh 13 1 82 x := fun x hx => by
    obtain ⟨y, hy, rfl⟩ := List.mem_map.mp hx
    refine (Sh.tuple (xs := [.int (y.1 : Int), .str ⟨#[y.2]⟩]) (n := 0) (m := 40) fun z hz => ?_).mono (Nat.le_refl _) (show 2 * 41 ≤ 82 by decide)
    have hl := h.col y hy
    have hp := h.lt hy
    have h60 := h.n2
    rcases List.mem_cons.mp hz with c | c
    · rw [c]
      exact Sh.int (by have : (10 : Nat) ^ 12 = 1000000000000 := by decide
                       omega)
    · rw [List.mem_singleton.mp c]
      exact (Sh.chr hl.2).mono (Nat.le_refl _) (by decide)
  refine (Sh.list e).mono (Nat.le_refl _) ?_
  rw [List.length_map]
  exact Nat.mul_le_mul_right 83 h.n2
/-- letters or None -/
def dO : Option Nat → PyData
  | none => .none
  | some c => .str ⟨#[c]⟩
theorem dp_opt {K : PySem.W.Frag} {H : Hp} (o : Option Nat) : Dp K H (oV o) (dO o) := by
  cases o with
  | none => exact .non
  | some c => exact .str _
theorem dp_opts {K : PySem.W.Frag} {H : Hp} : ∀ os : List (Option Nat), DpAll K H (os.map oV) (os.map dO)
  | [] => .nil
  | o :: os => .cons (dp_opt o) (dp_opts os)
theorem sh_opt {o : Option Nat} (h : ∀ c, o = some c → c ≤ 122) : Sh 13 0 1 (dO o) := by
  cases o with
  | none => exact Sh.none.mono (Nat.le_refl _) (by decide)
  | some c => exact Sh.chr (h c rfl)
theorem sh_opts {os : List (Option Nat)} (h : ∀ c, some c ∈ os → c ≤ 122) : Sh 13 1 (os.length * 2) (.list (os.map dO)) := by
  have := Sh.list (xs := os.map dO) (n := 0) (m := 1) (B := 13) fun x hx => by
    obtain ⟨o, ho, rfl⟩ := List.mem_map.mp hx
    exact sh_opt fun c e => h c (by rw [← e]; exact ho)
  rw [List.length_map] at this
  exact this
end LX

/-! ### a source of draws that counts them -/
namespace LX
open PySem L2
structure SrcN (H : Hp) (p : Addr) (b : Nat) : Prop where
  ex : ∃ s0 s1 s2 : Int, H p = some (.lst [.int s0, .int s1, .int s2]) ∧ s1.natAbs < 2 ^ 400 ∧ s2.natAbs ≤ b
theorem SrcN.src {H : Hp} {p : Addr} {b : Nat} (h : SrcN H p b) : Src H p :=
  let ⟨s0, s1, s2, h1, h2, _⟩ := h.ex
  ⟨s0, s1, s2, h1, h2⟩
theorem SrcN.same {H H' : Hp} {p : Addr} {b : Nat} (h : SrcN H p b) (s : Same H H') : SrcN H' p b :=
  let ⟨s0, s1, s2, h1, h2⟩ := h.ex
  ⟨s0, s1, s2, s _ _ h1, h2⟩
theorem SrcN.mono {H : Hp} {p : Addr} {b c : Nat} (h : SrcN H p b) (k : b ≤ c) : SrcN H p c :=
  let ⟨s0, s1, s2, h1, h2, h3⟩ := h.ex
  ⟨s0, s1, s2, h1, h2, Nat.le_trans h3 k⟩
theorem SrcN.not_none {H : Hp} {p q : Addr} {b : Nat} (h : SrcN H p b) (hq : H q = none) : q ≠ p := h.src.not_none hq
theorem SrcN.lst {H : Hp} {p : Addr} {b : Nat} (h : SrcN H p b) : ∃ xs, H p = some (.lst xs) := h.src.lst
/-- kept where a list elsewhere changes -/
theorem SrcN.off {H : Hp} {p q : Addr} {b : Nat} {o : HO} (h : SrcN H p b) (n : q ≠ p) : SrcN (upd H q o) p b :=
  let ⟨s0, s1, s2, h1, h2⟩ := h.ex
  ⟨s0, s1, s2, by rw [upd_ne n.symm]; exact h1, h2⟩
theorem mod_small {x m : Int} {k : Nat} (h0 : 0 < m) (h : m ≤ 2 ^ k) : (x % m).natAbs < 2 ^ k := by
  have a0 := Int.emod_nonneg x (show m ≠ 0 by omega)
  have a1 := Int.emod_lt_of_pos x h0
  have e : ((2 ^ k : Nat) : Int) = (2 : Int) ^ k := by
    rw [Int.natCast_pow]
    rfl
  omega
theorem add_small {x y : Int} {j k m : Nat} (hx : x.natAbs < 2 ^ j) (hy : y.natAbs < 2 ^ k) (h1 : j < m) (h2 : k < m) : (x + y).natAbs < 2 ^ m := by
  obtain ⟨n, rfl⟩ : ∃ n, m = n + 1 := ⟨m - 1, by omega⟩
  have a := Nat.pow_le_pow_right (show 0 < 2 by decide) (show j ≤ n by omega)
  have b := Nat.pow_le_pow_right (show 0 < 2 by decide) (show k ≤ n by omega)
  rw [Nat.pow_succ]
  omega
theorem mul_small {x y : Int} {j k m : Nat} (hx : x.natAbs < 2 ^ j) (hy : y.natAbs < 2 ^ k) (h : j + k ≤ m) : (x * y).natAbs < 2 ^ m := by
  rw [Int.natAbs_mul]
  refine Nat.lt_of_lt_of_le ?_ (Nat.pow_le_pow_right (show 0 < 2 by decide) h)
  rw [Nat.pow_add]
  exact Nat.mul_lt_mul'' hx hy
end LX

/-! ### list(zip(xs, ys)), two lists of one length: new tuples in a new list -/
namespace LX
open PySem PySem.Spec PyProof.Rows L2
theorem Un.more {fs : List Addr} {H H' : Hp} {h h' : Heap} (k : ∀ b u, h.get? b = some u → h'.get? b = some u) (s : Same H H') (new : ∀ b, H b = none → b < h.objs.size → H' b = none) : Un fs [] H H' h h' where
  keep := fun b u q _ _ _ => k b u q
  slot := fun b u q _ _ _ => ⟨u.slots, k b u q⟩
  free := fun b u q n _ => new b n (Heap.lt_size q)
  there := fun b u q _ => ⟨u, k b u q⟩
  tups := fun b xs q => s b _ q
  frzs := fun b u xs q => s b _ q
  tbls := fun b ps q => ⟨#[], by rw [s b _ q]; simp⟩
theorem HOk.more {P : Program} {w : World} {H H' : Hp} {h h' : Heap} (x : HOk P w H h) (k : ∀ b u, h.get? b = some u → h'.get? b = some u) (s : Same H H') (new : ∀ b o, H b = none → H' b = some o → ObjOk P w H' h' b o) : HOk P w H' h' := fun b o e => by
  cases q : H b with
  | none => exact new b o q e
  | some u =>
    have e2 := s b _ q
    rw [e] at e2
    cases e2
    exact (x b o q).stay (fun c v _ z => k c v z) (fun c z => s c _ z) fun c xs z => s c _ z
/-- the zip z amid its walk: i pairs are out, all above B -/
structure ZAt (h : Heap) (z TI TO i1 i2 l1 l2 B : Addr) (xs ys : Array Value) (i : Nat) (Ts : List Addr) : Prop where
  pr : IsPair h TI (.ref i1) (.ref i2)
  w1 : h.IsListIter i1 l1 i
  w2 : h.IsListIter i2 l2 i
  a1 : h.IsList l1 xs
  a2 : h.IsList l2 ys
  zp : (IsZip h z TI TO .none ∧ ∃ a b, IsPair h TO a b) ∨ ∃ T f oT, IsZipHeld h z TI TO T f ∧ h.get? T = some oT ∧ B ≤ T
  len : Ts.length = i
  nd : Ts.Nodup
  out : ∀ (j : Nat) (T : Addr), Ts[j]? = some T → B ≤ T ∧ ∃ x y, xs[j]? = some x ∧ ys[j]? = some y ∧ IsPair h T x y
theorem pairKeep {h h' : Heap} {T : Addr} {x y : Value} (p : IsPair h T x y) (e : ∀ o, h.get? T = some o → h'.get? T = some o) : IsPair h' T x y := e _ p
section
variable {P : Program} {w : World} {A : Around} {R : Result → Shared → Prop} {z TI TO i1 i2 l1 l2 S B : Addr} {xs ys : Array Value} {res : Value}
theorem zipLoop (hh : A.in1.handled = none) (D : ZipApart z TI TO i1 i2 l1 l2) (same : ys.size = xs.size) (few : xs.size ≤ sizeLine) (lt : ∀ b, b = z ∨ b = TI ∨ b = TO ∨ b = i1 ∨ b = i2 ∨ b = l1 ∨ b = l2 → b < B) (ltS : S < B) (offS : S ≠ z ∧ S ≠ TI ∧ S ≠ TO ∧ S ≠ i1 ∧ S ≠ i2 ∧ S ≠ l1 ∧ S ≠ l2) :
    ∀ (m i : Nat) (s : Shared) (Ts : List Addr), i + m = xs.size → B ≤ s.heap.objs.size → ZAt s.heap z TI TO i1 i2 l1 l2 B xs ys i Ts → (∃ c, s.heap.get? S = some (seqObj "list" (Ts.map Value.ref).toArray c)) →
      (∀ (h' : Heap) (tk : Nat) (Us : List Addr) (c' : Nat), Us.length = xs.size → Us.Nodup → (∀ (j : Nat) (T : Addr), Us[j]? = some T → B ≤ T ∧ ∃ x y, xs[j]? = some x ∧ ys[j]? = some y ∧ IsPair h' T x y) → h'.get? S = some (seqObj "list" (Us.map Value.ref).toArray c') →
        (∀ b o, b ≠ S → b ≠ z → b ≠ TO → b ≠ i1 → b ≠ i2 → s.heap.get? b = some o → h'.get? b = some o) → R (.ok (.ret res)) { s with heap := h', toks := tk }) →
      codeAny (model P w) A (.builtin "list.extend.loop" ⟨[.ref S, .ref z, res], []⟩) R s := by
  have lz := lt z (by simp)
  have lTI := lt TI (by simp)
  have lTO := lt TO (by simp)
  have li1 := lt i1 (by simp)
  have li2 := lt i2 (by simp)
  have ll1 := lt l1 (by simp)
  have ll2 := lt l2 (by simp)
  obtain ⟨oz, oTI, oTO, oi1, oi2, ol1, ol2⟩ := offS
  intro m
  induction m with
  | zero =>
    intro i s Ts hi hB Z ⟨c, hS⟩ hR
    have e : i = xs.size := by omega
    subst e
    have off : xs[xs.size]? = none ∨ ys[xs.size]? = none := Or.inl (Array.getElem?_eq_none (Nat.le_refl _))
    refine codeAny_builtin PySem.F.entry_extend_loop ?_
    rw [Around.under_plainId PySem.F.plain_extend_loop _]
    show wpAny _ A.in1 (pyNext (.ref z) >>= _) _ _ s
    have fin : ∀ h' : Heap, (∀ b o, b ≠ z → b ≠ TO → b ≠ i1 → b ≠ i2 → s.heap.get? b = some o → h'.get? b = some o) → R (.ok (.ret res)) { s with heap := h' } := fun h' k => by
      refine hR h' s.toks Ts c Z.len Z.nd (fun j T hj => ?_) (k _ _ oz oTO oi1 oi2 hS) fun b o _ b1 b2 b3 b4 e => k b o b1 b2 b3 b4 e
      obtain ⟨q1, x, y, q2, q3, q4⟩ := Z.out j T hj
      exact ⟨q1, x, y, q2, q3, pairKeep q4 fun o e => k T o (Nat.ne_of_gt (Nat.lt_of_lt_of_le lz q1)) (Nat.ne_of_gt (Nat.lt_of_lt_of_le lTO q1)) (Nat.ne_of_gt (Nat.lt_of_lt_of_le li1 q1)) (Nat.ne_of_gt (Nat.lt_of_lt_of_le li2 q1)) e⟩
    rcases Z.zp with ⟨z1, a, b, z2⟩ | ⟨T, f, oT, z1, z2, z3⟩
    · exact wpAny_bind (wpAny_pyNext_zip_end hh D z1 Z.pr z2 Z.w1 Z.w2 Z.a1 Z.a2 off fun h' k => wpAny_pure (fin h' fun b o b1 b2 b3 b4 e => k b o b1 b2 b3 b4 e))
    · exact wpAny_bind (wpAny_pyNext_zip_end_held hh D z1 z2 Z.pr Z.w1 Z.w2 Z.a1 Z.a2 off fun h' k => wpAny_pure (fin h' fun b o b1 _ b3 b4 e => k b o b1 b3 b4 e))
  | succ m ih =>
    intro i s Ts hi hB Z ⟨c, hS⟩ hR
    have ex : xs[i]? = some xs[i] := Array.getElem?_eq_getElem (by omega)
    have ey : ys[i]? = some ys[i] := Array.getElem?_eq_getElem (by omega)
    refine codeAny_builtin PySem.F.entry_extend_loop ?_
    rw [Around.under_plainId PySem.F.plain_extend_loop _]
    show wpAny _ A.in1 (pyNext (.ref z) >>= _) _ _ s
    have szT : (Ts.map Value.ref).toArray.size = i := by rw [List.size_toArray, List.length_map, Z.len]
    have turn : ∀ h' : Heap, ((∃ T f oT, IsZipHeld h' z TI TO T f ∧ h'.get? T = some oT ∧ B ≤ T)) → h'.IsListIter i1 l1 (i + 1) → h'.IsListIter i2 l2 (i + 1) → IsPair h' s.heap.objs.size xs[i] ys[i] → h'.objs.size = s.heap.objs.size + 1 →
        (∀ b o, b ≠ z → b ≠ TO → b ≠ i1 → b ≠ i2 → s.heap.get? b = some o → h'.get? b = some o) →
        wpAny (model P w) A.in1 (updateSeq S (·.push (.ref s.heap.objs.size)) >>= fun _ => again (.builtin "list.extend.loop" ⟨[.ref S, .ref z, res], []⟩))
          (fun fin s' => match fin with | .done f => R (.ok f) s' | .again c' => c'.quiet = true ∧ codeAny (model P w) A c' R s') (fun e s' => R (.error e) s') { s with heap := h' } := by
      intro h' hz hw1 hw2 hp hsz k
      have hS1 := k _ _ oz oTO oi1 oi2 hS
      have lim : i + 1 ≤ sizeLine := by omega
      refine wpAny_bind (wpAny_updateSeq hS1 rfl ?_ (by rw [szT]; exact Nat.le_trans (Nat.le_of_lt (by omega : i < xs.size)) few) (by show ((Ts.map Value.ref).toArray.push _).size ≤ sizeLine + 1; rw [Array.size_push, szT]; omega))
      refine wpAny_pure ⟨plainId_quiet PySem.F.plain_extend_loop _, ?_⟩
      have other : ∀ b o, b ≠ S → h'.get? b = some o → (h'.update S (Obj.mapSeq (·.push (Value.ref s.heap.objs.size)))).get? b = some o := fun b o nb e => (Heap.get?_update_other _ _ (Ne.symm nb)).trans e
      have nS : ∀ {b : Addr}, B ≤ b → b ≠ S := fun q => Nat.ne_of_gt (Nat.lt_of_lt_of_le ltS q)
      refine ih (i + 1) _ (Ts ++ [s.heap.objs.size]) (by omega) (by show B ≤ (h'.update S _).objs.size; rw [Heap.size_update, hsz]; exact Nat.le_trans hB (Nat.le_succ _)) ?_ ?_ fun h2 tk Us c2 u1 u0 u2 u3 u4 => ?_
      · obtain ⟨T, f, oT, z1, z2, z3⟩ := hz
        exact { pr := pairKeep Z.pr fun o e => other _ o (Ne.symm oTI) (k _ o D.TIz D.TITO D.TIi1 D.TIi2 e), w1 := hw1.at fun o e => other _ o (Ne.symm oi1) e, w2 := hw2.at fun o e => other _ o (Ne.symm oi2) e
                a1 := Z.a1.at fun o e => other _ o (Ne.symm ol1) (k _ o D.l1z D.l1TO D.l1i1 D.l1i2 e), a2 := Z.a2.at fun o e => other _ o (Ne.symm ol2) (k _ o D.l2z D.l2TO D.l2i1 D.l2i2 e)
                zp := Or.inr ⟨T, f, oT, other _ _ (Ne.symm oz) z1, other _ _ (nS z3) z2, z3⟩
                len := by rw [List.length_append, Z.len]; rfl
                nd := List.nodup_append.mpr ⟨Z.nd, List.nodup_cons.mpr ⟨List.not_mem_nil, List.nodup_nil⟩, fun T hT U hU e => by
                  obtain ⟨j, hj⟩ := List.mem_iff_getElem?.mp hT
                  obtain ⟨_, x, y, _, _, q4⟩ := Z.out j T hj
                  rw [List.mem_singleton] at hU
                  have l := Heap.lt_size q4
                  rw [e, hU] at l
                  exact Nat.lt_irrefl _ l⟩
                out := fun j T hj => by
                  by_cases c : j < Ts.length
                  · rw [List.getElem?_append_left c] at hj
                    obtain ⟨q1, x, y, q2, q3, q4⟩ := Z.out j T hj
                    exact ⟨q1, x, y, q2, q3, pairKeep q4 fun o e => other T o (nS q1) (k T o (Nat.ne_of_gt (Nat.lt_of_lt_of_le lz q1)) (Nat.ne_of_gt (Nat.lt_of_lt_of_le lTO q1)) (Nat.ne_of_gt (Nat.lt_of_lt_of_le li1 q1)) (Nat.ne_of_gt (Nat.lt_of_lt_of_le li2 q1)) e)⟩
                  · have len := Z.len
                    rw [List.getElem?_append_right (by omega)] at hj
                    have hj2 := (List.getElem?_eq_some_iff.mp hj).1
                    rw [List.length_singleton] at hj2
                    have ej : j = i := by omega
                    subst ej
                    rw [show j - Ts.length = 0 by omega] at hj
                    injection hj with hj
                    subst hj
                    exact ⟨hB, _, _, ex, ey, pairKeep hp fun o e => other _ o (nS hB) e⟩ }
      · have q := Heap.get?_update_self (Obj.mapSeq (·.push (Value.ref s.heap.objs.size))) hS1 rfl
        refine ⟨_, q.trans (congrArg (fun l : Array Value => some (seqObj "list" l _)) ?_)⟩
        show (Ts.map Value.ref).toArray.push (Value.ref s.heap.objs.size) = ((Ts ++ [s.heap.objs.size]).map Value.ref).toArray
        rw [List.push_toArray, List.map_append]
        rfl
      · exact hR h2 tk Us c2 u1 u0 u2 u3 fun b o b0 b1 b2 b3 b4 e => u4 b o b0 b1 b2 b3 b4 (other b o b0 (k b o b1 b2 b3 b4 e))
    rcases Z.zp with ⟨z1, a, b, z2⟩ | ⟨T, f, oT, z1, z2, z3⟩
    · refine wpAny_bind (wpAny_pyNext_zip_item D z1 Z.pr z2 Z.w1 Z.w2 Z.a1 Z.a2 ex ey fun h' b1 b2 b3 b4 b5 b6 k => ?_)
      exact turn h' ⟨_, false, _, b1, b5, hB⟩ b3 b4 b5 b6 fun b o n1 n2 n3 n4 e => k b o n1 n2 n3 n4 e
    · refine wpAny_bind (wpAny_pyNext_zip_item_held D z1 z2 Z.pr Z.w1 Z.w2 Z.a1 Z.a2 ex ey fun h' b1 b3 b4 b5 b6 k => ?_)
      have n1 : T ≠ z := Nat.ne_of_gt (Nat.lt_of_lt_of_le lz z3)
      have n3 : T ≠ i1 := Nat.ne_of_gt (Nat.lt_of_lt_of_le li1 z3)
      have n4 : T ≠ i2 := Nat.ne_of_gt (Nat.lt_of_lt_of_le li2 z3)
      exact turn h' ⟨T, true, oT, b1, k _ _ n1 n3 n4 z2, z3⟩ b3 b4 b5 b6 fun b o n1 _ n3 n4 e => k b o n1 n3 n4 e
theorem zip_no_len : typeLookup (.type "zip") "__len__" = pure none := am_miss_of_fast (by decide +kernel)
theorem zip_no_hint : typeLookup (.type "zip") "__length_hint__" = pure none := am_miss_of_fast (by decide +kernel)
theorem listZip {E : Value → Shared → Prop} {s : Shared} {Q : Value → Shared → Prop} (hh : A.handled = none) (D : ZipApart z TI TO i1 i2 l1 l2) (same : ys.size = xs.size) (few : xs.size ≤ sizeLine) (hz : IsZip s.heap z TI TO .none) (hTI : IsPair s.heap TI (.ref i1) (.ref i2)) (hTO : IsPair s.heap TO .none .none)
    (h1 : s.heap.IsListIter i1 l1 0) (h2 : s.heap.IsListIter i2 l2 0) (g1 : s.heap.IsList l1 xs) (g2 : s.heap.IsList l2 ys)
    (hQ : ∀ (h' : Heap) (tk : Nat) (Us : List Addr) (c' : Nat), Us.length = xs.size → Us.Nodup → (∀ (j : Nat) (T : Addr), Us[j]? = some T → s.heap.objs.size < T ∧ ∃ x y, xs[j]? = some x ∧ ys[j]? = some y ∧ IsPair h' T x y) → h'.get? s.heap.objs.size = some (seqObj "list" (Us.map Value.ref).toArray c') →
      (∀ b o, b ≠ z → b ≠ TO → b ≠ i1 → b ≠ i2 → s.heap.get? b = some o → h'.get? b = some o) → Q (.ref s.heap.objs.size) { s with heap := h', toks := tk }) :
    wpAny (model P w) A (call (.type "list") [.ref z]) Q E s := by
  have none1 : A.in1.in1.handled = none := by simp [hh]
  obtain ⟨oh1, e1, _⟩ := id h1
  obtain ⟨oh2, e2, _⟩ := id h2
  obtain ⟨og1, f1, _⟩ := id g1
  obtain ⟨og2, f2, _⟩ := id g2
  refine callType_codes (Q₁ := fun obj s1 => obj = .ref s.heap.objs.size ∧ s1 = { s with heap := s.heap.push { cls := .type "list", data := .seq #[] } }) PySem.F.called_list (PySem.F.typeCall_list_1 _) PySem.F.entry_list_init (code_list_new _ ⟨rfl, rfl⟩) fun obj s1 hs1 => ?_
  obtain ⟨rfl, rfl⟩ := hs1
  have at0 : (s.heap.push { cls := .type "list", data := .seq #[] }).get? s.heap.objs.size = some { cls := .type "list", data := .seq #[] } := Heap.get?_push_size _ rfl
  have old : ∀ b o, s.heap.get? b = some o → (s.heap.push { cls := .type "list", data := .seq #[] }).get? b = some o := fun b o e => Heap.get?_push_of_some _ e
  refine ⟨⟨_, at0, rfl⟩, PySem.F.args_list_init_2 _ _, ?_⟩
  show wpAny _ _ (do let old ← Builtin.List.listItems (.ref s.heap.objs.size); Builtin.List.listUpdate (.ref s.heap.objs.size) (fun _ => #[]); letGo old.toList.reverse; Builtin.List.listExtendWith (.ref s.heap.objs.size) (.ref z) .none) _ _ _
  refine wpAny_bind ?_
  unfold Builtin.List.listItems
  refine wpAny_bind (wpAny_seqItems at0 rfl (wpAny_pure ?_))
  show wpAny _ _ (updateSeq s.heap.objs.size (fun _ => #[]) >>= fun _ => letGo (#[] : Array Value).toList.reverse >>= fun _ => Builtin.List.listExtendWith (.ref s.heap.objs.size) (.ref z) .none) _ _ _
  refine wpAny_bind (wpAny_updateSeq at0 rfl (wpAny_bind (wpAny_letGo ?_)))
  have at1 := Heap.get?_update_self (Obj.mapSeq (fun _ => (#[] : Array Value))) at0 rfl
  have ne : ∀ {b : Addr} {o : Obj}, s.heap.get? b = some o → s.heap.objs.size ≠ b := fun e => Nat.ne_of_gt (Heap.lt_size e)
  have old1 : ∀ b o, s.heap.get? b = some o → ((s.heap.push { cls := .type "list", data := .seq #[] }).update s.heap.objs.size (Obj.mapSeq (fun _ => (#[] : Array Value)))).get? b = some o := fun b o e => (Heap.get?_update_other _ _ (ne e)).trans (old b o e)
  generalize hh1 : ((s.heap.push { cls := .type "list", data := .seq #[] }).update s.heap.objs.size (Obj.mapSeq (fun _ => (#[] : Array Value)))) = hp1 at at1 old1
  have sz1 : hp1.objs.size = s.heap.objs.size + 1 := by rw [← hh1, Heap.size_update, Heap.size_push]
  unfold Builtin.List.listExtendWith
  have tz : Shared.TypeIs { s with heap := hp1 } (.ref z) "zip" := ⟨_, old1 _ _ hz, rfl⟩
  refine wpAny_bind (wpAny_typeOf tz ?_)
  have k1 : Builtin.List.listSameRef (.ref s.heap.objs.size) (.ref z) = false := by simp [Builtin.List.listSameRef, ne hz]
  have k2 : (Value.type "zip" == Value.type "list") = false := by decide
  have k3 : (Value.type "zip" == Value.type "tuple") = false := by decide
  simp only [k1, k2, k3, Bool.or_false, Bool.false_eq_true, if_false]
  refine wpAny_bind (wpAny_pyIter_zip (old1 _ _ hz) (wpAny_bind (wpAny_holding ?_)))
  unfold Builtin.List.listLengthHint
  refine wpAny_bind (wpAny_specialOf tz zip_no_len ?_)
  show wpAny _ _ (specialOf (Value.ref z) (Str.ofString "__length_hint__") >>= _) _ _ _
  refine wpAny_bind (wpAny_specialOf tz zip_no_hint (wpAny_pure ?_))
  show wpAny _ _ (rule "list.extend.makes-room" >>= fun _ => Builtin.List.listTouch (.ref s.heap.objs.size) >>= fun _ => again (.builtin "list.extend.loop" ⟨[.ref s.heap.objs.size, .ref z, .none], []⟩)) _ _ _
  refine wpAny_bind (wpAny_rule (wpAny_bind ?_))
  show wpAny _ _ (updateSeq s.heap.objs.size (·.push .none) >>= fun _ => updateSeq s.heap.objs.size (·.pop)) _ _ _
  refine wpAny_bind (wpAny_updateSeq at1 rfl ?_)
  have at2 := Heap.get?_update_self (Obj.mapSeq (·.push Value.none)) at1 rfl
  refine wpAny_updateSeq (hz := by seq_fits) at2 rfl ?_
  have at3 := Heap.get?_update_self (Obj.mapSeq (·.pop)) at2 rfl
  have old3 : ∀ b o, s.heap.get? b = some o → ((hp1.update s.heap.objs.size (Obj.mapSeq (·.push Value.none))).update s.heap.objs.size (Obj.mapSeq (·.pop))).get? b = some o := fun b o e => (Heap.get?_update_other _ _ (ne e)).trans ((Heap.get?_update_other _ _ (ne e)).trans (old1 b o e))
  have sz3 : ((hp1.update s.heap.objs.size (Obj.mapSeq (·.push Value.none))).update s.heap.objs.size (Obj.mapSeq (·.pop))).objs.size = s.heap.objs.size + 1 := by rw [Heap.size_update, Heap.size_update, sz1]
  generalize (hp1.update s.heap.objs.size (Obj.mapSeq (·.push Value.none))).update s.heap.objs.size (Obj.mapSeq (·.pop)) = hp3 at at3 old3 sz3
  refine wpAny_pure ⟨plainId_quiet PySem.F.plain_extend_loop _, ?_⟩
  refine zipLoop none1 D same few (B := s.heap.objs.size + 1) (fun b hb => ?_) (Nat.lt_succ_self _) ⟨ne hz, ne hTI, ne hTO, ne e1, ne e2, ne f1, ne f2⟩ xs.size 0 _ [] (Nat.zero_add _) (Nat.le_of_eq sz3.symm) ?_ ⟨_, at3⟩ fun h' tk Us c' u1 u0 u2 u3 u4 => ?_
  · have up : ∀ {b : Addr} {o : Obj}, s.heap.get? b = some o → b < s.heap.objs.size + 1 := fun e => Nat.lt_succ_of_lt (Heap.lt_size e)
    rcases hb with rfl | rfl | rfl | rfl | rfl | rfl | rfl
    · exact up hz
    · exact up hTI
    · exact up hTO
    · exact up e1
    · exact up e2
    · exact up f1
    · exact up f2
  · exact { pr := old3 _ _ hTI, w1 := h1.at fun o e => old3 _ o e, w2 := h2.at fun o e => old3 _ o e, a1 := g1.at fun o e => old3 _ o e, a2 := g2.at fun o e => old3 _ o e, zp := Or.inl ⟨old3 _ _ hz, _, _, old3 _ _ hTO⟩, len := rfl, nd := List.nodup_nil, out := fun j T hj => by simp at hj }
  · exact ⟨rfl, hQ h' tk Us c' u1 u0 u2 u3 fun b o b1 b2 b3 b4 e => u4 b o (Ne.symm (ne e)) b1 b2 b3 b4 (old3 b o e)⟩
end
section
variable {X : Cx} {K : PySem.W.Frag}
def tListZip (K : PySem.W.Frag) (ta : TA) : TE := fun σ H Q => ta σ H fun vs H1 => ∃ (a b : Addr) (xs ys : List V), vs = [.ref a, .ref b] ∧ SqL K H1 a xs ∧ SqL K H1 b ys ∧ ys.length = xs.length ∧
  ∀ (L : Addr) (H2 : Hp) (Ts : List Addr), H1 L = none → Same H1 H2 → H2 L = some (.lst (Ts.map V.ref)) → Ts.length = xs.length → (∀ (j : Nat) (x y : V), xs[j]? = some x → ys[j]? = some y → ∃ T, Ts[j]? = some T ∧ H2 T = some (.tup [x, y])) → Q (.ref L) H2
theorem rd_lz {ta : TA} {σ : L2.St} {H : Hp} {Q : VK} (q : ta σ H fun vs H1 => ∃ (a b : Addr) (xs ys : List V), vs = [.ref a, .ref b] ∧ SqL K H1 a xs ∧ SqL K H1 b ys ∧ ys.length = xs.length ∧
  ∀ (L : Addr) (H2 : Hp) (Ts : List Addr), H1 L = none → Same H1 H2 → H2 L = some (.lst (Ts.map V.ref)) → Ts.length = xs.length → (∀ (j : Nat) (x y : V), xs[j]? = some x → ys[j]? = some y → ∃ T, Ts[j]? = some T ∧ H2 T = some (.tup [x, y])) → Q (.ref L) H2) : tListZip K ta σ H Q := q
theorem vals_get {xs : List V} {us : List Value} (h : Vals xs us) : ∀ {j : Nat} {u : Value}, us[j]? = some u → ∃ x, xs[j]? = some x ∧ RelV x u := by
  induction h with
  | nil => intro j u e; simp at e
  | cons r _ ih =>
    intro j u e
    cases j with
    | zero => simp at e; subst e; exact ⟨_, rfl, r⟩
    | succ j => simpa using ih (by simpa using e)
def pick2 : List Addr → List V → List V → Addr → List V
  | T :: Ts, x :: xs, y :: ys, c => if c = T then [x, y] else pick2 Ts xs ys c
  | _, _, _, _ => []
theorem pick2_at : ∀ {Ts : List Addr} {xs ys : List V} {j : Nat} {T : Addr} {x y : V}, Ts.Nodup → Ts[j]? = some T → xs[j]? = some x → ys[j]? = some y → pick2 Ts xs ys T = [x, y]
  | [], _, _, j, T, x, y, _, h, _, _ => by simp at h
  | _ :: _, [], _, j, T, x, y, _, _, h, _ => by simp at h
  | _ :: _, _ :: _, [], j, T, x, y, _, _, _, h => by simp at h
  | T0 :: Ts, x0 :: xs, y0 :: ys, 0, T, x, y, _, h1, h2, h3 => by
    simp at h1 h2 h3
    rw [h1, h2, h3]
    exact if_pos rfl
  | T0 :: Ts, x0 :: xs, y0 :: ys, j + 1, T, x, y, nd, h1, h2, h3 => by
    simp at h1 h2 h3
    obtain ⟨n1, n2⟩ := List.nodup_cons.mp nd
    have ne : T ≠ T0 := fun z => n1 (by rw [← z]; exact List.mem_of_getElem? h1)
    exact (if_neg ne).trans (pick2_at n2 h1 h2 h3)
theorem vals_refs : ∀ Us : List Addr, Vals (Us.map V.ref) (Us.map Value.ref)
  | [] => .nil
  | _ :: Us => .cons rfl (vals_refs Us)
theorem pe_listZip {e e2 : Expr} {ta : TA} {p p2 pos q : Pos} (hc : X.calm = true) (hg : Gl X "list") (hm : X.mg "list" = none) (hg2 : Gl X "zip") (hm2 : X.mg "zip" = none) (ha : PA X [e, e2] ta)
    (hs : starEach [e, e2] X.env = (false, eval e X.env) :: starEach [e2] X.env := by rfl) (hpl : (backTo q (starEach [e2] X.env)).any (·.1) = false := by rfl) (h : X.K = K := by rfl) :
    PE X (.Call (.Name "list" p) [.Call (.Name "zip" p2) [e, e2] [] q] [] pos) (tListZip K ta) := by
  subst h
  refine ⟨fun pins s σ H Q I want => ?_⟩
  refine Call_ (ld_blt (u := .type "list") I hg hm (by decide +kernel) (PyProof.Rows.callWith_type1 (PyProof.Rows.args_cons ?_ rfl) rfl rfl))
  refine Call_ (ld_blt I hg2 hm2 PyProof.Rows.boot_zip (PyProof.Rows.callWith_type1 (thn (ha.run q pins s σ H _ I want) fun us s1 ⟨vs, H1, I1, r1, q1⟩ => ?_) hs hpl))
  obtain ⟨a, b, xs, ys, ex, hx, hy, len, qq⟩ := q1
  subst ex
  obtain ⟨u1, u2, rfl, ra, rb⟩ : ∃ u1 u2, us = [u1, u2] ∧ RelV (.ref a) u1 ∧ RelV (.ref b) u2 := by
    cases r1 with
    | cons r rr =>
      cases rr with
      | cons r' rr =>
        cases rr
        exact ⟨_, _, rfl, r, r'⟩
  cases ra
  cases rb
  obtain ⟨its, rv, p1, z1⟩ := I1.list hx
  obtain ⟨its2, rv2, p2', z2⟩ := I1.list hy
  have l1 := rv.length
  have l2 := rv2.length
  have la : a < s1.heap.objs.size := p1.lt
  have lb : b < s1.heap.objs.size := p2'.lt
  refine call_zip_2 p1.isList p2'.isList fun h' hz hTI hTO w1 w2 hsz hk => ?_
  refine PyProof.Rows.args_nil ?_
  have D : ZipApart (s1.heap.objs.size + 4) (s1.heap.objs.size + 2) (s1.heap.objs.size + 3) s1.heap.objs.size (s1.heap.objs.size + 1) a b := PySem.W.ktu_apart s1.heap.objs.size a b la lb
  have keepL : ∀ {l : Addr} {items : Array Value}, s1.heap.IsList l items → h'.IsList l items := fun g => g.at fun o e => hk _ o e
  refine listZip (s := { s1 with heap := h' }) (I1.ok.hd hc) D (xs := its.toArray) (ys := its2.toArray) (by rw [List.size_toArray, List.size_toArray]; omega) (by rw [List.size_toArray]; omega) hz hTI hTO w1 w2 (keepL p1.isList) (keepL p2'.isList) fun h2 tk Us c' n1 n0 n2 n3 n4 => ?_
  rw [List.size_toArray] at n1
  have above : ∀ {c : Addr} {o : Obj}, s1.heap.get? c = some o → h2.get? c = some o := fun {c o} e => by
    have lt := Heap.lt_size e
    exact n4 c o (Nat.ne_of_lt (Nat.lt_add_right 4 lt)) (Nat.ne_of_lt (Nat.lt_add_right 3 lt)) (Nat.ne_of_lt lt) (Nat.ne_of_lt (Nat.lt_add_right 1 lt)) (hk c o e)
  have hsz' : h'.objs.size = s1.heap.objs.size + 5 := hsz
  -- what is tracked from here on
  have bigT : ∀ (j : Nat) (T : Addr), Us[j]? = some T → h'.objs.size < T := fun j T hj => (n2 j T hj).1
  have newT : ∀ T ∈ Us, H1 T = none ∧ T ≠ h'.objs.size := fun T hT => by
    obtain ⟨j, hj⟩ := List.mem_iff_getElem?.mp hT
    have := bigT j T hj
    exact ⟨I1.hok.fresh (Nat.le_of_lt (Nat.lt_of_le_of_lt (by rw [hsz']; exact Nat.le_add_right _ _) this)), Nat.ne_of_gt this⟩
  have newL : H1 h'.objs.size = none := I1.hok.fresh (by rw [hsz']; exact Nat.le_add_right _ _)
  have at_ : ∀ (j : Nat) (T : Addr), Us[j]? = some T → ∃ x y u v, xs[j]? = some x ∧ ys[j]? = some y ∧ RelV x u ∧ RelV y v ∧ IsPair h2 T u v := fun j T hj => by
    obtain ⟨_, u, v, e1, e2, pr⟩ := n2 j T hj
    obtain ⟨x, ex, rx⟩ := vals_get rv (j := j) (u := u) (by simpa using e1)
    obtain ⟨y, ey, ry⟩ := vals_get rv2 (j := j) (u := v) (by simpa using e2)
    exact ⟨x, y, u, v, ex, ey, rx, ry, pr⟩
  let H2 : Hp := fun c => if c = h'.objs.size then some (.lst (Us.map V.ref)) else if c ∈ Us then some (.tup (pick2 Us xs ys c)) else H1 c
  have gL : H2 h'.objs.size = some (.lst (Us.map V.ref)) := if_pos rfl
  have gT : ∀ (j : Nat) (T : Addr) (x y : V), Us[j]? = some T → xs[j]? = some x → ys[j]? = some y → H2 T = some (.tup [x, y]) := fun j T x y hj hx hy => by
    have hT := List.mem_of_getElem? hj
    show (if T = h'.objs.size then _ else if T ∈ Us then _ else _) = _
    rw [if_neg (newT T hT).2, if_pos hT, pick2_at n0 hj hx hy]
  have same2 : Same H1 H2 := fun c o e => by
    have m1 : c ≠ h'.objs.size := fun z => by
      rw [z, newL] at e
      cases e
    have m2 : c ∉ Us := fun z => by
      rw [(newT c z).1] at e
      cases e
    show (if c = h'.objs.size then _ else if c ∈ Us then _ else _) = _
    rw [if_neg m1, if_neg m2]
    exact e
  have szU : (Us.map V.ref).length ≤ sizeLine := by rw [List.length_map, n1]; omega
  have un : Un (frs X.stack) [] H1 H2 s1.heap h2 := Un.more (fun c o e => above e) same2 fun c e lt => by
    show (if c = h'.objs.size then _ else if c ∈ Us then _ else _) = _
    rw [if_neg fun z => by rw [z, hsz'] at lt; exact Nat.not_lt_of_le (Nat.le_add_right _ 5) lt, if_neg fun z => ?_]
    · exact e
    · obtain ⟨j, hj⟩ := List.mem_iff_getElem?.mp z
      have q := bigT j c hj
      rw [hsz'] at q
      exact Nat.lt_irrefl _ (Nat.lt_of_lt_of_le (Nat.lt_of_lt_of_le lt (Nat.le_add_right _ 5)) (Nat.le_of_lt q))
  have hok : HOk X.prog X.w H2 h2 := HOk.more I1.hok (fun c o e => above e) same2 fun c o e0 e => by
    have e' : (if c = h'.objs.size then some (.lst (Us.map V.ref)) else if c ∈ Us then some (.tup (pick2 Us xs ys c)) else H1 c) = some o := e
    by_cases c1 : c = h'.objs.size
    · rw [if_pos c1] at e'
      cases e'
      subst c1
      exact ⟨szU, Us.map Value.ref, c', vals_refs Us, n3⟩
    · rw [if_neg c1] at e'
      by_cases c2 : c ∈ Us
      · obtain ⟨j, hj⟩ := List.mem_iff_getElem?.mp c2
        obtain ⟨x, y, u, v, ex, ey, rx, ry, pr⟩ := at_ j c hj
        have g := gT j c x y hj ex ey
        rw [e] at g
        cases g
        refine ⟨by show 2 ≤ sizeLine; decide, [u, v], .cons rx (.cons ry .nil), _, pr, rfl, 0, rfl⟩
      · rw [if_neg c2, e0] at e'
        cases e'
  exact ⟨.ref h'.objs.size, H2, I1.call' (ch := []) rfl un hok I1.bare (fun _ z => nomatch z), rfl, qq h'.objs.size H2 Us newL same2 gL (by rw [n1, l1]) fun j x y hx hy => by
    have lt : j < Us.length := by
      have := (List.getElem?_eq_some_iff.mp hx).1
      omega
    exact ⟨Us[j], List.getElem?_eq_getElem lt, gT j _ x y (List.getElem?_eq_getElem lt) hx hy⟩⟩
end
/-! ### list(s), list(x) and len(x) of a text or a list -/
section
variable {X : Cx} {K : PySem.W.Frag}
theorem vals_strs_of : ∀ (cs : List Nat) (us : List Value), us.length = cs.length → (∀ (j : Nat) (u : Value), us[j]? = some u → ∃ c t, cs[j]? = some c ∧ u = Value.str ⟨#[c]⟩ t) → Vals (cs.map fun c => V.str ⟨#[c]⟩) us
  | [], [], _, _ => .nil
  | [], _ :: _, h, _ => by simp at h
  | _ :: _, [], h, _ => by simp at h
  | c :: cs, u :: us, h, k => by
    obtain ⟨d, t, h1, h2⟩ := k 0 u rfl
    simp at h1
    subst h1
    exact .cons ⟨t, h2⟩ (vals_strs_of cs us (by simpa using h) fun j v hv => by
      obtain ⟨d, t, q1, q2⟩ := k (j + 1) v (by simpa using hv)
      exact ⟨d, t, by simpa using q1, q2⟩)
def rListS : List V → Hp → VK → Prop := fun xs H Q => ∃ z : Str, xs = [.str z] ∧ z.cps.size ≤ 4000 ∧ ∀ l, H l = none → Q (.ref l) (upd H l (.lst (z.cps.toList.map fun c => V.str ⟨#[c]⟩)))
theorem klistS (hc : X.calm = true) : CallR X (.type "list") rListS := by
  intro pins s σ H xs us Q I r h
  obtain ⟨z, rfl, few, q⟩ := h
  obtain ⟨u, rfl, t, rfl⟩ := vals1 r
  have lim : z.cps.size ≤ sizeLine := by rw [sizeLine_eq]; omega
  refine PySem.call_list_str (hn := lim) (I.ok.hd hc) z t fun h' tk acc c' keep at_ it => ?_
  have sz : (z.cps.toList.map fun c => V.str ⟨#[c]⟩).length ≤ sizeLine := by rw [List.length_map, Array.length_toList]; exact lim
  refine ⟨.ref s.heap.objs.size, _, I.laid (o := .lst (z.cps.toList.map fun c => V.str ⟨#[c]⟩)) keep (Nat.le_refl _) ⟨sz, acc.toList, c', ?_, at_⟩, rfl, q _ (I.hok.fresh (Nat.le_refl _))⟩
  refine vals_strs_of _ _ (by rw [Array.length_toList, Array.length_toList]; exact it.1) fun j u hu => ?_
  obtain ⟨c, t', e1, e2⟩ := it.2 j u (by simpa using hu)
  exact ⟨c, t', by simpa using e1, e2⟩
def qListA (K : PySem.W.Frag) : List V → Hp → VK → Prop := fun xs H Q => qList K xs H Q ∨ rListS xs H Q
theorem klistA (hc : X.calm = true) (h : X.K = K := by rfl) : CallR X (.type "list") (qListA K) := CallR.or (klist h) (klistS hc)
def qLenA (K : PySem.W.Frag) : List V → Hp → VK → Prop := fun xs H Q => qLen K xs H Q ∨ ∃ z, xs = [.str z] ∧ z.length ≤ sizeLine ∧ Q (.int z.length) H
theorem klenA (h : X.K = K := by rfl) : CallR X (.builtin "len") (qLenA K) := CallR.or (klen h) call_len_str
end
/-! ### s * n -/
def repS (z : Str) (n : Nat) : Str := ⟨(List.replicate n z.cps).foldl (· ++ ·) #[]⟩
theorem fold_size (z : Array Nat) : ∀ (n : Nat) (acc : Array Nat), ((List.replicate n z).foldl (· ++ ·) acc).size = acc.size + n * z.size
  | 0, acc => by simp
  | n + 1, acc => by
    rw [List.replicate_succ, List.foldl_cons, fold_size z n, Array.size_append, Nat.succ_mul]
    omega
theorem repS_len (z : Str) (n : Nat) : (repS z n).length = n * z.length := by
  have := fold_size z.cps n #[]
  simpa [repS, Str.length] using this
theorem repS_one (z : Str) : repS z 1 = z := by
  cases z with
  | mk c =>
    show (⟨#[] ++ c⟩ : Str) = ⟨c⟩
    rw [Array.empty_append]
theorem repS_nil (z : Str) (n : Nat) (h : z.length = 0) : repS z n = z := by
  have e := repS_len z n
  rw [h, Nat.mul_zero] at e
  cases z with
  | mk c =>
    have h1 : c = #[] := Array.eq_empty_of_size_eq_zero h
    have h2 : (repS ⟨c⟩ n).cps = #[] := Array.eq_empty_of_size_eq_zero e
    subst h1
    cases q : repS ⟨#[]⟩ n with
    | mk d =>
      rw [q] at h2
      rw [show d = #[] from h2]
def rRepS : R2 := fun x y H Q => ∃ (z : Str) (n : Nat), x = .str z ∧ y = .int (n : Int) ∧ n ≤ 1000 ∧ z.length ≤ 1000 ∧ Q (.str (repS z n)) H
theorem op_repS {X : Cx} : OpR X (binaryOp .Mult) rRepS := by
  intro pins s σ H x y v u Q I rx ry h
  obtain ⟨z, n, rfl, rfl, hn, hz, q⟩ := h
  obtain ⟨t, rfl⟩ := rx
  obtain ⟨t', rfl⟩ := ry
  have prod : z.length * n ≤ 1000 * 1000 := Nat.mul_le_mul hz hn
  have fits : Builtin.Str.tooLong (z.length * ((n : Nat) : Int).toNat) = false := by
    rw [Int.toNat_natCast]
    refine decide_eq_false ?_
    rw [sizeLine_eq]
    omega
  refine PySem.P.mul_str (by rw [decide_eq_false (by omega), decide_eq_false (by omega)]; rfl) (fun h1 _ => ?_) (fun _ _ => fits) ?_
  · have b : (1 : Int) ≤ n := by omega
    have d := Int.ediv_le_ediv (a := (2 ^ 63 - 1) / 1000 * n) (b := 2 ^ 63 - 1) (c := n) (by omega) (by omega)
    rw [Int.mul_ediv_cancel _ (by omega)] at d
    omega
  by_cases h0 : (n : Int) < 1
  · have e : n = 0 := by omega
    subst e
    rw [if_pos h0]
    exact ⟨by decide, ⟨.str (repS z 0), H, I.tok _, ⟨_, rfl⟩, q⟩⟩
  · rw [if_neg h0]
    by_cases h1 : ((n : Int) == 1 || z.length == 0) = true
    · rw [if_pos h1]
      have e : repS z n = z := by
        rcases Bool.or_eq_true_iff.mp h1 with k | k
        · have : n = 1 := by
            have := eq_of_beq k
            omega
          rw [this, repS_one]
        · exact repS_nil z n (eq_of_beq k)
      rw [e] at q
      exact ⟨.str z, H, I, ⟨_, rfl⟩, q⟩
    · rw [if_neg h1, Int.toNat_natCast]
      refine ⟨?_, ⟨.str (repS z n), H, I.tok _, ⟨_, rfl⟩, q⟩⟩
      have e := repS_len z n
      rw [Nat.mul_comm] at e
      show (repS z n).length ≤ sizeLine
      rw [sizeLine_eq]
      omega
/-! ### xs + ys of any two lists that are read -/
theorem meets_cat (l b : Addr) (xs ys : Array Value) (n m : Nat) (d1 d2 : Option Addr) (s1 s2 : Array (Option Value)) (few : xs.size + ys.size ≤ sizeLine) :
    Meets (Builtin.«list.__add__» ⟨[.ref l, .ref b], []⟩) (fun _ R s => s.heap.get? l = some { cls := .type "list", dict := d1, data := .seq xs n, slots := s1 } ∧ s.heap.get? b = some { cls := .type "list", dict := d2, data := .seq ys m, slots := s2 } ∧
      R (.ok (.ret (Value.ref s.heap.objs.size))) { s with heap := s.heap.push { cls := Value.type "list", data := Data.seq (xs ++ ys) }, toks := s.toks }) :=
  .of_wp fun prog w A R s h => by
    obtain ⟨hp, gs, dr, tk, os⟩ := s
    obtain ⟨h1, h2, fin⟩ := h
    have j1 := PySem.AutoSeq1.idx_int
    have j2 := PySem.AutoSeq1.sub_tuple_tuple
    have j3 := PySem.AutoSeq1.sub_list_list
    have j4 := PySem.AutoSeq1.sub_tuple_list
    have j5 := PySem.AutoSeq1.sub_list_tuple
    wp_walk using PySem.AutoSeq1.wpAny_loadPart' h1, PySem.AutoSeq1.wpAny_loadPart' h2
    exact ⟨_, rfl, fin⟩
section
variable {X : Cx} {K : PySem.W.Frag}
def rCatL (K : PySem.W.Frag) : R2 := fun x y H Q => ∃ a b xs ys, x = .ref a ∧ y = .ref b ∧ SqL K H a xs ∧ SqL K H b ys ∧ xs.length + ys.length ≤ sizeLine ∧ ∀ p, H p = none → Q (.ref p) (upd H p (.lst (xs ++ ys)))
theorem op_catL (h : X.K = K := by rfl) : OpR X (binaryOp .Add) (rCatL K) := by
  subst h
  intro pins s σ H x y v u Q I rx ry want
  obtain ⟨a, b, xs, ys, rfl, rfl, ha, hb, few, q⟩ := want
  cases rx
  cases ry
  obtain ⟨its, r1, ⟨⟨c1, d1, e1, s1⟩, n1, g1, hc1, hd1, he1⟩, _⟩ := I.list ha
  obtain ⟨its2, r2, ⟨⟨c2, d2, e2, s2⟩, n2, g2, hc2, hd2, he2⟩, _⟩ := I.list hb
  simp only at hc1 hc2 he1 he2
  subst hc1 hc2 he1 he2
  have z1 := r1.length
  have z2 := r2.length
  refine PySem.concat_meets ⟨_, g1, rfl⟩ ⟨_, g2, rfl⟩ PySem.noFill_list_add PySem.seq_list_add PySem.F.slot_list_add PySem.F.entry_list_add (PySem.F.args_list_add_2 _ _) (meets_cat a b its.toArray its2.toArray n1 n2 d1 d2 s1 s2 (by rw [List.size_toArray, List.size_toArray]; omega)) ⟨g1, g2, ?_⟩
  have e : its.toArray ++ its2.toArray = (its ++ its2).toArray := by simp
  rw [e]
  exact ⟨.ref _, _, I.lnew (t' := s.toks) (r1.append r2) (by rw [List.length_append]; omega), rfl, q _ I.fresh⟩
end
end LX


/-! ### sets of one kind of keys: made from lists and texts, counted, sorted -/
namespace LX
open PySem PySem.Spec PyProof.Rows L2
/-- what a kind of keys must tell -/
structure KyOk {P : Program} {w : World} {κ : Type} [DecidableEq κ] (knd : PySem.KeyKind P w κ) (val : κ → Tok → Value) (key : Value → κ) : Prop where
  back : ∀ k t, key (val k t) = k
  isv : ∀ k k' t, knd.is k (val k' t) = true ↔ k' = k
  scan : ∀ k t, (val k t).scannable = true
section
variable {P : Program} {w : World} {κ : Type} [DecidableEq κ] {knd : PySem.KeyKind P w κ} {val : κ → Tok → Value} {key : Value → κ}
def entK (knd : PySem.KeyKind P w κ) (val : κ → Tok → Value) (e : Int × Value) : Prop := ∃ k t, e = (knd.hash k, val k t)
abbrev keysOf (key : Value → κ) (es : Array (Int × Value)) : List κ := es.toList.map fun e => key e.2
/-- the set at a: S its members, n of them -/
structure StK (knd : PySem.KeyKind P w κ) (val : κ → Tok → Value) (key : Value → κ) (h : Heap) (a : Addr) (S : κ → Bool) (n : Nat) (o : Obj) (es : Array (Int × Value)) (ep : Nat) (t : SetTable) : Prop where
  here : h.get? a = some o
  exact_ : o.ExactSet
  data : o.data = .set es ep t
  ent : ∀ e ∈ es.toList, entK knd val e
  nodup : (keysOf key es).Nodup
  mem : ∀ k, S k = true ↔ k ∈ keysOf key es
  room : es.size < scanBound
  fits : t.fits es.size = true
  num : es.size = n
  ris : Ris t.place.toList
  led : w.params.followText "set-order" = true ∨ t.led = true
def SetK1 (knd : PySem.KeyKind P w κ) (val : κ → Tok → Value) (key : Value → κ) (h : Heap) (a : Addr) (S : κ → Bool) (n : Nat) : Prop := ∃ o es ep t, StK knd val key h a S n o es ep t
theorem SetK1.keep {h h' : Heap} {a : Addr} {S : κ → Bool} {n : Nat} (R : SetK1 knd val key h a S n) (k : ∀ o, h.get? a = some o → h'.get? a = some o) : SetK1 knd val key h' a S n :=
  let ⟨o, es, ep, t, T⟩ := R
  ⟨o, es, ep, t, { T with here := k o T.here }⟩
theorem SetK1.congr {h : Heap} {a : Addr} {S S' : κ → Bool} {n n' : Nat} (R : SetK1 knd val key h a S n) (e : ∀ k, S' k = S k) (e2 : n' = n) : SetK1 knd val key h a S' n' := by
  rw [e2, show S' = S from funext e]
  exact R
variable (ok : KyOk knd val key)
include ok
theorem ents_elems {l : List (Int × Value)} (g : ∀ e ∈ l, entK knd val e) : ElemsOf knd l := fun e he => by
  obtain ⟨k, t, rfl⟩ := g e he
  exact ⟨⟨k, (ok.isv k k t).mpr rfl, rfl⟩, ok.scan k t⟩
theorem ents_is {e : Int × Value} (g : entK knd val e) (k : κ) : knd.is k e.2 = true ↔ key e.2 = k := by
  obtain ⟨k0, t, rfl⟩ := g
  show knd.is k (val k0 t) = true ↔ key (val k0 t) = k
  rw [ok.isv, ok.back]
theorem SetK1.setOf {h : Heap} {a : Addr} {S : κ → Bool} {n : Nat} (R : SetK1 knd val key h a S n) : h.SetOf knd a S n := by
  obtain ⟨o, es, ep, t, T⟩ := R
  refine ⟨o, es, ep, t, T.here, T.exact_, T.data, ents_elems ok T.ent, fun k => (T.mem k).trans ?_, T.room, T.fits, T.num⟩
  rw [List.mem_map]
  exact ⟨fun ⟨e, he, q⟩ => ⟨e, he, (ents_is ok (T.ent e he) k).mpr q⟩, fun ⟨e, he, q⟩ => ⟨e, he, (ents_is ok (T.ent e he) k).mp q⟩⟩
/-! ### one more member -/
omit ok in
theorem putK {A : Around} {E : Value → Shared → Prop} {s : Shared} {a : Addr} {o : Obj} {es es1 : Array (Int × Value)} {ep n' : Nat} {t t1 : SetTable} {S' : κ → Bool} {gv : Bool → Sem Unit} {old : Bool} {R : Option Bool → Shared → Prop}
    (ho : s.heap.get? a = some o) (hx : o.ExactSet) (hd : o.data = .set es ep t) (hgv : ∀ (b : Bool) (s1 : Shared) (R' : Unit → Shared → Prop), R' () s1 → wpAny (model P w) A (gv b) R' E s1)
    (c1 : ∀ e ∈ es1.toList, entK knd val e) (c2 : (keysOf key es1).Nodup) (c3 : ∀ k, S' k = true ↔ k ∈ keysOf key es1) (c4 : es1.size < scanBound) (c5 : t1.fits es1.size = true) (c6 : es1.size = n')
    (c7 : Ris t1.place.toList) (c8 : w.params.followText "set-order" = true ∨ t1.led = true)
    (hR : ∀ h', Heap.SameBut a s.heap h' → SetK1 knd val key h' a S' n' → R (some true) { s with heap := h' }) :
    wpAny (model P w) A (do
        storeSet a es1 t1
        if (!old && t1.tooFull) = true then do
            gv (relayAll t1 es1 (SetTable.grown es1.size)).2.2
            storeSet a (relayAll t1 es1 (SetTable.grown es1.size)).1 (relayAll t1 es1 (SetTable.grown es1.size)).2.1
            pure (some true)
          else pure (some true)) R E s := by
  have s1 := Heap.SameBut.update s.heap a (Obj.putSet es1 t1)
  have o1 := store_at (es' := es1) (t' := t1) ho hd
  refine wpAny_bind (wpAny_storeSet_of ho hd ?_ (fits_of_scanBound c4))
  by_cases full : (!old && t1.tooFull) = true
  · rw [if_pos full]
    have d1 := relayAll_perm t1 es1 (SetTable.grown es1.size)
    have d2 := relayAll_fits t1 es1 (SetTable.grown es1.size)
    have d3 := relayAll_ris t1 es1 (SetTable.grown es1.size)
    have d4 := relayAll_led t1 es1 (SetTable.grown es1.size)
    generalize relayAll t1 es1 (SetTable.grown es1.size) = big at d1 d2 d3 d4 ⊢
    obtain ⟨es2, t2, gave⟩ := big
    dsimp only at d1 d2 d3 d4 ⊢
    have z2 : es2.size = es1.size := by
      have q := d1.length_eq
      rwa [Array.length_toList, Array.length_toList] at q
    have o2 := store_at (es' := es2) (t' := t2) o1 rfl
    have all2 := fun e (he : e ∈ es2.toList) => c1 e (d1.mem_iff.mp he)
    have n2 : (keysOf key es2).Nodup := (d1.map _).nodup_iff.mpr c2
    have m2 : ∀ k, S' k = true ↔ k ∈ keysOf key es2 := fun k => (c3 k).trans (d1.map _).mem_iff.symm
    refine wpAny_bind (hgv _ _ _ (wpAny_bind (wpAny_storeSet_of o1 rfl ?_ (fits_of_scanBound (by rw [z2]; exact c4)))))
    exact wpAny_pure (hR _ (s1.trans (Heap.SameBut.update _ a _)) ⟨_, es2, _, t2, { here := o2, exact_ := hx, data := rfl, ent := all2, nodup := n2, mem := m2, room := by rw [z2]; exact c4, fits := d2, num := z2.trans c6, ris := d3, led := c8.imp id fun z => d4.trans z }⟩)
  · rw [if_neg full]
    exact wpAny_pure (hR _ s1 ⟨_, es1, _, t1, { here := o1, exact_ := hx, data := rfl, ent := c1, nodup := c2, mem := c3, room := c4, fits := c5, num := c6, ris := c7, led := c8 }⟩)
theorem addK {A : Around} {E : Value → Shared → Prop} {s : Shared} {a : Addr} {S : κ → Bool} {n : Nat} {k : κ} {tk : Tok} {Q : Bool → Shared → Prop} (R : SetK1 knd val key s.heap a S n) (few : n + 1 < scanBound)
    (hQ : ∀ h', Heap.SameBut a s.heap h' → SetK1 knd val key h' a (fun j => S j || decide (j = k)) (if S k = true then n else n + 1) → Q (!S k) { s with heap := h' }) :
    wpAny (model P w) A (setAddHashed a (val k tk) (knd.hash k)) Q E s := by
  obtain ⟨o, es, ep, t, T⟩ := R
  have el := ents_elems ok T.ent
  have kk : knd.is k (val k tk) = true := (ok.isv k k tk).mpr rfl
  unfold setAddHashed setAddHashedIn
  refine wpAny_holding (wpAny_bind (wpAny_setState_of T.here T.data T.fits ?_))
  dsimp only
  rw [byScan_of (ok.scan k tk) T.room el, if_pos rfl]
  unfold setAddByScan
  refine wpAny_bind (wpAny_bind (wpAny_rule (wpAny_bind (wpAny_setScan_of kk T.here T.data T.fits el ?_))))
  cases place : es.toList.findIdx? (fun e => knd.is k e.2) with
  | some j =>
    obtain ⟨lt, at_, _⟩ := List.findIdx?_eq_some_iff_getElem.mp place
    have inS : S k = true := (T.mem k).mpr (List.mem_map.mpr ⟨es.toList[j], List.getElem_mem lt, (ents_is ok (T.ent _ (List.getElem_mem lt)) k).mp at_⟩)
    have same : ∀ i, (S i || decide (i = k)) = S i := fun i => by
      by_cases c : i = k
      · rw [c, inS]
        rfl
      · rw [decide_eq_false c, Bool.or_false]
    have fin := hQ s.heap (Heap.SameBut.refl a s.heap) (SetK1.congr ⟨o, es, ep, t, T⟩ same (if_pos inS))
    rw [inS] at fin
    exact wpAny_pure (wpAny_pure fin)
  | none =>
    have notIn : k ∉ keysOf key es := fun z => by
      obtain ⟨e, he, q⟩ := List.mem_map.mp z
      have c := List.findIdx?_eq_none_iff.mp place e he
      rw [(ents_is ok (T.ent e he) k).mpr q] at c
      cases c
    have outS : S k = false := Bool.eq_false_iff.mpr fun z => notIn ((T.mem k).mp z)
    have gone : ∀ (b : Bool) {s1 : Shared} {R' : Unit → Shared → Prop}, R' () s1 → wpAny (model P w) A (match b with | true => rule "set.scan.the-table-gave-way" | false => pure ()) R' E s1 := fun b s1 R' q => by
      cases b
      · exact wpAny_pure q
      · exact wpAny_rule q
    have d1 := layNew_perm t es (knd.hash k) (val k tk)
    have d2 := layNew_fits t es (knd.hash k) (val k tk)
    have d3 := layNew_ris t es (knd.hash k) (val k tk) T.ris
    have d4 := layNew_led t es (knd.hash k) (val k tk)
    dsimp only
    generalize layNew t es (knd.hash k) (val k tk) = made at d1 d2 d3 d4 ⊢
    obtain ⟨es1, t1, old, gave⟩ := made
    dsimp only at d1 d2 d3 d4 ⊢
    rw [Array.toList_push] at d1
    have pe : es1.toList.Perm ((knd.hash k, val k tk) :: es.toList) := d1.trans (List.perm_append_singleton _ _)
    have pk : (keysOf key es1).Perm (k :: keysOf key es) := by
      have q := pe.map fun e : Int × Value => key e.2
      rw [List.map_cons] at q
      rw [show key (knd.hash k, val k tk).2 = k from ok.back k tk] at q
      exact q
    have z1 : es1.size = n + 1 := by
      have q := pe.length_eq
      rw [List.length_cons, Array.length_toList, Array.length_toList, T.num] at q
      exact q
    have e1 : ∀ e ∈ es1.toList, entK knd val e := fun e he => by
      rcases List.mem_cons.mp (pe.mem_iff.mp he) with z | z
      · exact ⟨k, tk, z⟩
      · exact T.ent e z
    have m1 : ∀ i, (S i || decide (i = k)) = true ↔ i ∈ keysOf key es1 := fun i => by
      rw [pk.mem_iff, List.mem_cons, Bool.or_eq_true, decide_eq_true_eq, T.mem i, or_comm]
    have n1 : (keysOf key es1).Nodup := pk.nodup_iff.mpr (List.nodup_cons.mpr ⟨notIn, T.nodup⟩)
    have fin : ∀ h', Heap.SameBut a s.heap h' → SetK1 knd val key h' a (fun j => S j || decide (j = k)) (n + 1) → Q true { s with heap := h' } := fun h' sb r => by
      have q := hQ h' sb
      rw [outS] at q
      exact q r
    have rm : es1.size < scanBound := by rw [z1]; exact few
    have ld : w.params.followText "set-order" = true ∨ t1.led = true := T.led.imp id fun z => d4.trans z
    refine wpAny_bind (gone _ ?_)
    split
    · refine wpAny_bind ?_
      rw [hashByValue_scannable 8 (ok.scan k tk)]
      refine wpAny_pure ?_
      refine putK (knd := knd) (val := val) (key := key) T.here T.exact_ T.data (fun b s1 R' q => ?_) e1 n1 m1 rm ?_ z1 ?_ ?_ fun h' sb r => ?_
      · cases b <;> first | exact wpAny_pure q | exact wpAny_rule q
      · first | exact d2 | (split <;> first | exact d2 | exact SetTable.fits_plain_off d2)
      · first | exact d3 | (split <;> exact d3)
      · first | exact ld | (split <;> exact ld)
      · dsimp only
        exact wpAny_pure (fin h' sb r)
    · refine wpAny_bind (wpAny_pure ?_)
      rw [if_pos rfl]
      refine putK (knd := knd) (val := val) (key := key) T.here T.exact_ T.data (fun b s1 R' q => ?_) e1 n1 m1 rm d2 z1 d3 ld fun h' sb r => ?_
      · cases b <;> first | exact wpAny_pure q | exact wpAny_rule q
      · dsimp only
        exact wpAny_pure (fin h' sb r)
/-! ### all of a walk, one after the other -/
omit ok in
/-- each once, as met first -/
def dd (xs : List κ) : List κ := xs.foldl (fun acc x => if x ∈ acc then acc else acc ++ [x]) []
omit ok in
theorem dd_snoc (xs : List κ) (x : κ) : dd (xs ++ [x]) = if x ∈ dd xs then dd xs else dd xs ++ [x] := by
  unfold dd
  rw [List.foldl_append]
  rfl
omit ok in
theorem dd_mem : ∀ (xs : List κ) (acc : List κ) (x : κ), x ∈ xs.foldl (fun acc x => if x ∈ acc then acc else acc ++ [x]) acc ↔ x ∈ acc ∨ x ∈ xs
  | [], acc, x => by simp
  | y :: ys, acc, x => by
    rw [List.foldl_cons, dd_mem ys, List.mem_cons]
    by_cases c : y ∈ acc
    · rw [if_pos c]
      constructor
      · rintro (h | h)
        · exact Or.inl h
        · exact Or.inr (Or.inr h)
      · rintro (h | rfl | h)
        · exact Or.inl h
        · exact Or.inl c
        · exact Or.inr h
    · rw [if_neg c, List.mem_append, List.mem_singleton, or_assoc]
omit ok in
theorem mem_dd {xs : List κ} {x : κ} : x ∈ dd xs ↔ x ∈ xs := by
  have := dd_mem xs [] x
  simpa [dd] using this
omit ok in
theorem dd_nodup (xs : List κ) : (dd xs).Nodup := by
  have go : ∀ (ys acc : List κ), acc.Nodup → (ys.foldl (fun acc x => if x ∈ acc then acc else acc ++ [x]) acc).Nodup := by
    intro ys
    induction ys with
    | nil => exact fun acc h => h
    | cons y ys ih =>
      intro acc h
      rw [List.foldl_cons]
      by_cases c : y ∈ acc
      · rw [if_pos c]
        exact ih acc h
      · rw [if_neg c]
        refine ih _ (List.nodup_append.mpr ⟨h, List.nodup_cons.mpr ⟨by simp, List.nodup_nil⟩, fun u hu v hv e => ?_⟩)
        rw [List.mem_singleton] at hv
        exact c (by rw [← hv, ← e]; exact hu)
  exact go xs [] List.nodup_nil
omit ok in
theorem dd_le (xs : List κ) : (dd xs).length ≤ xs.length := by
  have go : ∀ (ys acc : List κ), (ys.foldl (fun acc x => if x ∈ acc then acc else acc ++ [x]) acc).length ≤ acc.length + ys.length := by
    intro ys
    induction ys with
    | nil => exact fun acc => Nat.le_refl _
    | cons y ys ih =>
      intro acc
      rw [List.foldl_cons, List.length_cons]
      refine Nat.le_trans (ih _) ?_
      by_cases c : y ∈ acc
      · rw [if_pos c]
        omega
      · rw [if_neg c, List.length_append, List.length_singleton]
        omega
  have := go xs []
  simpa [dd] using this
theorem walkK {A : Around} {R : Result → Shared → Prop} {I D : Addr} {fp wr : List Addr} {G : Array GenState → Array GenState → Prop} {Pv : Nat → Value → Prop} {St : Nat → Shared → Prop} {xs : List κ} (W : WalksS P w A.in1 I fp wr G xs.length Pv St) (nD : D ∉ fp)
    (few : xs.length + 1 < scanBound) (hval : ∀ i v, Pv i v → ∃ k t, xs[i]? = some k ∧ v = val k t) :
    ∀ (m i : Nat) (s : Shared), i + m = xs.length → St i s → SetK1 knd val key s.heap D (fun k => decide (k ∈ xs.take i)) (dd (xs.take i)).length →
      (∀ s', Moved (D :: wr) G s s' → SetK1 knd val key s'.heap D (fun k => decide (k ∈ xs)) (dd xs).length → R (.ok (.ret .none)) s') →
      codeAny (model P w) A (.builtin "set.update.loop" ⟨[.ref D, .ref I], []⟩) R s := by
  have nDw : D ∉ wr := fun z => nD (W.sub _ z)
  have more : ∀ b ∈ wr, b ∈ D :: wr := fun b z => List.mem_cons_of_mem _ z
  intro m
  induction m with
  | zero =>
    intro i s hi st hS hR
    have e : i = xs.length := by omega
    subst e
    rw [List.take_length] at hS
    refine codeAny_builtin PyProof.Rows.F.entry_set_update_loop ?_
    rw [Around.under_plainId PyProof.Rows.F.plain_set_update_loop _]
    show wpAny _ A.in1 (pyNext (.ref I) >>= _) _ _ s
    refine wpAny_bind (W.done s _ _ st fun s1 mv => ?_)
    exact wpAny_pure (hR s1 (mv.mono more) (hS.keep fun o e => mv.heap D o nDw e))
  | succ m ih =>
    intro i s hi st hS hR
    have lt : i < xs.length := by omega
    refine codeAny_builtin PyProof.Rows.F.entry_set_update_loop ?_
    rw [Around.under_plainId PyProof.Rows.F.plain_set_update_loop _]
    show wpAny _ A.in1 (pyNext (.ref I) >>= _) _ _ s
    refine wpAny_bind (W.item i s _ _ lt st fun v s1 hP st1 mv => ?_)
    obtain ⟨k, tk, hk, rfl⟩ := hval i v hP
    have S1 := hS.keep (h' := s1.heap) fun o e => mv.heap D o nDw e
    have tk1 : xs.take (i + 1) = xs.take i ++ [k] := by rw [List.take_add_one, hk]; rfl
    have hl : (dd (xs.take i)).length ≤ i := Nat.le_trans (dd_le _) (by rw [List.length_take]; omega)
    show wpAny _ A.in1 (holding [val k tk] (setAdd D (val k tk)) >>= _) _ _ s1
    refine wpAny_bind (wpAny_holding ?_)
    unfold setAdd
    refine wpAny_holding (wpAny_bind (knd.pyHash (k := k) ((ok.isv k k tk).mpr rfl) ?_))
    refine addK ok (s := { s1 with toks := s1.toks + 1 }) S1 (by omega) fun h' sb S2 => ?_
    have S3 : SetK1 knd val key h' D (fun k => decide (k ∈ xs.take (i + 1))) (dd (xs.take (i + 1))).length := by
      refine S2.congr (fun j => ?_) ?_
      · rw [tk1]
        simp [List.mem_append]
      · rw [tk1, dd_snoc]
        by_cases c : k ∈ xs.take i
        · rw [if_pos (mem_dd.mpr c), if_pos (decide_eq_true c)]
        · rw [if_neg fun z => c (mem_dd.mp z), if_neg (by simpa using c), List.length_append]
          rfl
    refine wpAny_pure ⟨plainId_quiet PyProof.Rows.F.plain_set_update_loop _, ih (i + 1) _ (by omega) (W.frame _ s1 _ _ st1 (Nat.le_succ _) fun b hb o e => ?_) S3 fun s2 mv2 S4 => ?_⟩
    · exact (sb.2 b fun z => nD (z ▸ hb)).trans e
    · refine hR s2 (Moved.trans W.gtrans ((mv.mono more).then_heap (Nat.le_succ _) fun b o hb e => ?_) mv2) S4
      exact (sb.2 b fun z => hb (by rw [z]; exact List.mem_cons_self)).trans e
omit ok in
theorem freshK {h : Heap} : SetK1 knd val key (h.push { cls := .type "set", dict := none, data := .set #[] 0 (.fresh 0 0 (!w.params.followText "set-order")) }) h.objs.size (fun _ => false) 0 := by
  refine ⟨_, #[], 0, _, { here := Heap.get?_push_size _ rfl, exact_ := ⟨rfl, rfl, rfl⟩, data := rfl, ent := fun e he => by simp at he, nodup := List.nodup_nil, mem := fun k => ⟨fun z => Bool.noConfusion z, fun z => by simp at z⟩, room := by decide, fits := by rfl, num := rfl, ris := List.Pairwise.nil, led := ?_ }⟩
  cases w.params.followText "set-order"
  · exact Or.inr rfl
  · exact Or.inl rfl
end
section
variable {P : Program} {w : World} {A : Around} {E : Value → Shared → Prop} {s : Shared}
/-- set.__new__ of one argument: which set it is, to the letter -/
theorem new_led1 (v : Value) {Q1 : Value → Shared → Prop}
    (h : Q1 (.ref s.heap.objs.size) { s with heap := s.heap.push { cls := .type "set", dict := none, data := .set #[] 0 (.fresh 0 0 (!w.params.followText "set-order")) } }) :
    codeAny (model P w) A (.call (.builtin "set.__new__") ⟨[.type "set", v], []⟩) (wants Q1 E) s := by
  refine codeAny_of_tree (show wpAny _ A.in1 (do checkBuiltinCall "set.__new__" ⟨[.type "set", v], []⟩; again (.builtin "set.__new__" ⟨[.type "set", v], []⟩)) _ _ s from ?_)
  refine wpAny_bind (wpAny_of_eq (PySem.F.newCall_set_1 v) (wpAny_pure ⟨plainId_quiet PySem.F.plain_set_new _, codeAny_builtin PySem.F.entry_set_new ?_⟩))
  rw [Around.under_plainId PySem.F.plain_set_new _]
  have isSet := PySem.sub_set_self
  obtain ⟨hp, gs, dr, tk, os⟩ := s
  unfold Builtin.«set.__new__» Builtin.Frozenset.newClass
  dsimp only
  wp_walk
  refine wpAny_askSetting (wpAny_pure ?_)
  dsimp only [newObj]
  exact wpAny_bind (wpAny_alloc (wpAny_pure (wpAny_pure h)))
/-- what an iteration of v gives -/
def Iters (P : Program) (w : World) (s : Shared) (v : Value) (Pv : Nat → Value → Prop) (n : Nat) : Prop := ∀ (s1 : Shared) (A1 : Around) (E1 : Value → Shared → Prop) (Q1 : Value → Shared → Prop), (∀ b o, s.heap.get? b = some o → s1.heap.get? b = some o) → A1.handled = none →
  (∀ (h2 : Heap) (tk : Nat) (I : Addr) (fp : List Addr) (St : Nat → Heap → Prop), (∀ b o, s1.heap.get? b = some o → h2.get? b = some o) → s1.heap.objs.size ≤ I → (∀ b ∈ fp, b < s.heap.objs.size ∨ s1.heap.objs.size ≤ b) →
    (∀ A' : Around, A'.handled = none → Walks P w A' I fp [I] n Pv St) → St 0 h2 → Q1 (.ref I) { s1 with heap := h2, toks := tk }) → wpAny (model P w) A1 (pyIter v) Q1 E1 s1
variable {κ : Type} [DecidableEq κ] {knd : PySem.KeyKind P w κ} {val : κ → Tok → Value} {key : Value → κ}
theorem setOfK (ok : KyOk knd val key) {v : Value} {T : String} {xs : List κ} {Pv : Nat → Value → Prop} {Q : Value → Shared → Prop} (hh : A.handled = none) (hT : ∀ s1 : Shared, (∀ b o, s.heap.get? b = some o → s1.heap.get? b = some o) → s1.TypeIs v T)
    (t1 : isSubtype (.type T) (.type "set") = pure false) (t2 : isSubtype (.type T) (.type "frozenset") = pure false) (t3 : (Value.type T == Value.type "dict") = false) (few : xs.length + 1 < scanBound)
    (it : Iters P w s v Pv xs.length) (hval : ∀ i u, Pv i u → ∃ k t, xs[i]? = some k ∧ u = val k t)
    (hQ : ∀ (h' : Heap) (tk : Nat), SetK1 knd val key h' s.heap.objs.size (fun k => decide (k ∈ xs)) (dd xs).length → (∀ b o, s.heap.get? b = some o → h'.get? b = some o) → Q (.ref s.heap.objs.size) { s with heap := h', toks := tk }) :
    wpAny (model P w) A (call (.type "set") [v]) Q E s := by
  obtain ⟨c, tl, hmro⟩ := PySem.F.called_set.mro
  have hmade := PySem.F.called_set.made
  have hsub := PySem.F.called_set.sub
  have h1 := PySem.F.called_set.notType
  have h2 := PySem.F.called_set.canCreate
  have hct := PySem.F.typeCall_set_1 v
  refine wpAny_call (codeAny_of_tree (show wpAny _ _ (callAny (.type "set") _) _ _ _ from ?_))
  refine wpAny_pure ⟨Code.quiet_builtin _ (by decide +kernel), codeAny_builtin PySem.F.entry_type_call ?_⟩
  rw [Around.under_plain (weight_type_call_type "set" [v] []) rfl]
  repeat (any_goals (first | assumption | wp_step))
  generalize hB : ({ cls := .type "set", dict := none, data := .set #[] 0 (.fresh 0 0 (!w.params.followText "set-order")) } : Obj) = B
  refine codeAny_mono (new_led1 v (E := E) (Q1 := fun obj s1 => obj = .ref s.heap.objs.size ∧ s1 = { s with heap := s.heap.push B }) (by rw [← hB]; exact ⟨rfl, rfl⟩)) fun r s1 hr => ?_
  match r, hr with
  | .error e, hr => exact hr
  | .ok .next, hr => exact hr.elim
  | .ok .brk, hr => exact hr.elim
  | .ok .cont, hr => exact hr.elim
  | .ok (.ret obj), hr =>
    obtain ⟨rfl, rfl⟩ := hr
    have live : B.isFreed = false := by rw [← hB]; rfl
    have at0 : (s.heap.push B).get? s.heap.objs.size = some B := Heap.get?_push_size _ live
    have old : ∀ b o, s.heap.get? b = some o → (s.heap.push B).get? b = some o := fun b o e => Heap.get?_push_of_some _ e
    have ty : Shared.TypeIs { s with heap := s.heap.push B } (.ref s.heap.objs.size) "set" := ⟨_, at0, by rw [← hB]⟩
    have tv := hT { s with heap := s.heap.push B } old
    have hli := PySem.F.called_set.init.lookup
    have hbi := PySem.F.called_set.init.bind (.ref s.heap.objs.size)
    repeat (any_goals (first | assumption | wp_step))
    refine codeAny_mono (codeAny_call_builtin (R := wants (fun r s2 => r = .none ∧ ∃ h' tk, s2 = { s with heap := h', toks := tk } ∧ SetK1 knd val key h' s.heap.objs.size (fun k => decide (k ∈ xs)) (dd xs).length ∧ ∀ b o, s.heap.get? b = some o → h'.get? b = some o) E)
      PySem.F.called_set.init.plain PySem.F.entry_set_init (PySem.check_set_init_1 ty ?_)) fun r2 s2 hr2 => ?_
    · have at0' : (s.heap.push { cls := .type "set", dict := none, data := .set #[] 0 (.fresh 0 0 (!w.params.followText "set-order")) }).get? s.heap.objs.size = some { cls := .type "set", dict := none, data := .set #[] 0 (.fresh 0 0 (!w.params.followText "set-order")) } := by
        rw [hB]
        exact at0
      unfold Builtin.«set.__init__» noKeywords Builtin.Frozenset.updateFrom
      generalize hPI : pyIter = PI
      subst hB
      wp_walk
      subst hPI
      refine it _ _ _ _ old (by simp [hh]) fun h2 tk I fp St k2 hI hfp W st => ?_
      rw [Heap.size_push] at hI hfp
      refine wpAny_bind (wpAny_runValue ?_)
      have off : s.heap.objs.size ∉ fp := fun z => by
        rcases hfp _ z with q | q
        · exact Nat.lt_irrefl _ q
        · exact Nat.not_succ_le_self _ q
      have none_ : A.in1.in1.in1.handled = none := by simp [hh]
      refine walkK ok (Walks.toS (W _ none_)) off few hval xs.length 0 _ (Nat.zero_add _) st ?_ fun s3 mv S3 => ?_
      · refine (freshK.keep (h' := h2) fun o e => k2 _ o e).congr (fun k => ?_) rfl
        simp
      · have e3 := mv.eq_with
        refine wpAny_pure (wpAny_pure ⟨rfl, s3.heap, s3.toks, by rw [e3], S3, fun b o e => mv.heap b o (fun z => ?_) (k2 _ _ (old b o e))⟩)
        have lt := Heap.lt_size e
        rcases List.mem_cons.mp z with z | z
        · exact Nat.lt_irrefl _ (z ▸ lt)
        · rw [List.mem_singleton.mp z] at lt
          exact Nat.lt_irrefl _ (Nat.lt_trans lt hI)
    · match r2, hr2 with
      | .error e, hr2 => exact hr2
      | .ok .next, hr2 => exact hr2.elim
      | .ok .brk, hr2 => exact hr2.elim
      | .ok .cont, hr2 => exact hr2.elim
      | .ok (.ret u), hr2 =>
        obtain ⟨rfl, h', tk, rfl, S', keep⟩ := hr2
        repeat (any_goals (first | assumption | wp_step))
        exact hQ h' tk S' keep
end
end LX
/-! ### sets of texts and of ints, as tracked objects -/
namespace LX
open PySem PySem.Spec PyProof.Rows L2
theorem okS (P : Program) (w : World) : KyOk (PySem.strKind P w) (fun k t => Value.str k t) strOf where
  back := fun _ _ => rfl
  isv := fun k k' t => by
    show Value.isStrOf k (.str k' t) = true ↔ k' = k
    exact beq_iff_eq
  scan := fun _ _ => rfl
theorem okI (P : Program) (w : World) : KyOk (intKind P w) (fun k t => Value.int k t) Builtin.Re.reRawOf where
  back := fun _ _ => rfl
  isv := fun k k' t => by
    show (k' == k) = true ↔ k' = k
    exact beq_iff_eq
  scan := fun _ _ => rfl
def TxtSet (P : Program) (w : World) (a : Addr) (S : Str → Bool) (n : Nat) : HO := .ext fun h => SetK1 (PySem.strKind P w) (fun k t => Value.str k t) strOf h a S n
def IntSet (P : Program) (w : World) (a : Addr) (S : Int → Bool) (n : Nat) : HO := .ext fun h => SetK1 (intKind P w) (fun k t => Value.int k t) Builtin.Re.reRawOf h a S n
theorem SetK1.lives {P : Program} {w : World} {κ : Type} [DecidableEq κ] {knd : PySem.KeyKind P w κ} {val : κ → Tok → Value} {key : Value → κ} {h : Heap} {a : Addr} {S : κ → Bool} {n : Nat} (R : SetK1 knd val key h a S n) : ∃ o, h.get? a = some o :=
  let ⟨o, _, _, _, T⟩ := R
  ⟨o, T.here⟩
theorem txtNew {P : Program} {w : World} {H : Hp} {h : Heap} {a : Addr} {S : Str → Bool} {n : Nat} (R : SetK1 (PySem.strKind P w) (fun k t => Value.str k t) strOf h a S n) : ObjOk P w H h a (TxtSet P w a S n) :=
  ⟨R, R.lives, fun h1 h2 p k => p.keep k⟩
theorem intNew {P : Program} {w : World} {H : Hp} {h : Heap} {a : Addr} {S : Int → Bool} {n : Nat} (R : SetK1 (intKind P w) (fun k t => Value.int k t) Builtin.Re.reRawOf h a S n) : ObjOk P w H h a (IntSet P w a S n) :=
  ⟨R, R.lives, fun h1 h2 p k => p.keep k⟩
section
variable {P : Program} {w : World} {s : Shared}
theorem itersList {l : Addr} {items : Array Value} (hl : s.heap.IsList l items) : Iters P w s (.ref l) (fun i v => items[i]? = some v) items.size := by
  intro s1 A1 E1 Q1 old hA k
  obtain ⟨o, ho, hc, n, hd⟩ := hl
  have hl1 : s1.heap.IsList l items := ⟨o, old _ _ ho, hc, n, hd⟩
  have lt : l < s.heap.objs.size := Heap.lt_size ho
  have lt1 : l < s1.heap.objs.size := Heap.lt_size (old _ _ ho)
  refine wpAny_pyIter_list hl1 ?_
  exact k _ s1.toks s1.heap.objs.size [s1.heap.objs.size, l] _ (fun b o e => Heap.get?_push_of_some _ e) (Nat.le_refl _) (fun b hb => by
      rcases List.mem_cons.mp hb with z | z
      · exact Or.inr (Nat.le_of_eq z.symm)
      · exact Or.inl (by rw [List.mem_singleton.mp z]; exact lt))
    (fun A' hA' => Walks.list hA' s1.heap.objs.size l (Nat.ne_of_lt lt1) items) ⟨⟨_, Heap.get?_push_size _ rfl, rfl, rfl⟩, hl1.push _⟩
theorem itersStr {z : Str} {t : Tok} : Iters P w s (.str z t) (SignAt z) z.cps.size := by
  intro s1 A1 E1 Q1 old hA k
  refine wpAny_pyIter_str fun o St W st => ?_
  exact k _ s1.toks s1.heap.objs.size [s1.heap.objs.size] St (fun b o e => Heap.get?_push_of_some _ e) (Nat.le_refl _) (fun b hb => Or.inr (Nat.le_of_eq (List.mem_singleton.mp hb).symm)) W st
end
abbrev one1 (c : Nat) : Str := ⟨#[c]⟩
def signs (z : Str) : List Str := z.cps.toList.map one1
theorem valsI_at : ∀ {ns : List Int} {us : List Value}, Vals (ns.map V.int) us → ∀ (i : Nat) (u : Value), us[i]? = some u → ∃ k t, ns[i]? = some k ∧ u = Value.int k t
  | [], _, .nil, i, u, h => by simp at h
  | n :: ns, _, .cons r rs, 0, u, h => by
    obtain ⟨t, rfl⟩ := r
    simp at h
    exact ⟨n, t, rfl, h.symm⟩
  | n :: ns, _, .cons r rs, i + 1, u, h => by
    obtain ⟨k, t, h1, h2⟩ := valsI_at rs i u (by simpa using h)
    exact ⟨k, t, by simpa using h1, h2⟩
theorem valsS_at : ∀ {ns : List Str} {us : List Value}, Vals (ns.map V.str) us → ∀ (i : Nat) (u : Value), us[i]? = some u → ∃ k t, ns[i]? = some k ∧ u = Value.str k t
  | [], _, .nil, i, u, h => by simp at h
  | n :: ns, _, .cons r rs, 0, u, h => by
    obtain ⟨t, rfl⟩ := r
    simp at h
    exact ⟨n, t, rfl, h.symm⟩
  | n :: ns, _, .cons r rs, i + 1, u, h => by
    obtain ⟨k, t, h1, h2⟩ := valsS_at rs i u (by simpa using h)
    exact ⟨k, t, by simpa using h1, h2⟩
section
variable {X : Cx}
/-- set(xs): a list of texts, or the signs of a text -/
def rSetS (K : PySem.W.Frag) (P : Program) (w : World) : List V → Hp → VK → Prop := fun xs H Q => ∃ ks : List Str, ((∃ l, xs = [.ref l] ∧ SqL K H l (ks.map V.str)) ∨ ∃ z, xs = [.str z] ∧ ks = signs z) ∧ ks.length + 1 < 4096 ∧
  ∀ p, H p = none → Q (.ref p) (upd H p (TxtSet P w p (fun k => decide (k ∈ ks)) (dd ks).length))
theorem cr_setS (hc : X.calm = true) : CallR X (.type "set") (rSetS X.K X.prog X.w) := by
  intro pins s σ H xs us Q I r h
  obtain ⟨ks, how, few, q⟩ := h
  have done_ : ∀ (h' : Heap) (tk : Nat), SetK1 (PySem.strKind X.prog X.w) (fun k t => Value.str k t) strOf h' s.heap.objs.size (fun k => decide (k ∈ ks)) (dd ks).length → (∀ b o, s.heap.get? b = some o → h'.get? b = some o) →
      EP X pins σ Q (.ref s.heap.objs.size) { s with heap := h', toks := tk } := fun h' tk S' keep =>
    ⟨.ref s.heap.objs.size, _, I.laid keep (Nat.le_refl _) (txtNew S'), rfl, q _ (I.hok.fresh (Nat.le_refl _))⟩
  rcases how with ⟨l, rfl, hs⟩ | ⟨z, rfl, rfl⟩
  · obtain ⟨its, rv, pl, _⟩ := I.list hs
    rw [Vals.ref1 r]
    have len : its.toArray.size = ks.length := by
      rw [List.size_toArray, ← rv.length, List.length_map]
    have il := pl.isList
    obtain ⟨o, ho, hcl, n, hd⟩ := id il
    refine setOfK (okS X.prog X.w) (T := "list") (Pv := fun i u => its.toArray[i]? = some u) (xs := ks) (I.ok.hd hc) (fun s1 old => ⟨o, old _ _ ho, hcl⟩) PySem.F.sub_list_set PySem.F.sub_list_frozenset (by decide) few ?_ (fun i u hu => valsS_at rv i u (by simpa using hu)) done_
    rw [← len]
    exact itersList il
  · obtain ⟨u, rfl, t, rfl⟩ := vals1 r
    have len : z.cps.size = (signs z).length := by unfold signs; rw [List.length_map, Array.length_toList]
    refine setOfK (okS X.prog X.w) (T := "str") (Pv := SignAt z) (xs := signs z) (I.ok.hd hc) (fun s1 old => rfl) PySem.F.sub_str_set PySem.F.sub_str_frozenset (by decide) few ?_ (fun i u hu => ?_) done_
    · rw [← len]
      exact itersStr
    · obtain ⟨c, t', hc', rfl⟩ := hu
      refine ⟨⟨#[c]⟩, t', ?_, rfl⟩
      unfold signs
      rw [List.getElem?_map, Array.getElem?_toList, hc']
      rfl
/-- set(xs), a list of ints -/
def rSetI (K : PySem.W.Frag) (P : Program) (w : World) : List V → Hp → VK → Prop := fun xs H Q => ∃ (ks : List Int) (l : Addr), xs = [.ref l] ∧ SqL K H l (ks.map V.int) ∧ ks.length + 1 < 4096 ∧
  ∀ p, H p = none → Q (.ref p) (upd H p (IntSet P w p (fun k => decide (k ∈ ks)) (dd ks).length))
theorem cr_setI (hc : X.calm = true) : CallR X (.type "set") (rSetI X.K X.prog X.w) := by
  intro pins s σ H xs us Q I r h
  obtain ⟨ks, l, rfl, hs, few, q⟩ := h
  obtain ⟨its, rv, pl, _⟩ := I.list hs
  rw [Vals.ref1 r]
  have len : its.toArray.size = ks.length := by
    rw [List.size_toArray, ← rv.length, List.length_map]
  have il := pl.isList
  obtain ⟨o, ho, hcl, n, hd⟩ := id il
  refine setOfK (okI X.prog X.w) (T := "list") (Pv := fun i u => its.toArray[i]? = some u) (xs := ks) (I.ok.hd hc) (fun s1 old => ⟨o, old _ _ ho, hcl⟩) PySem.F.sub_list_set PySem.F.sub_list_frozenset (by decide) few ?_ (fun i u hu => valsI_at rv i u (by simpa using hu)) fun h' tk S' keep => ?_
  · rw [← len]
    exact itersList il
  · exact ⟨.ref s.heap.objs.size, _, I.laid keep (Nat.le_refl _) (intNew S'), rfl, q _ (I.hok.fresh (Nat.le_refl _))⟩
/-- len of such a set -/
def rLenSet (P : Program) (w : World) : List V → Hp → VK → Prop := fun xs H Q => ∃ (a : Addr) (n : Nat), xs = [.ref a] ∧ ((∃ S, H a = some (TxtSet P w a S n)) ∨ ∃ S, H a = some (IntSet P w a S n)) ∧ Q (.int n) H
theorem cr_lenSet : CallR X (.builtin "len") (rLenSet X.prog X.w) := by
  intro pins s σ H xs us Q I r h
  obtain ⟨a, n, rfl, how, q⟩ := h
  rw [Vals.ref1 r]
  have fin : ∀ {κ : Type} [DecidableEq κ] {knd : PySem.KeyKind X.prog X.w κ} {val : κ → Tok → Value} {key : Value → κ} {S : κ → Bool}, SetK1 knd val key s.heap a S n → wpAny (model X.prog X.w) X.A (call (.builtin "len") [.ref a]) (EP X pins σ Q) X.xe s := by
    intro κ _ knd val key S R
    obtain ⟨o, es, ep, t, T⟩ := R
    have room := T.room
    have e := T.num
    unfold scanBound at room
    exact call_len_set T.here T.exact_ T.data T.fits (by omega) ⟨.int n, H, I.tok _, ⟨_, by rw [e]⟩, q⟩
  rcases how with ⟨S, hS⟩ | ⟨S, hS⟩
  · exact fin (I.hok a _ hS).1
  · exact fin (I.hok a _ hS).1
end
/-! ### sorted -/
theorem strs_are : ∀ (l : List Value), (∀ v ∈ l, ∃ k t, v = Value.str k t) → StrsAre l (l.map strOf)
  | [], _ => .nil
  | v :: l, h => by
    obtain ⟨k, t, rfl⟩ := h v List.mem_cons_self
    exact .cons k t (strs_are l fun u hu => h u (List.mem_cons_of_mem _ hu))
section
variable {P : Program} {w : World} {A : Around} {E : Value → Shared → Prop} {s : Shared}
theorem sortTxt {a : Addr} {S : Str → Bool} {n : Nat} {Q : Value → Shared → Prop} (R : SetK1 (PySem.strKind P w) (fun k t => Value.str k t) strOf s.heap a S n) (hh : A.handled = none)
    (hQ : ∀ (s2 : Shared) (p : Addr) (out : Array Value) (c : Nat) (ys : List Str), (∀ b o, s.heap.get? b = some o → s2.heap.get? b = some o) → s2.gens = s.gens → s2.os = s.os → s.heap.objs.size ≤ p → s2.heap.get? p = some (seqObj "list" out c) → StrsAre out.toList ys →
      sortedS ys = true → ys.Nodup → (∀ k, k ∈ ys ↔ S k = true) → ys.length = n → Q (.ref p) s2) :
    wpAny (model P w) A (call (.builtin "sorted") [.ref a]) Q E s := by
  obtain ⟨o, es, ep, t, T⟩ := R
  have small := T.room
  unfold scanBound at small
  refine Calls.call_function_entry kind_sorted plain_sorted entry_sorted (args_sorted1 _) ?_
  unfold Builtin.«sorted»
  refine wpAny_bind (m := checkCount "sorted" 1 1 _) (wpAny_pure (wpAny_bind (collect_set (A := A.in1) hh ⟨o, T.here, T.exact_.1, T.data⟩ T.fits T.room T.ris T.led fun s1 vs k1 z1 g1 o1 pm => ?_)))
  have len : vs.length = n := by rw [pm.length_eq, List.length_map, Array.length_toList, T.num]
  have few : vs.length ≤ sizeLine := by
    rw [len, sizeLine_eq]
    have := T.num
    omega
  have txt : StrsAre vs (vs.map strOf) := strs_are vs fun v hv => by
    obtain ⟨e, he, q⟩ := List.mem_map.mp (pm.mem_iff.mp hv)
    obtain ⟨k, tk, rfl⟩ := T.ent e he
    exact ⟨k, tk, q.symm⟩
  have pk : (vs.map strOf).Perm (keysOf strOf es) := by
    have q := pm.map strOf
    rw [List.map_map] at q
    exact q
  have at0 : (s1.heap.push (seqObj "list" vs.toArray 0)).get? s1.heap.objs.size = some (seqObj "list" vs.toArray 0) := Heap.get?_push_size _ rfl
  refine wpAny_bind (wpAny_newList (wpAny_bind (wpAny_holding (wpAny_call_entry slot_list_sort ⟨_, at0, rfl⟩ entry_list_sort
    (list_sort_treeKAny PyProof.Rows.strKind_oneLt at0 txt.keysOf (fun v1 v2 rest e => keyKind_strs (by rw [← e]; exact txt)) few fun st p1 p2 => ⟨_, rfl, ?_⟩) (args_list_sort _)))) few)
  obtain ⟨ys, y1, y2, y3⟩ := sorted_out_str txt p1 p2
  obtain ⟨c, hc⟩ := sortedHeap_at (vs := vs) (out := (arrOf st).map (·.2)) at0
  have py : ys.Perm (keysOf strOf es) := y2.trans pk
  refine wpAny_pure ⟨_, rfl, hQ _ s1.heap.objs.size _ c ys (fun b u e => ?_) g1 o1 z1 hc y1 y3 (py.nodup_iff.mpr T.nodup) (fun k => by rw [py.mem_iff, ← T.mem k]) (by rw [y2.length_eq, List.length_map, len])⟩
  have q := k1 b u e
  have lt := Heap.lt_size q
  exact (sortedHeap_old (Nat.ne_of_lt lt) (by rw [size_push']; exact Nat.lt_succ_of_lt lt)).trans (Heap.get?_push_of_some _ q)
end
section
variable {X : Cx}
def rSortTxt (P : Program) (w : World) : List V → Hp → VK → Prop := fun xs H Q => ∃ (a : Addr) (S : Str → Bool) (n : Nat), xs = [.ref a] ∧ H a = some (TxtSet P w a S n) ∧
  ∀ p ys, H p = none → sortedS ys = true → ys.Nodup → (∀ k, k ∈ ys ↔ S k = true) → ys.length = n → Q (.ref p) (upd H p (.lst (ys.map V.str)))
theorem cr_sortTxt (hc : X.calm = true) : CallR X (.builtin "sorted") (rSortTxt X.prog X.w) := by
  intro pins s σ H xs us Q I r h
  obtain ⟨a, S, n, rfl, hS, q⟩ := h
  rw [Vals.ref1 r]
  have R : SetK1 (PySem.strKind X.prog X.w) (fun k t => Value.str k t) strOf s.heap a S n := (I.hok a _ hS).1
  have room : n < 4096 := by
    obtain ⟨o, es, ep, t, T⟩ := R
    have := T.room
    rw [T.num] at this
    exact this
  refine sortTxt R (I.ok.hd hc) fun s2 p out c ys k2 g2 o2 hp at2 y1 y3 nd mem len => ?_
  have sz : (ys.map V.str).length ≤ sizeLine := by
    rw [List.length_map, len, sizeLine_eq]
    omega
  exact ⟨.ref p, _, I.call' (ch := []) o2 (Un.laid k2 hp (I.hok.fresh hp)) (I.hok.laid (o := .lst (ys.map V.str)) k2 hp ⟨sz, out.toList, c, vals_of_strs y1, at2⟩) (by rw [g2]; exact I.bare) (fun _ z => nomatch z), rfl, q p ys (I.hok.fresh hp) y3 nd mem len⟩
end
section
variable {P : Program} {w : World} {A : Around} {E : Value → Shared → Prop} {s : Shared}
theorem sortInt {a : Addr} {S : Int → Bool} {n : Nat} {Q : Value → Shared → Prop} (R : SetK1 (intKind P w) (fun k t => Value.int k t) Builtin.Re.reRawOf s.heap a S n) (hh : A.handled = none)
    (hQ : ∀ (s2 : Shared) (p : Addr) (out : Array Value) (c : Nat) (ys : List Int), (∀ b o, s.heap.get? b = some o → s2.heap.get? b = some o) → s2.gens = s.gens → s2.os = s.os → s.heap.objs.size ≤ p → s2.heap.get? p = some (seqObj "list" out c) → IntsAre out.toList ys →
      ys.Pairwise (· < ·) → (∀ k, k ∈ ys ↔ S k = true) → ys.length = n → Q (.ref p) s2) :
    wpAny (model P w) A (call (.builtin "sorted") [.ref a]) Q E s := by
  obtain ⟨o, es, ep, t, T⟩ := R
  have small := T.room
  unfold scanBound at small
  refine Calls.call_function_entry kind_sorted plain_sorted entry_sorted (args_sorted1 _) ?_
  unfold Builtin.«sorted»
  refine wpAny_bind (m := checkCount "sorted" 1 1 _) (wpAny_pure (wpAny_bind (collect_set (A := A.in1) hh ⟨o, T.here, T.exact_.1, T.data⟩ T.fits T.room T.ris T.led fun s1 vs k1 z1 g1 o1 pm => ?_)))
  have len : vs.length = n := by rw [pm.length_eq, List.length_map, Array.length_toList, T.num]
  have few : vs.length ≤ sizeLine := by
    rw [len, sizeLine_eq]
    have := T.num
    omega
  have num : IntsAre vs (vs.map Builtin.Re.reRawOf) := ints_of vs fun v hv => by
    obtain ⟨e, he, q⟩ := List.mem_map.mp (pm.mem_iff.mp hv)
    obtain ⟨k, tk, rfl⟩ := T.ent e he
    exact ⟨k, tk, q.symm⟩
  have pk : (vs.map Builtin.Re.reRawOf).Perm (keysOf Builtin.Re.reRawOf es) := by
    have q := pm.map Builtin.Re.reRawOf
    rw [List.map_map] at q
    exact q
  have at0 : (s1.heap.push (seqObj "list" vs.toArray 0)).get? s1.heap.objs.size = some (seqObj "list" vs.toArray 0) := Heap.get?_push_size _ rfl
  refine wpAny_bind (wpAny_newList (wpAny_bind (wpAny_holding (wpAny_call_entry slot_list_sort ⟨_, at0, rfl⟩ entry_list_sort (list_sort_treeAny at0 num few fun out ys y1 y2 y3 => ⟨_, rfl, ?_⟩) (args_list_sort _)))) few)
  obtain ⟨c, hc⟩ := sortedHeap_at (vs := vs) (out := out) at0
  have py : ys.Perm (keysOf Builtin.Re.reRawOf es) := y2.trans pk
  refine wpAny_pure ⟨_, rfl, hQ _ s1.heap.objs.size _ c ys (fun b u e => ?_) g1 o1 z1 hc y1 (lt_of_le_nodup ys y3 (py.nodup_iff.mpr T.nodup)) (fun k => by rw [py.mem_iff, ← T.mem k]) (by rw [y2.length_eq, List.length_map, len])⟩
  have q := k1 b u e
  have lt := Heap.lt_size q
  exact (sortedHeap_old (Nat.ne_of_lt lt) (by rw [size_push']; exact Nat.lt_succ_of_lt lt)).trans (Heap.get?_push_of_some _ q)
end
section
variable {X : Cx}
def rSortInt (P : Program) (w : World) : List V → Hp → VK → Prop := fun xs H Q => ∃ (a : Addr) (S : Int → Bool) (n : Nat), xs = [.ref a] ∧ H a = some (IntSet P w a S n) ∧
  ∀ (p : Addr) (ys : List Int), H p = none → ys.Pairwise (· < ·) → (∀ k, k ∈ ys ↔ S k = true) → ys.length = n → Q (.ref p) (upd H p (.lst (ys.map V.int)))
theorem cr_sortInt (hc : X.calm = true) : CallR X (.builtin "sorted") (rSortInt X.prog X.w) := by
  intro pins s σ H xs us Q I r h
  obtain ⟨a, S, n, rfl, hS, q⟩ := h
  rw [Vals.ref1 r]
  have R : SetK1 (intKind X.prog X.w) (fun k t => Value.int k t) Builtin.Re.reRawOf s.heap a S n := (I.hok a _ hS).1
  have room : n < 4096 := by
    obtain ⟨o, es, ep, t, T⟩ := R
    have := T.room
    rw [T.num] at this
    exact this
  refine sortInt R (I.ok.hd hc) fun s2 p out c ys k2 g2 o2 hp at2 y1 asc mem len => ?_
  have sz : (ys.map V.int).length ≤ sizeLine := by
    rw [List.length_map, len, sizeLine_eq]
    omega
  exact ⟨.ref p, _, I.call' (ch := []) o2 (Un.laid k2 hp (I.hok.fresh hp)) (I.hok.laid (o := .lst (ys.map V.int)) k2 hp ⟨sz, out.toList, c, vals_of_ints y1, at2⟩) (by rw [g2]; exact I.bare) (fun _ z => nomatch z), rfl, q p ys (I.hok.fresh hp) asc mem len⟩
end
/-! ### numbers below a bound, each once, ascending -/
def asc (m : Nat) (cs : List Nat) : List Nat := (List.range m).filter fun c => decide (c ∈ cs)
theorem asc_up (m : Nat) (cs : List Nat) : (asc m cs).Pairwise (· < ·) := List.Pairwise.filter _ List.pairwise_lt_range
theorem mem_asc {m : Nat} {cs : List Nat} (h : ∀ c ∈ cs, c < m) {c : Nat} : c ∈ asc m cs ↔ c ∈ cs := by
  unfold asc
  rw [List.mem_filter, List.mem_range, decide_eq_true_eq]
  exact ⟨fun z => z.2, fun z => ⟨h c z, z⟩⟩
theorem up_same : ∀ {xs ys : List Nat}, xs.Pairwise (· < ·) → ys.Pairwise (· < ·) → (∀ c, c ∈ xs ↔ c ∈ ys) → xs = ys
  | [], [], _, _, _ => rfl
  | [], y :: ys, _, _, h => absurd ((h y).mpr List.mem_cons_self) (by simp)
  | x :: xs, [], _, _, h => absurd ((h x).mp List.mem_cons_self) (by simp)
  | x :: xs, y :: ys, hx, hy, h => by
    obtain ⟨x1, x2⟩ := List.pairwise_cons.mp hx
    obtain ⟨y1, y2⟩ := List.pairwise_cons.mp hy
    have e : x = y := by
      rcases List.mem_cons.mp ((h x).mp List.mem_cons_self) with a | a
      · exact a
      · rcases List.mem_cons.mp ((h y).mpr List.mem_cons_self) with b | b
        · exact b.symm
        · have := y1 x a
          have := x1 y b
          omega
    subst e
    congr 1
    refine up_same x2 y2 fun c => ?_
    constructor
    · intro z
      rcases List.mem_cons.mp ((h c).mp (List.mem_cons_of_mem _ z)) with q | q
      · have := x1 c z
        omega
      · exact q
    · intro z
      rcases List.mem_cons.mp ((h c).mpr (List.mem_cons_of_mem _ z)) with q | q
      · have := y1 c z
        omega
      · exact q
theorem asc_is {m : Nat} {cs xs : List Nat} (hx : xs.Pairwise (· < ·)) (hc : ∀ c ∈ cs, c < m) (h : ∀ c, c ∈ xs ↔ c ∈ cs) : xs = asc m cs := up_same hx (asc_up m cs) fun c => by rw [h, mem_asc hc]
theorem one1_inj {c d : Nat} (h : one1 c = one1 d) : c = d := by
  injection h with h
  injection h with h
  injection h with h
theorem one1_ge {p d : Nat} (h : ltCps (one1 d).cps.toList (one1 p).cps.toList = false) : p ≤ d := by
  rw [ltCps_eq] at h
  have nl : ¬ ([d] : List Nat) < [p] := by simpa using h
  have : ¬ d < p := fun z => nl (List.cons_lt_cons_iff.mpr (Or.inl z))
  omega
theorem rise1 : ∀ {ds : List Nat} {p : Nat}, risingS (one1 p) (ds.map one1) = true → True ∧ (p :: ds).Pairwise (· ≤ ·)
  | [], p, _ => ⟨trivial, List.pairwise_singleton _ _⟩
  | d :: ds, p, h => by
    have h2 : (!ltCps (one1 d).cps.toList (one1 p).cps.toList && risingS (one1 d) (ds.map one1)) = true := h
    rw [Bool.and_eq_true, Bool.not_eq_true'] at h2
    have g := one1_ge h2.1
    obtain ⟨_, ih⟩ := rise1 h2.2
    refine ⟨trivial, List.pairwise_cons.mpr ⟨fun e he => ?_, ih⟩⟩
    rcases List.mem_cons.mp he with z | z
    · rw [z]
      exact g
    · exact Nat.le_trans g ((List.pairwise_cons.mp ih).1 e z)
/-- texts of one sign, sorted: their codes ascend -/
theorem codes_up {ds : List Nat} (h : sortedS (ds.map one1) = true) (nd : (ds.map one1).Nodup) : ds.Pairwise (· < ·) := by
  have le : ds.Pairwise (· ≤ ·) := by
    cases ds with
    | nil => exact List.Pairwise.nil
    | cons d ds => exact (rise1 h).2
  have ne : ds.Pairwise (· ≠ ·) := List.Pairwise.of_map one1 (fun a b hne e => hne (congrArg one1 e)) nd
  exact (le.and ne).imp fun ⟨a, b⟩ => Nat.lt_of_le_of_ne a b
theorem txt_asc {m : Nat} {cs : List Nat} (hc : ∀ c ∈ cs, c < m) {ys : List Str} (h1 : sortedS ys = true) (h2 : ys.Nodup) (h3 : ∀ k, k ∈ ys ↔ k ∈ cs.map one1) : ys = (asc m cs).map one1 := by
  have all1 : ∀ k ∈ ys, ∃ c, k = one1 c := fun k hk => by
    obtain ⟨c, _, rfl⟩ := List.mem_map.mp ((h3 k).mp hk)
    exact ⟨c, rfl⟩
  obtain ⟨ds, rfl⟩ : ∃ ds : List Nat, ys = ds.map one1 := by
    clear h1 h2 h3
    induction ys with
    | nil => exact ⟨[], rfl⟩
    | cons y ys ih =>
      obtain ⟨c, rfl⟩ := all1 y List.mem_cons_self
      obtain ⟨ds, rfl⟩ := ih fun k hk => all1 k (List.mem_cons_of_mem _ hk)
      exact ⟨c :: ds, rfl⟩
  rw [asc_is (codes_up h1 h2) hc fun c => ?_]
  have q := h3 (one1 c)
  constructor
  · intro z
    obtain ⟨d, hd, e⟩ := List.mem_map.mp (q.mp (List.mem_map_of_mem (f := one1) z))
    rw [← one1_inj e]
    exact hd
  · intro z
    obtain ⟨d, hd, e⟩ := List.mem_map.mp (q.mpr (List.mem_map_of_mem (f := one1) z))
    rw [← one1_inj e]
    exact hd
section
variable {X : Cx} {K : PySem.W.Frag} {P : Program} {w : World}
theorem ksetS (hc : X.calm = true) (h : X.K = K := by rfl) (h2 : X.prog = P := by rfl) (h3 : X.w = w := by rfl) : CallR X (.type "set") (rSetS K P w) := by
  subst h h2 h3
  exact cr_setS hc
theorem ksetI (hc : X.calm = true) (h : X.K = K := by rfl) (h2 : X.prog = P := by rfl) (h3 : X.w = w := by rfl) : CallR X (.type "set") (rSetI K P w) := by
  subst h h2 h3
  exact cr_setI hc
theorem klenSet (h2 : X.prog = P := by rfl) (h3 : X.w = w := by rfl) : CallR X (.builtin "len") (rLenSet P w) := by
  subst h2 h3
  exact cr_lenSet
theorem ksortTxt (hc : X.calm = true) (h2 : X.prog = P := by rfl) (h3 : X.w = w := by rfl) : CallR X (.builtin "sorted") (rSortTxt P w) := by
  subst h2 h3
  exact cr_sortTxt hc
theorem ksortInt (hc : X.calm = true) (h2 : X.prog = P := by rfl) (h3 : X.w = w := by rfl) : CallR X (.builtin "sorted") (rSortInt P w) := by
  subst h2 h3
  exact cr_sortInt hc
end
end LX

/-! ### {elt for target in iter if ..}, elt a text: a new set of texts -/
namespace LX
open PySem PySem.Spec PyProof.Rows L2 PpSet
section
variable {X : Cx}
/-- one more text into the set at D -/
theorem addT {ps : List (Addr × Obj)} {σ : L2.St} {G : Hp} {z : Shared} {E : Value → Shared → Prop} {D : Addr} {S : Str → Bool} {n : Nat} {y : Str} {tk : Tok} {Q : Value → Shared → Prop} (V : Inv X ps σ G z) (gD : G D = some (TxtSet X.prog X.w D S n)) (few : n + 1 < scanBound)
    (q : ∀ z', Inv X ps σ (upd G D (TxtSet X.prog X.w D (fun k => S k || decide (k = y)) (if S y = true then n else n + 1))) z' → Q .none z') : wpAny (model X.prog X.w) X.A (call (.builtin "set.add") [.ref D, .str y tk]) Q E z := by
  have R : SetK1 (PySem.strKind X.prog X.w) (fun k t => Value.str k t) strOf z.heap D S n := (V.hok D _ gD).1
  refine wpAny_call_entry PySem.F.slot_set_add (SetK1.setOf (okS X.prog X.w) R).typeIs PySem.F.entry_set_add ?_ (PySem.F.args_set_add_2 _ _)
  unfold Builtin.«set.add» Builtin.Frozenset.oneOther Builtin.Frozenset.addrOf setAdd
  simp only [List.isEmpty_nil, bind_assoc]
  refine wpAny_bind (wpAny_pure ?_)
  try dsimp only
  refine wpAny_bind (wpAny_pure ?_)
  try dsimp only
  refine wpAny_bind (wpAny_holding (wpAny_bind ((PySem.strKind X.prog X.w).pyHash ((okS X.prog X.w).isv y y tk |>.mpr rfl) ?_)))
  refine addK (okS X.prog X.w) (s := { z with toks := z.toks + 1 }) R few fun h' sb new => ?_
  show wpAny _ _ (ret Value.none) _ _ _
  exact wpAny_pure ⟨_, rfl, q _ (V.write (e := D) (t' := z.toks + 1) (by rw [gD]; trivial) (.inl rfl) (fun b u hb hu => (sb.2 b hb).trans hu) new.lives (txtNew new))⟩
def tScT (P : Program) (w : World) (wi : TI) (g : TG) (tt : TT) (te : TE) (vs : List Nat) : TE := fun σ G Q => wi σ G fun J G1 => ∀ D, G1 D = none → ∃ W : Nat → Nat → Hp → Prop, (∃ m, W 0 m (upd G1 D (TxtSet P w D (fun _ => false) 0))) ∧ ∀ j m G, W j m G →
  (J.stop j G ∧ Q (.ref D) G) ∨ (J.go j G ∧ ∃ Z : Hp → Prop, (∀ G', Z G' → ∃ m', m' < m ∧ W (j + 1) m' G') ∧ ∀ x G', J.yld j G x G' → g x (wipe σ vs) G' fun τ G2 => wipe τ vs = wipe σ vs ∧ tt τ G2 fun b G3 =>
    if b = true then te τ G3 fun y G4 => ∃ (c : Str) (S : Str → Bool) (n : Nat), y = .str c ∧ G4 D = some (TxtSet P w D S n) ∧ n + 1 < scanBound ∧ Z (upd G4 D (TxtSet P w D (fun k => S k || decide (k = c)) (if S c = true then n else n + 1))) else Z G3)
theorem scT_core {ps : List (Addr × Obj)} {z : Shared} {σ : L2.St} {G : Hp} {Q : VK} {el tg it : Expr} {fs : List Expr} {sc : Scope} {ow : List (PySem.Str × Nat)} {p1 p2 : Pos} {wi : TI} {g : TG} {tt : TT} {te : TE} {use : Option (Value → Sem Unit)} {Qf : Value → Shared → Prop}
    (calm : X.calm = true) (nd : X.N.Nodup) (V : Inv X ps σ G z) (pi : PI X tg it wi) (ok : BlkOk X.N X.env.scope sc ow)
    (hg : ∀ (z : Shared) (G : Hp) (C : Addr) (cl : List (PySem.Str × Addr)) (fp : List Addr), PG (X.blk z G sc (compEnvC sc cl C X.env) fp) tg g)
    (ht : ∀ (z : Shared) (G : Hp) (C : Addr) (cl : List (PySem.Str × Addr)) (fp : List Addr), PTs (X.blk z G sc (compEnvC sc cl C X.env) fp) fs tt)
    (he : ∀ (z : Shared) (G : Hp) (C : Addr) (cl : List (PySem.Str × Addr)) (fp : List Addr), PE (X.blk z G sc (compEnvC sc cl C X.env) fp) el te)
    (fold : ∀ x, foldedSetIterable it X.env x = pure x) (q : tScT X.prog X.w wi g tt te (ow.map (·.2)) σ G Q)
    (last : ∀ D C z' m G', Inv X ps σ G' z' → Q (.ref D) G' → z'.heap.Ns C m → FpOk X ps G' C → compPost (model X.prog X.w) X.A X.xe use Qf (.ref D) C (.ok .next) z') :
    wpAny (model X.prog X.w) X.A (comprehension (.SetComp el [⟨tg, it, fs, 0⟩] sc p1) sc X.env p2 (newSet (.type "set")) false (eval it X.env) use) Qf X.xe z := by
  have frees : ∀ y ∈ sc.names, y.2 = .free → ∃ c, X.env.cells.lookup y.1 = some c := by
    intro y hy e
    have := ok.free y hy e
    exact V.ok.has _ this
  refine wpAny_comprehension_free (use := use) rfl fold (closure_ok frees) ok.kind (by intro y hy e; rw [ok.uniq y hy, e]) (thn (pi.run ps z σ G _ V q) ?_)
  intro xv z1 h1
  refine thn h1 ?_
  rintro itv z2 ⟨ia, fp, tn, J, G2, rfl, V2, T, st2, f2, h2⟩
  refine newSet_ok (newEnv_comp ?_)
  -- the new set stands at the end of the heap
  obtain ⟨D, eD⟩ : ∃ D, D = z2.heap.objs.size := ⟨_, rfl⟩
  rw [← eD]
  obtain ⟨W, ⟨m0, w0⟩, turn⟩ := h2 D (V2.hok.fresh (Nat.le_of_eq eD.symm))
  obtain ⟨z3, e3⟩ : ∃ z3 : Shared, z3 = { z2 with heap := z2.heap.push { cls := .type "set", dict := none, data := .set #[] 0 (.fresh 0 0 (!X.w.params.followText "set-order")) } } := ⟨_, rfl⟩
  have V3 : Inv X ps σ (upd G2 D (TxtSet X.prog X.w D (fun _ => false) 0)) z3 := by
    rw [e3, eD]
    exact V2.laid (t' := z2.toks) (fun b o e => Heap.get?_push_of_some _ e) (Nat.le_refl _) (txtNew freshK)
  have hz3 : z3.heap.objs.size = z2.heap.objs.size + 1 := by rw [e3]; exact Heap.size_push _ _
  have old3 : ∀ b o, z2.heap.get? b = some o → z3.heap.get? b = some o := by
    rw [e3]
    exact fun b o e => Heap.get?_push_of_some _ e
  rw [← e3]
  clear e3
  generalize eG : upd G2 D (TxtSet X.prog X.w D (fun _ => false) 0) = G3 at V3 w0
  have f3 : ∀ b ∈ fp, FpOk X ps G3 b ∧ b < z3.heap.objs.size := by
    intro b hb
    obtain ⟨o, live, _⟩ := T.obj _ _ st2 b hb
    have lt := Heap.lt_size live
    have ne : b ≠ D := fun c => Nat.ne_of_lt lt (c.trans eD)
    obtain ⟨k1, k2⟩ := f2 b hb
    exact ⟨⟨by rw [← eG, upd_ne ne]; exact k1, k2⟩, by rw [hz3]; exact Nat.lt_succ_of_lt lt⟩
  have st3 : tn 0 z3.heap := T.keep _ _ _ st2 fun b _ => old3 b
  have V4 := block_start V3 ok nd f3
  -- inside the block
  have Pg := hg z3 G3 z3.heap.objs.size (cellsFrom (z3.heap.objs.size + 1) sc.names (cloFrom X.env.cells sc.names [])) fp
  have Pt := ht z3 G3 z3.heap.objs.size (cellsFrom (z3.heap.objs.size + 1) sc.names (cloFrom X.env.cells sc.names [])) fp
  have Pe := he z3 G3 z3.heap.objs.size (cellsFrom (z3.heap.objs.size + 1) sc.names (cloFrom X.env.cells sc.names [])) fp
  have keeps : ∀ b o, z3.heap.get? b = some o → (pushCells (z3.heap.push { cls := .type "dict", data := .dict #[] }) sc.names).get? b = some o := fun b o e => pushCells_keeps _ _ _ _ (Heap.get?_push_of_some _ e)
  have st4 : tn 0 (pushCells (z3.heap.push { cls := .type "dict", data := .dict #[] }) sc.names) := T.keep _ _ _ st3 fun b _ => keeps b
  have eB : (compEnvC sc (cellsFrom (z3.heap.objs.size + 1) sc.names (cloFrom X.env.cells sc.names [])) z3.heap.objs.size X.env).locals = z3.heap.objs.size := rfl
  show codeAny _ _ (.compStart (.SetComp el [⟨tg, it, fs, 0⟩] sc p1) 0 (.ref ia) (.ref D) (compEnvC sc (cellsFrom (z3.heap.objs.size + 1) sc.names (cloFrom X.env.cells sc.names [])) z3.heap.objs.size X.env)) (compPost (model X.prog X.w) X.A X.xe use Qf (.ref D) z3.heap.objs.size) { z3 with heap := pushCells (z3.heap.push { cls := .type "dict", data := .dict #[] }) sc.names }
  generalize compEnvC sc (cellsFrom (z3.heap.objs.size + 1) sc.names (cloFrom X.env.cells sc.names [])) z3.heap.objs.size X.env = B at V4 Pg Pt Pe eB ⊢
  generalize e4 : ({ z3 with heap := pushCells (z3.heap.push { cls := .type "dict", data := .dict #[] }) sc.names } : Shared) = z4 at V4 ⊢
  have st4 : tn 0 z4.heap := by rw [← e4]; exact st4
  let Y : Cx := X.blk z3 G3 sc B fp
  have safe : ∀ {τ : L2.St} {G' : Hp} {z' : Shared}, Inv Y [] τ G' z' → (∀ b ∈ fp, G' b = none) → ∀ b ∈ fp, FpOk Y [] G' b := by
    intro τ G' z' U off b hb
    exact ⟨off b hb, (U.ok.exf b hb).1, U.ok.exfs b hb, Or.inl hb, (fun x c e => (U.ok.exf b hb).2 x c e), fun r hr => nomatch (show r ∈ ([] : List (Addr × Obj)) from hr)⟩
  have loop : codeAny (model X.prog X.w) X.A (.compLoop (.SetComp el [⟨tg, it, fs, 0⟩] sc p1) 0 (.ref ia) (.ref D) B) (compPost (model X.prog X.w) X.A X.xe use Qf (.ref D) z3.heap.objs.size) z4 := by
    refine compLoopS_any (fun n z' => ∃ j G', Inv Y [] (wipe σ (ow.map (·.2))) G' z' ∧ tn j z'.heap ∧ (∀ b ∈ fp, G' b = none) ∧ W j n G') ?_ m0 ⟨0, G3, V4, st4, fun b hb => (f3 b hb).1.1, w0⟩
    rintro n z5 ⟨j, G5, V5, st5, off5, w5⟩
    rcases turn j n G5 w5 with ⟨stop, fin⟩ | ⟨go, Z, hZ, step⟩
    · refine thnF (T.done Y rfl rfl rfl calm j [] z5 _ G5 (fun _ _ => False) V5 (safe V5 off5) st5 stop) ?_
      rintro r z6 ⟨rfl, V6⟩
      obtain ⟨m, hm, _⟩ := V6.loc
      have hm : z6.heap.Ns B.locals m := hm
      have free6 : G5 B.locals = none := V6.free
      rw [eB] at hm free6
      have V7 : Inv X ps σ G5 z6 := V3.call' (ch := fp) V6.os V6.base V6.hok V6.bare fun b hb => by
        obtain ⟨⟨k1, k2, k3, k4, k5, k6⟩, _⟩ := f3 b hb
        exact ⟨k4, k2, k5, k6⟩
      exact last D _ z6 m G5 V7 fin hm (V3.fpOk (Nat.le_refl _) free6)
    · refine thnF (T.item Y rfl rfl rfl calm j [] z5 _ G5 (fun _ _ => False) V5 (safe V5 off5) st5 go) ?_
      rintro r z6 ⟨u, rfl, h6⟩
      refine thnF h6 ?_
      rintro _ z7 ⟨x, G7, V7, r7, y7, st7, off7⟩
      refine thnF (Pg.run _ z7 _ G7 x u _ (V7.pinned (safe V7 off7) (T.obj _ _ st7)) r7 (step x G7 y7)) ?_
      rintro _ z8 ⟨τ, G8, V8, eτ, h8⟩
      refine thnF (Pt.run _ z8 τ G8 _ V8 h8) ?_
      rintro b z9 ⟨G9, V9, h9⟩
      have next : ∀ {z' : Shared} {G' : Hp}, Inv Y ([] ++ pinsAt fp z7.heap) τ G' z' → Z G' → ∃ m, m < n ∧ ∃ j G', Inv Y [] (wipe σ (ow.map (·.2))) G' z' ∧ tn j z'.heap ∧ (∀ b ∈ fp, G' b = none) ∧ W j m G' := by
        intro z' G' U hG
        obtain ⟨m', lt, w'⟩ := hZ G' hG
        have pinned : ∀ b ∈ fp, ∀ o, z7.heap.get? b = some o → z'.heap.get? b = some o ∧ G' b = none := by
          intro b hb o e
          have k := U.pin (b, o) (List.mem_append_right _ (List.mem_append_right _ (mem_pinsAt hb e)))
          exact ⟨k.1, k.2.1⟩
        refine ⟨m', lt, j + 1, G', (U.unpinned (pins := [])).weak (by rw [← eτ, wipe_length]) ?_, T.keep _ _ _ st7 ?_, ?_, w'⟩
        · intro i v e
          rw [← eτ] at e
          exact (wipe_some e).1
        · exact fun b hb o e => (pinned b hb o e).1
        · intro b hb
          obtain ⟨o, e, _⟩ := T.obj _ _ st7 b hb
          exact (pinned b hb o e).2
      cases b with
      | false =>
        rw [if_neg Bool.false_ne_true] at h9 ⊢
        exact next V9 h9
      | true =>
        rw [if_pos rfl] at h9 ⊢
        refine thnF (Pe.run _ z9 τ G9 _ V9 h9) ?_
        rintro v z10 ⟨_, G10, V10, r10, c, S, k, rfl, gD, few, hG⟩
        obtain ⟨tk, rfl⟩ : ∃ tk, v = Value.str c tk := r10
        exact addT (X := Y) V10 gD few fun z11 V11 => next V11 hG
  exact codeAny_compStart_set loop (T.self X.A 0 _ _ _ st4 loop)
theorem pe_scT {el tg it : Expr} {fs : List Expr} {sc : Scope} {own : List (PySem.Str × Nat)} {p1 : Pos} {P : Program} {w : World} {wi : TI} {g : TG} {tt : TT} {te : TE} (calm : X.calm = true) (nd : X.N.Nodup) (pi : PI X tg it wi) (ok : BlkOk X.N X.env.scope sc own)
    (hg : ∀ (z : Shared) (G : Hp) (C : Addr) (cl : List (PySem.Str × Addr)) (fp : List Addr), PG (X.blk z G sc (compEnvC sc cl C X.env) fp) tg g)
    (ht : ∀ (z : Shared) (G : Hp) (C : Addr) (cl : List (PySem.Str × Addr)) (fp : List Addr), PTs (X.blk z G sc (compEnvC sc cl C X.env) fp) fs tt)
    (he : ∀ (z : Shared) (G : Hp) (C : Addr) (cl : List (PySem.Str × Addr)) (fp : List Addr), PE (X.blk z G sc (compEnvC sc cl C X.env) fp) el te)
    (fold : ∀ x, foldedSetIterable it X.env x = pure x := by intro _; rfl) (hP : X.prog = P := by rfl) (hw : X.w = w := by rfl) :
    PE X (.SetComp el [⟨tg, it, fs, 0⟩] sc p1) (tScT P w wi g tt te (own.map (·.2))) := by
  subst hP
  subst hw
  refine ⟨fun ps z σ G Q V q => ?_⟩
  rw [eval_SetComp]
  refine scT_core calm nd V pi ok hg ht he fold q ?_
  rintro D C z' m G' V' fin hm ⟨f0, f1, f2, f3, f4, f5⟩
  exact ⟨m, hm, fun h'' sb => ⟨.ref D, G', V'.turned (t' := z'.toks) (fun b o hb e => (sb.2 b hb).trans e) f0 f1 f3 f4 f5, rfl, fin⟩⟩
end
end LX
namespace LX
open PySem PySem.Spec PyProof.Rows L2
section
variable {P : Program} {w : World} {K : PySem.W.Frag} {a D : Addr} {g : TG} {tt : TT} {te : TE} {vs : List Nat} {σ : L2.St} {H1 : Hp} {Qd : Hp → Prop}
theorem rd_scT {wi : TI} {H : Hp} {Q : VK} (q : wi σ H fun J G1 => ∀ D, G1 D = none → ∃ W : Nat → Nat → Hp → Prop, (∃ m, W 0 m (upd G1 D (TxtSet P w D (fun _ => false) 0))) ∧ ∀ j m G, W j m G →
  (J.stop j G ∧ Q (.ref D) G) ∨ (J.go j G ∧ ∃ Z : Hp → Prop, (∀ G', Z G' → ∃ m', m' < m ∧ W (j + 1) m' G') ∧ ∀ x G', J.yld j G x G' → g x (wipe σ vs) G' fun τ G2 => wipe τ vs = wipe σ vs ∧ tt τ G2 fun b G3 =>
    if b = true then te τ G3 fun y G4 => ∃ (c : Str) (S : Str → Bool) (n : Nat), y = .str c ∧ G4 D = some (TxtSet P w D S n) ∧ n + 1 < scanBound ∧ Z (upd G4 D (TxtSet P w D (fun k => S k || decide (k = c)) (if S c = true then n else n + 1))) else Z G3)) : tScT P w wi g tt te vs σ H Q := q
/-- over a row: the letters of some of its people -/
theorem sc_row {ts : List Addr} {r : Row} (f : Nat × Nat → Option Nat) (hD : H1 D = none) (ha : H1 a = some (.lst (ts.map V.ref))) (ht : TupsAt H1 ts r) (hz : r.length ≤ 1000)
    (hs : ∀ t e, e ∈ r → t ∈ ts → ∀ H, Same H1 H → H t = some (.tup (pr e)) → ∀ (T : V → Hp → Prop) (F : Hp → Prop), (∀ c H', f e = some c → Same H H' → T (sg c) H') → (∀ H', f e = none → Same H H' → F H') →
      g (.ref t) (wipe σ vs) H fun σ2 H2 => wipe σ2 vs = wipe σ vs ∧ tt σ2 H2 fun b H3 => if b = true then te σ2 H3 T else F H3)
    (hd : ∀ H' n, Same H1 H' → H' D = some (TxtSet P w D (fun k => decide (k ∈ (r.filterMap f).map one1)) n) → Qd H') :
    ∃ W : Nat → Nat → Hp → Prop, (∃ m, W 0 m (upd H1 D (TxtSet P w D (fun _ => false) 0))) ∧ ∀ j m G, W j m G →
      ((Itl K a).stop j G ∧ Qd G) ∨ ((Itl K a).go j G ∧ ∃ Z : Hp → Prop, (∀ G', Z G' → ∃ m', m' < m ∧ W (j + 1) m' G') ∧ ∀ x G', (Itl K a).yld j G x G' → g x (wipe σ vs) G' fun τ G2 => wipe τ vs = wipe σ vs ∧ tt τ G2 fun b G3 =>
        if b = true then te τ G3 fun y G4 => ∃ (c : Str) (S : Str → Bool) (n : Nat), y = .str c ∧ G4 D = some (TxtSet P w D S n) ∧ n + 1 < scanBound ∧ Z (upd G4 D (TxtSet P w D (fun k => S k || decide (k = c)) (if S c = true then n else n + 1))) else Z G3) := by
  have hl := ht.len
  have step : ∀ (i : Nat) (e : Nat × Nat), r[i]? = some e → ∀ k : Str, decide (k ∈ ((r.take (i + 1)).filterMap f).map one1) = (decide (k ∈ ((r.take i).filterMap f).map one1) || decide (f e = some (k.cps.getD 0 0) ∧ k = one1 (k.cps.getD 0 0))) := by
    intro i e he k
    rw [take_of he, List.filterMap_append, List.map_append, Bool.eq_iff_iff, Bool.or_eq_true, decide_eq_true_iff, decide_eq_true_iff, decide_eq_true_iff, List.mem_append]
    refine or_congr Iff.rfl ?_
    cases q : f e with
    | none =>
      rw [List.filterMap_cons_none q]
      constructor
      · exact fun z => nomatch z
      · exact fun z => nomatch z.1
    | some c =>
      rw [List.filterMap_cons_some q]
      show k ∈ [one1 c] ↔ _
      rw [List.mem_singleton]
      constructor
      · rintro rfl
        exact ⟨rfl, rfl⟩
      · rintro ⟨h1, h2⟩
        rw [h2]
        injection h1 with h1
        rw [← h1]
  have W : Walk (Itl K a) (ts.map V.ref).length (fun H => Same H1 H) (YAt (ts.map V.ref)) := walk_list.mono (fun _ s => SqL.of (s _ _ ha)) fun _ _ _ _ _ _ y => y
  refine ⟨fun j m H => m = r.length - j ∧ j ≤ r.length ∧ Same H1 H ∧ ∃ n, n ≤ j ∧ H D = some (TxtSet P w D (fun k => decide (k ∈ ((r.take j).filterMap f).map one1)) n), ⟨r.length, by simp, Nat.zero_le _, sNew hD, 0, Nat.le_refl _, ?_⟩, ?_⟩
  · rw [upd_same]
    have : (fun k : Str => decide (k ∈ ((r.take 0).filterMap f).map one1)) = fun _ => false := by
      funext k
      rfl
    rw [this]
  · rintro j m H ⟨rfl, hj, s, n, hn, e⟩
    rw [List.length_map, hl] at W
    by_cases lt : j < r.length
    · refine Or.inr ⟨W.goes j H lt s, fun G' => Same H1 G' ∧ ∃ n, n ≤ j + 1 ∧ G' D = some (TxtSet P w D (fun k => decide (k ∈ ((r.take (j + 1)).filterMap f).map one1)) n), fun G' ⟨h1, h2⟩ => ⟨r.length - (j + 1), by omega, rfl, lt, h1, h2⟩, fun x G' y => ?_⟩
      obtain ⟨rfl, hx⟩ := W.yields j H x G' lt s y
      rw [List.getElem?_map] at hx
      obtain ⟨t, h1, rfl⟩ := Option.map_eq_some_iff.mp hx
      obtain ⟨en, h2, h3⟩ := ht.get h1
      have st := step j en h2
      refine hs t en (List.mem_of_getElem? h2) (List.mem_of_getElem? h1) G' s (s _ _ h3) _ _ (fun c G4 hc s4 => ⟨one1 c, _, n, rfl, s4 _ _ e, by unfold scanBound; omega, sUpd (s.trans s4) hD, (if decide (one1 c ∈ ((r.take j).filterMap f).map one1) = true then n else n + 1), ?_, ?_⟩) fun G4 hc s4 => ⟨s.trans s4, n, by omega, ?_⟩
      · split <;> omega
      · rw [upd_same]
        congr 2
        funext k
        rw [st k, hc]
        congr 1
        rw [Bool.eq_iff_iff, decide_eq_true_iff, decide_eq_true_iff]
        constructor
        · rintro rfl
          exact ⟨rfl, rfl⟩
        · rintro ⟨h1, h2⟩
          rw [h2]
          injection h1 with h1
          rw [← h1]
      · rw [s4 _ _ e]
        congr 2
        funext k
        rw [st k, hc]
        have : decide (none = some (k.cps.getD 0 0) ∧ k = one1 (k.cps.getD 0 0)) = false := by
          rw [decide_eq_false_iff_not]
          exact fun z => nomatch z.1
        rw [this, Bool.or_false]
    · have ej : j = r.length := by omega
      subst ej
      rw [List.take_length] at e
      exact Or.inl ⟨W.stops H s, hd H n s e⟩
end
end LX


/-! ### lists of tuples of any make; runs of equal items -/
namespace LX
open PySem L2
section
variable {α : Type} {f : α → List V}
def TsAt (f : α → List V) (H : Hp) : List Addr → List α → Prop
  | [], [] => True
  | t :: ts, e :: r => H t = some (.tup (f e)) ∧ TsAt f H ts r
  | _, _ => False
theorem TsAt.len {H : Hp} : ∀ {ts : List Addr} {r : List α}, TsAt f H ts r → ts.length = r.length
  | [], [], _ => rfl
  | _ :: ts, _ :: r, h => congrArg (· + 1) (TsAt.len (ts := ts) (r := r) h.2)
  | [], _ :: _, h => h.elim
  | _ :: _, [], h => h.elim
theorem TsAt.mono {H H' : Hp} : ∀ {ts : List Addr} {r : List α}, TsAt f H ts r → (∀ b xs, H b = some (.tup xs) → H' b = some (.tup xs)) → TsAt f H' ts r
  | [], [], _, _ => True.intro
  | _ :: ts, _ :: r, h, k => ⟨k _ _ h.1, TsAt.mono (ts := ts) (r := r) h.2 k⟩
  | [], _ :: _, h, _ => h.elim
  | _ :: _, [], h, _ => h.elim
theorem TsAt.get {H : Hp} : ∀ {ts : List Addr} {r : List α} {i : Nat} {t : Addr}, TsAt f H ts r → ts[i]? = some t → ∃ e, r[i]? = some e ∧ H t = some (.tup (f e))
  | [], [], i, t, _, h => by simp at h
  | _ :: ts, e :: r, 0, t, h, q => by
    simp at q
    subst q
    exact ⟨e, rfl, h.1⟩
  | _ :: ts, _ :: r, i + 1, t, h, q => by
    simp at q
    obtain ⟨e, h1, h2⟩ := TsAt.get (ts := ts) (r := r) h.2 q
    exact ⟨e, by simpa using h1, h2⟩
  | [], _ :: _, _, _, h, _ => h.elim
  | _ :: _, [], _, _, h, _ => h.elim
theorem TsAt.snoc {H : Hp} {t : Addr} {e : α} (ht : H t = some (.tup (f e))) : ∀ {ts : List Addr} {r : List α}, TsAt f H ts r → TsAt f H (ts ++ [t]) (r ++ [e])
  | [], [], _ => ⟨ht, True.intro⟩
  | _ :: ts, _ :: r, h => ⟨h.1, TsAt.snoc ht (ts := ts) (r := r) h.2⟩
  | [], _ :: _, h => h.elim
  | _ :: _, [], h => h.elim
theorem TsAt.app {H : Hp} : ∀ {ts us : List Addr} {r q : List α}, TsAt f H ts r → TsAt f H us q → TsAt f H (ts ++ us) (r ++ q)
  | [], _, [], _, _, h => h
  | _ :: ts, us, _ :: r, q, h, k => ⟨h.1, TsAt.app (ts := ts) (r := r) h.2 k⟩
  | [], _, _ :: _, _, h, _ => h.elim
  | _ :: _, _, [], _, h, _ => h.elim
theorem TsAt.set {H : Hp} {t : Addr} {e : α} (ht : H t = some (.tup (f e))) : ∀ {ts : List Addr} {r : List α} (j : Nat), TsAt f H ts r → TsAt f H (ts.set j t) (r.set j e)
  | [], [], _, _ => True.intro
  | _ :: ts, _ :: r, 0, h => ⟨ht, h.2⟩
  | _ :: ts, _ :: r, j + 1, h => ⟨h.1, TsAt.set ht (ts := ts) (r := r) j h.2⟩
  | [], _ :: _, _, h => h.elim
  | _ :: _, [], _, h => h.elim
theorem TsAt.last {H : Hp} {ts : List Addr} {r : List α} (h : TsAt f H ts r) {e : α} (he : r.getLast? = some e) : ∃ t, ts[ts.length - 1]? = some t ∧ H t = some (.tup (f e)) := by
  have hl := h.len
  rw [List.getLast?_eq_getElem?] at he
  have h1 : r.length - 1 < r.length := (List.getElem?_eq_some_iff.mp he).1
  have h2 : ts.length - 1 < ts.length := by omega
  have h3 := List.getElem?_eq_getElem h2
  obtain ⟨e', h4, h5⟩ := h.get h3
  rw [show ts.length - 1 = r.length - 1 by omega, he] at h4
  cases h4
  exact ⟨_, h3, h5⟩
theorem TsAt.off {H : Hp} {l : Addr} {xs : List V} {o : HO} {ts : List Addr} {r : List α} (h : TsAt f H ts r) (hl : H l = some (.lst xs)) : TsAt f (upd H l o) ts r := h.mono fun b ys e => by
  rw [upd_ne fun z => by rw [z, hl] at e; cases e]
  exact e
theorem TsAt.dp {K : PySem.W.Frag} {H : Hp} {d : α → List PyData} (hd : ∀ e, DpAll K H (f e) (d e)) : ∀ {ts : List Addr} {r : List α}, TsAt f H ts r → DpAll K H (ts.map V.ref) (r.map fun e => PyData.tuple (d e))
  | [], [], _ => .nil
  | _ :: ts, e :: r, h => .cons (.tup (SqT.of h.1) (hd e)) (TsAt.dp hd (ts := ts) (r := r) h.2)
  | [], _ :: _, h => h.elim
  | _ :: _, [], h => h.elim
end
section
variable {α : Type} [DecidableEq α]
def rsn (acc : List (α × Nat)) (x : α) : List (α × Nat) :=
  match acc.getLast? with
  | some (y, k) => if y = x then acc.set (acc.length - 1) (x, k + 1) else acc ++ [(x, 1)]
  | none => acc ++ [(x, 1)]
def runs (cs : List α) : List (α × Nat) := cs.foldl rsn []
theorem runs_snoc (cs : List α) (x : α) : runs (cs ++ [x]) = rsn (runs cs) x := by
  unfold runs
  rw [List.foldl_append]
  rfl
theorem rsn_len (acc : List (α × Nat)) (x : α) : (rsn acc x).length ≤ acc.length + 1 := by
  unfold rsn
  split
  · split
    · rw [List.length_set]
      omega
    · rw [List.length_append]
      simp
  · rw [List.length_append]
    simp
theorem runs_len (cs : List α) : (runs cs).length ≤ cs.length := by
  have go : ∀ (cs : List α) (acc : List (α × Nat)), (cs.foldl rsn acc).length ≤ acc.length + cs.length := by
    intro cs
    induction cs with
    | nil => exact fun acc => Nat.le_refl _
    | cons x cs ih =>
      intro acc
      have h1 := ih (rsn acc x)
      have h2 := rsn_len acc x
      show (cs.foldl rsn (rsn acc x)).length ≤ acc.length + (cs.length + 1)
      omega
  have := go cs []
  simpa [runs] using this
theorem rsn_grow {acc : List (α × Nat)} {x : α} {k : Nat} (h : acc.getLast? = some (x, k)) : rsn acc x = acc.set (acc.length - 1) (x, k + 1) := by
  unfold rsn
  rw [h]
  exact if_pos rfl
theorem rsn_new {acc : List (α × Nat)} {x y : α} {k : Nat} (h : acc.getLast? = some (y, k)) (n : y ≠ x) : rsn acc x = acc ++ [(x, 1)] := by
  unfold rsn
  rw [h]
  exact if_neg n
theorem rsn_nil (x : α) : rsn [] x = [(x, 1)] := rfl
theorem last_ne {β : Type} {acc : List β} (h : acc ≠ []) : ∃ e, acc.getLast? = some e := ⟨_, List.getLast?_eq_some_getLast h⟩
end
/-- a run of a color -/
abbrev prC (e : Nat × Nat) : List V := [sg e.1, .int (e.2 : Int)]
abbrev dPC (e : Nat × Nat) : List PyData := [.str ⟨#[e.1]⟩, .int (e.2 : Int)]
/-- each color once, in the order met -/
abbrev firstsOf (cs : List Nat) : List Nat := cs.foldl (fun acc x => if x ∈ acc then acc else acc ++ [x]) []
theorem firsts_snoc (cs : List Nat) (x : Nat) : firstsOf (cs ++ [x]) = if x ∈ firstsOf cs then firstsOf cs else firstsOf cs ++ [x] := by
  unfold firstsOf
  rw [List.foldl_append]
  rfl
/-- a text of codes -/
abbrev txt (cs : List Nat) : Str := ⟨cs.toArray⟩
section
variable {X : Cx}
def rInT (neg : Bool) : R2 := fun x y H Q => ∃ (c : Nat) (z : Str), x = sg c ∧ y = .str z ∧ Q (.bl (if neg = true then !decide (c ∈ z.cps.toList) else decide (c ∈ z.cps.toList))) H
theorem kinT : OpR X (compareOp .In) (rInT false) := by
  intro pins s σ H x y v u Q I rx ry h
  obtain ⟨c, z, rfl, rfl, q⟩ := h
  refine op_in_str pins s σ H _ _ v u Q I rx ry ⟨⟨#[c]⟩, z, rfl, rfl, ?_⟩
  rw [PySem.StrLaws.found_one]
  exact q
theorem knotInT : OpR X (compareOp .NotIn) (rInT true) := by
  intro pins s σ H x y v u Q I rx ry h
  obtain ⟨c, z, rfl, rfl, q⟩ := h
  refine op_notIn_str pins s σ H _ _ v u Q I rx ry ⟨⟨#[c]⟩, z, rfl, rfl, ?_⟩
  rw [PySem.StrLaws.found_one]
  exact q
end
theorem txt_app (cs : List Nat) (c : Nat) : txt cs ++ (⟨#[c]⟩ : Str) = txt (cs ++ [c]) := by
  show (⟨cs.toArray ++ #[c]⟩ : Str) = ⟨(cs ++ [c]).toArray⟩
  congr 1
  simp
theorem txt_len (cs : List Nat) : (txt cs).length = cs.length := List.size_toArray
theorem mem_firsts {cs : List Nat} {x : Nat} : x ∈ firstsOf cs ↔ x ∈ cs := by
  have go : ∀ (cs acc : List Nat), x ∈ cs.foldl (fun acc x => if x ∈ acc then acc else acc ++ [x]) acc ↔ x ∈ acc ∨ x ∈ cs := by
    intro cs
    induction cs with
    | nil => intro acc; simp
    | cons y ys ih =>
      intro acc
      rw [List.foldl_cons, ih, List.mem_cons]
      by_cases c : y ∈ acc
      · rw [if_pos c]
        constructor
        · rintro (h | h)
          · exact Or.inl h
          · exact Or.inr (Or.inr h)
        · rintro (h | rfl | h)
          · exact Or.inl h
          · exact Or.inl c
          · exact Or.inr h
      · rw [if_neg c, List.mem_append, List.mem_singleton, or_assoc]
  have := go cs []
  simpa using this
theorem firsts_len (cs : List Nat) : (firstsOf cs).length ≤ cs.length := by
  have go : ∀ (cs acc : List Nat), (cs.foldl (fun acc x => if x ∈ acc then acc else acc ++ [x]) acc).length ≤ acc.length + cs.length := by
    intro cs
    induction cs with
    | nil => exact fun acc => Nat.le_refl _
    | cons y ys ih =>
      intro acc
      rw [List.foldl_cons, List.length_cons]
      refine Nat.le_trans (ih _) ?_
      by_cases c : y ∈ acc
      · rw [if_pos c]
        omega
      · rw [if_neg c, List.length_append, List.length_singleton]
        omega
  have := go cs []
  simpa using this
theorem txt_cat (a b : List Nat) : txt a ++ txt b = txt (a ++ b) := by
  show (⟨a.toArray ++ b.toArray⟩ : Str) = ⟨(a ++ b).toArray⟩
  congr 1
  simp
theorem fold_ones : ∀ (cs : List Nat) (acc : Array Nat), (cs.map fun c => (⟨#[c]⟩ : Str)).foldl (fun acc p => acc ++ (Str.ofString "").cps ++ p.cps) acc = acc ++ cs.toArray
  | [], acc => by simp
  | c :: cs, acc => by
    rw [List.map_cons, List.foldl_cons, fold_ones cs]
    show acc ++ #[] ++ #[c] ++ cs.toArray = _
    simp
theorem join_ones (cs : List Nat) : Txt.join (Str.ofString "") (cs.map fun c => (⟨#[c]⟩ : Str)) = txt cs := by
  cases cs with
  | nil => rfl
  | cons c cs =>
    show (⟨(cs.map fun c => (⟨#[c]⟩ : Str)).foldl (fun acc p => acc ++ (Str.ofString "").cps ++ p.cps) #[c]⟩ : Str) = _
    rw [fold_ones]
    show (⟨#[c] ++ cs.toArray⟩ : Str) = ⟨(c :: cs).toArray⟩
    congr 1
    simp
theorem len_ones (cs : List Nat) : ((cs.map fun c => (⟨#[c]⟩ : Str)).map (·.length)).sum = cs.length := by
  induction cs with
  | nil => rfl
  | cons c cs ih =>
    rw [List.map_cons, List.map_cons, List.sum_cons, ih, List.length_cons]
    show 1 + cs.length = _
    omega
/-- the last run's item is the last item -/
theorem runs_last (cs : List Nat) (x : Nat) : ∃ k, (runs (cs ++ [x])).getLast? = some (x, k) := by
  rw [runs_snoc]
  unfold rsn
  cases q : (runs cs).getLast? with
  | none =>
    dsimp only
    exact ⟨1, by rw [List.getLast?_append]; rfl⟩
  | some e =>
    obtain ⟨y, k⟩ := e
    dsimp only
    by_cases c : y = x
    · rw [if_pos c]
      have ne : 0 < (runs cs).length := by
        cases h : runs cs with
        | nil => rw [h] at q; cases q
        | cons a l => exact Nat.zero_lt_succ _
      refine ⟨k + 1, ?_⟩
      rw [List.getLast?_eq_getElem?, List.length_set, List.getElem?_set_self (by omega)]
    · rw [if_neg c]
      exact ⟨1, by rw [List.getLast?_append]; rfl⟩
theorem firsts_fm (cs : List Nat) : (List.range cs.length).filterMap (fun k => if decide (cs.getD k 0 ∈ cs.take k) = true then none else some (cs.getD k 0)) = firstsOf cs := by
  have go : ∀ k, k ≤ cs.length → (List.range k).filterMap (fun k => if decide (cs.getD k 0 ∈ cs.take k) = true then none else some (cs.getD k 0)) = firstsOf (cs.take k) := by
    intro k
    induction k with
    | zero => intro _; rfl
    | succ k ih =>
      intro hk
      have hx : cs[k]? = some (cs.getD k 0) := by rw [List.getD_eq_getElem?_getD, List.getElem?_eq_getElem (by omega)]; rfl
      rw [List.range_succ, List.filterMap_append, ih (by omega), take_of hx, firsts_snoc]
      by_cases c : cs.getD k 0 ∈ cs.take k
      · rw [if_pos (mem_firsts.mpr c), List.filterMap_cons_none (by rw [if_pos (decide_eq_true c)])]
        exact List.append_nil _
      · rw [if_neg fun z => c (mem_firsts.mp z), List.filterMap_cons_some (b := cs.getD k 0) (by rw [if_neg (by simpa using c)])]
        rfl
  have := go cs.length (Nat.le_refl _)
  rw [List.take_length] at this
  exact this
theorem fo_head (r : Row) (c : Nat) : ((r.map (·.2)).filter fun d => d != c).head? = fo r c := by
  unfold fo
  rw [List.head?_filter, List.find?_map]
  rfl
end LX
/-! ### letters counted and found in a list; for over a text -/
namespace LX
open PySem PySem.Spec PyProof.Rows L2
def eqS (k : Str) (v : Value) : Bool := match v with
  | .str n _ => n == k
  | _ => false
theorem eqS_at {A : Around} {s : Shared} {k : Str} {t : Tok} : ∀ {us : List Value} {ys : List Str}, StrsAre us ys → ∀ y ∈ us, SeqAt.EqAt A s y (.str k t) (eqS k y)
  | _, _, .nil => fun y hy => by cases hy
  | _, _, .cons n t' h => fun y hy => by
    rcases List.mem_cons.mp hy with e | e
    · rw [e]
      exact SeqAt.EqAt.str_str n t' k t
    · exact eqS_at h y e
theorem eqS_count {k : Str} : ∀ {us : List Value} {ys : List Str}, StrsAre us ys → us.countP (eqS k) = ys.countP (· == k)
  | _, _, .nil => rfl
  | _, _, .cons n t h => by
    have ih := eqS_count (k := k) h
    rw [List.countP_cons, List.countP_cons, ih] <;> rfl
theorem one_beq (a b : Nat) : ((⟨#[a]⟩ : Str) == ⟨#[b]⟩) = (a == b) := by
  rw [Bool.eq_iff_iff, beq_iff_eq, beq_iff_eq]
  exact ⟨fun h => by injection h with h; simpa using h, fun h => by rw [h]⟩
theorem ones_count (c : Nat) : ∀ cs : List Nat, (cs.map fun c => (⟨#[c]⟩ : Str)).countP (· == ⟨#[c]⟩) = cs.count c
  | [] => rfl
  | x :: cs => by
    rw [List.map_cons, List.countP_cons, ones_count c cs, List.count_cons, one_beq]
theorem ones_V (cs : List Nat) : cs.map sg = (cs.map fun c => (⟨#[c]⟩ : Str)).map V.str := by
  rw [List.map_map]
  rfl
theorem eqV_sg (a b : Nat) : eqV (sg a) (sg b) = (a == b) := one_beq a b
theorem flat_sg (cs : List Nat) : (cs.map sg).all flatV = true := by
  rw [List.all_eq_true]
  intro x hx
  obtain ⟨c, _, rfl⟩ := List.mem_map.mp hx
  rfl
theorem any_sg (c : Nat) (cs : List Nat) : inV (sg c) (cs.map sg) = decide (c ∈ cs) := by
  unfold inV
  rw [Bool.eq_iff_iff, List.any_eq_true, decide_eq_true_iff]
  constructor
  · rintro ⟨x, hx, e⟩
    obtain ⟨d, hd, rfl⟩ := List.mem_map.mp hx
    rw [eqV_sg] at e
    rw [← eq_of_beq e]
    exact hd
  · intro h
    exact ⟨sg c, List.mem_map.mpr ⟨c, h, rfl⟩, by rw [eqV_sg]; exact beq_self_eq_true c⟩
section
variable {X : Cx}
def rCntS (K : PySem.W.Frag) : V → List V → Hp → VK → Prop := fun x xs H Q => ∃ (p : Addr) (cs : List Nat) (c : Nat), x = .ref p ∧ xs = [sg c] ∧ SqL K H p (cs.map sg) ∧ Q (.int (cs.count c : Nat)) H
theorem mt_lcountS {K : PySem.W.Frag} (hK : X.K = K := by rfl) : MtR X "list.count" (rCntS K) := by
  subst hK
  intro pins s σ H x xs v us Q I rx rxs h
  obtain ⟨p, cs, c, rfl, rfl, hs, q⟩ := h
  cases rx
  obtain ⟨u, rfl, ru⟩ := rxs.one
  obtain ⟨t, rfl⟩ := ru
  obtain ⟨its, rv, ⟨⟨cls, dd, data, sl⟩, n, ho, hc, hdn, hd⟩, hlen⟩ := I.list hs
  simp only at hc hd
  subst hc hd
  rw [ones_V] at rv
  have hi := strs_of_vals rv
  refine call_meets PySem.F.slot_list_count ⟨_, ho, rfl⟩ PySem.F.entry_list_count (PySem.F.args_list_count_2 _ _)
    (SeqAt.list_countAt p its.toArray n dd sl (.str ⟨#[c]⟩ t) (eqS ⟨#[c]⟩)) ⟨ho, fun y hy => eqS_at hi y (by simpa using hy), ?_⟩
  have ec : its.toArray.toList.countP (eqS ⟨#[c]⟩) = cs.count c := (eqS_count hi).trans (ones_count c cs)
  refine ⟨.int (cs.count c : Nat), H, I.tok _, ⟨s.toks, ?_⟩, q⟩
  show Value.int ((its.toArray.toList.countP (eqS ⟨#[c]⟩) : Nat) : Int) s.toks = Value.int ((cs.count c : Nat) : Int) s.toks
  rw [ec]
def rIdxS (K : PySem.W.Frag) : V → List V → Hp → VK → Prop := fun x xs H Q => ∃ (p : Addr) (cs : List Nat) (c j : Nat), x = .ref p ∧ xs = [sg c] ∧ SqL K H p (cs.map sg) ∧ cs.findIdx? (· == c) = some j ∧ Q (.int (j : Nat)) H
theorem mt_indexS {K : PySem.W.Frag} (hK : X.K = K := by rfl) : MtR X "list.index" (rIdxS K) := by
  subst hK
  intro pins s σ H x xs v us Q I rx rxs h
  obtain ⟨p, cs, c, j, rfl, rfl, hs, hj, q⟩ := h
  obtain ⟨h1, h2, h3⟩ := List.findIdx?_eq_some_iff_getElem.mp hj
  refine mt_index pins s σ H _ _ v us Q I rx rxs ⟨p, cs.map sg, sg c, j, sg cs[j], rfl, rfl, hs, rfl, flat_sg cs, by rw [List.getElem?_map, List.getElem?_eq_getElem h1]; rfl, by rw [eqV_sg]; exact h2, fun m z' hm hz => ?_, q⟩
  rw [List.getElem?_map, List.getElem?_eq_getElem (by omega)] at hz
  cases hz
  rw [eqV_sg]
  simpa using h3 m hm
end
section
variable {K : PySem.W.Frag} {H : Hp} {Q : VK}
theorem rd_inC {p : Addr} {cs : List Nat} {c : Nat} (h : H p = some (.lst (cs.map sg))) (q : Q (.bl (decide (c ∈ cs))) H) : rIn K false (sg c) (.ref p) H Q :=
  ⟨p, _, rfl, Or.inl (SqL.of h), rfl, flat_sg cs, by
    rw [any_sg, if_neg Bool.false_ne_true]
    exact q⟩
/-- for c in a text -/
theorem for_txt {z : Str} {g : TG} {tb : TS} {D : Ends} {σ : L2.St} {H : Hp} (Pv : Nat → L2.St → Hp → Prop) (h0 : Pv 0 σ H)
    (hs : ∀ i c σ H, z.cps[i]? = some c → Pv i σ H → g (sg c) σ H fun σ2 H2 => tb { D with nx := Pv (i + 1), ct := Pv (i + 1), bk := D.nx } σ2 H2) (hd : ∀ σ H, Pv z.cps.size σ H → D.nx σ H) :
    ∃ W : Nat → Nat → L2.St → Hp → Prop, (∃ m, W 0 m σ H) ∧ ∀ i m σ H, W i m σ H →
      ((Its z).stop i H ∧ D.nx σ H) ∨ ((Its z).go i H ∧ ∃ N : L2.St → Hp → Prop, (∀ σ' H', N σ' H' → ∃ m', m' < m ∧ W (i + 1) m' σ' H') ∧ ∀ x H', (Its z).yld i H x H' → g x σ H' fun σ2 H2 => tb { D with nx := N, ct := N, bk := D.nx } σ2 H2) :=
  for_it walk_str Pv h0 (fun _ _ _ _ _ => True.intro) (fun i x σ H H' _ p y => by
    obtain ⟨rfl, c, hc, rfl⟩ := y
    exact hs i c σ H' hc p) hd
end
end LX

namespace LX
open PySem L2
def oI : Option Nat → V
  | none => .non
  | some j => .int (j : Nat)
theorem fi_some {cs : List Nat} {c i : Nat} (h : cs[i]? = some c) (n : ∀ m, m < i → cs[m]? ≠ some c) : cs.findIdx? (· == c) = some i := by
  obtain ⟨h1, h2⟩ := List.getElem?_eq_some_iff.mp h
  refine List.findIdx?_eq_some_iff_getElem.mpr ⟨h1, by rw [h2]; exact beq_self_eq_true c, fun m hm => ?_⟩
  have := n m hm
  rw [List.getElem?_eq_getElem (by omega)] at this
  simpa using this
theorem fi_none {cs : List Nat} {c : Nat} (n : ∀ m, m < cs.length → cs[m]? ≠ some c) : cs.findIdx? (· == c) = none := by
  rw [List.findIdx?_eq_none_iff]
  intro x hx
  obtain ⟨m, hm, rfl⟩ := List.mem_iff_getElem.mp hx
  have := n m hm
  rw [List.getElem?_eq_getElem hm] at this
  simpa using this
theorem fi_mem {cs : List Nat} {c : Nat} (h : c ∈ cs) : ∃ j, cs.findIdx? (· == c) = some j ∧ j < cs.length := by
  cases e : cs.findIdx? (· == c) with
  | none =>
    rw [List.findIdx?_eq_none_iff] at e
    have := e c h
    simp at this
  | some j => exact ⟨j, rfl, (List.findIdx?_eq_some_iff_getElem.mp e).1⟩
theorem fi_not {cs : List Nat} {c : Nat} (h : c ∉ cs) : cs.findIdx? (· == c) = none := by
  rw [List.findIdx?_eq_none_iff]
  intro x hx
  simp
  intro e
  exact h (e ▸ hx)
/-- the letters below x -/
def below (cs : List Nat) (x : Nat) : Nat := cs.countP (fun c => decide (c < x))
theorem below_succ (cs : List Nat) (x : Nat) : below cs (x + 1) = below cs x + cs.count x := by
  unfold below
  induction cs with
  | nil => rfl
  | cons c cs ih =>
    rw [List.countP_cons, List.countP_cons, List.count_cons, ih]
    by_cases h : c = x
    · subst h
      simp
      omega
    · have e : (c == x) = false := by simpa using h
      rw [e]
      by_cases h2 : c < x
      · rw [if_pos (by simp; omega), if_pos (by simpa using h2)]
        simp
        omega
      · rw [if_neg (by simp; omega), if_neg (by simpa using h2)]
        simp
theorem below_all {cs : List Nat} {x : Nat} (h : ∀ c ∈ cs, c < x) : below cs x = cs.length := by
  unfold below
  rw [List.countP_eq_length]
  intro c hc
  simpa using h c hc
theorem below_none {cs : List Nat} {x : Nat} (h : ∀ c ∈ cs, x ≤ c) : below cs x = 0 := by
  unfold below
  rw [List.countP_eq_zero]
  intro c hc
  have := h c hc
  simp
  omega
theorem rd_forEn {K : PySem.W.Frag} {σ : L2.St} {H : Hp} {ta : TA} {g : TG} {tb : TS} {D : Ends} (M : Addr → List V → Hp → Prop) (h1 : ∀ R : List V → Hp → Prop, (∀ b xs H1, M b xs H1 → R [.ref b] H1) → ta σ H R)
    (h2 : ∀ b xs H1, M b xs H1 → SqL K H1 b xs ∧ ∃ W : Nat → Nat → L2.St → Hp → Prop, (∃ m, W 0 m σ H1) ∧ ∀ i m σ H, W i m σ H →
      ((Ite K b).stop i H ∧ D.nx σ H) ∨ ((Ite K b).go i H ∧ ∃ N : L2.St → Hp → Prop, (∀ σ' H', N σ' H' → ∃ m', m' < m ∧ W (i + 1) m' σ' H') ∧ ∀ x H', (Ite K b).yld i H x H' → g x σ H' fun σ2 H2 => tb { D with nx := N, ct := N, bk := D.nx } σ2 H2)) :
    tFor (iEnum K ta) g tb D σ H := h1 _ fun b xs H1 m => ⟨b, xs, rfl, (h2 b xs H1 m).1, (h2 b xs H1 m).2⟩
theorem rd_teM2 {te : TE} {σ : L2.St} {H : Hp} {Q : VK} (M : VK) (h1 : ∀ R : VK, (∀ x H1, M x H1 → R x H1) → te σ H R) (h2 : ∀ x H1, M x H1 → Q x H1) : te σ H Q := h1 _ h2
end LX
/-! ### data and its shape; comprehensions that make tuples; a dict of letters -/
namespace LX
open PySem L2
theorem u1_of {n m : Nat} (h : n + 64 < m) : n + 1 < m := by omega
def qDictP (K : PySem.W.Frag) : List V → Hp → VK → Prop := fun xs H Q => ∃ (a : Addr) (ps : List Addr) (kvs : List (Key × V)), xs = [.ref a] ∧ SqL K H a (ps.map V.ref) ∧ Paired (fun p kv => SqT K H p [kV kv.1, kv.2]) ps kvs ∧
    ∀ p, H p = none → Q (.ref p) (upd H p (.dK (mergeK [] kvs)))
theorem kdictP {X : Cx} {K : PySem.W.Frag} (hc : X.calm = true) (h : X.K = K := by rfl) : CallR X (.type "dict") (qDictP K) := by
  subst h
  exact call_dictP hc
structure Sd (n : Nat) (d : PyData) : Prop where
  lay : d.canLay0 = true
  dep : d.depth ≤ n
theorem sd_all {n : Nat} : ∀ {xs : List PyData}, (∀ x ∈ xs, Sd n x) → PyData.canLayAll0 xs = true ∧ PyData.depthAll xs ≤ n
  | [], _ => by
    simp only [PyData.canLayAll0, PyData.depthAll]
    exact ⟨trivial, Nat.zero_le _⟩
  | x :: xs, h => by
    obtain ⟨a1, a2⟩ := h x List.mem_cons_self
    obtain ⟨b1, b2⟩ := sd_all fun y hy => h y (List.mem_cons_of_mem _ hy)
    simp only [PyData.canLayAll0, PyData.depthAll, a1, b1, Bool.and_self]
    exact ⟨trivial, by omega⟩
theorem Sd.list {n : Nat} {xs : List PyData} (h : ∀ x ∈ xs, Sd n x) : Sd (n + 1) (.list xs) := by
  obtain ⟨h1, h2⟩ := sd_all h
  exact ⟨by simp only [PyData.canLay0]; exact h1, by simp only [PyData.depth]; omega⟩
theorem Sd.tuple {n : Nat} {xs : List PyData} (h : ∀ x ∈ xs, Sd n x) : Sd (n + 1) (.tuple xs) := by
  obtain ⟨h1, h2⟩ := sd_all h
  exact ⟨by simp only [PyData.canLay0]; exact h1, by simp only [PyData.depth]; omega⟩
theorem Sd.mono {n m : Nat} {d : PyData} (h : Sd n d) (k : n ≤ m) : Sd m d := ⟨h.lay, Nat.le_trans h.dep k⟩
theorem Sd.none {n : Nat} : Sd n .none := ⟨by simp only [PyData.canLay0], by simp only [PyData.depth]; omega⟩
theorem Sd.int {n : Nat} {i : Int} : Sd n (.int i) := ⟨by simp only [PyData.canLay0], by simp only [PyData.depth]; omega⟩
theorem Sd.str {n : Nat} {cs : List Nat} (h : ∀ c ∈ cs, c ≤ 122) : Sd n (.str (txt cs)) := by
  refine ⟨?_, by simp only [PyData.depth]; omega⟩
  simp only [PyData.canLay0]
  show (cs.toArray).all (· < 0x110000) = true
  rw [List.all_toArray, List.all_eq_true]
  intro c hc
  have := h c hc
  simp
  omega
theorem Sd.shaped {n : Nat} {d : PyData} (h : Sd n d) (k : n ≤ 64) : SeqAt.shaped d = true := Bool.and_eq_true_iff.mpr ⟨h.lay, decide_eq_true (Nat.le_trans h.dep k)⟩
section
variable {K : PySem.W.Frag} {a D : Addr} {g : TG} {te : TE} {vs : List Nat} {σ : L2.St} {H1 : Hp} {Qd : Hp → Prop} {α : Type} {J : It} {n : Nat} {Y : Nat → Hp → V → Hp → Prop}
/-- a comprehension whose items are new tuples -/
theorem lc_mk {m : α → List V} {zs : List α} (w : Walk J n (fun H => Same H1 H) Y) (hn : zs.length = n) (hz : n ≤ 1000) (hD : H1 D = none)
    (hs : ∀ i e x H H', zs[i]? = some e → Same H1 H → Y i H x H' → ∀ (R : V → Hp → Prop), (∀ t H4, Same H H4 → H4 t = some (.tup (m e)) → R (.ref t) H4) → g x (wipe σ vs) H' fun σ2 H2 => wipe σ2 vs = wipe σ vs ∧ te σ2 H2 R)
    (hd : ∀ H' us, Same H1 H' → H' D = some (.lst (us.map V.ref)) → TsAt m H' us zs → Qd H') :
    ∃ W : Nat → Nat → Hp → Prop, (∃ m, W 0 m (upd H1 D (.lst []))) ∧ ∀ i m H, W i m H →
      (J.stop i H ∧ Qd H) ∨ (J.go i H ∧ ∃ Nx : Hp → Prop, (∀ H', Nx H' → ∃ m', m' < m ∧ W (i + 1) m' H') ∧ ∀ x H', J.yld i H x H' → g x (wipe σ vs) H' fun σ2 H2 => wipe σ2 vs = wipe σ vs ∧ tYes σ2 H2 fun b H3 =>
        if b = true then te σ2 H3 fun y H4 => ∃ acc, H4 D = some (.lst acc) ∧ acc.length < sizeLine ∧ Nx (upd H4 D (.lst (acc ++ [y]))) else Nx H3) := by
  refine lc_it (tt := tYes) w (fun i H => Same H1 H ∧ ∃ us : List Addr, H D = some (.lst (us.map V.ref)) ∧ TsAt m H us (zs.take i)) ⟨sNew hD, [], upd_same, True.intro⟩ (fun _ _ _ h => h.1) ?_ ?_
  · rintro i x H H' hi ⟨s, us, e, t⟩ y
    have hx : zs[i]? = some (zs[i]'(by omega)) := List.getElem?_eq_getElem _
    have ul := t.len
    rw [List.length_take] at ul
    refine hs i _ x H H' hx s y _ fun t4 H4 s4 ht4 => ⟨_, s4 _ _ e, small1000 (by rw [List.length_map]; omega), sUpd (s.trans s4) hD, us ++ [t4], by rw [upd_same, List.map_append]; rfl, ?_⟩
    have tD : t4 ≠ D := fun z => by
      rw [z, s4 _ _ e] at ht4
      cases ht4
    rw [take_of hx]
    exact ((t.mono (sTups s4)).off (s4 _ _ e)).snoc (by rw [upd_ne tD]; exact ht4)
  · rintro H ⟨s, us, e, t⟩
    rw [← hn, List.take_length] at t
    exact hd H us s e t
/-- a comprehension whose items are known values -/
theorem lc_mv {v : α → V} {zs : List α} (w : Walk J n (fun H => Same H1 H) Y) (hn : zs.length = n) (hz : n ≤ 1000) (hD : H1 D = none)
    (hs : ∀ i e x H H', zs[i]? = some e → Same H1 H → Y i H x H' → ∀ (R : V → Hp → Prop), (∀ H4, Same H H4 → R (v e) H4) → g x (wipe σ vs) H' fun σ2 H2 => wipe σ2 vs = wipe σ vs ∧ te σ2 H2 R)
    (hd : ∀ H', Same H1 H' → H' D = some (.lst (zs.map v)) → Qd H') :
    ∃ W : Nat → Nat → Hp → Prop, (∃ m, W 0 m (upd H1 D (.lst []))) ∧ ∀ i m H, W i m H →
      (J.stop i H ∧ Qd H) ∨ (J.go i H ∧ ∃ Nx : Hp → Prop, (∀ H', Nx H' → ∃ m', m' < m ∧ W (i + 1) m' H') ∧ ∀ x H', J.yld i H x H' → g x (wipe σ vs) H' fun σ2 H2 => wipe σ2 vs = wipe σ vs ∧ tYes σ2 H2 fun b H3 =>
        if b = true then te σ2 H3 fun y H4 => ∃ acc, H4 D = some (.lst acc) ∧ acc.length < sizeLine ∧ Nx (upd H4 D (.lst (acc ++ [y]))) else Nx H3) := by
  refine lc_it (tt := tYes) w (fun i H => Same H1 H ∧ H D = some (.lst ((zs.take i).map v))) ⟨sNew hD, upd_same⟩ (fun _ _ _ h => h.1) ?_ ?_
  · rintro i x H H' hi ⟨s, e⟩ y
    have hx : zs[i]? = some (zs[i]'(by omega)) := List.getElem?_eq_getElem _
    refine hs i _ x H H' hx s y _ fun H4 s4 => ⟨_, s4 _ _ e, small1000 (by rw [List.length_map, List.length_take]; omega), sUpd (s.trans s4) hD, ?_⟩
    rw [upd_same, take_of hx, List.map_append]
    rfl
  · rintro H ⟨s, e⟩
    rw [← hn, List.take_length] at e
    exact hd H s e
theorem wk_txt {z : Str} : Walk (Its z) z.cps.size (fun H => Same H1 H) (fun i H v H' => H' = H ∧ ∃ c, z.cps[i]? = some c ∧ v = .str ⟨#[c]⟩) := walk_str.mono (fun _ _ => True.intro) fun _ _ _ _ _ _ y => y
theorem wk_list {xs : List V} (ha : H1 a = some (.lst xs)) : Walk (Itl K a) xs.length (fun H => Same H1 H) (YAt xs) := walk_list.mono (fun _ s => SqL.of (s _ _ ha)) fun _ _ _ _ _ _ y => y
end
/-- a dict from letters to letters -/
def NmAt (H : Hp) (N : Addr) (f : Nat → Nat) : Prop := ∃ kvs : List (Key × V), H N = some (.dK kvs) ∧ ∀ c, 97 ≤ c → c ≤ 122 → valV kvs (.inr ⟨#[c]⟩) = some (sg (f c))
theorem NmAt.same {H H' : Hp} {N : Addr} {f : Nat → Nat} (h : NmAt H N f) (s : Same H H') : NmAt H' N f :=
  let ⟨k, h1, h2⟩ := h
  ⟨k, s _ _ h1, h2⟩
theorem NmAt.get {H : Hp} {N : Addr} {f : Nat → Nat} (h : NmAt H N f) {c : Nat} (c0 : 97 ≤ c) (c1 : c ≤ 122) : DGet H N (sg c) (some (sg (f c))) := by
  obtain ⟨k, h1, h2⟩ := h
  rw [← h2 c c0 c1]
  exact DGet.k (k := .inr ⟨#[c]⟩) h1
theorem rd_nm {td ty : TE} {σ : L2.St} {H : Hp} {Q : VK} (q : td σ H fun x H1 => ty σ H1 fun y H2 => ∃ a v, x = .ref a ∧ DGet H2 a y (some v) ∧ Q v H2) : tDGet td ty σ H Q := q
theorem merge_other {k : Key} : ∀ {l : List (Key × V)} {acc : List (Key × V)}, (∀ e ∈ l, e.1 ≠ k) → valV (mergeK acc l) k = valV acc k
  | [], _, _ => rfl
  | e :: l, acc, h => by
    show valV (mergeK (L2.putK acc e.1 e.2) l) k = _
    rw [merge_other fun e he => h e (List.mem_cons_of_mem _ he), valV_put, if_neg fun z => h e List.mem_cons_self z.symm]
theorem merge_at : ∀ {l : List (Key × V)} {acc : List (Key × V)} {i : Nat} {e : Key × V}, (l.map (·.1)).Nodup → l[i]? = some e → valV (mergeK acc l) e.1 = some e.2
  | [], _, i, e, _, h => by simp at h
  | d :: l, acc, 0, e, nd, h => by
    have e1 : d = e := by simpa using h
    subst e1
    show valV (mergeK (L2.putK acc d.1 d.2) l) d.1 = _
    rw [List.map_cons, List.nodup_cons] at nd
    refine (merge_other (k := d.1) fun x hx z => nd.1 ?_).trans ?_
    · rw [← z]
      exact List.mem_map_of_mem (f := fun x : Key × V => x.1) hx
    · rw [valV_put, if_pos rfl]
  | d :: l, acc, i + 1, e, nd, h => by
    rw [List.map_cons, List.nodup_cons] at nd
    exact merge_at (l := l) nd.2 (by simpa using h)
theorem rd_iS {te : TE} {σ : L2.St} {H : Hp} {R : It → Hp → Prop} (q : te σ H fun v H1 => ∃ x, v = .str x ∧ R (Its x) H1) : iStr te σ H R := q
abbrev abcZ : Str := Str.ofString "abcdefghijklmnopqrstuvwxyz"
abbrev abcN : List Nat := (List.range 26).map (97 + ·)
theorem abcZ_eq : abcZ.cps.toList = abcN := by decide
theorem abcN_at {i c : Nat} (h : abcN[i]? = some c) : c = 97 + i ∧ i < 26 := by
  rw [List.getElem?_map] at h
  obtain ⟨n, h1, h2⟩ := Option.map_eq_some_iff.mp h
  have hi : i < 26 := by
    have := (List.getElem?_eq_some_iff.mp h1).1
    rwa [List.length_range] at this
  rw [List.getElem?_range hi] at h1
  cases h1
  exact ⟨h2.symm, hi⟩
theorem abcZ_at {i c : Nat} (h : abcZ.cps[i]? = some c) : c = 97 + i ∧ i < 26 := by
  refine abcN_at ?_
  rw [← abcZ_eq]
  simpa using h
theorem mem_abcN {c : Nat} : c ∈ abcN ↔ 97 ≤ c ∧ c ≤ 122 := by
  rw [List.mem_map]
  constructor
  · rintro ⟨n, hn, rfl⟩
    rw [List.mem_range] at hn
    omega
  · intro h
    exact ⟨c - 97, by rw [List.mem_range]; omega, by omega⟩
theorem dp_app {K : PySem.W.Frag} {H : Hp} : ∀ {xs ys : List V} {ds es : List PyData}, DpAll K H xs ds → DpAll K H ys es → DpAll K H (xs ++ ys) (ds ++ es)
  | [], _, [], _, _, h => h
  | _ :: _, _, _ :: _, _, .cons h k, h2 => .cons h (dp_app k h2)
  | [], _, _ :: _, _, h, _ => by cases h
  | _ :: _, _, [], _, h, _ => by cases h
def dOI : Option Nat → PyData
  | none => .none
  | some j => .int (j : Nat)
theorem dp_oI {K : PySem.W.Frag} {H : Hp} (o : Option Nat) : Dp K H (oI o) (dOI o) := by
  cases o with
  | none => exact .non
  | some j => exact .int _
theorem Sd.oI {n : Nat} (o : Option Nat) : Sd n (dOI o) := by
  cases o with
  | none => exact Sd.none
  | some j => exact Sd.int
theorem Sd.opt {n : Nat} {o : Option Nat} (h : ∀ c, o = some c → c ≤ 122) : Sd n (dO o) := by
  cases o with
  | none => exact Sd.none
  | some c =>
    exact Sd.str (cs := [c]) fun d hd => by
      rw [List.mem_singleton] at hd
      rw [hd]
      exact h c rfl
abbrev dRuns (rs : List (Nat × Nat)) : PyData := .list (rs.map fun e => .tuple (dPC e))
theorem Sd.runs {rs : List (Nat × Nat)} (h : ∀ e ∈ rs, e.1 ≤ 122) : Sd 2 (dRuns rs) := by
  refine Sd.list fun x hx => ?_
  obtain ⟨e, he, rfl⟩ := List.mem_map.mp hx
  refine Sd.tuple fun y hy => ?_
  rcases List.mem_cons.mp hy with c | c
  · rw [c]
    exact Sd.str (cs := [e.1]) fun d hd => by
      rw [List.mem_singleton] at hd
      rw [hd]
      exact h e he
  · rw [List.mem_singleton.mp c]
    exact Sd.int
theorem runs_fst (cs : List Nat) : ∀ e ∈ runs cs, e.1 ∈ cs := by
  have go : ∀ k, k ≤ cs.length → ∀ e ∈ runs (cs.take k), e.1 ∈ cs := by
    intro k
    induction k with
    | zero => intro _ e he; cases he
    | succ k ih =>
      intro hk e he
      have hx : cs[k]? = some cs[k] := List.getElem?_eq_getElem (by omega)
      rw [take_of hx, runs_snoc] at he
      have mem : cs[k] ∈ cs := List.getElem_mem _
      have ih := ih (by omega)
      unfold rsn at he
      cases q : (LX.runs (cs.take k)).getLast? with
      | none =>
        rw [q] at he
        rcases List.mem_append.mp he with h | h
        · exact ih e h
        · rw [List.mem_singleton.mp h]
          exact mem
      | some y =>
        obtain ⟨y, m⟩ := y
        rw [q] at he
        dsimp only at he
        by_cases c : y = cs[k]
        · rw [if_pos c] at he
          rcases List.mem_or_eq_of_mem_set he with h | h
          · exact ih e h
          · rw [h]
            exact mem
        · rw [if_neg c] at he
          rcases List.mem_append.mp he with h | h
          · exact ih e h
          · rw [List.mem_singleton.mp h]
            exact mem
  have := go cs.length (Nat.le_refl _)
  rw [List.take_length] at this
  exact this
/-- all that is asked of a lineup, by its colors -/
abbrev dRes (cs : List Nat) : PyData := .list ([.str (txt [cs.headD 0]), dO ((cs.filter fun d => d != cs.headD 0).head?), dRuns (runs cs), .str (txt (firstsOf cs))] ++ abcN.map fun c => .tuple [.int (cs.count c : Nat), dOI (cs.findIdx? (· == c))])
theorem sd_res {cs : List Nat} (h : ∀ c ∈ cs, c ≤ 122) (ne : cs ≠ []) : Sd 3 (dRes cs) := by
  have h0 : cs.headD 0 ≤ 122 := by
    cases cs with
    | nil => exact absurd rfl ne
    | cons c cs => exact h c List.mem_cons_self
  refine Sd.list fun x hx => ?_
  rcases List.mem_append.mp hx with hx | hx
  · rcases List.mem_cons.mp hx with rfl | hx
    · exact Sd.str fun d hd => by
        rw [List.mem_singleton] at hd
        rw [hd]
        exact h0
    rcases List.mem_cons.mp hx with rfl | hx
    · exact Sd.opt fun c e => h c (List.mem_filter.mp (List.mem_of_head? e)).1
    rcases List.mem_cons.mp hx with rfl | hx
    · exact Sd.runs fun e he => h _ (runs_fst cs e he)
    rw [List.mem_singleton.mp hx]
    exact Sd.str fun d hd => h d (mem_firsts.mp hd)
  · obtain ⟨c, _, rfl⟩ := List.mem_map.mp hx
    refine (Sd.tuple (n := 0) fun y hy => ?_).mono (by decide)
    rcases List.mem_cons.mp hy with c | c
    · rw [c]
      exact Sd.int
    · rw [List.mem_singleton.mp c]
      exact Sd.oI _
theorem paired_at {α β : Type} {R : α → β → Prop} : ∀ {xs : List α} {ys : List β}, xs.length = ys.length → (∀ (j : Nat) (x : α) (y : β), xs[j]? = some x → ys[j]? = some y → R x y) → Paired R xs ys
  | [], [], _, _ => .nil
  | x :: xs, y :: ys, h, k => .cons (k 0 x y rfl rfl) (paired_at (by simpa using h) fun j a b ha hb => k (j + 1) a b (by simpa using ha) (by simpa using hb))
  | [], _ :: _, h, _ => by simp at h
  | _ :: _, [], h, _ => by simp at h
theorem merge_some (k : Key) : ∀ (l acc : List (Key × V)), (valV (mergeK acc l) k).isSome = ((valV acc k).isSome || l.any fun e => decide (e.1 = k))
  | [], acc => by simp [mergeK]
  | e :: l, acc => by
    show (valV (mergeK (L2.putK acc e.1 e.2) l) k).isSome = _
    rw [merge_some k l, valV_put, List.any_cons]
    by_cases c : k = e.1
    · rw [if_pos c, decide_eq_true c.symm]
      simp
    · rw [if_neg c, decide_eq_false fun z => c z.symm]
      simp
theorem rd_din {ty td : TE} {σ : L2.St} {H : Hp} {Q : VK} (q : ty σ H fun y H1 => td σ H1 fun x H2 => ∃ a o, x = .ref a ∧ DGet H2 a y o ∧ Q (.bl o.isSome) H2) : tDIn ty td σ H Q := q
end LX

namespace LX
open PySem L2
section
variable {K : PySem.W.Frag} {a D : Addr} {g : TG} {tt : TT} {te : TE} {vs : List Nat} {σ : L2.St} {H1 : Hp} {Qd : Hp → Prop} {J : It} {n : Nat} {Y : Nat → Hp → V → Hp → Prop}
/-- a comprehension with a test, its items known by their numbers -/
theorem lc_f (w : Walk J n (fun H => Same H1 H) Y) (f : Nat → Option V) (hD : H1 D = none) (hz : n ≤ 1000)
    (hs : ∀ i x H H', i < n → Same H1 H → Y i H x H' → ∀ (T : V → Hp → Prop) (F : Hp → Prop), (∀ y H4, f i = some y → Same H H4 → T y H4) → (∀ H4, f i = none → Same H H4 → F H4) →
      g x (wipe σ vs) H' fun σ2 H2 => wipe σ2 vs = wipe σ vs ∧ tt σ2 H2 fun b H3 => if b = true then te σ2 H3 T else F H3)
    (hd : ∀ H', Same H1 H' → H' D = some (.lst ((List.range n).filterMap f)) → Qd H') :
    ∃ W : Nat → Nat → Hp → Prop, (∃ m, W 0 m (upd H1 D (.lst []))) ∧ ∀ i m H, W i m H →
      (J.stop i H ∧ Qd H) ∨ (J.go i H ∧ ∃ Nx : Hp → Prop, (∀ H', Nx H' → ∃ m', m' < m ∧ W (i + 1) m' H') ∧ ∀ x H', J.yld i H x H' → g x (wipe σ vs) H' fun σ2 H2 => wipe σ2 vs = wipe σ vs ∧ tt σ2 H2 fun b H3 =>
        if b = true then te σ2 H3 fun y H4 => ∃ acc, H4 D = some (.lst acc) ∧ acc.length < sizeLine ∧ Nx (upd H4 D (.lst (acc ++ [y]))) else Nx H3) := by
  refine lc_it w (fun i H => Same H1 H ∧ H D = some (.lst ((List.range i).filterMap f))) ⟨sNew hD, upd_same⟩ (fun _ _ _ h => h.1) ?_ ?_
  · rintro i x H H' hi ⟨s, e⟩ y
    have ln : ((List.range i).filterMap f).length ≤ i := by
      have := List.length_filterMap_le f (List.range i)
      rw [List.length_range] at this
      exact this
    refine hs i x H H' hi s y _ _ (fun v H4 hv s4 => ⟨_, s4 _ _ e, small1000 (by omega), sUpd (s.trans s4) hD, ?_⟩) fun H4 hv s4 => ⟨s.trans s4, ?_⟩
    · rw [upd_same, List.range_succ, List.filterMap_append, List.filterMap_cons_some hv]
      rfl
    · rw [s4 _ _ e, List.range_succ, List.filterMap_append, List.filterMap_cons_none hv]
      show _ = some (HO.lst (_ ++ []))
      rw [List.append_nil]
  · rintro H ⟨s, e⟩
    exact hd H s e
theorem wk_enum {xs : List V} (ha : H1 a = some (.lst xs)) : Walk (Ite K a) xs.length (fun H => Same H1 H) (YPair (fun i => some (.int (i : Nat))) (fun i => xs[i]?)) := walk_enum.mono (fun _ s => SqL.of (s _ _ ha)) fun _ _ _ _ _ _ y => y
theorem wk_range {lo : Int} {n : Nat} : Walk (Itr lo n) n (fun H => Same H1 H) (YFn fun i => .int (lo + i)) := walk_range.mono (fun _ _ => True.intro) fun _ _ _ _ _ _ y => y
theorem rd_iEn {ta : TA} {H : Hp} {R : It → Hp → Prop} (q : ta σ H fun vs H1 => ∃ a xs, vs = [.ref a] ∧ SqL K H1 a xs ∧ R (Ite K a) H1) : iEnum K ta σ H R := q
end
theorem rd_inTx {H : Hp} {Q : VK} {c : Nat} {cs : List Nat} (q : Q (.bl (decide (c ∈ cs))) H) : rInT false (sg c) (.str (txt cs)) H Q :=
  ⟨c, _, rfl, rfl, q⟩
theorem rd_notInTx {H : Hp} {Q : VK} {c : Nat} {cs : List Nat} (q : Q (.bl (!decide (c ∈ cs))) H) : rInT true (sg c) (.str (txt cs)) H Q :=
  ⟨c, _, rfl, rfl, q⟩
theorem len_txt (cs : List Nat) : (txt cs).length = cs.length := rfl
end LX
namespace LX
open PySem L2
theorem rd_forR2 {σ : L2.St} {H : Hp} {ta : TA} {g : TG} {tb : TS} {D : Ends} (lo hi : Int) (b1 : -(2 ^ 62) ≤ lo) (b2 : lo < 2 ^ 62) (b3 : -(2 ^ 62) ≤ hi) (b4 : hi < 2 ^ 62) (M : Hp → Prop) (h1 : ∀ R : List V → Hp → Prop, (∀ H1, M H1 → R [.int lo, .int hi] H1) → ta σ H R)
    (h2 : ∀ H1, M H1 → ∃ W : Nat → Nat → L2.St → Hp → Prop, (∃ m, W 0 m σ H1) ∧ ∀ i m σ H, W i m σ H →
      ((Itr lo (hi - lo).toNat).stop i H ∧ D.nx σ H) ∨ ((Itr lo (hi - lo).toNat).go i H ∧ ∃ N : L2.St → Hp → Prop, (∀ σ' H', N σ' H' → ∃ m', m' < m ∧ W (i + 1) m' σ' H') ∧ ∀ x H', (Itr lo (hi - lo).toNat).yld i H x H' → g x σ H' fun σ2 H2 => tb { D with nx := N, ct := N, bk := D.nx } σ2 H2)) :
    tFor (iRng2 ta) g tb D σ H := h1 _ fun H1 m => ⟨lo, hi, rfl, ⟨b1, b2, b3, b4⟩, h2 H1 m⟩
end LX
namespace LX
open PySem L2
section
variable {K : PySem.W.Frag} {a D : Addr} {g : TG} {tt : TT} {te : TE} {vs : List Nat} {σ : L2.St} {H1 : Hp} {Qd : Hp → Prop}
/-- a comprehension over any walk whose items are new tuples (made from some of zs) -/
theorem lc_mkf {J : It} {n : Nat} {Y : Nat → Hp → V → Hp → Prop} {α β : Type} {m : β → List V} {zs : List α} (w : Walk J n (fun H => Same H1 H) Y) (f : α → Option β) (hn : zs.length = n) (hz : n ≤ 1000) (hD : H1 D = none)
    (hs : ∀ i e x H H', zs[i]? = some e → Same H1 H → Y i H x H' → ∀ (T : V → Hp → Prop) (F : Hp → Prop), (∀ t b H4, f e = some b → Same H H4 → H4 t = some (.tup (m b)) → T (.ref t) H4) → (∀ H4, f e = none → Same H H4 → F H4) →
      g x (wipe σ vs) H' fun σ2 H2 => wipe σ2 vs = wipe σ vs ∧ tt σ2 H2 fun b H3 => if b = true then te σ2 H3 T else F H3)
    (hd : ∀ H' us, Same H1 H' → H' D = some (.lst (us.map V.ref)) → TsAt m H' us (zs.filterMap f) → Qd H') :
    ∃ W : Nat → Nat → Hp → Prop, (∃ m, W 0 m (upd H1 D (.lst []))) ∧ ∀ i m H, W i m H →
      (J.stop i H ∧ Qd H) ∨ (J.go i H ∧ ∃ Nx : Hp → Prop, (∀ H', Nx H' → ∃ m', m' < m ∧ W (i + 1) m' H') ∧ ∀ x H', J.yld i H x H' → g x (wipe σ vs) H' fun σ2 H2 => wipe σ2 vs = wipe σ vs ∧ tt σ2 H2 fun b H3 =>
        if b = true then te σ2 H3 fun y H4 => ∃ acc, H4 D = some (.lst acc) ∧ acc.length < sizeLine ∧ Nx (upd H4 D (.lst (acc ++ [y]))) else Nx H3) := by
  refine lc_it w (fun i H => Same H1 H ∧ ∃ us : List Addr, H D = some (.lst (us.map V.ref)) ∧ TsAt m H us ((zs.take i).filterMap f)) ⟨sNew hD, [], upd_same, True.intro⟩ (fun _ _ _ h => h.1) ?_ ?_
  · rintro i x H H' hi ⟨s, us, e, t⟩ y
    have hx : zs[i]? = some (zs[i]'(by omega)) := List.getElem?_eq_getElem _
    have ul := t.len
    have fl := List.length_filterMap_le f (zs.take i)
    rw [List.length_take] at fl
    refine hs i _ x H H' hx s y _ _ (fun t4 b H4 hb s4 ht4 => ⟨_, s4 _ _ e, small1000 (by rw [List.length_map]; omega), sUpd (s.trans s4) hD, us ++ [t4], by rw [upd_same, List.map_append]; rfl, ?_⟩) fun H4 hb s4 => ⟨s.trans s4, us, s4 _ _ e, ?_⟩
    · have tD : t4 ≠ D := fun z => by
        rw [z, s4 _ _ e] at ht4
        cases ht4
      rw [take_of hx, List.filterMap_append, List.filterMap_cons_some hb]
      exact ((t.mono (sTups s4)).off (s4 _ _ e)).snoc (by rw [upd_ne tD]; exact ht4)
    · rw [take_of hx, List.filterMap_append, List.filterMap_cons_none hb]
      show TsAt m H4 us (_ ++ [])
      rw [List.append_nil]
      exact t.mono (sTups s4)
  · rintro H ⟨s, us, e, t⟩
    rw [← hn, List.take_length] at t
    exact hd H us s e t
end
theorem fm_filt {α : Type} (p : α → Bool) : ∀ l : List α, l.filterMap (fun e => if p e = true then some e else none) = l.filter p
  | [] => rfl
  | x :: l => by
    have ih := fm_filt p l
    cases q : p x with
    | true =>
      rw [List.filter_cons_of_pos q, ← ih]
      exact List.filterMap_cons_some (by rw [if_pos q])
    | false =>
      rw [List.filter_cons_of_neg (by rw [q]; exact Bool.false_ne_true), ← ih]
      exact List.filterMap_cons_none (by rw [if_neg (by rw [q]; exact Bool.false_ne_true)])
end LX

namespace LX
open PySem L2
theorem Vr.by_perm {r r' : Row} (V0 : Vr r) (p : r'.Perm r) : Vr r' := by
  have l := p.length_eq
  exact ⟨by rw [l]; exact V0.n1, by rw [l]; exact V0.n2, fun e he => V0.col e (p.mem_iff.mp he), by rw [l]; exact (p.map _).trans V0.perm⟩
theorem TupsAt.rev' {H : Hp} : ∀ {ts : List Addr} {r : Row}, TupsAt H ts r → TupsAt H ts.reverse r.reverse
  | [], [], h => h
  | t :: ts, e :: r, h => by
    rw [List.reverse_cons, List.reverse_cons]
    exact (TupsAt.rev' (ts := ts) (r := r) h.2).app (TupsAt.one h.1)
  | [], _ :: _, h => h.elim
  | _ :: _, [], h => h.elim
/-- the bag, the lineup and the calls, three objects -/
structure Ew (H : Hp) (p l c : Addr) (r : Row) (cs : List Nat) (b : Nat) : Prop where
  S : SrcN H p b
  R : RowAt H l r
  V : Vr r
  gc : H c = some (.lst (cs.map vN))
  hcs : ∀ q ∈ cs, q < r.length
  ncp : c ≠ p
  nlc : l ≠ c
/-- all but these three stay -/
def Off3 (p l c : Addr) (H H' : Hp) : Prop := ∀ b o, H b = some o → b ≠ p → b ≠ l → b ≠ c → H' b = some o
theorem Off3.refl {p l c : Addr} {H : Hp} : Off3 p l c H H := fun _ _ e _ _ _ => e
theorem Off3.same {p l c : Addr} {H H1 H2 : Hp} (a : Off3 p l c H H1) (s : Same H1 H2) : Off3 p l c H H2 := fun x o e n1 n2 n3 => s _ _ (a x o e n1 n2 n3)
theorem Off3.draw {p l c : Addr} {H H1 H2 : Hp} (a : Off3 p l c H H1) (f : ∀ x, x ≠ p → H2 x = H1 x) : Off3 p l c H H2 := fun x o e n1 n2 n3 => by
  rw [f x n1]
  exact a x o e n1 n2 n3
theorem Off3.setc {p l c : Addr} {H H1 : Hp} {o : HO} (a : Off3 p l c H H1) : Off3 p l c H (upd H1 c o) := fun x o e n1 n2 n3 => by
  rw [upd_ne n3]
  exact a x o e n1 n2 n3
theorem Off3.setl {p l c : Addr} {H H1 : Hp} {o : HO} (a : Off3 p l c H H1) : Off3 p l c H (upd H1 l o) := fun x o e n1 n2 n3 => by
  rw [upd_ne n2]
  exact a x o e n1 n2 n3
section
variable {H H' : Hp} {p l c : Addr} {r : Row} {cs : List Nat} {b b' : Nat}
theorem srcLst (S : SrcN H p b) : ∃ xs, H p = some (.lst xs) ∧ xs.length = 3 ∧ ∀ x ∈ xs, ∃ i, x = V.int i := by
  obtain ⟨s0, s1, s2, e, _⟩ := S.ex
  refine ⟨_, e, rfl, fun x hx => ?_⟩
  rcases List.mem_cons.mp hx with z | hx
  · exact ⟨_, z⟩
  rcases List.mem_cons.mp hx with z | hx
  · exact ⟨_, z⟩
  · exact ⟨_, List.mem_singleton.mp hx⟩
theorem row_ne_src (S : SrcN H p b) (h : RowAt H l r) : l ≠ p := fun z => by
  obtain ⟨s0, s1, s2, e, _⟩ := S.ex
  obtain ⟨ts, h1, _⟩ := h
  rw [z, e] at h1
  injection h1 with h1
  injection h1 with h1
  cases ts with
  | nil => cases h1
  | cons t ts => cases h1
theorem RowAt.off' {xs : List V} {o : HO} {q : Addr} (h : RowAt H l r) (hq : H q = some (.lst xs)) (n : l ≠ q) : RowAt (upd H q o) l r := by
  obtain ⟨ts, h1, h2⟩ := h
  refine ⟨ts, by rw [upd_ne n]; exact h1, h2.mono fun x ys e => ?_⟩
  rw [upd_ne fun z => by rw [z, hq] at e; cases e]
  exact e
theorem Ew.nlp (E : Ew H p l c r cs b) : l ≠ p := row_ne_src E.S E.R
theorem Ew.same (E : Ew H p l c r cs b) (s : Same H H') : Ew H' p l c r cs b := ⟨E.S.same s, E.R.same s, E.V, s _ _ E.gc, E.hcs, E.ncp, E.nlc⟩
theorem Ew.draw (E : Ew H p l c r cs b) (S : SrcN H' p b') (f : ∀ x, x ≠ p → H' x = H x) : Ew H' p l c r cs b' := by
  obtain ⟨xs, hp, _⟩ := srcLst E.S
  have nlp := E.nlp
  refine ⟨S, ?_, E.V, by rw [f c E.ncp]; exact E.gc, E.hcs, E.ncp, E.nlc⟩
  obtain ⟨ts, h1, h2⟩ := E.R
  refine ⟨ts, by rw [f l nlp]; exact h1, h2.mono fun x ys e => ?_⟩
  rw [f x fun z => by rw [z, hp] at e; cases e]
  exact e
theorem Ew.setc (E : Ew H p l c r cs b) {cs' : List Nat} (h : ∀ q ∈ cs', q < r.length) {xs : List L2.V} (hx : xs = cs'.map vN) : Ew (upd H c (.lst xs)) p l c r cs' b := by
  subst hx
  obtain ⟨s0, s1, s2, e, h1, h2⟩ := E.S.ex
  exact ⟨⟨s0, s1, s2, by rw [upd_ne (Ne.symm E.ncp)]; exact e, h1, h2⟩, E.R.off' E.gc E.nlc, E.V, upd_same, h, E.ncp, E.nlc⟩
theorem Ew.setl (E : Ew H p l c r cs b) {r' : Row} {ts' : List Addr} (ht : TupsAt H ts' r') (hp : r'.Perm r) {xs : List L2.V} (hx : xs = ts'.map V.ref) : Ew (upd H l (.lst xs)) p l c r' cs b := by
  subst hx
  obtain ⟨ts, h1, h2⟩ := E.R
  obtain ⟨s0, s1, s2, e, h3, h4⟩ := E.S.ex
  have nlp := E.nlp
  refine ⟨⟨s0, s1, s2, by rw [upd_ne nlp.symm]; exact e, h3, h4⟩, ⟨ts', upd_same, ht.mono fun x ys e => ?_⟩, E.V.by_perm hp, by rw [upd_ne E.nlc.symm]; exact E.gc, by rw [hp.length_eq]; exact E.hcs, E.ncp, E.nlc⟩
  rw [upd_ne fun z => by rw [z, h1] at e; cases e]
  exact e
end
abbrev dC (cs : List Nat) : PyData := dI (cs.map fun c : Nat => (c : Int))
section
variable {K : PySem.W.Frag}
theorem dp_cs {H : Hp} {c : Addr} {cs : List Nat} (h : H c = some (.lst (cs.map vN))) : Dp K H (.ref c) (dC cs) := .lst (SqL.of h) (by
  have := dp_ints (K := K) (H := H) (cs.map fun c : Nat => (c : Int))
  rw [List.map_map] at this
  exact this)
abbrev d0 (r : Row) (cs : List Nat) : PyData := .list [dR r, dC cs]
theorem sh_dC {n : Nat} {cs : List Nat} (hn : n ≤ 60) (hcs : ∀ p ∈ cs, p < n) (hz : cs.length ≤ 240) : Sh 13 1 10000 (dC cs) := by
  have h := Sh.list (B := 13) (n := 0) (m := 40) (xs := (cs.map fun c : Nat => (c : Int)).map PyData.int) fun x hx => by
    obtain ⟨i, hi, rfl⟩ := List.mem_map.mp hx
    obtain ⟨q, hq, rfl⟩ := List.mem_map.mp hi
    refine Sh.int ?_
    have := hcs q hq
    have e : (10 : Nat) ^ 12 = 1000000000000 := by decide
    omega
  refine h.mono (by decide) ?_
  rw [List.length_map, List.length_map]
  omega
theorem sh_d0 {r : Row} {cs : List Nat} (V0 : Vr r) (hcs : ∀ p ∈ cs, p < r.length) (hz : cs.length ≤ 240) : Sh 13 3 30000 (d0 r cs) := by
  refine (Sh.list (n := 2) (m := 10000) fun x hx => ?_).mono (Nat.le_refl _) (show 2 * 10001 ≤ 30000 by decide)
  rcases List.mem_cons.mp hx with z | z
  · rw [z]
    exact (sh_row V0).mono (by decide) (by decide)
  · rw [List.mem_singleton.mp z]
    exact (sh_dC V0.n2 hcs hz).mono (by decide) (Nat.le_refl _)
theorem dp_d0 {H : Hp} {N l c : Addr} {r : Row} {cs : List Nat} (h : H N = some (.lst [.ref l, .ref c])) (h1 : RowAt H l r) (h2 : H c = some (.lst (cs.map vN))) : Dp K H (.ref N) (d0 r cs) :=
  .lst (SqL.of h) (.cons h1.dp (.cons (dp_cs h2) .nil))
/-- repr([lineup, calls]) -/
theorem rd_reprE {H : Hp} {Q : VK} {N p l c : Addr} {r : Row} {cs : List Nat} {b : Nat} (E : Ew H p l c r cs b) (hz : cs.length ≤ 240) (h : H N = some (.lst [.ref l, .ref c])) (q : Q (.str (d0 r cs).shown) H) : qRepr K [.ref N] H Q :=
  rd_repr (dp_d0 h E.R E.gc) (sh_d0 E.V E.hcs hz) (by decide) (by decide) q
end
end LX
namespace LX
open PySem L2
theorem _root_.L2.Same.draw {H0 H1 H2 : Hp} {p : Addr} (s : Same H0 H1) (hp : H0 p = none) (f : ∀ x, x ≠ p → H2 x = H1 x) : Same H0 H2 := fun x o e => by
  rw [f x (ne_of_none e hp)]
  exact s _ _ e
theorem _root_.L2.Same.off' {H0 H1 H2 : Hp} {p : Addr} (s : Same H0 H1) (hp : H0 p = none) (f : Same' p H1 H2) : Same H0 H2 := fun x o e => f _ _ (s _ _ e) (ne_of_none e hp)
theorem Ew.off {H : Hp} {p l c q : Addr} {r : Row} {cs : List Nat} {b : Nat} {xs : List L2.V} {o : HO} (E : Ew H p l c r cs b) (hq : H q = some (.lst xs)) (n1 : q ≠ p) (n2 : l ≠ q) (n3 : c ≠ q) : Ew (upd H q o) p l c r cs b := by
  obtain ⟨s0, s1, s2, e, h3, h4⟩ := E.S.ex
  exact ⟨⟨s0, s1, s2, by rw [upd_ne n1.symm]; exact e, h3, h4⟩, E.R.off' hq n2, E.V, by rw [upd_ne n3]; exact E.gc, E.hcs, E.ncp, E.nlc⟩
theorem Ew.le {H : Hp} {p l c : Addr} {r : Row} {cs : List Nat} {b b' : Nat} (E : Ew H p l c r cs b) (h : b ≤ b') : Ew H p l c r cs b' := ⟨E.S.mono h, E.R, E.V, E.gc, E.hcs, E.ncp, E.nlc⟩
end LX

namespace LX
open PySem L2
theorem pickI3 (a b c : Int) {j : Int} (h0 : 0 ≤ j) (h1 : j < 3) : ∃ x : Int, atI [V.int a, V.int b, V.int c] j = some (.int x) ∧ (x = a ∨ x = b ∨ x = c) := by
  have : j = 0 ∨ j = 1 ∨ j = 2 := by omega
  rcases this with e | e | e
  · subst e
    exact ⟨a, rfl, Or.inl rfl⟩
  · subst e
    exact ⟨b, rfl, Or.inr (Or.inl rfl)⟩
  · subst e
    exact ⟨c, rfl, Or.inr (Or.inr rfl)⟩
theorem rd_slI {K : PySem.W.Frag} {H : Hp} {Q : VK} {l : Addr} {ns : List Int} {lo hi : Option Int} (hS : Scr K H l ns) (q : ∀ b (ms : List Int), H b = none → ms.length ≤ ns.length → Q (.ref b) (upd H b (.lst (ms.map V.int)))) : rSlL K (.ref l) lo hi H Q := by
  obtain ⟨ms, e1, e2⟩ := cut_ints ns lo hi
  exact ⟨l, _, rfl, hS.seq, fun b hb => by rw [e1]; exact q b ms hb e2⟩
end LX

namespace K74
open PySem L2 LX
def top (i : Nat) : Stmt := PySem.Challenge.pw_lastother_k74_whole_sides_by_counting_ca.main.body.getD i (.Pass ⟨0, 0, 0, 0⟩)
abbrev s__law_bag : Stmt := top 25
abbrev s__law_draw : Stmt := top 26
abbrev s__law_lineup : Stmt := top 27
abbrev s__law_calls : Stmt := top 28
abbrev s_is_integer : Stmt := top 5
abbrev s_is_color : Stmt := top 6
abbrev s_is_colored_integer : Stmt := top 11
abbrev s_is_lineup : Stmt := top 9
abbrev s_check_lineup : Stmt := top 10
abbrev s_is_person : Stmt := top 17
abbrev s_check_calls : Stmt := top 18
abbrev s_first_other_color : Stmt := top 12
abbrev s_colors_by_person : Stmt := top 13
abbrev s_apply_call : Stmt := top 16
abbrev s_lineups_at_moments : Stmt := top 23
abbrev s_called_colors : Stmt := top 20
abbrev s_single_color_moments : Stmt := top 21
abbrev s_lineup_after : Stmt := top 15
abbrev s_called_sides : Stmt := top 22
abbrev s__law_side_numbers : Stmt := top 29
abbrev s__law_interval_holds : Stmt := top 30
abbrev s__law_holds : Stmt := top 31
abbrev s_law : Stmt := top 32
structure Ad where
  f__law_bag : Addr
  d__law_bag : FuncData
  f__law_draw : Addr
  d__law_draw : FuncData
  f__law_lineup : Addr
  d__law_lineup : FuncData
  f__law_calls : Addr
  d__law_calls : FuncData
  f_is_integer : Addr
  d_is_integer : FuncData
  f_is_color : Addr
  d_is_color : FuncData
  f_is_colored_integer : Addr
  d_is_colored_integer : FuncData
  f_is_lineup : Addr
  d_is_lineup : FuncData
  f_check_lineup : Addr
  d_check_lineup : FuncData
  f_is_person : Addr
  d_is_person : FuncData
  f_check_calls : Addr
  d_check_calls : FuncData
  f_first_other_color : Addr
  d_first_other_color : FuncData
  f_colors_by_person : Addr
  d_colors_by_person : FuncData
  f_apply_call : Addr
  d_apply_call : FuncData
  f_lineups_at_moments : Addr
  d_lineups_at_moments : FuncData
  f_called_colors : Addr
  d_called_colors : FuncData
  f_single_color_moments : Addr
  d_single_color_moments : FuncData
  f_lineup_after : Addr
  d_lineup_after : FuncData
  f_called_sides : Addr
  d_called_sides : FuncData
  f__law_side_numbers : Addr
  d__law_side_numbers : FuncData
  f__law_interval_holds : Addr
  d__law_interval_holds : FuncData
  f__law_holds : Addr
  d__law_holds : FuncData
  f_law : Addr
  d_law : FuncData
  t_MOST_PEOPLE : Tok
structure Txt (K : PySem.W.Frag) (mg : Str → Option Value) (a : Ad) : Prop where
  b_bool : mg "bool" = none
  b_dict : mg "dict" = none
  b_enumerate : mg "enumerate" = none
  b_int : mg "int" = none
  b_isinstance : mg "isinstance" = none
  b_len : mg "len" = none
  b_list : mg "list" = none
  b_max : mg "max" = none
  b_min : mg "min" = none
  b_range : mg "range" = none
  b_set : mg "set" = none
  b_sorted : mg "sorted" = none
  b_str : mg "str" = none
  b_tuple : mg "tuple" = none
  b_type : mg "type" = none
  c_MOST_PEOPLE : mg "MOST_PEOPLE" = some (.int 60 a.t_MOST_PEOPLE)
  F__law_bag : Fun K "_law_bag" "_law_bag" s__law_bag a.f__law_bag a.d__law_bag
  n__law_bag : Binds K a.d__law_bag ["cell"] []
  g__law_bag : mg "_law_bag" = some (.ref a.f__law_bag)
  k__law_bag : PySem.W.keepIn K (.ref a.f__law_bag) = true
  F__law_draw : Fun K "_law_draw" "_law_draw" s__law_draw a.f__law_draw a.d__law_draw
  n__law_draw : Binds K a.d__law_draw ["bag", "limit"] []
  g__law_draw : mg "_law_draw" = some (.ref a.f__law_draw)
  k__law_draw : PySem.W.keepIn K (.ref a.f__law_draw) = true
  F__law_lineup : Fun K "_law_lineup" "_law_lineup" s__law_lineup a.f__law_lineup a.d__law_lineup
  n__law_lineup : Binds K a.d__law_lineup ["bag", "most"] []
  g__law_lineup : mg "_law_lineup" = some (.ref a.f__law_lineup)
  k__law_lineup : PySem.W.keepIn K (.ref a.f__law_lineup) = true
  F__law_calls : Fun K "_law_calls" "_law_calls" s__law_calls a.f__law_calls a.d__law_calls
  n__law_calls : Binds K a.d__law_calls ["bag", "size", "most"] []
  g__law_calls : mg "_law_calls" = some (.ref a.f__law_calls)
  k__law_calls : PySem.W.keepIn K (.ref a.f__law_calls) = true
  F_is_integer : Fun K "is_integer" "is_integer" s_is_integer a.f_is_integer a.d_is_integer
  n_is_integer : Binds K a.d_is_integer ["value"] []
  g_is_integer : mg "is_integer" = some (.ref a.f_is_integer)
  k_is_integer : PySem.W.keepIn K (.ref a.f_is_integer) = true
  F_is_color : Fun K "is_color" "is_color" s_is_color a.f_is_color a.d_is_color
  n_is_color : Binds K a.d_is_color ["value"] []
  g_is_color : mg "is_color" = some (.ref a.f_is_color)
  k_is_color : PySem.W.keepIn K (.ref a.f_is_color) = true
  F_is_colored_integer : Fun K "is_colored_integer" "is_colored_integer" s_is_colored_integer a.f_is_colored_integer a.d_is_colored_integer
  n_is_colored_integer : Binds K a.d_is_colored_integer ["value"] []
  g_is_colored_integer : mg "is_colored_integer" = some (.ref a.f_is_colored_integer)
  k_is_colored_integer : PySem.W.keepIn K (.ref a.f_is_colored_integer) = true
  F_is_lineup : Fun K "is_lineup" "is_lineup" s_is_lineup a.f_is_lineup a.d_is_lineup
  n_is_lineup : Binds K a.d_is_lineup ["value"] []
  g_is_lineup : mg "is_lineup" = some (.ref a.f_is_lineup)
  k_is_lineup : PySem.W.keepIn K (.ref a.f_is_lineup) = true
  F_check_lineup : Fun K "check_lineup" "check_lineup" s_check_lineup a.f_check_lineup a.d_check_lineup
  n_check_lineup : Binds K a.d_check_lineup ["value"] []
  g_check_lineup : mg "check_lineup" = some (.ref a.f_check_lineup)
  k_check_lineup : PySem.W.keepIn K (.ref a.f_check_lineup) = true
  F_is_person : Fun K "is_person" "is_person" s_is_person a.f_is_person a.d_is_person
  n_is_person : Binds K a.d_is_person ["lineup", "value"] []
  g_is_person : mg "is_person" = some (.ref a.f_is_person)
  k_is_person : PySem.W.keepIn K (.ref a.f_is_person) = true
  F_check_calls : Fun K "check_calls" "check_calls" s_check_calls a.f_check_calls a.d_check_calls
  n_check_calls : Binds K a.d_check_calls ["lineup", "value"] []
  g_check_calls : mg "check_calls" = some (.ref a.f_check_calls)
  k_check_calls : PySem.W.keepIn K (.ref a.f_check_calls) = true
  F_first_other_color : Fun K "first_other_color" "first_other_color" s_first_other_color a.f_first_other_color a.d_first_other_color
  n_first_other_color : Binds K a.d_first_other_color ["lineup", "color"] []
  g_first_other_color : mg "first_other_color" = some (.ref a.f_first_other_color)
  k_first_other_color : PySem.W.keepIn K (.ref a.f_first_other_color) = true
  F_colors_by_person : Fun K "colors_by_person" "colors_by_person" s_colors_by_person a.f_colors_by_person a.d_colors_by_person
  n_colors_by_person : Binds K a.d_colors_by_person ["lineup"] []
  g_colors_by_person : mg "colors_by_person" = some (.ref a.f_colors_by_person)
  k_colors_by_person : PySem.W.keepIn K (.ref a.f_colors_by_person) = true
  F_apply_call : Fun K "apply_call" "apply_call" s_apply_call a.f_apply_call a.d_apply_call
  n_apply_call : Binds K a.d_apply_call ["lineup", "person"] []
  g_apply_call : mg "apply_call" = some (.ref a.f_apply_call)
  k_apply_call : PySem.W.keepIn K (.ref a.f_apply_call) = true
  F_lineups_at_moments : Fun K "lineups_at_moments" "lineups_at_moments" s_lineups_at_moments a.f_lineups_at_moments a.d_lineups_at_moments
  n_lineups_at_moments : Binds K a.d_lineups_at_moments ["lineup", "calls"] []
  g_lineups_at_moments : mg "lineups_at_moments" = some (.ref a.f_lineups_at_moments)
  k_lineups_at_moments : PySem.W.keepIn K (.ref a.f_lineups_at_moments) = true
  F_called_colors : Fun K "called_colors" "called_colors" s_called_colors a.f_called_colors a.d_called_colors
  n_called_colors : Binds K a.d_called_colors ["lineup", "calls"] []
  g_called_colors : mg "called_colors" = some (.ref a.f_called_colors)
  k_called_colors : PySem.W.keepIn K (.ref a.f_called_colors) = true
  F_single_color_moments : Fun K "single_color_moments" "single_color_moments" s_single_color_moments a.f_single_color_moments a.d_single_color_moments
  n_single_color_moments : Binds K a.d_single_color_moments ["lineup", "calls"] []
  g_single_color_moments : mg "single_color_moments" = some (.ref a.f_single_color_moments)
  k_single_color_moments : PySem.W.keepIn K (.ref a.f_single_color_moments) = true
  F_lineup_after : Fun K "lineup_after" "lineup_after" s_lineup_after a.f_lineup_after a.d_lineup_after
  n_lineup_after : Binds K a.d_lineup_after ["lineup", "calls"] []
  g_lineup_after : mg "lineup_after" = some (.ref a.f_lineup_after)
  k_lineup_after : PySem.W.keepIn K (.ref a.f_lineup_after) = true
  F_called_sides : Fun K "called_sides" "called_sides" s_called_sides a.f_called_sides a.d_called_sides
  n_called_sides : Binds K a.d_called_sides ["lineup", "calls"] []
  g_called_sides : mg "called_sides" = some (.ref a.f_called_sides)
  k_called_sides : PySem.W.keepIn K (.ref a.f_called_sides) = true
  F__law_side_numbers : Fun K "_law_side_numbers" "_law_side_numbers" s__law_side_numbers a.f__law_side_numbers a.d__law_side_numbers
  n__law_side_numbers : Binds K a.d__law_side_numbers ["lineup", "calls", "people"] []
  g__law_side_numbers : mg "_law_side_numbers" = some (.ref a.f__law_side_numbers)
  k__law_side_numbers : PySem.W.keepIn K (.ref a.f__law_side_numbers) = true
  F__law_interval_holds : Fun K "_law_interval_holds" "_law_interval_holds" s__law_interval_holds a.f__law_interval_holds a.d__law_interval_holds
  n__law_interval_holds : Binds K a.d__law_interval_holds ["lineup", "calls", "start", "end"] []
  g__law_interval_holds : mg "_law_interval_holds" = some (.ref a.f__law_interval_holds)
  k__law_interval_holds : PySem.W.keepIn K (.ref a.f__law_interval_holds) = true
  F__law_holds : Fun K "_law_holds" "_law_holds" s__law_holds a.f__law_holds a.d__law_holds
  n__law_holds : Binds K a.d__law_holds ["bag", "lineup", "calls"] []
  g__law_holds : mg "_law_holds" = some (.ref a.f__law_holds)
  k__law_holds : PySem.W.keepIn K (.ref a.f__law_holds) = true
  F_law : Fun K "law" "law" s_law a.f_law a.d_law
  n_law : Binds K a.d_law ["script"] []
  g_law : mg "law" = some (.ref a.f_law)
  k_law : PySem.W.keepIn K (.ref a.f_law) = true
theorem sc__law_bag : FnScope ["cell"] ["cell"] (defScope s__law_bag) := ⟨rfl, rfl, rfl, by decide +kernel, rfl, by decide +kernel, by decide +kernel⟩
theorem sc__law_draw : FnScope ["bag", "limit", "digit", "mixed"] ["bag", "limit"] (defScope s__law_draw) := ⟨rfl, rfl, rfl, by decide +kernel, rfl, by decide +kernel, by decide +kernel⟩
theorem sc__law_lineup : FnScope ["bag", "most", "size", "letters", "style", "left", "found", "k", "color"] ["bag", "most"] (defScope s__law_lineup) := ⟨rfl, rfl, rfl, by decide +kernel, rfl, by decide +kernel, by decide +kernel⟩
theorem sc__law_calls : FnScope ["bag", "size", "most", "style", "wide", "first", "found", "k", "person"] ["bag", "size", "most"] (defScope s__law_calls) := ⟨rfl, rfl, rfl, by decide +kernel, rfl, by decide +kernel, by decide +kernel⟩
theorem sc_is_integer : FnScope ["value"] ["value"] (defScope s_is_integer) := ⟨rfl, rfl, rfl, by decide +kernel, rfl, by decide +kernel, by decide +kernel⟩
theorem sc_is_color : FnScope ["value"] ["value"] (defScope s_is_color) := ⟨rfl, rfl, rfl, by decide +kernel, rfl, by decide +kernel, by decide +kernel⟩
theorem sc_is_colored_integer : FnScope ["value"] ["value"] (defScope s_is_colored_integer) := ⟨rfl, rfl, rfl, by decide +kernel, rfl, by decide +kernel, by decide +kernel⟩
theorem sc_is_lineup : FnScope ["value", "item", "person", "_"] ["value"] (defScope s_is_lineup) := ⟨rfl, rfl, rfl, by decide +kernel, rfl, by decide +kernel, by decide +kernel⟩
theorem sc_check_lineup : FnScope ["value"] ["value"] (defScope s_check_lineup) := ⟨rfl, rfl, rfl, by decide +kernel, rfl, by decide +kernel, by decide +kernel⟩
theorem sc_is_person : FnScope ["lineup", "value"] ["lineup", "value"] (defScope s_is_person) := ⟨rfl, rfl, rfl, by decide +kernel, rfl, by decide +kernel, by decide +kernel⟩
theorem sc_check_calls : FnScope ["lineup", "value", "index", "item"] ["lineup", "value"] (defScope s_check_calls) := ⟨rfl, rfl, rfl, by decide +kernel, rfl, by decide +kernel, by decide +kernel⟩
theorem sc_first_other_color : FnScope ["lineup", "color", "_", "worn"] ["lineup", "color"] (defScope s_first_other_color) := ⟨rfl, rfl, rfl, by decide +kernel, rfl, by decide +kernel, by decide +kernel⟩
theorem sc_colors_by_person : FnScope ["lineup", "colors", "person", "color"] ["lineup"] (defScope s_colors_by_person) := ⟨rfl, rfl, rfl, by decide +kernel, rfl, by decide +kernel, by decide +kernel⟩
theorem sc_apply_call : FnScope ["lineup", "person", "color", "taken", "others", "pair"] ["lineup", "person"] (defScope s_apply_call) := ⟨rfl, rfl, rfl, by decide +kernel, rfl, by decide +kernel, by decide +kernel⟩
theorem sc_lineups_at_moments : FnScope ["lineup", "calls", "current", "moments", "person", "_"] ["lineup", "calls"] (defScope s_lineups_at_moments) := ⟨rfl, rfl, rfl, by decide +kernel, rfl, by decide +kernel, by decide +kernel⟩
theorem sc_called_colors : FnScope ["lineup", "calls", "texts", "moment", "current", "called", "person", "color"] ["lineup", "calls"] (defScope s_called_colors) := ⟨rfl, rfl, rfl, by decide +kernel, rfl, by decide +kernel, by decide +kernel⟩
theorem sc_single_color_moments : FnScope ["lineup", "calls", "moment", "text"] ["lineup", "calls"] (defScope s_single_color_moments) := ⟨rfl, rfl, rfl, by decide +kernel, rfl, by decide +kernel, by decide +kernel⟩
theorem sc_lineup_after : FnScope ["lineup", "calls", "current", "person", "_"] ["lineup", "calls"] (defScope s_lineup_after) := ⟨rfl, rfl, rfl, by decide +kernel, rfl, by decide +kernel, by decide +kernel⟩
theorem sc_called_sides : FnScope ["lineup", "calls", "after", "front", "called", "alike", "different", "person", "color"] ["lineup", "calls"] (defScope s_called_sides) := ⟨rfl, rfl, rfl, by decide +kernel, rfl, by decide +kernel, by decide +kernel⟩
theorem sc__law_side_numbers : FnScope ["lineup", "calls", "people", "same", "others", "person"] ["lineup", "calls", "people"] (defScope s__law_side_numbers) := ⟨rfl, rfl, rfl, by decide +kernel, rfl, by decide +kernel, by decide +kernel⟩
theorem sc__law_interval_holds : FnScope ["lineup", "calls", "start", "end", "people", "before", "after", "there", "between", "k", "moves", "due"] ["lineup", "calls", "start", "end"] (defScope s__law_interval_holds) := ⟨rfl, rfl, rfl, by decide +kernel, rfl, by decide +kernel, by decide +kernel⟩
theorem sc__law_holds : FnScope ["bag", "lineup", "calls", "colors", "single", "starts", "turn", "start", "stop", "k"] ["bag", "lineup", "calls"] (defScope s__law_holds) := ⟨rfl, rfl, rfl, by decide +kernel, rfl, by decide +kernel, by decide +kernel⟩
theorem sc_law : FnScope ["script", "k", "cell", "bag", "is_last", "lineup", "calls"] ["script"] (defScope s_law) := ⟨rfl, rfl, rfl, by decide +kernel, rfl, by decide +kernel, by decide +kernel⟩
end K74

/-! ### sorted of a list of tuples that are data -/
namespace LX
open PySem PySem.Spec PyProof.Rows L2
section
variable {α : Type}
/-- the order by data -/
abbrev leD (enc : α → List PyData) : α → α → Bool := PySem.W.dataLe false fun e => PyData.tuple (enc e)
/-- what must be told of the items -/
structure Srt1 (enc : α → List PyData) : Prop where
  alike : ∀ x y, PySem.W.alike (.tuple (enc x)) (.tuple (enc y)) = true
  first : ∀ x, ∃ d ds, enc x = d :: ds
  flat : ∀ x, (PyData.tuple (enc x)).depth ≤ 1
variable {X : Cx}
def rSortT (m : α → List V) (enc : α → List PyData) (K : PySem.W.Frag) : List V → Hp → VK → Prop := fun xs H Q => ∃ (a : Addr) (ts : List Addr) (zs : List α), xs = [.ref a] ∧ SqL K H a (ts.map V.ref) ∧ TsAt m H ts zs ∧ (∀ e, DpAll K H (m e) (enc e)) ∧ zs.length ≤ 1000 ∧
  ∀ (p : Addr) (us : List Addr) (ys : List α), H p = none → ys.Perm zs → ys.Pairwise (fun x y => leD enc x y = true) → TsAt m H us ys → Q (.ref p) (upd H p (.lst (us.map V.ref)))
theorem ts_zip {m : α → List V} {H : Hp} : ∀ {ts : List Addr} {zs : List α}, TsAt m H ts zs → ∀ b ∈ ts.zip zs, H b.1 = some (.tup (m b.2))
  | [], [], _, b, hb => by cases hb
  | t :: ts, z :: zs, h, b, hb => by
    rcases List.mem_cons.mp hb with e | e
    · rw [e]
      exact h.1
    · exact ts_zip (ts := ts) (zs := zs) h.2 b e
  | [], _ :: _, h, _, _ => h.elim
  | _ :: _, [], h, _, _ => h.elim
theorem zip_ts {m : α → List V} {H : Hp} : ∀ {bs : List (Addr × α)}, (∀ b ∈ bs, H b.1 = some (.tup (m b.2))) → TsAt m H (bs.map (·.1)) (bs.map (·.2))
  | [], _ => True.intro
  | b :: bs, h => ⟨h b List.mem_cons_self, zip_ts (bs := bs) fun c hc => h c (List.mem_cons_of_mem _ hc)⟩
theorem vals_refs1 : ∀ {ts : List Addr} {us : List Value}, Vals (ts.map V.ref) us → us = ts.map Value.ref
  | [], _, .nil => rfl
  | t :: ts, _, .cons r rs => by
    rw [List.map_cons, ← vals_refs1 rs]
    exact congrArg (· :: _) r
theorem each_zip {R : Value → Addr × α → Prop} : ∀ {ts : List Addr} {zs : List α}, ts.length = zs.length → (∀ b ∈ ts.zip zs, R (.ref b.1) b) → PySem.W.EachIs R (ts.map Value.ref) (ts.zip zs)
  | [], [], _, _ => .nil
  | t :: ts, z :: zs, h, k => .cons (k _ List.mem_cons_self) (each_zip (by simpa using h) fun b hb => k b (List.mem_cons_of_mem _ hb))
  | [], _ :: _, h, _ => by cases h
  | _ :: _, [], h, _ => by cases h
theorem each_refs {bs : List (Addr × α)} {out : List Value} (h : PySem.W.EachIs (fun v (b : Addr × α) => v = Value.ref b.1) out bs) : out = (bs.map (·.1)).map Value.ref := by
  induction h with
  | nil => rfl
  | cons h1 _ ih => rw [h1, ih]; rfl
theorem cr_sortT {m : α → List V} {enc : α → List PyData} (o : Srt1 enc) (hu : X.A.units + 64 < cLine) : CallR X (.builtin "sorted") (rSortT m enc X.K) := by
  intro pins s σ H xs us Q I r h
  obtain ⟨a, ts, zs, rfl, hs, ht, hd, hz, q⟩ := h
  obtain ⟨its, rv, pl, _⟩ := I.list hs
  rw [Vals.ref1 r]
  obtain rfl := vals_refs1 rv
  have tl := ht.len
  have reads : ∀ b ∈ ts.zip zs, ∃ as, Reads s.heap (.ref b.1) (.tuple (enc b.2)) as := fun b hb => Dp.reads I (.tuple (enc b.2)) (.ref b.1) (.ref b.1) (.tup (SqT.of (ts_zip ht b hb)) (hd b.2)) rfl
  have wide : ∀ b : Addr × α, X.A.units + 2 + (PyData.tuple (enc b.2)).depth < cLine := fun b => by
    have := o.flat b.2
    omega
  refine PySem.W.sorted_data (β := Addr × α) (enc := fun b => .tuple (enc b.2)) (R := fun v b => v = Value.ref b.1) (bs := ts.zip zs) pl.isList (each_zip tl fun b _ => rfl) (each_zip tl reads)
    (PySem.W.AllAlike.of fun b b' => o.alike b.2 b'.2) (PySem.W.Sortable.tuples fun b => ?_) (Nat.le_of_lt (small1000 ?_)) (fun b _ => wide b) fun out lo eo => ?_
  · obtain ⟨d, ds, e⟩ := o.first b.2
    exact ⟨d, ds, by rw [e]⟩
  · rw [List.length_zip]
    omega
  · obtain rfl := each_refs eo
    have pm := List.mergeSort_perm (ts.zip zs) (PySem.W.dataLe false fun b => PyData.tuple (enc b.2))
    have pw := PySem.W.sort_pairwise (PySem.W.sortLe_total (PyProof.Rows.listOrd PyProof.Rows.itemOrd) false fun b : Addr × α => PySem.W.keyToks (PyData.tuple (enc b.2))) (ts.zip zs)
    change List.Pairwise (fun x y : Addr × α => leD enc x.2 y.2 = true) ((ts.zip zs).mergeSort (PySem.W.dataLe false fun b => PyData.tuple (enc b.2))) at pw
    generalize (ts.zip zs).mergeSort (PySem.W.dataLe false fun b => PyData.tuple (enc b.2)) = bs at pm pw lo eo
    have back : (ts.zip zs).map (·.2) = zs := by
      rw [List.map_snd_zip (by omega)]
    have sz : ((bs.map (·.1)).map V.ref).length ≤ sizeLine := by
      refine Nat.le_of_lt (small1000 ?_)
      rw [List.length_map, List.length_map, pm.length_eq, List.length_zip]
      omega
    obtain ⟨c, at_⟩ := sortedAll_at s.heap (ts.map Value.ref) (((bs.map (·.1)).map Value.ref).toArray)
    have keep : ∀ b o, s.heap.get? b = some o → (sortedAll s.heap (ts.map Value.ref) (((bs.map (·.1)).map Value.ref).toArray)).get? b = some o := fun b o e => sortedAll_old e
    refine ⟨.ref (s.heap.objs.size + 1), upd H (s.heap.objs.size + 1) (.lst ((bs.map (·.1)).map V.ref)), I.laid (t' := s.toks) keep (Nat.le_succ _) ⟨sz, _, c, vals_refs _, by simpa using at_⟩, rfl, ?_⟩
    refine q _ _ (bs.map (·.2)) (I.hok.fresh (Nat.le_succ _)) ?_ (List.pairwise_map.mpr pw) (zip_ts fun b hb => ts_zip ht b (pm.mem_iff.mp hb))
    rw [← back]
    exact pm.map _
end
/-- tuples of a person and a letter -/
abbrev encP (e : Nat × Nat) : List PyData := [.int (e.1 : Int), .str ⟨#[e.2]⟩]
theorem leP {x y : Nat × Nat} (h : leD encP x y = true) : x.1 ≤ y.1 := by
  have h2 : (!PySem.W.dataLt (.tuple (encP y)) (.tuple (encP x))) = true := h
  have h3 : PySem.W.dataLt (.tuple (encP y)) (.tuple (encP x)) = false := by
    cases e : PySem.W.dataLt (.tuple (encP y)) (.tuple (encP x)) with
    | false => rfl
    | true =>
      rw [e] at h2
      cases h2
  by_cases c : x.1 ≤ y.1
  · exact c
  · rw [PySem.W.dataLt_pair (by simp [PySem.W.alike]) (by simp [PySem.W.alike]), PySem.W.dataLt_int] at h3
    have : ¬ ((y.1 : Int) = (x.1 : Int)) := by omega
    simp only [PyData.eqv, beq_iff_eq, this, if_false, decide_eq_false_iff_not] at h3
    omega
theorem srtP : Srt1 encP where
  alike := fun x y => by simp [PySem.W.alike, PySem.W.alikeAll]
  first := fun x => ⟨_, _, rfl⟩
  flat := fun x => by simp [PyData.depth, PyData.depthAll]
theorem ksortT {X : Cx} {α : Type} {K : PySem.W.Frag} {m : α → List V} {enc : α → List PyData} (o : Srt1 enc) (hu : X.A.units + 64 < cLine) (h : X.K = K := by rfl) : CallR X (.builtin "sorted") (rSortT m enc K) := by
  subst h
  exact cr_sortT o hu
/-- the people by their numbers -/
def bp (r : Row) : Row := (List.range r.length).map fun p => (p, colOf r p)
theorem bp_len (r : Row) : (bp r).length = r.length := by
  unfold bp
  rw [List.length_map, List.length_range]
theorem up_range : ∀ {l : List Nat} {n : Nat}, l.Perm (List.range n) → l.Pairwise (· ≤ ·) → l = List.range n := by
  intro l n p w
  exact p.eq_of_pairwise (le := (· ≤ ·)) (fun a b _ _ h1 h2 => Nat.le_antisymm h1 h2) w (List.pairwise_lt_range.imp fun h => Nat.le_of_lt h)
theorem bp_is {r ys : Row} (V0 : Vr r) (p : ys.Perm r) (w : ys.Pairwise (fun x y => leD encP x y = true)) : ys = bp r := by
  have e : ys.map (·.1) = List.range r.length := up_range ((p.map _).trans V0.perm) (List.pairwise_map.mpr (w.imp fun h => leP h))
  have l := p.length_eq
  apply List.ext_getElem?
  intro i
  unfold bp
  rw [List.getElem?_map]
  have ei : (ys.map (·.1))[i]? = (List.range r.length)[i]? := by rw [e]
  rw [List.getElem?_map] at ei
  cases q : ys[i]? with
  | none =>
    rw [q] at ei
    rw [← ei]
    rfl
  | some x =>
    rw [q] at ei
    rw [← ei]
    show some x = some (x.1, colOf r x.1)
    rw [colOf_is V0.nodup (p.mem_iff.mp (List.mem_of_getElem? q))]
theorem ts_row {H : Hp} : ∀ {ts : List Addr} {r : Row}, TupsAt H ts r → TsAt (fun e : Nat × Nat => pr e) H ts r
  | [], [], _ => True.intro
  | _ :: ts, _ :: r, h => ⟨h.1, ts_row (ts := ts) (r := r) h.2⟩
  | [], _ :: _, h => h.elim
  | _ :: _, [], h => h.elim
theorem row_ts {H : Hp} : ∀ {ts : List Addr} {r : Row}, TsAt (fun e : Nat × Nat => pr e) H ts r → TupsAt H ts r
  | [], [], _ => True.intro
  | _ :: ts, _ :: r, h => ⟨h.1, row_ts (ts := ts) (r := r) h.2⟩
  | [], _ :: _, h => h.elim
  | _ :: _, [], h => h.elim
theorem bp_vr {r : Row} (V0 : Vr r) : (bp r).Perm r := by
  have h := List.mergeSort_perm r (leD encP)
  have w := PySem.W.sort_pairwise (PySem.W.sortLe_total (PyProof.Rows.listOrd PyProof.Rows.itemOrd) false fun b : Nat × Nat => PySem.W.keyToks (PyData.tuple (encP b))) r
  change List.Pairwise (fun x y : Nat × Nat => leD encP x y = true) (r.mergeSort (leD encP)) at w
  rw [bp_is V0 h w] at h
  exact h
theorem rd_sortRow {K : PySem.W.Frag} {H : Hp} {Q : VK} {a : Addr} {r : Row} (hR : RowAt H a r) (V0 : Vr r) (q : ∀ p H', H p = none → Same H H' → RowAt H' p (bp r) → Q (.ref p) H') : rSortT (fun e : Nat × Nat => pr e) encP K [.ref a] H Q := by
  obtain ⟨ts, hl, ht⟩ := hR
  have n2 := V0.n2
  refine ⟨a, ts, r, rfl, SqL.of hl, ts_row ht, fun e => .cons (.int _) (.cons (.str _) .nil), by omega, fun p us ys hp pm pw hU => ?_⟩
  obtain rfl := bp_is V0 pm pw
  have s := sNew (o := .lst (us.map V.ref)) hp
  exact q p _ hp s ⟨us, upd_same, (row_ts hU).mono (sTups s)⟩
end LX

/-! Values by what they hold (Fr), objects that a def owns (Sep), what a call leaves (Ret). -/
namespace LQ
open PySem L2 LX
def dKey : Key → PyData
  | .inl i => .int i
  | .inr s => .str s
mutual
/-- v holds d; lists and dicts reached are none of H0's -/
inductive Fr (H0 H : Hp) : V → PyData → Prop
  | non : Fr H0 H .non .none
  | bl (b : Bool) : Fr H0 H (.bl b) (.bool b)
  | int (i : Int) : Fr H0 H (.int i) (.int i)
  | str (x : Str) : Fr H0 H (.str x) (.str x)
  | lst {a : Addr} {xs : List V} {ds : List PyData} : H a = some (.lst xs) → H0 a = none → FrL H0 H xs ds → Fr H0 H (.ref a) (.list ds)
  | tup {a : Addr} {xs : List V} {ds : List PyData} : H a = some (.tup xs) → FrL H0 H xs ds → Fr H0 H (.ref a) (.tuple ds)
  | dic {a : Addr} {kvs : List (Key × V)} {ds : List (PyData × PyData)} : Rd H a (.dK kvs) → H0 a = none → FrK H0 H kvs ds → Fr H0 H (.ref a) (.dict ds)
inductive FrL (H0 H : Hp) : List V → List PyData → Prop
  | nil : FrL H0 H [] []
  | cons {v : V} {vs : List V} {d : PyData} {ds : List PyData} : Fr H0 H v d → FrL H0 H vs ds → FrL H0 H (v :: vs) (d :: ds)
inductive FrK (H0 H : Hp) : List (Key × V) → List (PyData × PyData) → Prop
  | nil : FrK H0 H [] []
  | cons {k : Key} {v : V} {vs : List (Key × V)} {d : PyData} {ds : List (PyData × PyData)} : Fr H0 H v d → FrK H0 H vs ds → FrK H0 H ((k, v) :: vs) ((dKey k, d) :: ds)
end
theorem nodup_ix {α : Type} : ∀ {l : List α} {i j : Nat} {a : α}, l.Nodup → l[i]? = some a → l[j]? = some a → i = j
  | [], i, _, _, _, h, _ => by simp at h
  | x :: l, 0, 0, _, _, _, _ => rfl
  | x :: l, 0, j + 1, a, nd, h, k => by
    have e : x = a := by simpa using h
    exact absurd (e ▸ List.mem_of_getElem? (by simpa using k)) (List.nodup_cons.mp nd).1
  | x :: l, i + 1, 0, a, nd, h, k => by
    have e : x = a := by simpa using k
    exact absurd (e ▸ List.mem_of_getElem? (by simpa using h)) (List.nodup_cons.mp nd).1
  | x :: l, i + 1, j + 1, a, nd, h, k => congrArg (· + 1) (nodup_ix (List.nodup_cons.mp nd).2 (by simpa using h) (by simpa using k))
/-- the heap that holds nothing -/
def E0h : Hp := fun _ => none
mutual
/-- what the cells of the value need: each list, dict or tuple cell that is read in H and allowed by H0 is so in H', H0' -/
theorem Fr.move {H0 H H0' H' : Hp} (kl : ∀ a xs, H a = some (.lst xs) → H0 a = none → H' a = some (.lst xs) ∧ H0' a = none) (kt : ∀ a xs, H a = some (.tup xs) → H' a = some (.tup xs))
    (kd : ∀ a xs, Rd H a (.dK xs) → H0 a = none → Rd H' a (.dK xs) ∧ H0' a = none) : ∀ {v : V} {d : PyData}, Fr H0 H v d → Fr H0' H' v d
  | _, _, .non => .non
  | _, _, .bl b => .bl b
  | _, _, .int i => .int i
  | _, _, .str x => .str x
  | _, _, .lst h n hs => .lst (kl _ _ h n).1 (kl _ _ h n).2 (FrL.move kl kt kd hs)
  | _, _, .tup h hs => .tup (kt _ _ h) (FrL.move kl kt kd hs)
  | _, _, .dic h n hs => .dic (kd _ _ h n).1 (kd _ _ h n).2 (FrK.move kl kt kd hs)
theorem FrL.move {H0 H H0' H' : Hp} (kl : ∀ a xs, H a = some (.lst xs) → H0 a = none → H' a = some (.lst xs) ∧ H0' a = none) (kt : ∀ a xs, H a = some (.tup xs) → H' a = some (.tup xs))
    (kd : ∀ a xs, Rd H a (.dK xs) → H0 a = none → Rd H' a (.dK xs) ∧ H0' a = none) : ∀ {v : List V} {d : List PyData}, FrL H0 H v d → FrL H0' H' v d
  | _, _, .nil => .nil
  | _, _, .cons h hs => .cons (Fr.move kl kt kd h) (FrL.move kl kt kd hs)
theorem FrK.move {H0 H H0' H' : Hp} (kl : ∀ a xs, H a = some (.lst xs) → H0 a = none → H' a = some (.lst xs) ∧ H0' a = none) (kt : ∀ a xs, H a = some (.tup xs) → H' a = some (.tup xs))
    (kd : ∀ a xs, Rd H a (.dK xs) → H0 a = none → Rd H' a (.dK xs) ∧ H0' a = none) : ∀ {v : List (Key × V)} {d : List (PyData × PyData)}, FrK H0 H v d → FrK H0' H' v d
  | _, _, .nil => .nil
  | _, _, .cons h hs => .cons (Fr.move kl kt kd h) (FrK.move kl kt kd hs)
end
section
variable {H0 H H' G : Hp} {v : V} {d : PyData} {vs : List V} {ds : List PyData} {K : PySem.W.Frag}
theorem rd_same {a : Addr} {u : HO} (h : Rd H a u) (s : Same H H') : Rd H' a u := h.imp (fun e => s _ _ e) fun ⟨o, e⟩ => ⟨o, s _ _ e⟩
theorem Fr.same (h : Fr H0 H v d) (s : Same H H') : Fr H0 H' v d := h.move (fun _ _ e n => ⟨s _ _ e, n⟩) (fun _ _ e => s _ _ e) fun _ _ e n => ⟨rd_same e s, n⟩
theorem FrL.same (h : FrL H0 H vs ds) (s : Same H H') : FrL H0 H' vs ds := h.move (fun _ _ e n => ⟨s _ _ e, n⟩) (fun _ _ e => s _ _ e) fun _ _ e n => ⟨rd_same e s, n⟩
theorem Fr.rp (h : Fr H0 H v d) : Fr E0h H v d := h.move (fun _ _ e _ => ⟨e, rfl⟩) (fun _ _ e => e) fun _ _ e _ => ⟨e, rfl⟩
theorem FrL.rp (h : FrL H0 H vs ds) : FrL E0h H vs ds := h.move (fun _ _ e _ => ⟨e, rfl⟩) (fun _ _ e => e) fun _ _ e _ => ⟨e, rfl⟩
theorem FrL.len : ∀ {vs : List V} {ds : List PyData}, FrL H0 H vs ds → vs.length = ds.length
  | _, _, .nil => rfl
  | _, _, .cons _ hs => congrArg (· + 1) (FrL.len hs)
theorem FrL.app : ∀ {vs us : List V} {ds es : List PyData}, FrL H0 H vs ds → FrL H0 H us es → FrL H0 H (vs ++ us) (ds ++ es)
  | _, _, _, _, .nil, k => k
  | _, _, _, _, .cons h hs, k => .cons h (FrL.app hs k)
theorem FrL.get : ∀ {vs : List V} {ds : List PyData} {i : Nat} {d : PyData}, FrL H0 H vs ds → ds[i]? = some d → ∃ v, vs[i]? = some v ∧ Fr H0 H v d
  | _, _, i, _, .nil, e => by simp at e
  | _, _, 0, _, .cons h _, e => by
    simp at e
    subst e
    exact ⟨_, rfl, h⟩
  | _, _, i + 1, d, .cons _ hs, e => by
    obtain ⟨v, h1, h2⟩ := FrL.get (i := i) hs (by simpa using e)
    exact ⟨v, by simpa using h1, h2⟩
theorem FrL.get' : ∀ {vs : List V} {ds : List PyData} {i : Nat} {v : V}, FrL H0 H vs ds → vs[i]? = some v → ∃ d, ds[i]? = some d ∧ Fr H0 H v d
  | _, _, i, _, .nil, e => by simp at e
  | _, _, 0, _, .cons h _, e => by
    simp at e
    subst e
    exact ⟨_, rfl, h⟩
  | _, _, i + 1, v, .cons _ hs, e => by
    obtain ⟨d, h1, h2⟩ := FrL.get' (i := i) hs (by simpa using e)
    exact ⟨d, by simpa using h1, h2⟩
theorem FrL.set : ∀ {vs : List V} {ds : List PyData} {v : V} {d : PyData} (i : Nat), FrL H0 H vs ds → Fr H0 H v d → FrL H0 H (vs.set i v) (ds.set i d)
  | _, _, _, _, _, .nil, _ => .nil
  | _, _, _, _, 0, .cons _ hs, k => .cons k hs
  | _, _, _, _, i + 1, .cons h hs, k => .cons h (FrL.set i hs k)
theorem FrL.take : ∀ {vs : List V} {ds : List PyData} (n : Nat), FrL H0 H vs ds → FrL H0 H (vs.take n) (ds.take n)
  | _, _, 0, _ => .nil
  | _, _, _ + 1, .nil => .nil
  | _, _, n + 1, .cons h hs => .cons h (FrL.take n hs)
theorem FrL.drop : ∀ {vs : List V} {ds : List PyData} (n : Nat), FrL H0 H vs ds → FrL H0 H (vs.drop n) (ds.drop n)
  | _, _, 0, h => h
  | _, _, _ + 1, .nil => .nil
  | _, _, n + 1, .cons _ hs => FrL.drop n hs
theorem FrL.erase : ∀ {vs : List V} {ds : List PyData} (n : Nat), FrL H0 H vs ds → FrL H0 H (vs.eraseIdx n) (ds.eraseIdx n)
  | _, _, _, .nil => .nil
  | _, _, 0, .cons _ hs => hs
  | _, _, n + 1, .cons h hs => .cons h (FrL.erase n hs)
theorem FrL.rev : ∀ {vs : List V} {ds : List PyData}, FrL H0 H vs ds → FrL H0 H vs.reverse ds.reverse
  | _, _, .nil => .nil
  | _, _, .cons h hs => by
    rw [List.reverse_cons, List.reverse_cons]
    exact (FrL.rev hs).app (.cons h .nil)
theorem FrL.insert : ∀ {vs : List V} {ds : List PyData} {v : V} {d : PyData} (i : Nat), FrL H0 H vs ds → Fr H0 H v d → FrL H0 H (vs.insertIdx i v) (ds.insertIdx i d)
  | _, _, _, _, 0, hs, k => .cons k hs
  | _, _, _, _, _ + 1, .nil, _ => .nil
  | _, _, _, _, i + 1, .cons h hs, k => .cons h (FrL.insert i hs k)
theorem FrL.rep (h : Fr H0 H v d) : ∀ n : Nat, FrL H0 H (List.replicate n v) (List.replicate n d)
  | 0 => .nil
  | n + 1 => .cons h (FrL.rep h n)
mutual
theorem Fr.dp : ∀ {v : V} {d : PyData}, Fr H0 H v d → d.hasDict = false → Dp K H v d
  | _, _, .non, _ => .non
  | _, _, .bl b, _ => .bl b
  | _, _, .int i, _ => .int i
  | _, _, .str x, _ => .str x
  | _, _, .lst h _ hs, e => .lst (SqL.of h) (FrL.dp hs (by simpa only [PyData.hasDict] using e))
  | _, _, .tup h hs, e => .tup (SqT.of h) (FrL.dp hs (by simpa only [PyData.hasDict] using e))
  | _, _, .dic _ _ _, e => by simp [PyData.hasDict] at e
theorem FrL.dp : ∀ {v : List V} {d : List PyData}, FrL H0 H v d → PyData.hasDictAll d = false → DpAll K H v d
  | _, _, .nil, _ => .nil
  | _, _, .cons h hs, e => by
    simp only [PyData.hasDictAll, Bool.or_eq_false_iff] at e
    exact .cons (Fr.dp h e.1) (FrL.dp hs e.2)
end
end
/-- G: what stands and is never written; cs: the objects that are written, with what they hold; ms: those of them that the caller has handed over -/
structure Sep (ms : List Addr) (H0 G H : Hp) (cs : List (Addr × HO)) : Prop where
  sub : ∀ b o, G b = some o → H b = some o
  cel : ∀ c ∈ cs, H c.1 = some c.2 ∧ G c.1 = none ∧ ∀ xs, c.2 ≠ .tup xs
  nd : (cs.map (·.1)).Nodup
  msc : ∀ p ∈ ms, p ∈ cs.map (·.1)
  hms : ∀ p ∈ ms, H0 p ≠ none
  old : ∀ b, H b = none → H0 b = none
  base : ∀ b o, H0 b = some o → b ∉ ms → G b = some o
  tups : ∀ b xs, H b = some (.tup xs) → G b = some (.tup xs)
/-- what a call leaves: G holds what its value needs, and all of H but ms -/
structure Ret (ms : List Addr) (H G H' : Hp) : Prop where
  sub : ∀ b o, G b = some o → H' b = some o
  non : ∀ p ∈ ms, G p = none
  base : ∀ b o, H b = some o → b ∉ ms → G b = some o
  old : ∀ b, H' b = none → H b = none
  tups : ∀ b xs, H' b = some (.tup xs) → G b = some (.tup xs)
section
variable {ms ns : List Addr} {H0 G H H' G1 : Hp} {cs : List (Addr × HO)} {p : Addr} {o o' : HO} {v : V} {d : PyData} {vs : List V} {ds : List PyData}
theorem Sep.start (H : Hp) : Sep [] H H H [] := ⟨fun _ _ e => e, fun _ h => absurd h List.not_mem_nil, List.nodup_nil, fun _ h => absurd h List.not_mem_nil, fun _ h => absurd h List.not_mem_nil, fun _ e => e, fun _ _ e _ => e, fun _ _ e => e⟩
/-- a def's start: the objects that it may write, the rest -/
def hid (H : Hp) (ps : List Addr) : Hp := fun b => if b ∈ ps then none else H b
theorem hid_some {ps : List Addr} {b : Addr} (h : hid H ps b = some o) : b ∉ ps ∧ H b = some o := by
  unfold hid at h
  by_cases c : b ∈ ps
  · rw [if_pos c] at h
    cases h
  · rw [if_neg c] at h
    exact ⟨c, h⟩
theorem hid_in {ps : List Addr} {b : Addr} (h : b ∈ ps) : hid H ps b = none := if_pos h
theorem hid_out {ps : List Addr} {b : Addr} (h : b ∉ ps) : hid H ps b = H b := if_neg h
theorem Sep.startM (H : Hp) (cs : List (Addr × HO)) (h : ∀ c ∈ cs, H c.1 = some c.2 ∧ ∀ xs, c.2 ≠ .tup xs) (nd : (cs.map (·.1)).Nodup) : Sep (cs.map (·.1)) H (hid H (cs.map (·.1))) H cs :=
  { sub := fun _ _ e => (hid_some e).2
    cel := fun c hc => ⟨(h c hc).1, hid_in (List.mem_map_of_mem hc), (h c hc).2⟩
    nd := nd
    msc := fun _ h => h
    hms := fun p hp => by
      obtain ⟨c, hc, rfl⟩ := List.mem_map.mp hp
      rw [(h c hc).1]
      exact fun z => by cases z
    old := fun _ e => e
    base := fun _ _ e n => by rw [hid_out n]; exact e
    tups := fun b xs e => by
      rw [hid_out]
      · exact e
      · intro z
        obtain ⟨c, hc, rfl⟩ := List.mem_map.mp z
        have k := h c hc
        rw [e] at k
        exact k.2 xs (Option.some.inj k.1).symm }
theorem Sep.get (S : Sep ms H0 G H cs) (i : Nat) (h : cs[i]? = some (p, o)) : H p = some o := (S.cel _ (List.mem_of_getElem? h)).1
theorem Sep.gnone (S : Sep ms H0 G H cs) (i : Nat) (h : cs[i]? = some (p, o)) : G p = none := (S.cel _ (List.mem_of_getElem? h)).2.1
theorem Sep.gfree (S : Sep ms H0 G H cs) (h : H p = none) : G p = none := by
  cases e : G p with
  | none => rfl
  | some u =>
    rw [S.sub _ _ e] at h
    cases h
theorem Sep.cne (S : Sep ms H0 G H cs) (h : H p = none) : p ∉ cs.map (·.1) := fun z => by
  obtain ⟨c, hc, rfl⟩ := List.mem_map.mp z
  rw [(S.cel c hc).1] at h
  cases h
theorem Sep.same (S : Sep ms H0 G H cs) : Same G H := S.sub
/-- a new object, never written -/
theorem Sep.sh (S : Sep ms H0 G H cs) (h : H p = none) : Sep ms H0 (upd G p o) (upd H p o) cs where
  sub := fun b u e => by
    by_cases c : b = p
    · subst c
      rw [upd_same] at e ⊢
      exact e
    · rw [upd_ne c] at e ⊢
      exact S.sub b u e
  cel := fun c hc => by
    have n : c.1 ≠ p := fun z => S.cne h (List.mem_map.mpr ⟨c, hc, z⟩)
    rw [upd_ne n, upd_ne n]
    exact S.cel c hc
  nd := S.nd
  msc := S.msc
  hms := S.hms
  old := fun b e => by
    by_cases c : b = p
    · subst c
      exact S.old b h
    · rw [upd_ne c] at e
      exact S.old b e
  base := fun b u e n => by
    have c : b ≠ p := fun z => by
      subst z
      rw [S.old b h] at e
      cases e
    rw [upd_ne c]
    exact S.base b u e n
  tups := fun b xs e => by
    by_cases c : b = p
    · subst c
      rw [upd_same] at e ⊢
      exact e
    · rw [upd_ne c] at e ⊢
      exact S.tups b xs e
/-- a new object that will be written -/
theorem Sep.own (S : Sep ms H0 G H cs) (h : H p = none) (k : ∀ xs, o ≠ .tup xs) : Sep ms H0 G (upd H p o) ((p, o) :: cs) where
  sub := fun b u e => by
    rw [upd_ne (ne_of_none (S.sub b u e) h)]
    exact S.sub b u e
  cel := fun c hc => by
    rcases List.mem_cons.mp hc with rfl | hc
    · exact ⟨upd_same, S.gfree h, k⟩
    · have n : c.1 ≠ p := fun z => S.cne h (List.mem_map.mpr ⟨c, hc, z⟩)
      rw [upd_ne n]
      exact S.cel c hc
  nd := List.nodup_cons.mpr ⟨S.cne h, S.nd⟩
  msc := fun q hq => List.mem_cons_of_mem _ (S.msc q hq)
  hms := S.hms
  old := fun b e => by
    by_cases c : b = p
    · subst c
      exact S.old b h
    · rw [upd_ne c] at e
      exact S.old b e
  base := S.base
  tups := fun b xs e => by
    by_cases c : b = p
    · subst c
      rw [upd_same] at e
      exact absurd (Option.some.inj e) (k xs)
    · rw [upd_ne c] at e
      exact S.tups b xs e
/-- an owned object is written -/
theorem Sep.put (S : Sep ms H0 G H cs) (i : Nat) (h : cs[i]? = some (p, o)) (k : ∀ xs, o' ≠ .tup xs) : Sep ms H0 G (upd H p o') (cs.set i (p, o')) := by
  have il := (List.getElem?_eq_some_iff.mp h).1
  have ie := (List.getElem?_eq_some_iff.mp h).2
  have em : (cs.set i (p, o')).map (·.1) = cs.map (·.1) := by
    rw [List.map_set]
    apply List.ext_getElem?
    intro j
    by_cases c : i = j
    · subst c
      rw [List.getElem?_set_self (by rw [List.length_map]; exact il), List.getElem?_map, h]
      rfl
    · rw [List.getElem?_set_ne c]
  refine ⟨fun b u e => ?_, fun c hc => ?_, by rw [em]; exact S.nd, by rw [em]; exact S.msc, S.hms, fun b e => ?_, S.base, fun b xs e => ?_⟩
  · have n : b ≠ p := fun z => by
      subst z
      rw [S.gnone i h] at e
      cases e
    rw [upd_ne n]
    exact S.sub b u e
  · obtain ⟨j, hj⟩ := List.getElem?_of_mem hc
    by_cases c2 : i = j
    · subst c2
      rw [List.getElem?_set_self il] at hj
      cases hj
      exact ⟨upd_same, S.gnone i h, k⟩
    · rw [List.getElem?_set_ne c2] at hj
      have n : c.1 ≠ p := fun z => by
        have h1 : (cs.map (·.1))[j]? = some p := by rw [List.getElem?_map, hj, ← z]; rfl
        have h2 : (cs.map (·.1))[i]? = some p := by rw [List.getElem?_map, h]; rfl
        exact c2 (nodup_ix S.nd h2 h1)
      rw [upd_ne n]
      exact S.cel c (List.mem_of_getElem? hj)
  · have n : b ≠ p := fun z => by
      subst z
      rw [upd_same] at e
      cases e
    rw [upd_ne n] at e
    exact S.old b e
  · by_cases c : b = p
    · subst c
      rw [upd_same] at e
      exact absurd (Option.some.inj e) (k xs)
    · rw [upd_ne c] at e
      exact S.tups b xs e
/-- an owned object is written no more -/
theorem Sep.fix (S : Sep ms H0 G H cs) (i : Nat) (h : cs[i]? = some (p, o)) (hm : p ∉ ms) : Sep ms H0 (upd G p o) H (cs.eraseIdx i) := by
  have il := (List.getElem?_eq_some_iff.mp h).1
  have hp : p ∉ (cs.eraseIdx i).map (·.1) := by
    have nd := S.nd
    have pm : (cs.map (·.1)).Perm (p :: (cs.eraseIdx i).map (·.1)) := by
      have := (erase_perm h).symm.map (·.1)
      exact this
    exact (List.nodup_cons.mp (pm.nodup_iff.mp nd)).1
  refine ⟨fun b u e => ?_, fun c hc => ?_, ?_, fun q hq => ?_, S.hms, S.old, fun b u e n => ?_, fun b xs e => ?_⟩
  · by_cases c : b = p
    · subst c
      rw [upd_same] at e
      cases e
      exact S.get i h
    · rw [upd_ne c] at e
      exact S.sub b u e
  · have n : c.1 ≠ p := fun z => hp (List.mem_map.mpr ⟨c, hc, z⟩)
    rw [upd_ne n]
    exact S.cel c (List.mem_of_mem_eraseIdx hc)
  · exact S.nd.sublist ((List.eraseIdx_sublist cs i).map _)
  · have n : q ≠ p := fun z => hm (z ▸ hq)
    obtain ⟨c, hc, rfl⟩ := List.mem_map.mp (S.msc q hq)
    have pm := erase_perm h
    rcases List.mem_cons.mp (pm.mem_iff.mpr hc) with z | z
    · exact absurd (by rw [z]) n
    · exact List.mem_map_of_mem z
  · have n2 : b ≠ p := fun z => by
      subst z
      have q := S.gnone i h
      rw [S.base b u e n] at q
      cases q
    rw [upd_ne n2]
    exact S.base b u e n
  · have g := S.tups b xs e
    have n2 : b ≠ p := fun z => by
      subst z
      rw [S.gnone i h] at g
      cases g
    rw [upd_ne n2]
    exact g
theorem Sep.notms (S : Sep ms H0 G H cs) (n : H0 p = none) : p ∉ ms := fun z => S.hms p z n
/-- an owned object is forgotten -/
theorem Sep.drop (S : Sep ms H0 G H cs) (i : Nat) (h : cs[i]? = some (p, o)) (n : H0 p = none) : Sep ms H0 G H (cs.eraseIdx i) where
  sub := S.sub
  cel := fun c hc => S.cel c (List.mem_of_mem_eraseIdx hc)
  nd := S.nd.sublist ((List.eraseIdx_sublist cs i).map _)
  msc := fun q hq => by
    have k : q ≠ p := fun z => S.hms q hq (z ▸ n)
    obtain ⟨c, hc, rfl⟩ := List.mem_map.mp (S.msc q hq)
    rcases List.mem_cons.mp ((erase_perm h).mem_iff.mpr hc) with z | z
    · exact absurd (by rw [z]) k
    · exact List.mem_map_of_mem z
  hms := S.hms
  old := S.old
  base := S.base
  tups := S.tups
theorem same_upd (h : G p = none) : Same G (upd G p o) := sNew h
end
end LQ

/-! What defs compute, as functions that may be undefined (Option): the parts they are made of. -/
namespace LQ
open PySem L2
abbrev LIM : Nat := 100000
theorem lim_le {n : Nat} (h : n ≤ LIM) : n ≤ sizeLine := Nat.le_trans h (by decide)
theorem lim_lt {n : Nat} (h : n < LIM) : n < sizeLine := Nat.lt_of_lt_of_le h (by decide)
theorem bnd {α β : Type} {o : Option α} {f : α → Option β} {r : β} (h : o.bind f = some r) : ∃ x, o = some x ∧ f x = some r := by
  cases o with
  | none => cases h
  | some x => exact ⟨x, rfl, h⟩
theorem cnd {α : Type} {c : Bool} {a b : Option α} {r : α} (h : cond c a b = some r) : (c = true ∧ a = some r) ∨ (c = false ∧ b = some r) := by
  cases c with
  | true => exact Or.inl ⟨rfl, h⟩
  | false => exact Or.inr ⟨rfl, h⟩
theorem grd {α : Type} {c : Bool} {a : Option α} {r : α} (h : cond c a none = some r) : c = true ∧ a = some r := by
  cases c with
  | true => exact ⟨rfl, h⟩
  | false => cases h
theorem som {α : Type} {x y : α} (h : some x = some y) : x = y := Option.some.inj h
/-- how a block ends: it gives r back, goes on, breaks off -/
inductive Ctl (R S : Type) where
  | ret (r : R) | nx (s : S) | bk (s : S)
def loopF {α S : Type} (step : α → S → Option S) : List α → S → Option S
  | [], s => some s
  | x :: xs, s => (step x s).bind (loopF step xs)
def loopC {α R S : Type} (step : α → S → Option (Ctl R S)) : List α → S → Option (Ctl R S)
  | [], s => some (.nx s)
  | x :: xs, s => (step x s).bind fun c => match c with
    | .ret r => some (.ret r)
    | .nx s' => loopC step xs s'
    | .bk s' => some (.nx s')
def whileF {S : Type} (c : S → Option Bool) (b : S → Option S) : Nat → S → Option S
  | 0, _ => none
  | n + 1, s => (c s).bind fun t => cond t ((b s).bind (whileF c b n)) (some s)
def whileC {R S : Type} (c : S → Option Bool) (b : S → Option (Ctl R S)) : Nat → S → Option (Ctl R S)
  | 0, _ => none
  | n + 1, s => (c s).bind fun t => cond t ((b s).bind fun k => match k with
    | .ret r => some (.ret r)
    | .nx s' => whileC c b n s'
    | .bk s' => some (.nx s')) (some (.nx s))
/-- a comprehension, with the state that its parts change -/
def compS {α β S : Type} (f : α → S → Option (Option β × S)) : List α → S → Option (List β × S)
  | [], s => some ([], s)
  | x :: xs, s => (f x s).bind fun p => (compS f xs p.2).bind fun q => some ((match p.1 with | none => q.1 | some y => y :: q.1), q.2)
def compF {α β : Type} (f : α → Option (Option β)) : List α → Option (List β)
  | [] => some []
  | x :: xs => (f x).bind fun p => (compF f xs).bind fun q => some (match p with | none => q | some y => y :: q)
/-! ### numbers -/
def mulF (a b : Int) : Option Int := cond (decide (a.natAbs < 2 ^ 100000) && decide (b.natAbs < 2 ^ 100000)) (some (a * b)) none
def modF (a b : Int) : Option Int := cond (decide (0 < b)) (some (a % b)) none
def divF (a b : Int) : Option Int := cond (decide (0 < b) && decide (b.natAbs < 2 ^ 1000)) (some (a / b)) none
def powF (a b : Int) : Option Int := cond (decide (0 ≤ b) && decide (b ≤ 1000) && decide (a.natAbs < 2 ^ 1000)) (some (a ^ b.toNat)) none
def maxI (a b : Int) : Int := if b > a then b else a
def minI (a b : Int) : Int := if b < a then b else a
def b2I (b : Bool) : Int := if b then 1 else 0
/-! ### lists -/
def ix {α : Type} (l : List α) (i : Int) : Option α := atI l i
def lenI {α : Type} (l : List α) : Int := (l.length : Int)
def appF {α : Type} (l : List α) (x : α) : Option (List α) := cond (decide (l.length < LIM)) (some (l ++ [x])) none
def catF {α : Type} (l m : List α) : Option (List α) := cond (decide (l.length + m.length ≤ LIM)) (some (l ++ m)) none
def repF {α : Type} (l : List α) (k : Int) : Option (List α) := cond (decide (-(2 ^ 63) ≤ k) && decide (k < 2 ^ 63) && decide (l.length * k.toNat ≤ LIM)) (some (List.replicate k.toNat l).flatten) none
def setF {α : Type} (l : List α) (i : Int) (x : α) : Option (List α) := (ixN l.length i).bind fun j => some (l.set j x)
def popF {α : Type} (l : List α) : Option (α × List α) := (l[l.length - 1]?).bind fun x => some (x, l.dropLast)
def popAtF {α : Type} (l : List α) (i : Int) : Option (α × List α) := cond (decide (-(2 ^ 63) ≤ i) && decide (i < 2 ^ 63)) ((seqIndex? i l.length).bind fun k => (l[k]?).bind fun x => some (x, l.eraseIdx k)) none
def cutL {α : Type} (xs : List α) (lo hi : Option Int) : List α := (xs.drop (HT.sIx xs.length 0 lo)).take (HT.sIx xs.length xs.length hi - HT.sIx xs.length 0 lo)
theorem cutL_map {α : Type} (f : α → V) (xs : List α) (lo hi : Option Int) : cutV (xs.map f) lo hi = (cutL xs lo hi).map f := by
  unfold cutV cutL
  rw [List.length_map, List.map_take, List.map_drop]
/-- the numbers from a to below b -/
def rgI (a b : Int) : List Int := (List.range (b - a).toNat).map fun i : Nat => a + (i : Int)
def rngF (a b : Int) : Option (List Int) := cond (decide (-(2 ^ 62) ≤ a) && decide (a < 2 ^ 62) && decide (-(2 ^ 62) ≤ b) && decide (b < 2 ^ 62)) (some (rgI a b)) none
def enumI {α : Type} (l : List α) : List (Int × α) := List.zipWith (fun (i : Nat) x => ((i : Int), x)) (List.range l.length) l
/-! ### texts -/
def lenS (z : Str) : Option Int := cond (decide (z.length ≤ LIM)) (some (z.length : Int)) none
def ixS (z : Str) (i : Int) : Option Str := cond (decide (z.length ≤ LIM)) ((atI z.cps.toList i).bind fun c => some ⟨#[c]⟩) none
def catS (a b : Str) : Option Str := cond (decide (a.length + b.length ≤ LIM)) (some (a ++ b)) none
def ltS (a b : Str) : Bool := decide (a.cps.toList < b.cps.toList)
/-! ### data -/
@[reducible] def eI (i : Int) : PyData := .int i
@[reducible] def eS (s : Str) : PyData := .str s
@[reducible] def eB (b : Bool) : PyData := .bool b
@[reducible] def eN (_ : Unit) : PyData := .none
@[reducible] def eL {α : Type} (f : α → PyData) (l : List α) : PyData := .list (l.map f)
@[reducible] def eT2 {α β : Type} (f : α → PyData) (g : β → PyData) (p : α × β) : PyData := .tuple [f p.1, g p.2]
@[reducible] def eT3 {α β γ : Type} (f : α → PyData) (g : β → PyData) (h : γ → PyData) (p : α × β × γ) : PyData := .tuple [f p.1, g p.2.1, h p.2.2]
@[reducible] def eT1 {α : Type} (f : α → PyData) (p : α) : PyData := .tuple [f p]
def eO {α : Type} (f : α → PyData) : Option α → PyData
  | none => .none
  | some x => f x
@[reducible] def eA (d : PyData) : PyData := d
def vO {α : Type} (f : α → V) : Option α → V
  | none => .non
  | some x => f x
mutual
def flatD : PyData → Bool
  | .list _ => false
  | .dict _ => false
  | .tuple xs => flatDs xs
  | _ => true
def flatDs : List PyData → Bool
  | [] => true
  | x :: xs => flatD x && flatDs xs
end
def isNoneD : PyData → Bool
  | .none => true
  | _ => false
def eqvF (d e : PyData) : Option Bool := cond (SeqAt.shaped d && SeqAt.shaped e && !d.hasDict && !e.hasDict) (some (PyData.eqv d e)) none
def reprF (d : PyData) : Option Str := cond (d.showable && !d.hasDict && decide (d.depth ≤ 20) && decide (d.shown.length ≤ sizeLine)) (some d.shown) none
end LQ

/-! Readings by what is held. -/
namespace LQ
open PySem L2 LX
section
variable {H0 F0 H G : Hp} {v w : V} {d e : PyData} {a : Addr} {vs : List V} {ds : List PyData}
theorem fr_int {i : Int} (f : Fr F0 G v (.int i)) : v = .int i := by cases f; rfl
theorem fr_str {i : Str} (f : Fr F0 G v (.str i)) : v = .str i := by cases f; rfl
theorem fr_bl {i : Bool} (f : Fr F0 G v (.bool i)) : v = .bl i := by cases f; rfl
theorem fr_non (f : Fr F0 G v .none) : v = .non := by cases f; rfl
theorem fr_lst (f : Fr F0 G v (.list ds)) : ∃ a, v = .ref a := by cases f; exact ⟨_, rfl⟩
theorem fr_tup (f : Fr F0 G v (.tuple ds)) : ∃ a, v = .ref a := by cases f; exact ⟨_, rfl⟩
theorem fr_dic {kvs : List (PyData × PyData)} (f : Fr F0 G v (.dict kvs)) : ∃ a, v = .ref a := by cases f; exact ⟨_, rfl⟩
theorem fr_oI {o : Option Int} (f : Fr F0 G v (eO eI o)) : v = vO V.int o := by
  cases o with
  | none => exact fr_non f
  | some x => exact fr_int f
theorem fr_oS {o : Option Str} (f : Fr F0 G v (eO eS o)) : v = vO V.str o := by
  cases o with
  | none => exact fr_non f
  | some x => exact fr_str f
theorem fr_oB {o : Option Bool} (f : Fr F0 G v (eO eB o)) : v = vO V.bl o := by
  cases o with
  | none => exact fr_non f
  | some x => exact fr_bl f
theorem oI_fr (o : Option Int) : Fr F0 G (vO V.int o) (eO eI o) := by
  cases o with
  | none => exact .non
  | some x => exact .int x
theorem oS_fr (o : Option Str) : Fr F0 G (vO V.str o) (eO eS o) := by
  cases o with
  | none => exact .non
  | some x => exact .str x
theorem oB_fr (o : Option Bool) : Fr F0 G (vO V.bl o) (eO eB o) := by
  cases o with
  | none => exact .non
  | some x => exact .bl x
theorem li (f : Fr F0 G (.ref a) (.list ds)) : ∃ vs, G a = some (.lst vs) ∧ FrL F0 G vs ds := by
  cases f with
  | lst h _ hs => exact ⟨_, h, hs⟩
theorem li0 (f : Fr F0 G (.ref a) (.list ds)) : F0 a = none := by
  cases f with
  | lst _ n _ => exact n
theorem tu (f : Fr F0 G (.ref a) (.tuple ds)) : ∃ vs, G a = some (.tup vs) ∧ FrL F0 G vs ds := by
  cases f with
  | tup h hs => exact ⟨_, h, hs⟩
theorem tu1 {d : PyData} (f : Fr F0 G (.ref a) (.tuple [d])) : ∃ v, G a = some (.tup [v]) ∧ Fr F0 G v d := by
  obtain ⟨vs, h, hs⟩ := tu f
  cases hs with
  | cons f1 hs => cases hs; exact ⟨_, h, f1⟩
theorem tu2 {d e : PyData} (f : Fr F0 G (.ref a) (.tuple [d, e])) : ∃ v w, G a = some (.tup [v, w]) ∧ Fr F0 G v d ∧ Fr F0 G w e := by
  obtain ⟨vs, h, hs⟩ := tu f
  cases hs with
  | cons f1 hs => cases hs with
    | cons f2 hs => cases hs; exact ⟨_, _, h, f1, f2⟩
theorem tu3 {d e c : PyData} (f : Fr F0 G (.ref a) (.tuple [d, e, c])) : ∃ v w x, G a = some (.tup [v, w, x]) ∧ Fr F0 G v d ∧ Fr F0 G w e ∧ Fr F0 G x c := by
  obtain ⟨vs, h, hs⟩ := tu f
  cases hs with
  | cons f1 hs => cases hs with
    | cons f2 hs => cases hs with
      | cons f3 hs => cases hs; exact ⟨_, _, _, h, f1, f2, f3⟩
theorem fl1 (f : Fr F0 G v d) : FrL F0 G [v] [d] := .cons f .nil
theorem fl2 {v2 : V} {d2 : PyData} (f : Fr F0 G v d) (f2 : Fr F0 G v2 d2) : FrL F0 G [v, v2] [d, d2] := .cons f (.cons f2 .nil)
theorem fl3 {v2 v3 : V} {d2 d3 : PyData} (f : Fr F0 G v d) (f2 : Fr F0 G v2 d2) (f3 : Fr F0 G v3 d3) : FrL F0 G [v, v2, v3] [d, d2, d3] := .cons f (.cons f2 (.cons f3 .nil))
mutual
theorem Fr.imm : ∀ {v : V} {d : PyData}, Fr F0 G v d → flatD d = true → Fr H0 G v d
  | _, _, .non, _ => .non
  | _, _, .bl b, _ => .bl b
  | _, _, .int i, _ => .int i
  | _, _, .str x, _ => .str x
  | _, _, .lst _ _ _, e => by simp [flatD] at e
  | _, _, .tup h hs, e => .tup h (FrL.imm hs (by simpa only [flatD] using e))
  | _, _, .dic _ _ _, e => by simp [flatD] at e
theorem FrL.imm : ∀ {v : List V} {d : List PyData}, FrL F0 G v d → flatDs d = true → FrL H0 G v d
  | _, _, .nil, _ => .nil
  | _, _, .cons h hs, e => by
    simp only [flatDs, Bool.and_eq_true] at e
    exact .cons (Fr.imm h e.1) (FrL.imm hs e.2)
end
theorem flat_map {α : Type} {f : α → PyData} (h : ∀ x, flatD (f x) = true) : ∀ l : List α, flatDs (l.map f) = true
  | [] => by simp only [List.map_nil, flatDs]
  | x :: l => by simp only [List.map_cons, flatDs, h x, flat_map h l, Bool.and_self]
theorem flI (i : Int) : flatD (eI i) = true := by simp only [flatD]
theorem flS (i : Str) : flatD (eS i) = true := by simp only [flatD]
theorem flB (i : Bool) : flatD (eB i) = true := by simp only [flatD]
theorem flN (i : Unit) : flatD (eN i) = true := by simp only [flatD]
theorem flO {α : Type} {f : α → PyData} (h : ∀ x, flatD (f x) = true) (o : Option α) : flatD (eO f o) = true := by
  cases o with
  | none => simp only [eO, flatD]
  | some x => exact h x
theorem flT1 {α : Type} {f : α → PyData} (h : ∀ x, flatD (f x) = true) (p : α) : flatD (eT1 f p) = true := by simp only [eT1, flatD, flatDs, h, Bool.and_self]
theorem flT2 {α β : Type} {f : α → PyData} {g : β → PyData} (h : ∀ x, flatD (f x) = true) (k : ∀ x, flatD (g x) = true) (p : α × β) : flatD (eT2 f g p) = true := by simp only [eT2, flatD, flatDs, h, k, Bool.and_self]
theorem flT3 {α β γ : Type} {f : α → PyData} {g : β → PyData} {c : γ → PyData} (h : ∀ x, flatD (f x) = true) (k : ∀ x, flatD (g x) = true) (l : ∀ x, flatD (c x) = true) (p : α × β × γ) : flatD (eT3 f g c p) = true := by simp only [eT3, flatD, flatDs, h, k, l, Bool.and_self]
theorem frl_ints {l : List Int} (h : FrL F0 G vs (l.map eI)) : vs = l.map V.int := by
  induction l generalizing vs with
  | nil => cases h; rfl
  | cons x l ih => cases h with
    | cons f hs => rw [List.map_cons, ih hs, fr_int f]
theorem frl_strs {l : List Str} (h : FrL F0 G vs (l.map eS)) : vs = l.map V.str := by
  induction l generalizing vs with
  | nil => cases h; rfl
  | cons x l ih => cases h with
    | cons f hs => rw [List.map_cons, ih hs, fr_str f]
theorem frl_bls {l : List Bool} (h : FrL F0 G vs (l.map eB)) : vs = l.map V.bl := by
  induction l generalizing vs with
  | nil => cases h; rfl
  | cons x l ih => cases h with
    | cons f hs => rw [List.map_cons, ih hs, fr_bl f]
theorem ints_frl (l : List Int) : FrL F0 G (l.map V.int) (l.map eI) := by
  induction l with
  | nil => exact .nil
  | cons x l ih => exact .cons (.int x) ih
theorem strs_frl (l : List Str) : FrL F0 G (l.map V.str) (l.map eS) := by
  induction l with
  | nil => exact .nil
  | cons x l ih => exact .cons (.str x) ih
theorem bls_frl (l : List Bool) : FrL F0 G (l.map V.bl) (l.map eB) := by
  induction l with
  | nil => exact .nil
  | cons x l ih => exact .cons (.bl x) ih
end
section
variable {ms ns : List Addr} {H0 F0 G H H' G1 : Hp} {cs : List (Addr × HO)} {p a b : Addr} {o o' : HO} {v x y : V} {d : PyData} {vs us xs : List V} {ds : List PyData} {K : PySem.W.Frag} {Q : VK} {α β : Type} {e : α → PyData} {l m : List α}
theorem Sep.toRet (S : Sep ms H0 G H cs) : Ret ms H0 G H := ⟨S.sub, fun p hp => by
  obtain ⟨c, hc, rfl⟩ := List.mem_map.mp (S.msc p hp)
  exact (S.cel c hc).2.1, S.base, S.old, S.tups⟩
theorem Sep.ret {cs' : List (Addr × HO)} (S : Sep ms H0 G H cs) (R : Ret ns H G1 H') (hn : ∀ p ∈ ns, p ∈ cs.map (·.1)) (hm : cs'.map (·.1) = cs.map (·.1)) (hc : ∀ c ∈ cs', H' c.1 = some c.2 ∧ ∀ xs, c.2 ≠ .tup xs) :
    ∃ G', Sep ms H0 G' H' cs' ∧ Same G G' ∧ (∀ v d, Fr H G1 v d → Fr H0 G' v d) ∧ ∀ v d, FrL H G1 v d → FrL H0 G' v d := by
  have sG : Same G (hid G1 (cs.map (·.1))) := fun b o e => by
    have n : b ∉ cs.map (·.1) := fun z => by
      obtain ⟨c, hc, rfl⟩ := List.mem_map.mp z
      rw [(S.cel c hc).2.1] at e
      cases e
    rw [hid_out n]
    exact R.base b o (S.sub b o e) fun z => n (hn b z)
  have k1 : ∀ a xs, G1 a = some (.lst xs) → H a = none → hid G1 (cs.map (·.1)) a = some (.lst xs) ∧ H0 a = none := fun a xs e n => ⟨by rw [hid_out (S.cne n)]; exact e, S.old a n⟩
  have k2 : ∀ a xs, G1 a = some (.tup xs) → hid G1 (cs.map (·.1)) a = some (.tup xs) := fun a xs e => by
    rw [hid_out ?_]
    · exact e
    · intro z
      rw [← hm] at z
      obtain ⟨c, hc', rfl⟩ := List.mem_map.mp z
      have := (hc c hc').1
      rw [R.sub _ _ e] at this
      exact (hc c hc').2 xs (Option.some.inj this).symm
  have k3 : ∀ a xs, Rd G1 a (.dK xs) → H a = none → Rd (hid G1 (cs.map (·.1))) a (.dK xs) ∧ H0 a = none := fun a xs e n => ⟨by unfold Rd; rw [hid_out (S.cne n)]; exact e, S.old a n⟩
  refine ⟨hid G1 (cs.map (·.1)), ⟨fun b o e => R.sub b o (hid_some e).2, fun c hc' => ⟨(hc c hc').1, hid_in (by rw [← hm]; exact List.mem_map_of_mem hc'), (hc c hc').2⟩, by rw [hm]; exact S.nd, by rw [hm]; exact S.msc, S.hms, fun b e => S.old b (R.old b e), fun b o e n => sG b o (S.base b o e n), fun b xs e => k2 b xs (R.tups b xs e)⟩, sG, fun v d f => f.move k1 k2 k3, fun v d f => f.move k1 k2 k3⟩
theorem Sep.ret0 (S : Sep ms H0 G H cs) (R : Ret [] H G1 H') : ∃ G', Sep ms H0 G' H' cs ∧ Same G G' ∧ (∀ v d, Fr H G1 v d → Fr H0 G' v d) ∧ ∀ v d, FrL H G1 v d → FrL H0 G' v d :=
  S.ret R (fun _ h => absurd h List.not_mem_nil) rfl fun c hc => ⟨R.sub _ _ (R.base _ _ (S.cel c hc).1 List.not_mem_nil), (S.cel c hc).2.2⟩
theorem map_fst_set {cs : List (Addr × HO)} {i : Nat} (h : cs[i]? = some (p, o)) : (cs.set i (p, o')).map (·.1) = cs.map (·.1) := by
  rw [List.map_set]
  apply List.ext_getElem?
  intro j
  by_cases c : i = j
  · subst c
    rw [List.getElem?_set_self (by rw [List.length_map]; exact (List.getElem?_eq_some_iff.mp h).1), List.getElem?_map, h]
    rfl
  · rw [List.getElem?_set_ne c]
theorem Sep.ret1 (S : Sep ms H0 G H cs) (i : Nat) (h : cs[i]? = some (p, o)) (R : Ret [p] H G1 H') (hp : H' p = some o') (k : ∀ xs, o' ≠ .tup xs) :
    ∃ G', Sep ms H0 G' H' (cs.set i (p, o')) ∧ Same G G' ∧ (∀ v d, Fr H G1 v d → Fr H0 G' v d) ∧ ∀ v d, FrL H G1 v d → FrL H0 G' v d := by
  refine S.ret R (fun q hq => ?_) (map_fst_set h) fun c hc => ?_
  · rw [List.mem_singleton.mp hq]
    exact List.mem_map.mpr ⟨_, List.mem_of_getElem? h, rfl⟩
  · by_cases z : c.1 = p
    · obtain ⟨j, hj⟩ := List.getElem?_of_mem hc
      have il := (List.getElem?_eq_some_iff.mp h).1
      have e : i = j := by
        have h1 : ((cs.set i (p, o')).map (·.1))[j]? = some p := by rw [List.getElem?_map, hj, ← z]; rfl
        rw [map_fst_set h] at h1
        exact nodup_ix S.nd (by rw [List.getElem?_map, h]; rfl) h1
      subst e
      rw [List.getElem?_set_self il] at hj
      cases hj
      exact ⟨hp, k⟩
    · have hc2 : c ∈ cs := by
        rcases List.mem_or_eq_of_mem_set hc with q | q
        · exact q
        · exact absurd (by rw [q]) z
      exact ⟨R.sub _ _ (R.base _ _ (S.cel c hc2).1 fun q => z (List.mem_singleton.mp q)), (S.cel c hc2).2.2⟩
/-- an owned list, read -/
theorem Sep.rd (S : Sep ms H0 G H cs) (i : Nat) (h : cs[i]? = some (p, .lst vs)) (f : FrL F0 G vs ds) : Fr E0h H (.ref p) (.list ds) := .lst (S.get i h) rfl ((f.rp).same S.sub)
theorem Sep.hidS (S : Sep ms H0 G H cs) (h : ∀ p ∈ ns, G p = none) : Same G (hid H ns) := fun b o e => by
  rw [hid_out]
  · exact S.sub b o e
  · intro z
    rw [h b z] at e
    cases e
theorem lst_tup {vs : List V} : ∀ xs, HO.lst vs ≠ .tup xs := fun _ z => by cases z
theorem dk_tup {vs : List (Key × V)} : ∀ xs, HO.dK vs ≠ .tup xs := fun _ z => by cases z
theorem Sep.ne (S : Sep ms H0 G H cs) {i j : Nat} (hi : cs[i]? = some (p, o)) (hj : cs[j]? = some (b, o')) (n : i ≠ j) : p ≠ b := fun z => by
  subst z
  exact n (nodup_ix S.nd (show (cs.map (·.1))[i]? = some p by rw [List.getElem?_map, hi]; rfl) (by rw [List.getElem?_map, hj]; rfl))
/-! ### new objects -/
def zTup (xs : List V) (H : Hp) (Q : VK) : Prop := xs.length ≤ sizeLine ∧ ∀ p, H p = none → Q (.ref p) (upd H p (.tup xs))
def zLst (xs : List V) (H : Hp) (Q : VK) : Prop := xs.length ≤ sizeLine ∧ ∀ p, H p = none → Q (.ref p) (upd H p (.lst xs))
def zNew (xs : List V) (H : Hp) (Q : VK) : Prop := ∀ p, H p = none → Q (.ref p) (upd H p (.lst xs))
theorem rd_tupZ {tr : TA} {σ : L2.St} (q : tr σ H fun xs H1 => zTup xs H1 Q) : tTup tr σ H Q := q
theorem rd_lstZ {tr : TA} {σ : L2.St} (q : tr σ H fun xs H1 => zLst xs H1 Q) : tLst tr σ H Q := q
theorem q_tup (S : Sep ms H0 G H cs) (z : xs.length ≤ LIM) (f : FrL F0 G xs ds) (q : ∀ p G' H', Sep ms H0 G' H' cs → Same G G' → Fr F0 G' (.ref p) (.tuple ds) → Q (.ref p) H') : zTup xs H Q :=
  ⟨lim_le z, fun p hp => q p _ _ (S.sh hp) (sNew (S.gfree hp)) (.tup upd_same (f.same (sNew (S.gfree hp))))⟩
theorem q_lst (S : Sep ms H0 G H cs) (z : xs.length ≤ LIM) (f : FrL F0 G xs ds) (hF : ∀ b, H b = none → F0 b = none) (q : ∀ p G' H', Sep ms H0 G' H' cs → Same G G' → Fr F0 G' (.ref p) (.list ds) → Q (.ref p) H') : zLst xs H Q :=
  ⟨lim_le z, fun p hp => q p _ _ (S.sh hp) (sNew (S.gfree hp)) (.lst upd_same (hF p hp) (f.same (sNew (S.gfree hp))))⟩
theorem q_lstO (S : Sep ms H0 G H cs) (z : xs.length ≤ LIM) (q : ∀ p H', Sep ms H0 G H' ((p, .lst xs) :: cs) → H0 p = none → Q (.ref p) H') : zLst xs H Q :=
  ⟨lim_le z, fun p hp => q p _ (S.own hp lst_tup) (S.old p hp)⟩
/-- what a rule leaves that makes a new list of what is held -/
theorem q_new (S : Sep ms H0 G H cs) (f : FrL F0 G xs ds) (hF : ∀ b, H b = none → F0 b = none) (q : ∀ p G' H', Sep ms H0 G' H' cs → Same G G' → Fr F0 G' (.ref p) (.list ds) → Q (.ref p) H') : zNew xs H Q :=
  fun p hp => q p _ _ (S.sh hp) (sNew (S.gfree hp)) (.lst upd_same (hF p hp) (f.same (sNew (S.gfree hp))))
theorem q_newO (S : Sep ms H0 G H cs) (q : ∀ p H', Sep ms H0 G H' ((p, .lst xs) :: cs) → H0 p = none → Q (.ref p) H') : zNew xs H Q :=
  fun p hp => q p _ (S.own hp lst_tup) (S.old p hp)
/-- an owned list becomes one that is only read -/
theorem Sep.fixL (S : Sep ms H0 G H cs) (i : Nat) (h : cs[i]? = some (p, .lst vs)) (hm : p ∉ ms) (f : FrL H0 G vs ds) (n : H0 p = none) : ∃ G', Sep ms H0 G' H (cs.eraseIdx i) ∧ Same G G' ∧ Fr H0 G' (.ref p) (.list ds) :=
  ⟨_, S.fix i h hm, sNew (S.gnone i h), .lst upd_same n (f.same (sNew (S.gnone i h)))⟩
/-! ### lists -/
theorem ix_get {l : List α} {i : Int} {x : α} (h : ix l i = some x) (f : FrL F0 G vs (l.map e)) : ∃ v, atI vs i = some v ∧ Fr F0 G v (e x) := by
  unfold ix atI at h
  obtain ⟨j, h1, h2⟩ := Option.bind_eq_some_iff.mp h
  obtain ⟨v, h3, h4⟩ := f.get (i := j) (d := e x) (by rw [List.getElem?_map, h2]; rfl)
  refine ⟨v, ?_, h4⟩
  unfold atI
  rw [f.len, List.length_map, h1]
  exact h3
theorem q_ixL {i : Int} {x : α} (ha : H a = some (.lst vs)) (f : FrL F0 G vs (l.map e)) (h : ix l i = some x) (q : ∀ v, Fr F0 G v (e x) → Q v H) : rIxL K (.ref a) (.int i) H Q := by
  obtain ⟨v, h1, h2⟩ := ix_get h f
  exact rd_ixL ha h1 (q v h2)
theorem frl_cut {lo hi : Option Int} (f : FrL F0 G vs (l.map e)) : FrL F0 G (cutV vs lo hi) ((cutL l lo hi).map e) := by
  unfold cutV cutL
  rw [f.len, List.length_map, List.map_take, List.map_drop]
  exact (f.drop _).take _
theorem q_slL {lo hi : Option Int} (S : Sep ms H0 G H cs) (ha : H a = some (.lst vs)) (f : FrL F0 G vs (l.map e)) (hF : ∀ b, H b = none → F0 b = none) (q : ∀ p G' H', Sep ms H0 G' H' cs → Same G G' → Fr F0 G' (.ref p) (eL e (cutL l lo hi)) → Q (.ref p) H') : rSlL K (.ref a) lo hi H Q :=
  rd_slL ha (q_new S (frl_cut f) hF q)
theorem q_slLO {lo hi : Option Int} (S : Sep ms H0 G H cs) (ha : H a = some (.lst vs)) (f : FrL F0 G vs (l.map e)) (q : ∀ p us H', Sep ms H0 G H' ((p, .lst us) :: cs) → H0 p = none → FrL F0 G us ((cutL l lo hi).map e) → Q (.ref p) H') : rSlL K (.ref a) lo hi H Q :=
  rd_slL ha (q_newO S fun p H' S' n => q p _ H' S' n (frl_cut f))
theorem q_len (ha : H a = some (.lst vs)) (f : FrL F0 G vs (l.map e)) (q : Q (.int (lenI l)) H) : qLen K [.ref a] H Q := by
  refine rd_len ha ?_
  rw [f.len, List.length_map]
  exact q
theorem q_list (S : Sep ms H0 G H cs) (ha : H a = some (.lst vs)) (f : FrL F0 G vs ds) (hF : ∀ b, H b = none → F0 b = none) (q : ∀ p G' H', Sep ms H0 G' H' cs → Same G G' → Fr F0 G' (.ref p) (.list ds) → Q (.ref p) H') : qList K [.ref a] H Q :=
  rd_listOf ha (q_new S f hF q)
theorem q_listO (S : Sep ms H0 G H cs) (ha : H a = some (.lst vs)) (q : ∀ p H', Sep ms H0 G H' ((p, .lst vs) :: cs) → H0 p = none → Q (.ref p) H') : qList K [.ref a] H Q :=
  rd_listOf ha (q_newO S q)
theorem cat_ok {l m r : List α} (h : catF l m = some r) : l.length + m.length ≤ LIM ∧ r = l ++ m := by
  unfold catF at h
  obtain ⟨h1, h2⟩ := grd h
  exact ⟨of_decide_eq_true h1, (som h2).symm⟩
theorem q_cat {r : List α} (S : Sep ms H0 G H cs) (ha : H a = some (.lst vs)) (f : FrL F0 G vs (l.map e)) (hb : H b = some (.lst us)) (f2 : FrL F0 G us (m.map e)) (h : catF l m = some r) (hF : ∀ b, H b = none → F0 b = none)
    (q : ∀ p G' H', Sep ms H0 G' H' cs → Same G G' → Fr F0 G' (.ref p) (eL e r) → Q (.ref p) H') : rCat (.ref a) (.ref b) H Q := by
  obtain ⟨h1, rfl⟩ := cat_ok h
  refine rd_cat ha hb (lim_le (by rw [f.len, f2.len, List.length_map, List.length_map]; exact h1)) (q_new S ?_ hF q)
  rw [List.map_append]
  exact f.app f2
theorem q_catO {r : List α} (S : Sep ms H0 G H cs) (ha : H a = some (.lst vs)) (f : FrL F0 G vs (l.map e)) (hb : H b = some (.lst us)) (f2 : FrL F0 G us (m.map e)) (h : catF l m = some r)
    (q : ∀ p ws H', Sep ms H0 G H' ((p, .lst ws) :: cs) → H0 p = none → FrL F0 G ws (r.map e) → Q (.ref p) H') : rCat (.ref a) (.ref b) H Q := by
  obtain ⟨h1, rfl⟩ := cat_ok h
  refine rd_cat ha hb (lim_le (by rw [f.len, f2.len, List.length_map, List.length_map]; exact h1)) (q_newO S fun p H' S' n => q p _ H' S' n ?_)
  rw [List.map_append]
  exact f.app f2
theorem frl_rep {k : Nat} (f : FrL F0 G vs (l.map e)) : FrL F0 G (List.replicate k vs).flatten ((List.replicate k l).flatten.map e) := by
  induction k with
  | zero => exact .nil
  | succ k ih =>
    rw [List.replicate_succ, List.replicate_succ, List.flatten_cons, List.flatten_cons, List.map_append]
    exact f.app ih
theorem q_repN {r : List α} {k : Int} (S : Sep ms H0 G H cs) (ha : H a = some (.lst vs)) (f : FrL F0 G vs (l.map e)) (h : repF l k = some r) (q : ∀ p, H p = none → FrL F0 G (List.replicate k.toNat vs).flatten (r.map e) → Q (.ref p) (upd H p (.lst (List.replicate k.toNat vs).flatten))) : rRep (.ref a) (.int k) H Q := by
  unfold repF at h
  obtain ⟨h1, h2⟩ := grd h
  rw [Bool.and_eq_true, Bool.and_eq_true, decide_eq_true_iff, decide_eq_true_iff, decide_eq_true_iff] at h1
  obtain ⟨⟨h3, h4⟩, h5⟩ := h1
  refine ⟨a, k, vs, rfl, rfl, ha, h3, h4, lim_le (by rw [f.len, List.length_map]; exact h5), fun p hp => q p hp ?_⟩
  rw [← som h2]
  exact frl_rep f
theorem q_rep {r : List α} {k : Int} (S : Sep ms H0 G H cs) (ha : H a = some (.lst vs)) (f : FrL F0 G vs (l.map e)) (h : repF l k = some r) (hF : ∀ b, H b = none → F0 b = none)
    (q : ∀ p G' H', Sep ms H0 G' H' cs → Same G G' → Fr F0 G' (.ref p) (eL e r) → Q (.ref p) H') : rRep (.ref a) (.int k) H Q :=
  q_repN S ha f h fun p hp f2 => q_new S f2 hF q p hp
theorem q_repO {r : List α} {k : Int} (S : Sep ms H0 G H cs) (ha : H a = some (.lst vs)) (f : FrL F0 G vs (l.map e)) (h : repF l k = some r)
    (q : ∀ p ws H', Sep ms H0 G H' ((p, .lst ws) :: cs) → H0 p = none → FrL F0 G ws (r.map e) → Q (.ref p) H') : rRep (.ref a) (.int k) H Q :=
  q_repN S ha f h fun p hp f2 => q_newO S (fun p H' S' n => q p _ H' S' n f2) p hp
/-! ### changes of owned lists -/
theorem q_app {r : List α} {x : α} (S : Sep ms H0 G H cs) (i : Nat) (hi : cs[i]? = some (a, .lst vs)) (f : FrL F0 G vs (l.map e)) (fy : Fr F0 G y (e x)) (h : appF l x = some r)
    (q : ∀ us H', Sep ms H0 G H' (cs.set i (a, .lst us)) → FrL F0 G us (r.map e) → Q .non H') : rAppend (.ref a) [y] H Q := by
  unfold appF at h
  obtain ⟨h1, h2⟩ := grd h
  refine ⟨a, vs, y, rfl, rfl, S.get i hi, lim_lt (by rw [f.len, List.length_map]; exact of_decide_eq_true h1), q _ _ (S.put i hi lst_tup) ?_⟩
  rw [← som h2, List.map_append]
  exact f.app (.cons fy .nil)
theorem q_pop {r : List α} {x : α} (S : Sep ms H0 G H cs) (i : Nat) (hi : cs[i]? = some (a, .lst vs)) (f : FrL F0 G vs (l.map e)) (h : popF l = some (x, r))
    (q : ∀ y us H', Sep ms H0 G H' (cs.set i (a, .lst us)) → FrL F0 G us (r.map e) → Fr F0 G y (e x) → Q y H') : rPop (.ref a) [] H Q := by
  unfold popF at h
  obtain ⟨z, h1, h2⟩ := bnd h
  cases h2
  obtain ⟨w, h3, h4⟩ := f.get (i := l.length - 1) (d := e x) (by rw [List.getElem?_map, h1]; rfl)
  refine ⟨a, vs, w, rfl, rfl, S.get i hi, by rw [f.len, List.length_map]; exact h3, q w _ _ (S.put i hi lst_tup) ?_ h4⟩
  rw [List.dropLast_eq_take, List.dropLast_eq_take, f.len, List.length_map, List.map_take]
  exact f.take _
theorem q_popAt {r : List α} {x : α} {j : Int} (S : Sep ms H0 G H cs) (i : Nat) (hi : cs[i]? = some (a, .lst vs)) (f : FrL F0 G vs (l.map e)) (h : popAtF l j = some (x, r))
    (q : ∀ y us H', Sep ms H0 G H' (cs.set i (a, .lst us)) → FrL F0 G us (r.map e) → Fr F0 G y (e x) → Q y H') : rPopAt (.ref a) [.int j] H Q := by
  unfold popAtF at h
  obtain ⟨h0, h⟩ := grd h
  rw [Bool.and_eq_true, decide_eq_true_iff, decide_eq_true_iff] at h0
  obtain ⟨k, h1, h⟩ := bnd h
  obtain ⟨z, h2, h3⟩ := bnd h
  cases h3
  obtain ⟨w, h4, h5⟩ := f.get (i := k) (d := e x) (by rw [List.getElem?_map, h2]; rfl)
  refine ⟨a, vs, j, k, w, rfl, rfl, S.get i hi, h0.1, h0.2, by rw [f.len, List.length_map]; exact h1, h4, q w _ _ (S.put i hi lst_tup) ?_ h5⟩
  rw [← erase_map]
  exact f.erase _
theorem q_setL {r : List α} {x : α} {j : Int} {R : Hp → Prop} (S : Sep ms H0 G H cs) (i : Nat) (hi : cs[i]? = some (a, .lst vs)) (f : FrL F0 G vs (l.map e)) (fy : Fr F0 G y (e x)) (h : setF l j x = some r)
    (q : ∀ us H', Sep ms H0 G H' (cs.set i (a, .lst us)) → FrL F0 G us (r.map e) → R H') : rSetL (.ref a) (.int j) y H R := by
  unfold setF at h
  obtain ⟨k, h1, h2⟩ := bnd h
  cases h2
  refine rd_setL (S.get i hi) (j := k) (by rw [f.len, List.length_map]; exact h1) (q _ _ (S.put i hi lst_tup) ?_)
  rw [List.map_set]
  exact f.set _ fy
theorem q_rev (S : Sep ms H0 G H cs) (i : Nat) (hi : cs[i]? = some (a, .lst vs)) (f : FrL F0 G vs (l.map e))
    (q : ∀ us H', Sep ms H0 G H' (cs.set i (a, .lst us)) → FrL F0 G us (l.reverse.map e) → Q .non H') : rReverse (.ref a) [] H Q := by
  refine ⟨a, vs, rfl, rfl, S.get i hi, q _ _ (S.put i hi lst_tup) ?_⟩
  rw [List.map_reverse]
  exact f.rev
theorem q_clear (S : Sep ms H0 G H cs) (i : Nat) (hi : cs[i]? = some (a, .lst vs))
    (q : ∀ H', Sep ms H0 G H' (cs.set i (a, .lst [])) → Q .non H') : rClear (.ref a) [] H Q :=
  ⟨a, vs, rfl, rfl, S.get i hi, q _ (S.put i hi lst_tup)⟩
theorem q_ext {r : List α} (S : Sep ms H0 G H cs) (i : Nat) (hi : cs[i]? = some (a, .lst vs)) (f : FrL F0 G vs (l.map e)) (hb : H b = some (.lst us)) (f2 : FrL F0 G us (m.map e)) (h : catF l m = some r)
    (q : ∀ ws H', Sep ms H0 G H' (cs.set i (a, .lst ws)) → FrL F0 G ws (r.map e) → Q .non H') : rExtend (.ref a) [.ref b] H Q := by
  obtain ⟨h1, rfl⟩ := cat_ok h
  refine ⟨a, b, vs, us, rfl, rfl, S.get i hi, hb, lim_le (by rw [f.len, f2.len, List.length_map, List.length_map]; exact h1), q _ _ (S.put i hi lst_tup) ?_⟩
  rw [List.map_append]
  exact f.app f2
/-! ### numbers -/
theorem q_mulW {i j k : Int} (h : mulF i j = some k) (q : Q (.int k) H) : rI CMulW (fun i j => .int (i * j)) (.int i) (.int j) H Q := by
  unfold mulF at h
  obtain ⟨h1, h2⟩ := grd h
  rw [Bool.and_eq_true, decide_eq_true_iff, decide_eq_true_iff] at h1
  cases som h2
  exact ⟨i, j, rfl, rfl, wide_mul h1.1 h1.2 (by decide) (by decide) (by decide), q⟩
theorem q_mod {i j k : Int} (h : modF i j = some k) (q : Q (.int k) H) : rI (fun _ j => 0 < j) (fun i j => .int (i % j)) (.int i) (.int j) H Q := by
  unfold modF at h
  obtain ⟨h1, h2⟩ := grd h
  cases som h2
  exact ⟨i, j, rfl, rfl, of_decide_eq_true h1, q⟩
theorem q_div {i j k : Int} (h : divF i j = some k) (q : Q (.int k) H) : rI CDivW (fun i j => .int (i / j)) (.int i) (.int j) H Q := by
  unfold divF at h
  obtain ⟨h1, h2⟩ := grd h
  rw [Bool.and_eq_true, decide_eq_true_iff, decide_eq_true_iff] at h1
  cases som h2
  exact ⟨i, j, rfl, rfl, wide_div h1.1 h1.2 (by decide) (by decide), q⟩
theorem q_pow {i j k : Int} (h : powF i j = some k) (q : Q (.int k) H) : rI CPowW (fun i j => .int (i ^ j.toNat)) (.int i) (.int j) H Q := by
  unfold powF at h
  obtain ⟨h1, h2⟩ := grd h
  rw [Bool.and_eq_true, Bool.and_eq_true, decide_eq_true_iff, decide_eq_true_iff, decide_eq_true_iff] at h1
  cases som h2
  exact ⟨i, j, rfl, rfl, ⟨h1.1.1, h1.1.2, h1.2⟩, q⟩
theorem q_eqI {i j : Int} (q : Q (.bl (decide (i = j))) H) : rEq (.int i) (.int j) H Q := by
  refine ⟨rfl, ?_⟩
  rw [dec_int]
  exact q
end
end LQ

/-! Loops and comprehensions by what they compute. -/
namespace LQ
open PySem L2 LX
section
variable {ms : List Addr} {H0 F0 G H H1 H' : Hp} {cs : List (Addr × HO)} {D : Ends} {σ : L2.St} {g : TG} {tb : TS} {J : It} {Gd : Hp → Prop} {Y : Nat → Hp → V → Hp → Prop} {α β S R : Type} {K : PySem.W.Frag}
/-- the reading of a for over J -/
abbrev ForG (J : It) (g : TG) (tb : TS) (D : Ends) (σ : L2.St) (H : Hp) : Prop := ∃ W : Nat → Nat → L2.St → Hp → Prop, (∃ m, W 0 m σ H) ∧ ∀ i m σ H, W i m σ H →
  (J.stop i H ∧ D.nx σ H) ∨ (J.go i H ∧ ∃ N : L2.St → Hp → Prop, (∀ σ' H', N σ' H' → ∃ m', m' < m ∧ W (i + 1) m' σ' H') ∧ ∀ x H', J.yld i H x H' → g x σ H' fun σ2 H2 => tb { D with nx := N, ct := N, bk := D.nx } σ2 H2)
theorem loopF_drop {step : α → S → Option S} {xs : List α} {i : Nat} {a : α} {s r : S} (hi : xs[i]? = some a) (h : loopF step (xs.drop i) s = some r) : ∃ s', step a s = some s' ∧ loopF step (xs.drop (i + 1)) s' = some r := by
  rw [drop_of hi] at h
  exact bnd h
theorem loopC_drop {step : α → S → Option (Ctl R S)} {xs : List α} {i : Nat} {a : α} {s : S} {r : Ctl R S} (hi : xs[i]? = some a) (h : loopC step (xs.drop i) s = some r) :
    ∃ c, step a s = some c ∧ (∀ q, c = .ret q → r = .ret q) ∧ (∀ s', c = .nx s' → loopC step (xs.drop (i + 1)) s' = some r) ∧ (∀ s', c = .bk s' → r = .nx s') := by
  rw [drop_of hi] at h
  obtain ⟨c, h1, h2⟩ := bnd h
  refine ⟨c, h1, fun q e => ?_, fun s' e => ?_, fun s' e => ?_⟩
  · subst e
    exact (som h2).symm
  · subst e
    exact h2
  · subst e
    exact (som h2).symm
/-- a for whose body neither gives back nor breaks off -/
theorem q_forF {step : α → S → Option S} {xs : List α} {s0 r : S} (hf : loopF step xs s0 = some r) (w : Walk J xs.length Gd Y) (Pv : S → L2.St → Hp → Prop) (h0 : Pv s0 σ H) (hG : ∀ s σ H, Pv s σ H → Gd H)
    (hs : ∀ i a s s' x σ H H', xs[i]? = some a → step a s = some s' → Pv s σ H → Y i H x H' → g x σ H' fun σ2 H2 => tb { D with nx := Pv s', ct := Pv s', bk := D.nx } σ2 H2) (hd : ∀ σ H, Pv r σ H → D.nx σ H) : ForG J g tb D σ H := by
  refine ⟨fun i m σ H => m = xs.length - i ∧ i ≤ xs.length ∧ ∃ s, loopF step (xs.drop i) s = some r ∧ Pv s σ H, ⟨_, rfl, Nat.zero_le _, s0, hf, h0⟩, ?_⟩
  rintro i m σ H ⟨rfl, hi, s, hl, p⟩
  have q := hG s σ H p
  by_cases hlt : i < xs.length
  · obtain ⟨s', h1, h2⟩ := loopF_drop (List.getElem?_eq_getElem hlt) hl
    refine .inr ⟨w.goes i H hlt q, Pv s', fun σ' H' p' => ⟨xs.length - (i + 1), by omega, rfl, hlt, s', h2, p'⟩, fun x H' y => hs i _ s s' x σ H H' (List.getElem?_eq_getElem hlt) h1 p (w.yields i H x H' hlt q y)⟩
  · have e : i = xs.length := by omega
    subst e
    rw [List.drop_length] at hl
    cases hl
    exact .inl ⟨w.stops H q, hd σ H p⟩
/-- a for whose body may give back or break off -/
theorem q_forC {step : α → S → Option (Ctl R S)} {xs : List α} {s0 : S} {out : Ctl R S} (hf : loopC step xs s0 = some out) (w : Walk J xs.length Gd Y) (Pv : S → L2.St → Hp → Prop) (h0 : Pv s0 σ H) (hG : ∀ s σ H, Pv s σ H → Gd H)
    (hs : ∀ i a s c x σ H H', xs[i]? = some a → step a s = some c → Pv s σ H → Y i H x H' → (∀ q, c = .ret q → out = .ret q) → (∀ s' σ H, c = .bk s' → Pv s' σ H → D.nx σ H) →
      g x σ H' fun σ2 H2 => tb { D with nx := fun σ H => ∃ s', c = .nx s' ∧ Pv s' σ H, ct := fun σ H => ∃ s', c = .nx s' ∧ Pv s' σ H, bk := D.nx } σ2 H2)
    (hd : ∀ s σ H, out = .nx s → Pv s σ H → D.nx σ H) : ForG J g tb D σ H := by
  refine ⟨fun i m σ H => m = xs.length - i ∧ i ≤ xs.length ∧ ∃ s, loopC step (xs.drop i) s = some out ∧ Pv s σ H, ⟨_, rfl, Nat.zero_le _, s0, hf, h0⟩, ?_⟩
  rintro i m σ H ⟨rfl, hi, s, hl, p⟩
  have q := hG s σ H p
  by_cases hlt : i < xs.length
  · obtain ⟨c, h1, h2, h3, h4⟩ := loopC_drop (List.getElem?_eq_getElem hlt) hl
    refine .inr ⟨w.goes i H hlt q, fun σ H => ∃ s', c = .nx s' ∧ Pv s' σ H, fun σ' H' ⟨s', e, p'⟩ => ⟨xs.length - (i + 1), by omega, rfl, hlt, s', h3 s' e, p'⟩, fun x H' y => ?_⟩
    exact hs i _ s c x σ H H' (List.getElem?_eq_getElem hlt) h1 p (w.yields i H x H' hlt q y) h2 fun s' σ H e p' => hd s' σ H (h4 s' e) p'
  · have e : i = xs.length := by omega
    subst e
    rw [List.drop_length] at hl
    cases hl
    exact .inl ⟨w.stops H q, hd s σ H rfl p⟩
/-- while, neither giving back nor breaking off -/
theorem q_whileF {c : S → Option Bool} {b : S → Option S} {n : Nat} {s0 r : S} {tc : TT} (hf : whileF c b n s0 = some r) (Pv : S → L2.St → Hp → Prop) (h0 : Pv s0 σ H)
    (hc : ∀ s t σ H, c s = some t → Pv s σ H → ∀ Q : Bool → Hp → Prop, (∀ H', Pv s σ H' → Q t H') → tc σ H Q)
    (hs : ∀ s s' σ H, b s = some s' → c s = some true → Pv s σ H → tb { D with nx := Pv s', ct := Pv s', bk := D.nx } σ H) (hd : ∀ σ H, Pv r σ H → D.nx σ H) : tWhile tc tb D σ H := by
  refine ⟨fun m σ H => ∃ s, whileF c b m s = some r ∧ Pv s σ H, ⟨n, s0, hf, h0⟩, ?_⟩
  rintro m σ H ⟨s, hl, p⟩
  cases m with
  | zero => cases hl
  | succ m =>
    obtain ⟨t, h1, h2⟩ := bnd hl
    refine hc s t σ H h1 p _ fun H' p' => ?_
    rcases cnd h2 with ⟨rfl, h3⟩ | ⟨rfl, h3⟩
    · obtain ⟨s', h4, h5⟩ := bnd h3
      exact iteT ⟨Pv s', fun σ' H' p2 => ⟨m, Nat.lt_succ_self m, s', h5, p2⟩, hs s s' σ H' h4 h1 p'⟩
    · cases h3
      exact iteF (hd σ H' p')
theorem q_whileC {c : S → Option Bool} {b : S → Option (Ctl R S)} {n : Nat} {s0 : S} {out : Ctl R S} {tc : TT} (hf : whileC c b n s0 = some out) (Pv : S → L2.St → Hp → Prop) (h0 : Pv s0 σ H)
    (hc : ∀ s t σ H, c s = some t → Pv s σ H → ∀ Q : Bool → Hp → Prop, (∀ H', Pv s σ H' → Q t H') → tc σ H Q)
    (hs : ∀ s k σ H, b s = some k → c s = some true → Pv s σ H → (∀ q, k = .ret q → out = .ret q) → (∀ s' σ H, k = .bk s' → Pv s' σ H → D.nx σ H) →
      tb { D with nx := fun σ H => ∃ s', k = .nx s' ∧ Pv s' σ H, ct := fun σ H => ∃ s', k = .nx s' ∧ Pv s' σ H, bk := D.nx } σ H) (hd : ∀ s σ H, out = .nx s → Pv s σ H → D.nx σ H) : tWhile tc tb D σ H := by
  refine ⟨fun m σ H => ∃ s, whileC c b m s = some out ∧ Pv s σ H, ⟨n, s0, hf, h0⟩, ?_⟩
  rintro m σ H ⟨s, hl, p⟩
  cases m with
  | zero => cases hl
  | succ m =>
    obtain ⟨t, h1, h2⟩ := bnd hl
    refine hc s t σ H h1 p _ fun H' p' => ?_
    rcases cnd h2 with ⟨rfl, h3⟩ | ⟨rfl, h3⟩
    · obtain ⟨k, h4, h5⟩ := bnd h3
      refine iteT ⟨fun σ H => ∃ s', k = .nx s' ∧ Pv s' σ H, fun σ' H' ⟨s', e, p2⟩ => ⟨m, Nat.lt_succ_self m, s', ?_, p2⟩, hs s k σ H' h4 h1 p' (fun q e => ?_) fun s' σ H e p2 => hd s' σ H ?_ p2⟩
      · subst e
        exact h5
      · subst e
        exact (som h5).symm
      · subst e
        exact (som h5).symm
    · cases h3
      exact iteF (hd s σ H' rfl p')
/-- the reading of a comprehension over J -/
abbrev LcG (J : It) (g : TG) (tt : TT) (te : TE) (vs : List Nat) (σ : L2.St) (H1 : Hp) (D : Addr) (Qd : Hp → Prop) : Prop := ∃ W : Nat → Nat → Hp → Prop, (∃ m, W 0 m (upd H1 D (.lst []))) ∧ ∀ i m H, W i m H →
  (J.stop i H ∧ Qd H) ∨ (J.go i H ∧ ∃ Nx : Hp → Prop, (∀ H', Nx H' → ∃ m', m' < m ∧ W (i + 1) m' H') ∧ ∀ x H', J.yld i H x H' → g x (wipe σ vs) H' fun σ2 H2 => wipe σ2 vs = wipe σ vs ∧ tt σ2 H2 fun b H3 =>
    if b = true then te σ2 H3 fun y H4 => ∃ acc, H4 D = some (.lst acc) ∧ acc.length < sizeLine ∧ Nx (upd H4 D (.lst (acc ++ [y]))) else Nx H3)
theorem compS_len {f : α → S → Option (Option β × S)} : ∀ {xs : List α} {s s' : S} {ys : List β}, compS f xs s = some (ys, s') → ys.length ≤ xs.length
  | [], s, s', ys, h => by
    cases h
    exact Nat.le_refl _
  | x :: xs, s, s', ys, h => by
    obtain ⟨p, h1, h2⟩ := bnd h
    obtain ⟨q, h3, h4⟩ := bnd h2
    have := compS_len (ys := q.1) (s' := q.2) h3
    cases h4
    cases p.1 with
    | none =>
      show q.1.length ≤ _
      rw [List.length_cons]
      omega
    | some y =>
      show (y :: q.1).length ≤ _
      rw [List.length_cons, List.length_cons]
      omega
theorem compS_drop {f : α → S → Option (Option β × S)} {xs : List α} {i : Nat} {a : α} {s s' : S} {ys : List β} (hi : xs[i]? = some a) (h : compS f (xs.drop i) s = some (ys, s')) :
    ∃ o s1 zs, f a s = some (o, s1) ∧ compS f (xs.drop (i + 1)) s1 = some (zs, s') ∧ ys = (match o with | none => zs | some y => y :: zs) := by
  rw [drop_of hi] at h
  obtain ⟨p, h1, h2⟩ := bnd h
  obtain ⟨q, h3, h4⟩ := bnd h2
  cases h4
  exact ⟨p.1, p.2, q.1, h1, h3, rfl⟩
/-- a comprehension, with the state that it changes -/
theorem q_lcS {f : α → S → Option (Option β × S)} {xs : List α} {ys : List β} {s0 s1 : S} {enc : β → PyData} {c : S → List (Addr × HO)} {A : Addr} {Qd : Hp → Prop} {tt : TT} {te : TE} {vs : List Nat}
    (hf : compS f xs s0 = some (ys, s1)) (hz : xs.length ≤ LIM) (w : Walk J xs.length Gd Y) (S0 : Sep ms H0 G H (c s0)) (hA : H A = none) (hF : ∀ b, H b = none → F0 b = none)
    (hg : ∀ s G' H' acc, Sep ms H0 G' H' ((A, .lst acc) :: c s) → Same G G' → Gd H')
    (hs : ∀ i x a s o s' G1 H1 H2 acc, xs[i]? = some a → f a s = some (o, s') → Sep ms H0 G1 H1 ((A, .lst acc) :: c s) → Same G G1 → Y i H1 x H2 →
      ∀ (T : V → Hp → Prop) (F : Hp → Prop), (∀ y b G' H', o = some b → Sep ms H0 G' H' ((A, .lst acc) :: c s') → Same G1 G' → Fr F0 G' y (enc b) → T y H') → (∀ G' H', o = none → Sep ms H0 G' H' ((A, .lst acc) :: c s') → Same G1 G' → F H') →
      g x (wipe σ vs) H2 fun σ2 H2 => wipe σ2 vs = wipe σ vs ∧ tt σ2 H2 fun b H3 => if b = true then te σ2 H3 T else F H3)
    (hd : ∀ G' H' us, Sep ms H0 G' H' ((A, .lst us) :: c s1) → Same G G' → FrL F0 G' us (ys.map enc) → H0 A = none → F0 A = none → Qd H') : LcG J g tt te vs σ H A Qd := by
  have yl := compS_len hf
  refine ⟨fun i m H' => m = xs.length - i ∧ i ≤ xs.length ∧ ∃ s zs acc ws G', compS f (xs.drop i) s = some (zs, s1) ∧ ys = ws ++ zs ∧ Sep ms H0 G' H' ((A, .lst acc) :: c s) ∧ Same G G' ∧ FrL F0 G' acc (ws.map enc),
    ⟨_, rfl, Nat.zero_le _, s0, ys, [], [], G, hf, rfl, S0.own hA lst_tup, Same.refl _, .nil⟩, ?_⟩
  rintro i m H1 ⟨rfl, hi, s, zs, acc, ws, G1, hl, rfl, S1, s1', fa⟩
  have q := hg s G1 H1 acc S1 s1'
  by_cases hlt : i < xs.length
  · obtain ⟨o, s2, zs2, h1, h2, h3⟩ := compS_drop (List.getElem?_eq_getElem hlt) hl
    refine .inr ⟨w.goes i H1 hlt q, fun H' => ∃ s zs acc ws' G', compS f (xs.drop (i + 1)) s = some (zs, s1) ∧ ws ++ (match o with | none => zs2 | some y => y :: zs2) = ws' ++ zs ∧ Sep ms H0 G' H' ((A, .lst acc) :: c s) ∧ Same G G' ∧ FrL F0 G' acc (ws'.map enc), ?_, ?_⟩
    · rintro H' ⟨s, zs3, acc', ws', G', k1, k2, k3, k4, k5⟩
      exact ⟨xs.length - (i + 1), by omega, rfl, hlt, s, zs3, acc', ws', G', k1, by rw [h3]; exact k2, k3, k4, k5⟩
    · intro x H2 y
      refine hs i x _ s o s2 G1 H1 H2 acc (List.getElem?_eq_getElem hlt) h1 S1 s1' (w.yields i H1 x H2 hlt q y) _ _ (fun y b G' H' e S' sG fy => ?_) fun G' H' e S' sG => ?_
      · subst e
        have la : acc.length < sizeLine := by
          rw [fa.len, List.length_map]
          refine lim_lt ?_
          rw [h3] at yl
          simp only [List.length_append, List.length_cons] at yl
          omega
        refine ⟨acc, S'.get 0 rfl, la, s2, zs2, acc ++ [y], ws ++ [b], G', h2, by rw [List.append_assoc]; rfl, S'.put 0 rfl lst_tup, s1'.trans sG, ?_⟩
        rw [List.map_append]
        exact (fa.same sG).app (.cons fy .nil)
      · subst e
        exact ⟨s2, zs2, acc, ws, G', h2, rfl, S', s1'.trans sG, fa.same sG⟩
  · have e : i = xs.length := by omega
    subst e
    rw [List.drop_length] at hl
    cases hl
    rw [List.append_nil] at hd
    exact .inl ⟨w.stops H1 q, hd G1 H1 acc S1 s1' fa (S0.old A hA) (hF A hA)⟩
theorem compF_S {f : α → Option (Option β)} : ∀ {xs : List α} {ys : List β}, compF f xs = some ys → compS (fun a (_ : Unit) => (f a).bind fun o => some (o, ())) xs () = some (ys, ())
  | [], ys, h => by
    cases h
    rfl
  | x :: xs, ys, h => by
    obtain ⟨p, h1, h2⟩ := bnd h
    obtain ⟨q, h3, h4⟩ := bnd h2
    cases h4
    show ((f x).bind fun o => some (o, ())).bind _ = _
    rw [h1]
    show (compS _ xs ()).bind _ = _
    rw [compF_S h3]
    rfl
theorem q_lc {f : α → Option (Option β)} {xs : List α} {ys : List β} {enc : β → PyData} {A : Addr} {Qd : Hp → Prop} {tt : TT} {te : TE} {vs : List Nat}
    (hf : compF f xs = some ys) (hz : xs.length ≤ LIM) (w : Walk J xs.length Gd Y) (S0 : Sep ms H0 G H cs) (hA : H A = none) (hF : ∀ b, H b = none → F0 b = none)
    (hg : ∀ G' H' acc, Sep ms H0 G' H' ((A, .lst acc) :: cs) → Same G G' → Gd H')
    (hs : ∀ i x a o G1 H1 H2 acc, xs[i]? = some a → f a = some o → Sep ms H0 G1 H1 ((A, .lst acc) :: cs) → Same G G1 → Y i H1 x H2 →
      ∀ (T : V → Hp → Prop) (F : Hp → Prop), (∀ y b G' H', o = some b → Sep ms H0 G' H' ((A, .lst acc) :: cs) → Same G1 G' → Fr F0 G' y (enc b) → T y H') → (∀ G' H', o = none → Sep ms H0 G' H' ((A, .lst acc) :: cs) → Same G1 G' → F H') →
      g x (wipe σ vs) H2 fun σ2 H2 => wipe σ2 vs = wipe σ vs ∧ tt σ2 H2 fun b H3 => if b = true then te σ2 H3 T else F H3)
    (hd : ∀ G' H' us, Sep ms H0 G' H' ((A, .lst us) :: cs) → Same G G' → FrL F0 G' us (ys.map enc) → H0 A = none → F0 A = none → Qd H') : LcG J g tt te vs σ H A Qd := by
  refine q_lcS (c := fun _ => cs) (compF_S hf) hz w S0 hA hF (fun _ => hg) (fun i x a s o s' G1 H1 H2 acc hi ho => ?_) hd
  obtain ⟨p, h1, h2⟩ := bnd ho
  cases h2
  exact hs i x a _ G1 H1 H2 acc hi h1
end
/-! ### what is walked -/
section
variable {F0 H0 G H : Hp} {a b : Addr} {vs us : List V} {α β : Type} {e : α → PyData} {e2 : β → PyData} {l : List α} {m : List β} {K : PySem.W.Frag} {ms : List Addr} {cs : List (Addr × HO)}
theorem rgI_len (a b : Int) : (rgI a b).length = (b - a).toNat := by
  unfold rgI
  rw [List.length_map, List.length_range]
theorem rgI_get {a b : Int} {i : Nat} {x : Int} (h : (rgI a b)[i]? = some x) : x = a + i := by
  unfold rgI at h
  rw [List.getElem?_map] at h
  obtain ⟨j, h1, h2⟩ := Option.map_eq_some_iff.mp h
  have := List.getElem?_eq_some_iff.mp h1
  obtain ⟨h3, h4⟩ := this
  rw [List.getElem_range] at h4
  rw [← h2, h4]
/-- a range by ones -/
theorem w_rng (lo hi : Int) : Walk (Itr lo (hi - lo).toNat) (rgI lo hi).length (fun _ => True) (YFn fun i => .int (lo + i)) := by
  rw [rgI_len]
  exact walk_range
theorem w_list (f : FrL F0 G vs (l.map e)) : Walk (Itl K a) l.length (fun H => H a = some (.lst vs)) (YAt vs) := by
  have h : l.length = vs.length := by rw [f.len, List.length_map]
  rw [h]
  exact walk_list.mono (fun _ h => SqL.of h) fun _ _ _ _ _ _ y => y
theorem w_tup (f : FrL F0 G vs (l.map e)) : Walk (Itt K a) l.length (fun H => H a = some (.tup vs)) (YAt vs) := by
  have h : l.length = vs.length := by rw [f.len, List.length_map]
  rw [h]
  exact walk_tup.mono (fun _ h => SqT.of h) fun _ _ _ _ _ _ y => y
theorem w_enum (f : FrL F0 G vs (l.map e)) : Walk (Ite K a) l.length (fun H => H a = some (.lst vs)) (YPair (fun i => some (.int (i : Nat))) (fun i => vs[i]?)) := by
  have h : l.length = vs.length := by rw [f.len, List.length_map]
  rw [h]
  exact walk_enum.mono (fun _ h => SqL.of h) fun _ _ _ _ _ _ y => y
theorem w_str (z : Str) : Walk (Its z) (z.cps.toList.map fun c => (⟨#[c]⟩ : Str)).length (fun _ => True) (fun i H v H' => H' = H ∧ ∃ c, z.cps[i]? = some c ∧ v = .str ⟨#[c]⟩) := by
  have h : (z.cps.toList.map fun c => (⟨#[c]⟩ : Str)).length = z.cps.size := by rw [List.length_map, Array.length_toList]
  rw [h]
  exact walk_str
theorem frl_at {i : Nat} {x : α} {v : V} (f : FrL F0 G vs (l.map e)) (hx : l[i]? = some x) (hv : vs[i]? = some v) : Fr F0 G v (e x) := by
  obtain ⟨w, h1, h2⟩ := f.get (i := i) (d := e x) (by rw [List.getElem?_map, hx]; rfl)
  rw [hv] at h1
  cases h1
  exact h2
theorem enumI_len (l : List α) : (enumI l).length = l.length := by
  unfold enumI
  rw [List.length_zipWith, List.length_range, Nat.min_self]
theorem enumI_get {i : Nat} {p : Int × α} (h : (enumI l)[i]? = some p) : p.1 = (i : Int) ∧ l[i]? = some p.2 := by
  unfold enumI at h
  rw [List.getElem?_zipWith] at h
  obtain ⟨hl, _⟩ : i < l.length ∧ True := by
    refine ⟨?_, trivial⟩
    by_cases c : i < l.length
    · exact c
    · rw [List.getElem?_eq_none (l := List.range l.length) (by rw [List.length_range]; omega)] at h
      simp at h
  rw [List.getElem?_range hl, List.getElem?_eq_getElem hl] at h
  simp only [Option.some.injEq] at h
  rw [← h]
  exact ⟨rfl, List.getElem?_eq_getElem hl⟩
end
end LQ

/-! What gen2 writes. -/
namespace LQ
open PySem L2 LX
def ctlK {R S β : Type} (k : Ctl R S) (fr : R → Option β) (fn : S → Option β) : Option β := match k with
  | .ret r => fr r
  | .nx s => fn s
  | .bk _ => none
def fuelW : Nat := 100000
/-- a comprehension over a list that is not too long -/
def compL {α β : Type} (f : α → Option (Option β)) (l : List α) : Option (List β) := cond (decide (l.length ≤ LIM)) (compF f l) none
def chars (z : Str) : List Str := z.cps.toList.map fun c => (⟨#[c]⟩ : Str)
def zipL {α β : Type} (l : List α) (m : List β) : List (α × β) := l.zip m
def repSF (z : Str) (n : Int) : Option Str := cond (decide (0 ≤ n) && decide (n ≤ 1000) && decide (z.length ≤ 1000)) (some (repS z n.toNat)) none
def sliceS (z : Str) (lo hi : Option Int) : Option Str := cond (decide (z.length ≤ LIM)) (some (cutS z lo hi)) none
/-- one sign in a text -/
def inSF (c z : Str) : Option Bool := match c.cps.toList with
  | [k] => some (decide (k ∈ z.cps.toList))
  | _ => none
def lrgF (a b : Int) : Option (List Int) := cond (decide (-(2 ^ 62) ≤ a) && decide (a < 2 ^ 62) && decide (-(2 ^ 62) ≤ b) && decide (b < 2 ^ 62) && decide ((b - a).toNat ≤ LIM)) (some (rgI a b)) none
def joinF (a : Str) (ys : List Str) : Option Str := cond (decide ((ys.map (·.length)).sum + ys.length * a.length ≤ 16777216)) (some (Txt.join a ys)) none
def insF {α : Type} (l : List α) (i : Int) (x : α) : Option (List α) := cond (decide (l.length < LIM) && decide (0 ≤ i) && decide (i < 2 ^ 63)) (some (l.take i.toNat ++ [x] ++ l.drop i.toNat)) none
def sortI (l : List Int) : List Int := l.mergeSort
section
variable {σ σ' : L2.St} {H H1 G G' : Hp} {Q : VK} {v w x y : V} {i : Nat} {t : TT} {te : TE} {D : Ends} {A B : Prop} {b b1 b2 : Bool}
theorem rd_varE (e : σ[i]? = some (some v)) (h : v = w) (q : Q w H) : tVar i σ H Q := ⟨v, e, h ▸ q⟩
theorem rd_nameS {R : L2.St → Hp → Prop} (e : σ.set i (some v) = σ') (q : R σ' H) : gName i v σ H R := by
  subst e
  exact q
theorem rd_setS {R : L2.St → Hp → Prop} {s : L2.St} (e : s = σ') (q : R σ' H) : R s H := by
  subst e
  exact q
theorem rd_twoS {R : V → V → L2.St → Hp → Prop} {v w : V} {i j : Nat} (e : (σ.set i (some v)).set j (some w) = σ') (q : D.nx σ' H) : ∃ a b, [v, w] = [a, b] ∧ D.nx ((σ.set i (some a)).set j (some b)) H := by
  subst e
  exact ⟨v, w, rfl, q⟩
theorem rd_mk {f ct bk : L2.St → Hp → Prop} {rt : VK} (q : f σ H) : (Ends.mk f rt bk ct).nx σ H := q
theorem rd_ttM {QB : Bool → Hp → Prop} (M : Bool → Hp → Prop) (h1 : ∀ R : Bool → Hp → Prop, (∀ x H1, M x H1 → R x H1) → t σ H R) (h2 : ∀ x H1, M x H1 → QB x H1) : t σ H QB := h1 _ h2
theorem ite_by (h1 : b = true → A) (h2 : b = false → B) : if b = true then A else B := by
  cases b with
  | true => exact L2.iteT (h1 rfl)
  | false => exact L2.iteF (h2 rfl)
theorem iteY (h : b = true) (q : A) : if b = true then A else B := by
  rw [if_pos h]
  exact q
theorem iteN (h : b = false) (q : B) : if b = true then A else B := by
  rw [if_neg (by rw [h]; decide)]
  exact q
theorem andT {x y : Bool} (h : b = true) (e : x = y) : x = (b && y) := by rw [h, e, Bool.true_and]
theorem andF {y : Bool} (h : b = false) : false = (b && y) := by rw [h, Bool.false_and]
theorem orT {y : Bool} (h : b = true) : true = (b || y) := by rw [h, Bool.true_or]
theorem orF {x y : Bool} (h : b = false) (e : x = y) : x = (b || y) := by rw [h, e, Bool.false_or]
def zIsN : R2 := fun x y H Q => y = V.non ∧ Q (.bl (decide (x = .non))) H
def zNotN : R2 := fun x y H Q => y = V.non ∧ Q (.bl (!decide (x = .non))) H
theorem kisN {X : Cx} : OpR X (compareOp .Is) zIsN := op_isN
theorem knotN {X : Cx} : OpR X (compareOp .IsNot) zNotN := op_notN
def zLenS : List V → Hp → VK → Prop := fun xs H Q => ∃ z, xs = [.str z] ∧ z.length ≤ sizeLine ∧ Q (.int z.length) H
theorem klenS {X : Cx} : CallR X (.builtin "len") zLenS := call_len_str
def zMax2 : List V → Hp → VK → Prop := fun xs H Q => ∃ i j, xs = [.int i, .int j] ∧ Q (.int (if j > i then j else i)) H
def zMin2 : List V → Hp → VK → Prop := fun xs H Q => ∃ i j, xs = [.int i, .int j] ∧ Q (.int (if j < i then j else i)) H
theorem kmax2 {X : Cx} (hc : X.calm = true) : CallR X (.builtin "max") zMax2 := call_max2 hc
theorem kmin2 {X : Cx} (hc : X.calm = true) : CallR X (.builtin "min") zMin2 := call_min2 hc
def zInt1 : List V → Hp → VK → Prop := fun xs H Q => (∃ i, xs = [.int i] ∧ Q (.int i) H) ∨ ∃ k, xs = [.bl k] ∧ Q (.int (if k then 1 else 0)) H
theorem kint1 {X : Cx} : CallR X (.type "int") zInt1 := call_int1
def zAddS : R2 := fun x y H Q => ∃ i j, x = .str i ∧ y = .str j ∧ i.length + j.length ≤ sizeLine ∧ Q (.str (i ++ j)) H
theorem kaddS {X : Cx} : OpR X (binaryOp .Add) zAddS := op_add_str
theorem kiaddS {X : Cx} : OpR X (inplaceOp .Add) zAddS := iop_add_str
theorem q_isN {t : Bool} (h : decide (x = V.non) = t) (q : Q (.bl t) H) : zIsN x .non H Q := ⟨rfl, by rw [h]; exact q⟩
theorem q_notN {t : Bool} (h : decide (x = V.non) = t) (q : Q (.bl (!t)) H) : zNotN x .non H Q := ⟨rfl, by rw [h]; exact q⟩
theorem isO {α : Type} {f : α → V} (hf : ∀ a, f a ≠ .non) (o : Option α) : decide (vO f o = V.non) = o.isNone := by
  cases o with
  | none => rfl
  | some a => exact decide_eq_false (hf a)
theorem q_isNI {o : Option Int} (q : Q (.bl o.isNone) H) : zIsN (vO V.int o) .non H Q := q_isN (isO (fun _ z => by cases z) o) q
theorem q_isNS {o : Option Str} (q : Q (.bl o.isNone) H) : zIsN (vO V.str o) .non H Q := q_isN (isO (fun _ z => by cases z) o) q
theorem q_isNB {o : Option Bool} (q : Q (.bl o.isNone) H) : zIsN (vO V.bl o) .non H Q := q_isN (isO (fun _ z => by cases z) o) q
theorem q_notNI {o : Option Int} (q : Q (.bl (!o.isNone)) H) : zNotN (vO V.int o) .non H Q := q_notN (isO (fun _ z => by cases z) o) q
theorem q_notNS {o : Option Str} (q : Q (.bl (!o.isNone)) H) : zNotN (vO V.str o) .non H Q := q_notN (isO (fun _ z => by cases z) o) q
theorem q_notNB {o : Option Bool} (q : Q (.bl (!o.isNone)) H) : zNotN (vO V.bl o) .non H Q := q_notN (isO (fun _ z => by cases z) o) q
theorem isNo {α : Type} {e : α → PyData} {o : Option α} {F0 : Hp} (f : Fr F0 G v (eO e o)) (he : ∀ a, isNoneD (e a) = false) : decide (v = V.non) = o.isNone := by
  cases o with
  | none =>
    rw [fr_non f]
    rfl
  | some a =>
    refine decide_eq_false fun z => ?_
    subst z
    have h := he a
    change Fr F0 G .non (e a) at f
    generalize e a = d at f h
    cases f
    cases h
theorem isAny {d : PyData} {F0 : Hp} (f : Fr F0 G v d) : decide (v = V.non) = isNoneD d := by
  cases f <;> first | rfl | exact decide_eq_false fun z => by cases z
theorem q_neI {i j : Int} (q : Q (.bl (!decide (i = j))) H) : rNe (.int i) (.int j) H Q := by
  refine ⟨rfl, ?_⟩
  rw [dec_int]
  exact q
theorem dec_strV {i j : Str} : decide (V.str i = V.str j) = decide (i = j) := by
  by_cases h : i = j
  · rw [decide_eq_true h, decide_eq_true (congrArg V.str h)]
  · rw [decide_eq_false h, decide_eq_false fun z => h (V.str.inj z)]
theorem dec_blV {i j : Bool} : decide (V.bl i = V.bl j) = decide (i = j) := by
  by_cases h : i = j
  · rw [decide_eq_true h, decide_eq_true (congrArg V.bl h)]
  · rw [decide_eq_false h, decide_eq_false fun z => h (V.bl.inj z)]
theorem q_eqS {i j : Str} (q : Q (.bl (decide (i = j))) H) : rEq (.str i) (.str j) H Q := ⟨rfl, by rw [dec_strV]; exact q⟩
theorem q_neS {i j : Str} (q : Q (.bl (!decide (i = j))) H) : rNe (.str i) (.str j) H Q := ⟨rfl, by rw [dec_strV]; exact q⟩
theorem q_eqB {i j : Bool} (q : Q (.bl (decide (i = j))) H) : rEq (.bl i) (.bl j) H Q := ⟨rfl, by rw [dec_blV]; exact q⟩
theorem q_neB {i j : Bool} (q : Q (.bl (!decide (i = j))) H) : rNe (.bl i) (.bl j) H Q := ⟨rfl, by rw [dec_blV]; exact q⟩
theorem dec_vO {α : Type} [DecidableEq α] {f : α → V} (hf : ∀ a, f a ≠ .non) (hi : ∀ a b, f a = f b → a = b) (o p : Option α) : decide (vO f o = vO f p) = decide (o = p) := by
  cases o with
  | none =>
    cases p with
    | none => rfl
    | some b =>
      show decide (V.non = f b) = _
      rw [decide_eq_false (fun z => hf b z.symm), decide_eq_false (fun z => by cases z)]
  | some a =>
    cases p with
    | none =>
      show decide (f a = V.non) = _
      rw [decide_eq_false (hf a), decide_eq_false (fun z => by cases z)]
    | some b =>
      by_cases h : a = b
      · subst h
        rw [decide_eq_true rfl, decide_eq_true rfl]
      · show decide (f a = f b) = _
        rw [decide_eq_false fun z => h (hi a b z), decide_eq_false fun z => h (Option.some.inj z)]
theorem scal_vOS (o p : Option Str) : scal (vO V.str o) (vO V.str p) = true := by cases o <;> cases p <;> rfl
theorem scal_vOI (o p : Option Int) : scal (vO V.int o) (vO V.int p) = true := by cases o <;> cases p <;> rfl
theorem q_eqOS {o p : Option Str} (q : Q (.bl (decide (o = p))) H) : rEq (vO V.str o) (vO V.str p) H Q := ⟨scal_vOS o p, by rw [dec_vO (fun _ z => by cases z) (fun _ _ z => V.str.inj z)]; exact q⟩
theorem q_neOS {o p : Option Str} (q : Q (.bl (!decide (o = p))) H) : rNe (vO V.str o) (vO V.str p) H Q := ⟨scal_vOS o p, by rw [dec_vO (fun _ z => by cases z) (fun _ _ z => V.str.inj z)]; exact q⟩
theorem q_eqOI {o p : Option Int} (q : Q (.bl (decide (o = p))) H) : rEq (vO V.int o) (vO V.int p) H Q := ⟨scal_vOI o p, by rw [dec_vO (fun _ z => by cases z) (fun _ _ z => V.int.inj z)]; exact q⟩
theorem q_neOI {o p : Option Int} (q : Q (.bl (!decide (o = p))) H) : rNe (vO V.int o) (vO V.int p) H Q := ⟨scal_vOI o p, by rw [dec_vO (fun _ z => by cases z) (fun _ _ z => V.int.inj z)]; exact q⟩
theorem eqv_ok {d e : PyData} {b : Bool} (h : eqvF d e = some b) : SeqAt.shaped d = true ∧ SeqAt.shaped e = true ∧ d.hasDict = false ∧ e.hasDict = false ∧ PyData.eqv d e = b := by
  unfold eqvF at h
  obtain ⟨h1, h2⟩ := grd h
  rw [Bool.and_eq_true, Bool.and_eq_true, Bool.and_eq_true, Bool.not_eq_true', Bool.not_eq_true'] at h1
  exact ⟨h1.1.1.1, h1.1.1.2, h1.1.2, h1.2, som h2⟩
theorem q_eqD {K : PySem.W.Frag} {F0 F1 : Hp} {d e : PyData} (f : Fr F0 H x d) (g : Fr F1 H y e) (h : eqvF d e = some b) (q : Q (.bl b) H) : rEqD K x y H Q := by
  obtain ⟨h1, h2, h3, h4, h5⟩ := eqv_ok h
  exact ⟨d, e, f.dp h3, g.dp h4, h1, h2, by rw [h5]; exact q⟩
theorem q_neD {K : PySem.W.Frag} {F0 F1 : Hp} {d e : PyData} (f : Fr F0 H x d) (g : Fr F1 H y e) (h : eqvF d e = some b) (q : Q (.bl (!b)) H) : rNeD K x y H Q := by
  obtain ⟨h1, h2, h3, h4, h5⟩ := eqv_ok h
  exact ⟨d, e, f.dp h3, g.dp h4, h1, h2, by rw [h5]; exact q⟩
theorem flat_ints (l : List Int) : (l.map V.int).all flatV = true := by
  rw [List.all_map]
  exact List.all_eq_true.mpr fun _ _ => rfl
theorem flat_strs (l : List Str) : (l.map V.str).all flatV = true := by
  rw [List.all_map]
  exact List.all_eq_true.mpr fun _ _ => rfl
theorem inV_ints (i : Int) (l : List Int) : inV (.int i) (l.map V.int) = decide (i ∈ l) := by
  unfold inV
  rw [List.any_map]
  by_cases h : i ∈ l
  · rw [decide_eq_true h]
    exact List.any_eq_true.mpr ⟨i, h, by simp [Function.comp, eqV]⟩
  · rw [decide_eq_false h]
    refine Bool.eq_false_iff.mpr fun z => h ?_
    obtain ⟨k, h1, h2⟩ := List.any_eq_true.mp z
    simp [Function.comp, eqV] at h2
    exact h2 ▸ h1
theorem inV_strs (i : Str) (l : List Str) : inV (.str i) (l.map V.str) = decide (i ∈ l) := by
  unfold inV
  rw [List.any_map]
  by_cases h : i ∈ l
  · rw [decide_eq_true h]
    exact List.any_eq_true.mpr ⟨i, h, by simp [Function.comp, eqV]⟩
  · rw [decide_eq_false h]
    refine Bool.eq_false_iff.mpr fun z => h ?_
    obtain ⟨k, h1, h2⟩ := List.any_eq_true.mp z
    simp [Function.comp, eqV] at h2
    exact h2 ▸ h1
section
variable {K : PySem.W.Frag} {F0 : Hp} {a : Addr} {vs : List V}
theorem q_inI {i : Int} {l : List Int} (h : H a = some (.lst vs)) (f : FrL F0 G vs (l.map eI)) (q : Q (.bl (decide (i ∈ l))) H) : rIn K false (.int i) (.ref a) H Q := by
  rw [frl_ints f] at h
  exact rd_isin h rfl (flat_ints l) (inV_ints i l) q
theorem q_niI {i : Int} {l : List Int} (h : H a = some (.lst vs)) (f : FrL F0 G vs (l.map eI)) (q : Q (.bl (!decide (i ∈ l))) H) : rIn K true (.int i) (.ref a) H Q := by
  rw [frl_ints f] at h
  exact rd_notin h rfl (flat_ints l) (inV_ints i l) q
theorem q_inS {i : Str} {l : List Str} (h : H a = some (.lst vs)) (f : FrL F0 G vs (l.map eS)) (q : Q (.bl (decide (i ∈ l))) H) : rIn K false (.str i) (.ref a) H Q := by
  rw [frl_strs f] at h
  exact rd_isin h rfl (flat_strs l) (inV_strs i l) q
theorem q_niS {i : Str} {l : List Str} (h : H a = some (.lst vs)) (f : FrL F0 G vs (l.map eS)) (q : Q (.bl (!decide (i ∈ l))) H) : rIn K true (.str i) (.ref a) H Q := by
  rw [frl_strs f] at h
  exact rd_notin h rfl (flat_strs l) (inV_strs i l) q
theorem inS_ok {c z : Str} (h : inSF c z = some b) : ∃ k, c = ⟨#[k]⟩ ∧ b = decide (k ∈ z.cps.toList) := by
  unfold inSF at h
  split at h
  · rename_i k hk
    refine ⟨k, ?_, (som h).symm⟩
    obtain ⟨a⟩ := c
    congr 1
    apply Array.toList_inj.mp
    exact hk
  · cases h
theorem q_inT {c z : Str} (h : inSF c z = some b) (q : Q (.bl b) H) : rInT false (.str c) (.str z) H Q := by
  obtain ⟨k, rfl, rfl⟩ := inS_ok h
  exact ⟨k, z, rfl, rfl, q⟩
theorem q_niT {c z : Str} (h : inSF c z = some b) (q : Q (.bl (!b)) H) : rInT true (.str c) (.str z) H Q := by
  obtain ⟨k, rfl, rfl⟩ := inS_ok h
  exact ⟨k, z, rfl, rfl, q⟩
theorem q_truL {α : Type} {e : α → PyData} {l : List α} {R : Bool → Prop} (h : H a = some (.lst vs)) (f : FrL F0 G vs (l.map e)) (q : R (!l.isEmpty)) : ∃ k, TruV K (.ref a) H k ∧ R k := by
  refine rd_truL h ?_
  have e1 : vs.isEmpty = l.isEmpty := by
    have := f.len
    rw [List.length_map] at this
    cases l <;> cases vs <;> simp_all
  rw [e1]
  exact q
end
/-! ### texts -/
theorem q_catS {i j k : Str} (h : catS i j = some k) (q : Q (.str k) H) : zAddS (.str i) (.str j) H Q := by
  unfold catS at h
  obtain ⟨h1, h2⟩ := grd h
  cases som h2
  exact ⟨i, j, rfl, rfl, lim_le (of_decide_eq_true h1), q⟩
theorem q_ixS {z c : Str} {i : Int} (h : ixS z i = some c) (q : Q (.str c) H) : rIxS (.str z) (.int i) H Q := by
  unfold ixS at h
  obtain ⟨h1, h2⟩ := grd h
  obtain ⟨k, h3, h4⟩ := bnd h2
  cases som h4
  exact ⟨z, i, k, rfl, rfl, lim_le (of_decide_eq_true h1), h3, q⟩
theorem q_slS {z c : Str} {lo hi : Option Int} (h : sliceS z lo hi = some c) (q : Q (.str c) H) : rSlS (.str z) lo hi H Q := by
  unfold sliceS at h
  obtain ⟨h1, h2⟩ := grd h
  cases som h2
  exact ⟨z, rfl, lim_le (of_decide_eq_true h1), q⟩
theorem q_repS {z r : Str} {n : Int} (h : repSF z n = some r) (q : Q (.str r) H) : rRepS (.str z) (.int n) H Q := by
  unfold repSF at h
  obtain ⟨h1, h2⟩ := grd h
  rw [Bool.and_eq_true, Bool.and_eq_true, decide_eq_true_iff, decide_eq_true_iff, decide_eq_true_iff] at h1
  cases som h2
  refine ⟨z, n.toNat, rfl, ?_, by omega, h1.2, q⟩
  rw [show ((n.toNat : Nat) : Int) = n by omega]
theorem q_lenS {z : Str} {n : Int} (h : lenS z = some n) (q : Q (.int n) H) : zLenS [.str z] H Q := by
  unfold lenS at h
  obtain ⟨h1, h2⟩ := grd h
  cases som h2
  exact ⟨z, rfl, lim_le (of_decide_eq_true h1), q⟩
/-! ### calls -/
theorem q_max2 {i j : Int} (q : Q (.int (maxI i j)) H) : zMax2 [.int i, .int j] H Q := ⟨i, j, rfl, q⟩
theorem q_min2 {i j : Int} (q : Q (.int (minI i j)) H) : zMin2 [.int i, .int j] H Q := ⟨i, j, rfl, q⟩
theorem q_int1 {b : Bool} (q : Q (.int (b2I b)) H) : zInt1 [.bl b] H Q := Or.inr ⟨b, rfl, q⟩
def zRg (a b : Int) (H : Hp) (Q : VK) : Prop := RgOk a b ∧ ∀ q, H q = none → Q (.ref q) (upd H q (.lst (rgV a b)))
theorem rd_lstRgZ {tr : L2.St → Hp → (Int → Int → Hp → Prop) → Prop} (q : tr σ H fun a b H1 => zRg a b H1 Q) : tLstRg tr σ H Q := q
theorem rd_rg2 {ta tb : TE} {R : Int → Int → Hp → Prop} (q : ta σ H fun x H1 => tb σ H1 fun y H2 => ∃ i j, x = .int i ∧ y = .int j ∧ R i j H2) : tRg2 ta tb σ H R := q
theorem q_lrg {a b : Int} {l : List Int} (h : lrgF a b = some l) (q : zNew (l.map V.int) H Q) : zRg a b H Q := by
  unfold lrgF at h
  obtain ⟨h1, h2⟩ := grd h
  rw [Bool.and_eq_true, Bool.and_eq_true, Bool.and_eq_true, Bool.and_eq_true, decide_eq_true_iff, decide_eq_true_iff, decide_eq_true_iff, decide_eq_true_iff, decide_eq_true_iff] at h1
  cases som h2
  refine ⟨⟨h1.1.1.1.1, h1.1.1.1.2, h1.1.1.2, h1.1.2, Nat.le_trans h1.2 (by decide)⟩, ?_⟩
  have e : rgV a b = (rgI a b).map V.int := by
    unfold rgV rgI
    rw [List.map_map]
    rfl
  intro p hp
  rw [e]
  exact q p hp
theorem rng_ok {a b : Int} {l : List Int} (h : rngF a b = some l) : -(2 ^ 62) ≤ a ∧ a < 2 ^ 62 ∧ -(2 ^ 62) ≤ b ∧ b < 2 ^ 62 ∧ l = rgI a b := by
  unfold rngF at h
  obtain ⟨h1, h2⟩ := grd h
  rw [Bool.and_eq_true, Bool.and_eq_true, Bool.and_eq_true, decide_eq_true_iff, decide_eq_true_iff, decide_eq_true_iff, decide_eq_true_iff] at h1
  exact ⟨h1.1.1.1, h1.1.1.2, h1.1.2, h1.2, (som h2).symm⟩
def zRng1 (vs : List V) (H : Hp) (R : It → Hp → Prop) : Prop := ∃ j : Int, vs = [.int j] ∧ -(2 ^ 62) ≤ j ∧ j < 2 ^ 62 ∧ R (Itr 0 j.toNat) H
def zRng2 (vs : List V) (H : Hp) (R : It → Hp → Prop) : Prop := ∃ i j : Int, vs = [.int i, .int j] ∧ (-(2 ^ 62) ≤ i ∧ i < 2 ^ 62 ∧ -(2 ^ 62) ≤ j ∧ j < 2 ^ 62) ∧ R (Itr i (j - i).toNat) H
theorem rd_iR1 {ta : TA} {R : It → Hp → Prop} (q : ta σ H fun vs H1 => zRng1 vs H1 R) : iRng1 ta σ H R := q
theorem rd_iR2 {ta : TA} {R : It → Hp → Prop} (q : ta σ H fun vs H1 => zRng2 vs H1 R) : iRng2 ta σ H R := q
theorem rd_iStr {R : It → Hp → Prop} (q : te σ H fun v H1 => ∃ x, v = .str x ∧ R (Its x) H1) : iStr te σ H R := q
theorem rd_iZip {K : PySem.W.Frag} {ta : TA} {R : It → Hp → Prop} (q : ta σ H fun vs H1 => ∃ a b xs ys, vs = [.ref a, .ref b] ∧ SqL K H1 a xs ∧ SqL K H1 b ys ∧ R (Itz K a b) H1) : iZip K ta σ H R := q
theorem q_rng1 {a : Int} {l : List Int} {R : It → Hp → Prop} (h : rngF 0 a = some l) (q : R (Itr 0 a.toNat) H) : zRng1 [.int a] H R := by
  obtain ⟨_, _, h3, h4, _⟩ := rng_ok h
  exact ⟨a, rfl, h3, h4, q⟩
theorem q_rng2 {a b : Int} {l : List Int} {R : It → Hp → Prop} (h : rngF a b = some l) (q : R (Itr a (b - a).toNat) H) : zRng2 [.int a, .int b] H R := by
  obtain ⟨h1, h2, h3, h4, _⟩ := rng_ok h
  exact ⟨a, b, rfl, ⟨h1, h2, h3, h4⟩, q⟩
end
/-! ### walks -/
section
variable {F0 H0 G H H' : Hp} {a b T : Addr} {vs us : List V} {v w : V} {α β : Type} {e : α → PyData} {e2 : β → PyData} {l : List α} {m : List β} {K : PySem.W.Frag} {ms : List Addr} {cs : List (Addr × HO)}
theorem w_rng2 {lo hi : Int} {l : List Int} (h : rngF lo hi = some l) : Walk (Itr lo (hi - lo).toNat) l.length (fun _ => True) (fun i H v H' => H' = H ∧ ∀ a, l[i]? = some a → v = .int a) := by
  obtain ⟨_, _, _, _, rfl⟩ := rng_ok h
  refine (w_rng lo hi).mono (fun _ h => h) fun i H x H' _ _ y => ⟨y.1, fun a ha => ?_⟩
  rw [y.2, rgI_get ha]
theorem w_rng1 {hi : Int} {l : List Int} (h : rngF 0 hi = some l) : Walk (Itr 0 hi.toNat) l.length (fun _ => True) (fun i H v H' => H' = H ∧ ∀ a, l[i]? = some a → v = .int a) := by
  have := w_rng2 h
  rw [Int.sub_zero] at this
  exact this
theorem w_li (f : FrL F0 G vs (l.map e)) : Walk (Itl K a) l.length (fun H => H a = some (.lst vs)) (fun i H v H' => H' = H ∧ ∀ x, l[i]? = some x → Fr F0 G v (e x)) :=
  (w_list f).mono (fun _ h => h) fun i H x H' _ _ y => ⟨y.1, fun z hz => frl_at f hz y.2⟩
theorem w_en (f : FrL F0 G vs (l.map e)) : Walk (Ite K a) (enumI l).length (fun H => H a = some (.lst vs)) (fun i H v H' => ∃ T v1 v2, v = .ref T ∧ H T = none ∧ H' = upd H T (.tup [v1, v2]) ∧ ∀ p, (enumI l)[i]? = some p → Fr F0 G v1 (eI p.1) ∧ Fr F0 G v2 (e p.2)) := by
  rw [enumI_len]
  refine (w_enum f).mono (fun _ h => h) fun i H x H' _ _ y => ?_
  obtain ⟨T, v1, v2, h1, h2, h3, h4, h5⟩ := y
  refine ⟨T, v1, v2, h1, h2, h3, fun p hp => ?_⟩
  obtain ⟨k1, k2⟩ := enumI_get hp
  cases som h4
  rw [k1]
  exact ⟨.int _, frl_at f k2 h5⟩
theorem w_zip2 (f : FrL F0 G vs (l.map e)) (g : FrL F0 G us (m.map e2)) : Walk (Itz K a b) (zipL l m).length (fun H => H a = some (.lst vs) ∧ H b = some (.lst us))
    (fun i H v H' => ∃ T v1 v2, v = .ref T ∧ H T = none ∧ H' = upd H T (.tup [v1, v2]) ∧ ∀ p, (zipL l m)[i]? = some p → Fr F0 G v1 (e p.1) ∧ Fr F0 G v2 (e2 p.2)) := by
  have hn : (zipL l m).length = min vs.length us.length := by
    unfold zipL
    rw [List.length_zip, f.len, g.len, List.length_map, List.length_map]
  refine (walk_zip hn).mono (fun _ h => ⟨SqL.of h.1, SqL.of h.2⟩) fun i H x H' _ _ y => ?_
  obtain ⟨T, v1, v2, h1, h2, h3, h4, h5⟩ := y
  refine ⟨T, v1, v2, h1, h2, h3, fun p hp => ?_⟩
  unfold zipL at hp
  rw [List.getElem?_zip_eq_some] at hp
  exact ⟨frl_at f hp.1 h4, frl_at g hp.2 h5⟩
theorem chars_len (z : Str) : (chars z).length = z.cps.size := by
  unfold chars
  rw [List.length_map, Array.length_toList]
theorem w_ch (z : Str) : Walk (Its z) (chars z).length (fun _ => True) (fun i H v H' => H' = H ∧ ∀ a, (chars z)[i]? = some a → v = .str a) := by
  rw [chars_len]
  refine walk_str.mono (fun _ h => h) fun i H x H' _ _ y => ⟨y.1, fun a ha => ?_⟩
  obtain ⟨c, h1, h2⟩ := y.2
  unfold chars at ha
  rw [List.getElem?_map] at ha
  obtain ⟨d, h3, h4⟩ := Option.map_eq_some_iff.mp ha
  rw [h2, ← h4]
  rw [Array.getElem?_toList, h1] at h3
  cases h3
  rfl
theorem Sep.pair (S : Sep ms H0 G H cs) {d d2 : PyData} (hT : H T = none) (eH : H' = upd H T (.tup [v, w])) (f : Fr F0 G v d) (g : Fr F0 G w d2) : ∃ G', Sep ms H0 G' H' cs ∧ Same G G' ∧ Fr F0 G' (.ref T) (.tuple [d, d2]) := by
  subst eH
  have sm := sNew (o := .tup [v, w]) (S.gfree hT)
  exact ⟨_, S.sh hT, sm, .tup upd_same (.cons (f.same sm) (.cons (g.same sm) .nil))⟩
theorem Sep.fixF {F0 : Hp} {ds : List PyData} (S : Sep ms H0 G H cs) (i : Nat) (h : cs[i]? = some (a, .lst vs)) (hm : a ∉ ms) (f : FrL F0 G vs ds) (n : F0 a = none) : ∃ G', Sep ms H0 G' H (cs.eraseIdx i) ∧ Same G G' ∧ Fr F0 G' (.ref a) (.list ds) :=
  ⟨_, S.fix i h hm, sNew (S.gnone i h), .lst upd_same n (f.same (sNew (S.gnone i h)))⟩
theorem q_lcL {J : It} {Gd : Hp → Prop} {Y : Nat → Hp → V → Hp → Prop} {g : TG} {σ : L2.St} {f : α → Option (Option β)} {xs : List α} {ys : List β} {enc : β → PyData} {A : Addr} {Qd : Hp → Prop} {tt : TT} {te : TE} {vs : List Nat}
    (hf : compL f xs = some ys) (w : Walk J xs.length Gd Y) (S0 : Sep ms H0 G H cs) (hA : H A = none) (hF : ∀ b, H b = none → F0 b = none)
    (hg : ∀ G' H' acc, Sep ms H0 G' H' ((A, .lst acc) :: cs) → Same G G' → Gd H')
    (hs : ∀ i x a o G1 H1 H2 acc, xs[i]? = some a → f a = some o → Sep ms H0 G1 H1 ((A, .lst acc) :: cs) → Same G G1 → Y i H1 x H2 →
      ∀ (T : V → Hp → Prop) (F : Hp → Prop), (∀ y b G' H', o = some b → Sep ms H0 G' H' ((A, .lst acc) :: cs) → Same G1 G' → Fr F0 G' y (enc b) → T y H') → (∀ G' H', o = none → Sep ms H0 G' H' ((A, .lst acc) :: cs) → Same G1 G' → F H') →
      g x (wipe σ vs) H2 fun σ2 H2 => wipe σ2 vs = wipe σ vs ∧ tt σ2 H2 fun b H3 => if b = true then te σ2 H3 T else F H3)
    (hd : ∀ G' H' us, Sep ms H0 G' H' ((A, .lst us) :: cs) → Same G G' → FrL F0 G' us (ys.map enc) → H0 A = none → F0 A = none → Qd H') : LcG J g tt te vs σ H A Qd := by
  unfold compL at hf
  obtain ⟨h1, h2⟩ := grd hf
  exact q_lc h2 (of_decide_eq_true h1) w S0 hA hF hg hs hd
end
end LQ

/-! sorted, sets, join, sums. -/
namespace LQ
open PySem PySem.Spec PyProof.Rows L2 LX
def leS (x y : Str) : Bool := decide (x.cps.toList ≤ y.cps.toList)
def sortU (ks : List Str) : List Str := (dd ks).mergeSort leS
def sortS (ks : List Str) : List Str := ks.mergeSort leS
def sortUI (ks : List Int) : List Int := (dd ks).mergeSort
/-- what a set may be made of -/
def setSF {α : Type} (ks : List α) : Option (List α) := cond (decide (ks.length ≤ 4000)) (some ks) none
def countD {α : Type} [DecidableEq α] (ks : List α) : Int := ((dd ks).length : Int)
theorem str_ext {x y : Str} (h : x.cps.toList = y.cps.toList) : x = y := by
  obtain ⟨a⟩ := x
  obtain ⟨b⟩ := y
  congr 1
  exact Array.toList_inj.mp h
theorem leS_trans (a b c : Str) (h : leS a b = true) (k : leS b c = true) : leS a c = true := by
  unfold leS at *
  rw [decide_eq_true_iff] at *
  exact List.le_trans h k
theorem leS_total (a b : Str) : (leS a b || leS b a) = true := by
  unfold leS
  rw [Bool.or_eq_true, decide_eq_true_iff, decide_eq_true_iff]
  exact List.le_total _ _
theorem leS_anti {a b : Str} (h : leS a b = true) (k : leS b a = true) : a = b := by
  unfold leS at *
  rw [decide_eq_true_iff] at *
  exact str_ext (List.le_antisymm h k)
theorem rising_pw : ∀ (l : List Str) (p : Str), risingS p l = true → (p :: l).Pairwise fun a b => leS a b = true
  | [], p, _ => List.pairwise_singleton _ _
  | x :: l, p, h => by
    have h1 : (!ltCps x.cps.toList p.cps.toList && risingS x l) = true := h
    rw [Bool.and_eq_true, Bool.not_eq_true'] at h1
    have ih := rising_pw l x h1.2
    have px : leS p x = true := by
      unfold leS
      rw [decide_eq_true_iff]
      refine List.not_lt.mp fun z => ?_
      have := h1.1
      rw [ltCps_eq, decide_eq_false_iff_not] at this
      exact this z
    refine List.pairwise_cons.mpr ⟨fun y hy => ?_, ih⟩
    rcases List.mem_cons.mp hy with rfl | hy
    · exact px
    · exact leS_trans _ _ _ px ((List.pairwise_cons.mp ih).1 y hy)
theorem sorted_pw {l : List Str} (h : sortedS l = true) : l.Pairwise fun a b => leS a b = true := by
  cases l with
  | nil => exact .nil
  | cons x l => exact rising_pw l x h
theorem sortU_is {ks ys : List Str} (h1 : ys.Pairwise fun a b => leS a b = true) (h2 : ys.Nodup) (h3 : ∀ k, k ∈ ys ↔ k ∈ ks) : ys = sortU ks := by
  refine List.Perm.eq_of_pairwise (le := fun a b => leS a b = true) (fun a b _ _ x y => leS_anti x y) h1 (List.pairwise_mergeSort leS_trans leS_total _) ?_
  refine ((List.perm_ext_iff_of_nodup h2 (dd_nodup ks)).mpr fun k => ?_).trans (List.mergeSort_perm _ _).symm
  rw [h3, mem_dd]
theorem sortUI_is {ks ys : List Int} (h1 : ys.Pairwise (· < ·)) (h3 : ∀ k, k ∈ ys ↔ k ∈ ks) : ys = sortUI ks := by
  have p := List.pairwise_mergeSort (le := fun a b : Int => decide (a ≤ b)) (fun a b c h k => by rw [decide_eq_true_iff] at *; omega) (fun a b => by rw [Bool.or_eq_true, decide_eq_true_iff, decide_eq_true_iff]; omega) (dd ks)
  refine List.Perm.eq_of_pairwise (le := fun a b : Int => decide (a ≤ b) = true) (fun a b _ _ x y => by rw [decide_eq_true_iff] at *; omega) (h1.imp fun h => by rw [decide_eq_true_iff]; omega) p ?_
  refine ((List.perm_ext_iff_of_nodup (h1.imp fun h => by omega) (dd_nodup ks)).mpr fun k => ?_).trans (List.mergeSort_perm _ _).symm
  rw [h3, mem_dd]
theorem sortI_is {ks ys : List Int} (h1 : ys.Pairwise (· ≤ ·)) (h3 : ys.Perm ks) : ys = sortI ks := by
  have p := List.pairwise_mergeSort (le := fun a b : Int => decide (a ≤ b)) (fun a b c h k => by rw [decide_eq_true_iff] at *; omega) (fun a b => by rw [Bool.or_eq_true, decide_eq_true_iff, decide_eq_true_iff]; omega) ks
  exact List.Perm.eq_of_pairwise (le := fun a b : Int => decide (a ≤ b) = true) (fun a b _ _ x y => by rw [decide_eq_true_iff] at *; omega) (h1.imp fun h => by rw [decide_eq_true_iff]; omega) p (h3.trans (List.mergeSort_perm _ _).symm)
section
variable {ms : List Addr} {F0 H0 G G' H H' : Hp} {cs : List (Addr × HO)} {a b : Addr} {vs : List V} {K : PySem.W.Frag} {P : Program} {w : World} {Q : VK} {d : PyData}
theorem q_sortI {l : List Int} (h : H a = some (.lst vs)) (f : FrL F0 G vs (l.map eI)) (q : zNew ((sortI l).map V.int) H Q) : rSortedI K [.ref a] H Q := by
  rw [frl_ints f] at h
  refine ⟨a, l, rfl, SqL.of h, fun ns' p pm pw np => ?_⟩
  rw [sortI_is pw pm]
  exact q p np
theorem repr_ok {s : Str} (h : reprF d = some s) : d.showable = true ∧ d.hasDict = false ∧ d.depth ≤ 20 ∧ d.shown.length ≤ sizeLine ∧ d.shown = s := by
  unfold reprF at h
  obtain ⟨h1, h2⟩ := grd h
  rw [Bool.and_eq_true, Bool.and_eq_true, Bool.and_eq_true, Bool.not_eq_true', decide_eq_true_iff, decide_eq_true_iff] at h1
  exact ⟨h1.1.1.1, h1.1.1.2, h1.1.2, h1.2, som h2⟩
theorem q_repr {s : Str} (f : Fr F0 H (.ref a) d) (h : reprF d = some s) (q : Q (.str s) H) : qRepr K [.ref a] H Q := by
  obtain ⟨h1, h2, h3, h4, h5⟩ := repr_ok h
  exact ⟨_, d, rfl, ⟨a, rfl⟩, f.dp h2, h1, h2, h3, h4, by rw [h5]; exact q⟩
def zJoin (K : PySem.W.Frag) : V → List V → Hp → VK → Prop := fun x xs H Q => ∃ a p, ∃ ys : List Str, x = .str a ∧ xs = [.ref p] ∧ (SqL K H p (ys.map V.str) ∨ SqT K H p (ys.map V.str)) ∧
  (ys.map (·.length)).sum + ys.length * a.length ≤ 16777216 ∧ Q (.str (Txt.join a ys)) H
theorem kjoin {X : Cx} (h : X.K = K := by rfl) : MtR X "str.join" (zJoin K) := h ▸ mt_join
theorem q_join {z r : Str} {l : List Str} (h : H a = some (.lst vs)) (f : FrL F0 G vs (l.map eS)) (k : joinF z l = some r) (q : Q (.str r) H) : zJoin K (.str z) [.ref a] H Q := by
  rw [frl_strs f] at h
  unfold joinF at k
  obtain ⟨h1, h2⟩ := grd k
  cases som h2
  exact ⟨z, a, l, rfl, rfl, Or.inl (SqL.of h), of_decide_eq_true h1, q⟩
theorem q_sum {l : List Int} (h : H a = some (.lst vs)) (f : FrL F0 G vs (l.map eI)) (q : Q (.int l.sum) H) : rSum K [.ref a] H Q := by
  rw [frl_ints f] at h
  exact ⟨a, l, rfl, SqL.of h, q⟩
theorem q_all {l : List Bool} (h : H a = some (.lst vs)) (f : FrL F0 G vs (l.map eB)) (q : Q (.bl (l.all id)) H) : rAll K [.ref a] H Q := by
  rw [frl_bls f] at h
  exact ⟨a, l, rfl, SqL.of h, q⟩
theorem q_any {l : List Bool} (h : H a = some (.lst vs)) (f : FrL F0 G vs (l.map eB)) (q : Q (.bl (l.any id)) H) : rAny K [.ref a] H Q := by
  rw [frl_bls f] at h
  exact ⟨a, l, rfl, SqL.of h, q⟩
/-- a set of texts, of ints -/
structure SetS (P : Program) (w : World) (G : Hp) (a : Addr) (ks : List Str) : Prop where
  at_ : G a = some (TxtSet P w a (fun k => decide (k ∈ ks)) (dd ks).length)
structure SetI (P : Program) (w : World) (G : Hp) (a : Addr) (ks : List Int) : Prop where
  at_ : G a = some (IntSet P w a (fun k => decide (k ∈ ks)) (dd ks).length)
theorem SetS.same {ks : List Str} (h : SetS P w G a ks) (s : Same G G') : SetS P w G' a ks := ⟨s _ _ h.at_⟩
theorem SetI.same {ks : List Int} (h : SetI P w G a ks) (s : Same G G') : SetI P w G' a ks := ⟨s _ _ h.at_⟩
theorem setS_ok {α : Type} {l ks : List α} (h : setSF l = some ks) : l.length + 1 < 4096 ∧ ks = l := by
  unfold setSF at h
  obtain ⟨h1, h2⟩ := grd h
  have := of_decide_eq_true h1
  exact ⟨by omega, (som h2).symm⟩
theorem q_setS {l ks : List Str} (S : Sep ms H0 G H cs) (h : H a = some (.lst vs)) (f : FrL F0 G vs (l.map eS)) (k : setSF l = some ks) (q : ∀ p G' H', Sep ms H0 G' H' cs → Same G G' → SetS P w G' p ks → Q (.ref p) H') : rSetS K P w [.ref a] H Q := by
  rw [frl_strs f] at h
  obtain ⟨h1, rfl⟩ := setS_ok k
  exact ⟨ks, Or.inl ⟨a, rfl, SqL.of h⟩, h1, fun p hp => q p _ _ (S.sh hp) (sNew (S.gfree hp)) ⟨upd_same⟩⟩
theorem q_setT {z : Str} {ks : List Str} (S : Sep ms H0 G H cs) (k : setSF (chars z) = some ks) (q : ∀ p G' H', Sep ms H0 G' H' cs → Same G G' → SetS P w G' p ks → Q (.ref p) H') : rSetS K P w [.str z] H Q := by
  obtain ⟨h1, rfl⟩ := setS_ok k
  exact ⟨_, Or.inr ⟨z, rfl, rfl⟩, h1, fun p hp => q p _ _ (S.sh hp) (sNew (S.gfree hp)) ⟨upd_same⟩⟩
theorem q_setI {l ks : List Int} (S : Sep ms H0 G H cs) (h : H a = some (.lst vs)) (f : FrL F0 G vs (l.map eI)) (k : setSF l = some ks) (q : ∀ p G' H', Sep ms H0 G' H' cs → Same G G' → SetI P w G' p ks → Q (.ref p) H') : rSetI K P w [.ref a] H Q := by
  rw [frl_ints f] at h
  obtain ⟨h1, rfl⟩ := setS_ok k
  exact ⟨ks, a, rfl, SqL.of h, h1, fun p hp => q p _ _ (S.sh hp) (sNew (S.gfree hp)) ⟨upd_same⟩⟩
theorem q_lenSetS {ks : List Str} (S : Sep ms H0 G H cs) (f : SetS P w G a ks) (q : Q (.int (countD ks)) H) : rLenSet P w [.ref a] H Q := ⟨a, _, rfl, Or.inl ⟨_, S.sub _ _ f.at_⟩, q⟩
theorem q_lenSetI {ks : List Int} (S : Sep ms H0 G H cs) (f : SetI P w G a ks) (q : Q (.int (countD ks)) H) : rLenSet P w [.ref a] H Q := ⟨a, _, rfl, Or.inr ⟨_, S.sub _ _ f.at_⟩, q⟩
theorem q_sortU {ks : List Str} (S : Sep ms H0 G H cs) (f : SetS P w G a ks) (q : zNew ((sortU ks).map V.str) H Q) : rSortTxt P w [.ref a] H Q := by
  refine ⟨a, _, _, rfl, S.sub _ _ f.at_, fun p ys np h1 h2 h3 _ => ?_⟩
  rw [sortU_is (sorted_pw h1) h2 fun k => (h3 k).trans decide_eq_true_iff]
  exact q p np
theorem q_sortUI {ks : List Int} (S : Sep ms H0 G H cs) (f : SetI P w G a ks) (q : zNew ((sortUI ks).map V.int) H Q) : rSortInt P w [.ref a] H Q := by
  refine ⟨a, _, _, rfl, S.sub _ _ f.at_, fun p ys np h1 h2 _ => ?_⟩
  rw [sortUI_is h1 fun k => (h2 k).trans decide_eq_true_iff]
  exact q p np
/-- a set comprehension of texts -/
abbrev ScG (P : Program) (w : World) (J : It) (g : TG) (tt : TT) (te : TE) (vs : List Nat) (σ : L2.St) (H1 : Hp) (D : Addr) (Qd : Hp → Prop) : Prop := ∃ W : Nat → Nat → Hp → Prop, (∃ m, W 0 m (upd H1 D (TxtSet P w D (fun _ => false) 0))) ∧ ∀ j m G, W j m G →
  (J.stop j G ∧ Qd G) ∨ (J.go j G ∧ ∃ Z : Hp → Prop, (∀ G', Z G' → ∃ m', m' < m ∧ W (j + 1) m' G') ∧ ∀ x G', J.yld j G x G' → g x (wipe σ vs) G' fun τ G2 => wipe τ vs = wipe σ vs ∧ tt τ G2 fun b G3 =>
    if b = true then te τ G3 fun y G4 => ∃ (c : Str) (S : Str → Bool) (n : Nat), y = .str c ∧ G4 D = some (TxtSet P w D S n) ∧ n + 1 < scanBound ∧ Z (upd G4 D (TxtSet P w D (fun k => S k || decide (k = c)) (if S c = true then n else n + 1))) else Z G3)
theorem txt_tup {p : Addr} {S : Str → Bool} {n : Nat} : ∀ xs, TxtSet P w p S n ≠ .tup xs := fun _ z => by cases z
theorem set_snoc (D : Addr) (ks : List Str) (c : Str) : TxtSet P w D (fun k => decide (k ∈ ks) || decide (k = c)) (if decide (c ∈ ks) = true then (dd ks).length else (dd ks).length + 1) = TxtSet P w D (fun k => decide (k ∈ ks ++ [c])) (dd (ks ++ [c])).length := by
  congr 1
  · funext k
    rw [Bool.eq_iff_iff, Bool.or_eq_true, decide_eq_true_iff, decide_eq_true_iff, decide_eq_true_iff, List.mem_append, List.mem_singleton]
  · rw [dd_snoc]
    by_cases h : c ∈ ks
    · rw [if_pos (decide_eq_true h), if_pos (mem_dd.mpr h)]
    · rw [if_neg (by rw [decide_eq_false h]; decide), if_neg (fun z => h (mem_dd.mp z)), List.length_append]
      rfl
def ocons {β : Type} : Option β → List β → List β
  | none, zs => zs
  | some y, zs => y :: zs
theorem compF_drop {α β : Type} {f : α → Option (Option β)} {xs : List α} {i : Nat} {a : α} {ys : List β} (hi : xs[i]? = some a) (h : compF f (xs.drop i) = some ys) :
    ∃ o zs, f a = some o ∧ compF f (xs.drop (i + 1)) = some zs ∧ ys = ocons o zs := by
  rw [drop_of hi] at h
  obtain ⟨p, h1, h2⟩ := bnd h
  obtain ⟨q, h3, h4⟩ := bnd h2
  cases h4
  refine ⟨p, q, h1, h3, ?_⟩
  cases p <;> rfl
def compT {α : Type} (f : α → Option (Option Str)) (l : List α) : Option (List Str) := cond (decide (l.length ≤ 4000)) (compF f l) none
theorem compF_len {α β : Type} {f : α → Option (Option β)} {xs : List α} {ys : List β} (h : compF f xs = some ys) : ys.length ≤ xs.length := compS_len (compF_S h)
theorem q_scT {α : Type} {J : It} {Gd : Hp → Prop} {Y : Nat → Hp → V → Hp → Prop} {g : TG} {σ : L2.St} {f : α → Option (Option Str)} {xs : List α} {ys : List Str} {A : Addr} {Qd : Hp → Prop} {tt : TT} {te : TE} {vs : List Nat}
    (hf : compT f xs = some ys) (w0 : Walk J xs.length Gd Y) (S0 : Sep ms H0 G H cs) (hA : H A = none)
    (hg : ∀ G' H' o, Sep ms H0 G' H' ((A, o) :: cs) → Same G G' → Gd H')
    (hs : ∀ i x a o G1 H1 H2 u, xs[i]? = some a → f a = some o → Sep ms H0 G1 H1 ((A, u) :: cs) → Same G G1 → Y i H1 x H2 →
      ∀ (T : V → Hp → Prop) (F : Hp → Prop), (∀ b G' H', o = some b → Sep ms H0 G' H' ((A, u) :: cs) → Same G1 G' → T (.str b) H') → (∀ G' H', o = none → Sep ms H0 G' H' ((A, u) :: cs) → Same G1 G' → F H') →
      g x (wipe σ vs) H2 fun σ2 H2 => wipe σ2 vs = wipe σ vs ∧ tt σ2 H2 fun b H3 => if b = true then te σ2 H3 T else F H3)
    (hd : ∀ G' H', Sep ms H0 G' H' cs → Same G G' → SetS P w G' A ys → Qd H') : ScG P w J g tt te vs σ H A Qd := by
  unfold compT at hf
  obtain ⟨hz, hf⟩ := grd hf
  have hz := of_decide_eq_true hz
  have yl := compF_len hf
  refine ⟨fun i m H' => m = xs.length - i ∧ i ≤ xs.length ∧ ∃ zs ws G', compF f (xs.drop i) = some zs ∧ ys = ws ++ zs ∧ Sep ms H0 G' H' ((A, TxtSet P w A (fun k => decide (k ∈ ws)) (dd ws).length) :: cs) ∧ Same G G',
    ⟨_, rfl, Nat.zero_le _, ys, [], G, hf, rfl, ?_, Same.refl _⟩, ?_⟩
  · have e : TxtSet P w A (fun _ => false) 0 = TxtSet P w A (fun k => decide (k ∈ ([] : List Str))) (dd ([] : List Str)).length := by
      congr 1
    rw [← e]
    exact S0.own hA txt_tup
  rintro i m H1 ⟨rfl, hi, zs, ws, G1, hl, rfl, S1, s1⟩
  have q := hg G1 H1 _ S1 s1
  by_cases hlt : i < xs.length
  · obtain ⟨o, zs2, h1, h2, h3⟩ := compF_drop (List.getElem?_eq_getElem hlt) hl
    refine .inr ⟨w0.goes i H1 hlt q, fun H' => ∃ zs ws' G', compF f (xs.drop (i + 1)) = some zs ∧ ws ++ ocons o zs2 = ws' ++ zs ∧ Sep ms H0 G' H' ((A, TxtSet P w A (fun k => decide (k ∈ ws')) (dd ws').length) :: cs) ∧ Same G G', ?_, ?_⟩
    · rintro H' ⟨zs3, ws', G', k1, k2, k3, k4⟩
      exact ⟨xs.length - (i + 1), by omega, rfl, hlt, zs3, ws', G', k1, by rw [h3]; exact k2, k3, k4⟩
    · intro x H2 y
      refine hs i x _ o G1 H1 H2 _ (List.getElem?_eq_getElem hlt) h1 S1 s1 (w0.yields i H1 x H2 hlt q y) _ _ (fun b G' H' e S' sG => ?_) fun G' H' e S' sG => ?_
      · subst e
        have lw : ws.length ≤ xs.length := by
          rw [h3, List.length_append] at yl
          omega
        have ld := dd_le ws
        refine ⟨b, _, _, rfl, S'.get 0 rfl, by unfold scanBound; omega, zs2, ws ++ [b], G', h2, by rw [List.append_assoc]; rfl, ?_, s1.trans sG⟩
        rw [set_snoc]
        exact S'.put 0 rfl txt_tup
      · subst e
        exact ⟨zs2, ws, G', h2, rfl, S', s1.trans sG⟩
  · have e : i = xs.length := by omega
    subst e
    rw [List.drop_length] at hl
    cases hl
    rw [List.append_nil] at hd
    have S2 := S1.fix 0 rfl
    by_cases hm : A ∈ ms
    · exact absurd (S0.old A hA) (S0.hms A hm)
    · exact .inl ⟨w0.stops H1 q, hd _ H1 (S2 hm) (s1.trans (sNew (S1.gnone 0 rfl))) ⟨upd_same⟩⟩
theorem rd_scT' {wi : TI} {g : TG} {tt : TT} {te : TE} {vs : List Nat} {σ : L2.St} (q : wi σ H fun J G1 => ∀ D, G1 D = none → ScG P w J g tt te vs σ G1 D fun G => Q (.ref D) G) : tScT P w wi g tt te vs σ H Q := q
end
end LQ

/-! More of what is owned: starts, arguments, results that are owned. -/
namespace LQ
open PySem L2 LX
theorem rd_lst_dk {G : Hp} {a : Addr} {xs : List V} {kvs : List (Key × V)} (h : G a = some (.lst xs)) : ¬ Rd G a (.dK kvs) := by
  rintro (k | ⟨o, k⟩) <;> (rw [h] at k; cases k)
theorem rd_tup_dk {G : Hp} {a : Addr} {xs : List V} {kvs : List (Key × V)} (h : G a = some (.tup xs)) : ¬ Rd G a (.dK kvs) := by
  rintro (k | ⟨o, k⟩) <;> (rw [h] at k; cases k)
theorem rd_dk {G : Hp} {a : Addr} {kvs kvs' : List (Key × V)} (h : Rd G a (.dK kvs)) (k : Rd G a (.dK kvs')) : kvs = kvs' := by
  rcases h with h | ⟨o, h⟩ <;> rcases k with k | ⟨o', k⟩ <;> (rw [h] at k; cases k) <;> rfl
mutual
theorem Fr.fn {F0 F1 G : Hp} : ∀ {v : V} {d e : PyData}, Fr F0 G v d → Fr F1 G v e → d = e
  | _, _, _, .non, .non => rfl
  | _, _, _, .bl b, .bl _ => rfl
  | _, _, _, .int i, .int _ => rfl
  | _, _, _, .str x, .str _ => rfl
  | _, _, _, .lst h _ hs, .lst k _ ks => by
    rw [h] at k
    cases k
    rw [FrL.fn hs ks]
  | _, _, _, .lst h _ _, .tup k _ => by
    rw [h] at k
    cases k
  | _, _, _, .lst h _ _, .dic k _ _ => absurd k (rd_lst_dk h)
  | _, _, _, .tup h _, .lst k _ _ => by
    rw [h] at k
    cases k
  | _, _, _, .tup h hs, .tup k ks => by
    rw [h] at k
    cases k
    rw [FrL.fn hs ks]
  | _, _, _, .tup h _, .dic k _ _ => absurd k (rd_tup_dk h)
  | _, _, _, .dic h _ _, .lst k _ _ => absurd h (rd_lst_dk k)
  | _, _, _, .dic h _ _, .tup k _ => absurd h (rd_tup_dk k)
  | _, _, _, .dic h _ hs, .dic k _ ks => by
    cases rd_dk h k
    rw [FrK.fn hs ks]
theorem FrL.fn {F0 F1 G : Hp} : ∀ {vs : List V} {d e : List PyData}, FrL F0 G vs d → FrL F1 G vs e → d = e
  | _, _, _, .nil, .nil => rfl
  | _, _, _, .cons h hs, .cons k ks => by rw [Fr.fn h k, FrL.fn hs ks]
theorem FrK.fn {F0 F1 G : Hp} : ∀ {vs : List (Key × V)} {d e : List (PyData × PyData)}, FrK F0 G vs d → FrK F1 G vs e → d = e
  | _, _, _, .nil, .nil => rfl
  | _, _, _, .cons h hs, .cons k ks => by rw [Fr.fn h k, FrK.fn hs ks]
end
mutual
theorem Fr.off {F0 F1 G : Hp} {a : Addr} {D : PyData} (A : Fr F1 G (.ref a) D) : ∀ {v : V} {d : PyData}, Fr F0 G v d → sizeOf d < sizeOf D → Fr F0 (hid G [a]) v d
  | _, _, .non, _ => .non
  | _, _, .bl b, _ => .bl b
  | _, _, .int i, _ => .int i
  | _, _, .str x, _ => .str x
  | _, _, .lst (a := b) (ds := ds) h n hs, z => by
    have ne : b ∉ [a] := fun q => by
      rw [List.mem_singleton.mp q] at h
      have : Fr F1 G (.ref a) D := A
      have e := Fr.fn (F0 := F1) (F1 := E0h) A (.lst h rfl hs.rp)
      rw [e] at z
      omega
    exact .lst (by rw [hid_out ne]; exact h) n (FrL.off A hs (by simp at z; omega))
  | _, _, .tup (a := b) (ds := ds) h hs, z => by
    have ne : b ∉ [a] := fun q => by
      rw [List.mem_singleton.mp q] at h
      have e := Fr.fn (F0 := F1) (F1 := E0h) A (.tup h hs.rp)
      rw [e] at z
      omega
    exact .tup (by rw [hid_out ne]; exact h) (FrL.off A hs (by simp at z; omega))
  | _, _, .dic (a := b) (ds := ds) h n hs, z => by
    have ne : b ∉ [a] := fun q => by
      rw [List.mem_singleton.mp q] at h
      have e := Fr.fn (F0 := F1) (F1 := F0) A (.dic h (List.mem_singleton.mp q ▸ n) hs)
      rw [e] at z
      omega
    exact .dic (by unfold Rd; rw [hid_out ne]; exact h) n (FrK.off A hs (by simp at z; omega))
theorem FrL.off {F0 F1 G : Hp} {a : Addr} {D : PyData} (A : Fr F1 G (.ref a) D) : ∀ {v : List V} {d : List PyData}, FrL F0 G v d → sizeOf d < sizeOf D → FrL F0 (hid G [a]) v d
  | _, _, .nil, _ => .nil
  | _, _, .cons h hs, z => .cons (Fr.off A h (by simp at z; omega)) (FrL.off A hs (by simp at z; omega))
theorem FrK.off {F0 F1 G : Hp} {a : Addr} {D : PyData} (A : Fr F1 G (.ref a) D) : ∀ {v : List (Key × V)} {d : List (PyData × PyData)}, FrK F0 G v d → sizeOf d < sizeOf D → FrK F0 (hid G [a]) v d
  | _, _, .nil, _ => .nil
  | _, _, .cons h hs, z => .cons (Fr.off A h (by simp at z; omega)) (FrK.off A hs (by simp at z; omega))
end
section
variable {ms : List Addr} {H0 F0 G G1 H H' : Hp} {cs : List (Addr × HO)} {p q a : Addr} {o o' : HO} {vs us : List V} {ds : List PyData}
theorem Sep.start1 (h : H p = some (.lst us)) : Sep [p] H (hid H [p]) H [(p, .lst us)] :=
  Sep.startM H [(p, .lst us)] (fun c hc => by
    rw [List.mem_singleton.mp hc]
    exact ⟨h, lst_tup⟩) (List.nodup_cons.mpr ⟨List.not_mem_nil, List.nodup_nil⟩)
theorem Sep.start2 (h : H p = some (.lst us)) (k : H q = some (.lst vs)) (n : p ≠ q) : Sep [p, q] H (hid H [p, q]) H [(p, .lst us), (q, .lst vs)] :=
  Sep.startM H [(p, .lst us), (q, .lst vs)] (fun c hc => by
    rcases List.mem_cons.mp hc with z | z
    · rw [z]
      exact ⟨h, lst_tup⟩
    · rw [List.mem_singleton.mp z]
      exact ⟨k, lst_tup⟩) (List.nodup_cons.mpr ⟨fun z => n (List.mem_singleton.mp z), List.nodup_cons.mpr ⟨List.not_mem_nil, List.nodup_nil⟩⟩)
theorem Sep.hid1 (S : Sep ms H0 G H cs) (i : Nat) (h : cs[i]? = some (p, o)) : Same G (hid H [p]) := S.hidS fun b hb => by
  rw [List.mem_singleton.mp hb]
  exact S.gnone i h
theorem Sep.rdh (S : Sep ms H0 G H cs) (j : Nat) (hj : cs[j]? = some (q, .lst vs)) (i : Nat) (hi : cs[i]? = some (p, o)) (n : j ≠ i) (f : FrL F0 G vs ds) : Fr E0h (hid H [p]) (.ref q) (.list ds) :=
  .lst (by rw [hid_out fun z => S.ne hj hi n (List.mem_singleton.mp z)]; exact S.get j hj) rfl ((f.rp).same (S.hid1 i hi))
theorem Sep.ret0O (S : Sep ms H0 G H cs) (R : Ret [] H G1 H') (f : Fr H G1 (.ref a) (.list ds)) : ∃ G' vs, Sep ms H0 G' H' ((a, .lst vs) :: cs) ∧ Same G G' ∧ H0 a = none ∧ FrL H0 G' vs ds := by
  obtain ⟨G2, S2, s2, t2, _⟩ := S.ret0 R
  have f2 := t2 _ _ f
  obtain ⟨vs, h1, h2⟩ := li f2
  have n0 := li0 f2
  have ga : G a = none := S.gfree (li0 f)
  have out : ∀ b, b ≠ a → hid G2 [a] b = G2 b := fun b hb => hid_out fun z => hb (List.mem_singleton.mp z)
  refine ⟨hid G2 [a], vs, ⟨fun b o e => S2.sub b o (hid_some e).2, fun c hc => ?_, List.nodup_cons.mpr ⟨fun z => ?_, S2.nd⟩, fun p hp => List.mem_cons_of_mem _ (S2.msc p hp), S2.hms, S2.old, fun b o e n => ?_, fun b xs e => ?_⟩, fun b o e => ?_, n0, FrL.off f2 h2 (by simp)⟩
  · rcases List.mem_cons.mp hc with z | z
    · rw [z]
      exact ⟨S2.sub _ _ h1, hid_in (List.mem_singleton.mpr rfl), lst_tup⟩
    · obtain ⟨k1, k2, k3⟩ := S2.cel c z
      refine ⟨k1, ?_, k3⟩
      by_cases e : c.1 = a
      · exact hid_in (List.mem_singleton.mpr e)
      · rw [out _ e]
        exact k2
  · obtain ⟨c, hc, e⟩ := List.mem_map.mp z
    have := (S2.cel c hc).2.1
    rw [e, h1] at this
    cases this
  · rw [out b fun z => by rw [z, n0] at e; cases e]
    exact S2.base b o e n
  · have g := S2.tups b xs e
    rw [out b fun z => by rw [z, h1] at g; cases g]
    exact g
  · rw [out b fun z => by rw [z, ga] at e; cases e]
    exact s2 b o e
end
end LQ

/-! The script; sorted rows; counts; things looked for in lists; dicts that are read. -/
namespace LQ
open PySem PySem.Spec PyProof.Rows L2 LX
section
variable {ms : List Addr} {F0 H0 G G' H H' : Hp} {cs : List (Addr × HO)} {a b : Addr} {vs us : List V} {K : PySem.W.Frag} {P : Program} {w : World} {Q : VK} {d : PyData} {v x y : V} {α β : Type} {e : α → PyData}
/-! ### the script -/
theorem q_slScr {lo hi : Option Int} {ns : List Int} (S : Sep ms H0 G H cs) (f : Scr K G a ns) (q : ∀ p G' H', Sep ms H0 G' H' cs → Same G G' → Fr H0 G' (.ref p) (eL eI (cutL ns lo hi)) → Q (.ref p) H') : rSlL K (.ref a) lo hi H Q := by
  refine ⟨a, _, rfl, (f.same S.sub).seq, ?_⟩
  rw [cutL_map]
  exact q_new S (ints_frl _) S.old q
theorem q_slScrO {lo hi : Option Int} {ns : List Int} (S : Sep ms H0 G H cs) (f : Scr K G a ns) (q : ∀ p us H', Sep ms H0 G H' ((p, .lst us) :: cs) → H0 p = none → FrL H0 G us ((cutL ns lo hi).map eI) → Q (.ref p) H') : rSlL K (.ref a) lo hi H Q := by
  refine ⟨a, _, rfl, (f.same S.sub).seq, ?_⟩
  rw [cutL_map]
  exact q_newO S fun p H' S' n => q p _ H' S' n (ints_frl _)
theorem q_lenScr {ns : List Int} (S : Sep ms H0 G H cs) (f : Scr K G a ns) (q : Q (.int (lenI ns)) H) : qLen K [.ref a] H Q :=
  ⟨a, _, rfl, Or.inl (f.same S.sub).seq, by rw [List.length_map]; exact q⟩
theorem q_catScr {ns ms' r : List Int} (S : Sep ms H0 G H cs) (f : Scr K G a ns) (hb : H b = some (.lst us)) (f2 : FrL F0 G us (ms'.map eI)) (h : catF ns ms' = some r) (q : ∀ p G' H', Sep ms H0 G' H' cs → Same G G' → Fr H0 G' (.ref p) (eL eI r) → Q (.ref p) H') : rCatL K (.ref a) (.ref b) H Q := by
  obtain ⟨h1, rfl⟩ := cat_ok h
  refine ⟨a, b, _, us, rfl, rfl, (f.same S.sub).seq, SqL.of hb, lim_le (by rw [List.length_map, f2.len, List.length_map]; exact h1), ?_⟩
  rw [frl_ints f2, ← List.map_append]
  exact q_new S (ints_frl _) S.old q
theorem q_catL {ns ms' r : List Int} {F1 : Hp} (S : Sep ms H0 G H cs) (ha : H a = some (.lst vs)) (f : FrL F1 G vs (ns.map eI)) (hb : H b = some (.lst us)) (f2 : FrL F0 G us (ms'.map eI)) (h : catF ns ms' = some r) (q : ∀ p G' H', Sep ms H0 G' H' cs → Same G G' → Fr H0 G' (.ref p) (eL eI r) → Q (.ref p) H') : rCatL K (.ref a) (.ref b) H Q := by
  obtain ⟨h1, rfl⟩ := cat_ok h
  refine ⟨a, b, vs, us, rfl, rfl, SqL.of ha, SqL.of hb, lim_le (by rw [f.len, f2.len, List.length_map, List.length_map]; exact h1), ?_⟩
  rw [frl_ints f, frl_ints f2, ← List.map_append]
  exact q_new S (ints_frl _) S.old q
theorem q_ixScr {ns : List Int} {i x : Int} (S : Sep ms H0 G H cs) (f : Scr K G a ns) (h : ix ns i = some x) (q : Q (.int x) H) : rIxL K (.ref a) (.int i) H Q := by
  refine ⟨a, _, i, _, rfl, rfl, (f.same S.sub).seq, ?_, q⟩
  unfold ix atI at h
  obtain ⟨j, h1, h2⟩ := Option.bind_eq_some_iff.mp h
  unfold atI
  rw [List.length_map, h1]
  show (ns.map V.int)[j]? = _
  rw [List.getElem?_map, h2]
  rfl
theorem q_eqScr {ns : List Int} {m : List Int} {c : Bool} (S : Sep ms H0 G H cs) (f : Scr K G a ns) (g : Fr F0 H y (eL eI m)) (h : eqvF (eL eI ns) (eL eI m) = some c) (q : Q (.bl c) H) : rEqD K (.ref a) y H Q := by
  obtain ⟨h1, h2, h3, h4, h5⟩ := eqv_ok h
  exact ⟨_, _, .lst (f.same S.sub).seq (dp_ints ns), g.dp h4, h1, h2, by rw [h5]; exact q⟩
theorem w_scr {ns : List Int} (f : Scr K G a ns) : Walk (Itl K a) ns.length (fun H => SqL K H a (ns.map V.int)) (fun i H v H' => H' = H ∧ ∀ x, ns[i]? = some x → v = .int x) := by
  have h : ns.length = (ns.map V.int).length := by rw [List.length_map]
  rw [h]
  refine walk_list.mono (fun _ h => h) fun i H x H' _ _ y => ⟨y.1, fun z hz => ?_⟩
  have := y.2
  rw [List.getElem?_map, hz] at this
  exact (Option.some.inj this).symm
/-! ### sorted rows -/
abbrev encIS (e : Int × Str) : List PyData := [.int e.1, .str e.2]
theorem srtIS : Srt1 encIS where
  alike := fun x y => by simp [PySem.W.alike, PySem.W.alikeAll]
  first := fun x => ⟨_, _, rfl⟩
  flat := fun x => by simp [PyData.depth, PyData.depthAll]
def leIS (x y : Int × Str) : Bool := leD encIS x y
theorem leIS_is (x y : Int × Str) : leIS x y = if y.1 = x.1 then (if y.2 = x.2 then true else !decide (y.2.cps.toList < x.2.cps.toList)) else !decide (y.1 < x.1) := by
  show (!PySem.W.dataLt (.tuple (encIS y)) (.tuple (encIS x))) = _
  rw [PySem.W.dataLt_pair (by simp [PySem.W.alike]) (by simp [PySem.W.alike]), PySem.W.dataLt_int, PySem.W.dataLt_str]
  simp only [PyData.eqv, beq_iff_eq]
  by_cases h : y.1 = x.1
  · rw [if_pos h, if_pos h]
    by_cases k : y.2 = x.2
    · rw [if_pos k, if_pos k]
      rfl
    · rw [if_neg k, if_neg k]
  · rw [if_neg h, if_neg h]
theorem leIS_anti {x y : Int × Str} (h : leIS x y = true) (k : leIS y x = true) : x = y := by
  rw [leIS_is] at h k
  by_cases c : x.1 = y.1
  · rw [if_pos c.symm] at h
    rw [if_pos c] at k
    by_cases c2 : x.2 = y.2
    · exact Prod.ext c c2
    · rw [if_neg (fun z => c2 z.symm), Bool.not_eq_true', decide_eq_false_iff_not] at h
      rw [if_neg c2, Bool.not_eq_true', decide_eq_false_iff_not] at k
      exact absurd (str_ext (List.le_antisymm (List.not_lt.mp h) (List.not_lt.mp k))) c2
  · rw [if_neg (fun z => c z.symm), Bool.not_eq_true', decide_eq_false_iff_not] at h
    rw [if_neg c, Bool.not_eq_true', decide_eq_false_iff_not] at k
    omega
def sortR (l : List (Int × Str)) : List (Int × Str) := l.mergeSort leIS
def sortRF (l : List (Int × Str)) : Option (List (Int × Str)) := cond (decide (l.length ≤ 900)) (some (sortR l)) none
theorem sortR_pw (l : List (Int × Str)) : (sortR l).Pairwise fun x y => leIS x y = true := by
  have := PySem.W.sort_pairwise (PySem.W.sortLe_total (PyProof.Rows.listOrd PyProof.Rows.itemOrd) false fun b : Int × Str => PySem.W.keyToks (PyData.tuple (encIS b))) l
  exact this
theorem sortR_is {l ys : List (Int × Str)} (p : ys.Perm l) (h : ys.Pairwise fun x y => leIS x y = true) : ys = sortR l :=
  List.Perm.eq_of_pairwise (fun a b _ _ x y => leIS_anti x y) h (sortR_pw l) (p.trans (List.mergeSort_perm _ _).symm)
theorem frl_ts {l : List (Int × Str)} (f : FrL F0 G vs (l.map (eT2 eI eS))) : ∃ ts : List Addr, vs = ts.map V.ref ∧ TsAt (fun e : Int × Str => [.int e.1, .str e.2]) G ts l := by
  induction l generalizing vs with
  | nil =>
    cases f
    exact ⟨[], rfl, True.intro⟩
  | cons x l ih =>
    cases f with
    | cons f1 hs =>
      obtain ⟨ts, rfl, h⟩ := ih hs
      obtain ⟨t, rfl⟩ := fr_tup f1
      obtain ⟨v1, v2, h1, g1, g2⟩ := tu2 f1
      cases fr_int g1
      cases fr_str g2
      exact ⟨t :: ts, rfl, h1, h⟩
theorem ts_frl : ∀ {ts : List Addr} {l : List (Int × Str)}, TsAt (fun e : Int × Str => [.int e.1, .str e.2]) G ts l → FrL F0 G (ts.map V.ref) (l.map (eT2 eI eS))
  | [], [], _ => .nil
  | _ :: ts, _ :: l, h => .cons (.tup h.1 (.cons (.int _) (.cons (.str _) .nil))) (ts_frl (ts := ts) (l := l) h.2)
  | [], _ :: _, h => h.elim
  | _ :: _, [], h => h.elim
theorem ts_sub {m : α → List V} : ∀ {ts : List Addr} {l : List α}, TsAt m G ts l → Same G G' → TsAt m G' ts l
  | [], [], _, _ => True.intro
  | _ :: ts, _ :: l, h, s => ⟨s _ _ h.1, ts_sub (ts := ts) (l := l) h.2 s⟩
  | [], _ :: _, h, _ => h.elim
  | _ :: _, [], h, _ => h.elim
theorem ts_back {m : α → List V} (S : Sep ms H0 G H cs) : ∀ {us : List Addr} {ys : List α}, TsAt m H us ys → TsAt m G us ys
  | [], [], _ => True.intro
  | u :: us, _ :: ys, h => ⟨S.tups _ _ h.1, ts_back S (us := us) (ys := ys) h.2⟩
  | [], _ :: _, h => h.elim
  | _ :: _, [], h => h.elim
theorem q_sortR {l r : List (Int × Str)} (S : Sep ms H0 G H cs) (h : H a = some (.lst vs)) (f : FrL F0 G vs (l.map (eT2 eI eS))) (k : sortRF l = some r) (q : ∀ p G' H', Sep ms H0 G' H' cs → Same G G' → Fr H0 G' (.ref p) (eL (eT2 eI eS) r) → Q (.ref p) H') :
    rSortT (fun e : Int × Str => [.int e.1, .str e.2]) encIS K [.ref a] H Q := by
  unfold sortRF at k
  obtain ⟨k1, k2⟩ := grd k
  have k1 := of_decide_eq_true k1
  cases som k2
  obtain ⟨ts, rfl, ht⟩ := frl_ts f
  refine ⟨a, ts, l, rfl, SqL.of h, ts_sub ht S.sub, fun e => .cons (.int _) (.cons (.str _) .nil), by omega, fun p us ys hp pm pw hU => ?_⟩
  have e := sortR_is pm pw
  subst e
  exact q p _ _ (S.sh hp) (sNew (S.gfree hp)) (.lst upd_same (S.old p hp) (ts_frl (ts_sub (ts_back S hU) (sNew (S.gfree hp)))))
end
end LQ

/-! Dicts by what they hold. -/
namespace LQ
open PySem PySem.Spec PyProof.Rows L2 LX
abbrev kI (i : Int) : Key := .inl i
abbrev kS (s : Str) : Key := .inr s
theorem kI_inj (a b : Int) (h : kI a = kI b) : a = b := Sum.inl.inj h
theorem kS_inj (a b : Str) (h : kS a = kS b) : a = b := Sum.inr.inj h
section
variable {κ α : Type} [DecidableEq κ]
def dget (l : List (κ × α)) (k : κ) : Option α := (l.find? fun p => decide (p.1 = k)).map (·.2)
def dput (l : List (κ × α)) (k : κ) (x : α) : List (κ × α) := if (l.any fun p => decide (p.1 = k)) = true then l.map (fun p => if p.1 = k then (p.1, x) else p) else l ++ [(k, x)]
def dputF (l : List (κ × α)) (k : κ) (x : α) : Option (List (κ × α)) := cond (decide (l.length < LIM)) (some (dput l k x)) none
def dhas (l : List (κ × α)) (k : κ) : Bool := (dget l k).isSome
/-- later pairs win -/
def dmerge (l m : List (κ × α)) : List (κ × α) := m.foldl (fun acc p => dput acc p.1 p.2) l
def dkeys (l : List (κ × α)) : List κ := l.map (·.1)
end
@[reducible] def eD {κ α : Type} (kk : κ → Key) (e : α → PyData) (l : List (κ × α)) : PyData := .dict (l.map fun p => (dKey (kk p.1), e p.2))
section
variable {κ α : Type} [DecidableEq κ] {kk : κ → Key} {e : α → PyData} {F0 H0 G G' H H' : Hp} {kvs : List (Key × V)} {l : List (κ × α)} {k : κ} {x : α} {v y : V} {a b : Addr} {ms : List Addr} {cs : List (Addr × HO)} {Q : VK} {K : PySem.W.Frag}
theorem dkey_inj {k k' : Key} (h : dKey k = dKey k') : k = k' := by
  cases k <;> cases k' <;> simp [dKey] at h <;> rw [h]
theorem di {ds : List (PyData × PyData)} (f : Fr F0 G (.ref a) (.dict ds)) : ∃ kvs, Rd G a (.dK kvs) ∧ FrK F0 G kvs ds := by
  cases f with
  | dic h _ hs => exact ⟨_, h, hs⟩
theorem di0 {ds : List (PyData × PyData)} (f : Fr F0 G (.ref a) (.dict ds)) : F0 a = none := by
  cases f with
  | dic _ n _ => exact n
theorem frk_cons {p : κ × α} (f : FrK F0 G kvs ((p :: l).map fun p => (dKey (kk p.1), e p.2))) : ∃ v r, kvs = (kk p.1, v) :: r ∧ Fr F0 G v (e p.2) ∧ FrK F0 G r (l.map fun p => (dKey (kk p.1), e p.2)) := by
  rw [List.map_cons] at f
  generalize hd : (dKey (kk p.1), e p.2) = d at f
  cases f with
  | cons f1 hs =>
    injection hd with h1 h2
    rw [dkey_inj h1]
    exact ⟨_, _, rfl, h2 ▸ f1, hs⟩
theorem frk_len : ∀ {l : List (κ × α)} {kvs : List (Key × V)}, FrK F0 G kvs (l.map fun p => (dKey (kk p.1), e p.2)) → kvs.length = l.length
  | [], _, .nil => rfl
  | p :: l, _, f => by
    obtain ⟨v, r, rfl, _, hs⟩ := frk_cons f
    exact congrArg (· + 1) (frk_len hs)
theorem frk_keys : ∀ {l : List (κ × α)} {kvs : List (Key × V)}, FrK F0 G kvs (l.map fun p => (dKey (kk p.1), e p.2)) → kvs.map (·.1) = l.map fun p => kk p.1
  | [], _, .nil => rfl
  | p :: l, _, f => by
    obtain ⟨v, r, rfl, _, hs⟩ := frk_cons f
    rw [List.map_cons, List.map_cons, frk_keys hs]
theorem frk_get (hk : ∀ a b, kk a = kk b → a = b) : ∀ {l : List (κ × α)} {kvs : List (Key × V)}, FrK F0 G kvs (l.map fun p => (dKey (kk p.1), e p.2)) → (∃ x v, dget l k = some x ∧ valV kvs (kk k) = some v ∧ Fr F0 G v (e x)) ∨ (dget l k = none ∧ valV kvs (kk k) = none)
  | [], _, .nil => Or.inr ⟨rfl, rfl⟩
  | p :: l, _, f => by
    obtain ⟨v, r, rfl, f1, hs⟩ := frk_cons f
    by_cases c : p.1 = k
    · refine Or.inl ⟨p.2, v, ?_, valV_pos (congrArg kk c), f1⟩
      unfold dget
      rw [List.find?_cons_of_pos (by simpa using c)]
      rfl
    · have h1 : dget (p :: l) k = dget l k := by
        unfold dget
        rw [List.find?_cons_of_neg (by simpa using c)]
      have h2 : valV ((kk p.1, v) :: r) (kk k) = valV r (kk k) := valV_neg fun z => c (hk _ _ z)
      rw [h1, h2]
      exact frk_get hk hs
theorem frk_any (hk : ∀ a b, kk a = kk b → a = b) : ∀ {l : List (κ × α)} {kvs : List (Key × V)}, FrK F0 G kvs (l.map fun p => (dKey (kk p.1), e p.2)) → (kvs.any fun kv => decide (kv.1 = kk k)) = l.any fun p => decide (p.1 = k)
  | [], _, .nil => rfl
  | p :: l, _, f => by
    obtain ⟨v, r, rfl, f1, hs⟩ := frk_cons f
    rw [List.any_cons, List.any_cons, frk_any hk hs]
    congr 1
    by_cases c : p.1 = k
    · rw [decide_eq_true (congrArg kk c), decide_eq_true c]
    · rw [decide_eq_false fun z => c (hk _ _ z), decide_eq_false c]
theorem frk_app : ∀ {l m : List (κ × α)} {kvs lvs : List (Key × V)}, FrK F0 G kvs (l.map fun p => (dKey (kk p.1), e p.2)) → FrK F0 G lvs (m.map fun p => (dKey (kk p.1), e p.2)) → FrK F0 G (kvs ++ lvs) ((l ++ m).map fun p => (dKey (kk p.1), e p.2))
  | [], _, _, _, .nil, g => g
  | p :: l, m, _, _, f, g => by
    obtain ⟨v, r, rfl, f1, hs⟩ := frk_cons f
    exact .cons f1 (frk_app hs g)
theorem frk_put (hk : ∀ a b, kk a = kk b → a = b) (f : FrK F0 G kvs (l.map fun p => (dKey (kk p.1), e p.2))) (g : Fr F0 G v (e x)) : FrK F0 G (putK kvs (kk k) v) ((dput l k x).map fun p => (dKey (kk p.1), e p.2)) := by
  unfold L2.putK dput
  rw [frk_any hk f]
  split
  · rename_i hany
    clear hany
    induction l generalizing kvs with
    | nil =>
      cases f
      exact .nil
    | cons p l ih =>
      obtain ⟨w, r, rfl, f1, hs⟩ := frk_cons f
      rw [List.map_cons, List.map_cons, List.map_cons]
      by_cases c : p.1 = k
      · rw [if_pos c, if_pos (show ((kk p.1, w) : Key × V).1 = kk k from congrArg kk c)]
        exact .cons g (ih hs)
      · rw [if_neg c, if_neg (fun z => c (hk _ _ z))]
        exact .cons f1 (ih hs)
  · exact frk_app f (.cons g .nil)
theorem frk_merge (hk : ∀ a b, kk a = kk b → a = b) : ∀ {m l : List (κ × α)} {lvs kvs : List (Key × V)}, FrK F0 G kvs (l.map fun p => (dKey (kk p.1), e p.2)) → FrK F0 G lvs (m.map fun p => (dKey (kk p.1), e p.2)) → FrK F0 G (mergeK kvs lvs) ((dmerge l m).map fun p => (dKey (kk p.1), e p.2))
  | [], _, _, _, f, .nil => f
  | p :: m, l, _, kvs, f, g => by
    obtain ⟨v, r, rfl, f1, hs⟩ := frk_cons g
    have h := frk_merge (m := m) (l := dput l p.1 p.2) (kvs := L2.putK kvs (kk p.1) v) hk (frk_put (k := p.1) (x := p.2) hk f f1) hs
    exact h
theorem FrK.same {vs : List (Key × V)} {ds : List (PyData × PyData)} (h : FrK H0 H vs ds) (s : Same H H') : FrK H0 H' vs ds := h.move (fun _ _ e n => ⟨s _ _ e, n⟩) (fun _ _ e => s _ _ e) fun _ _ e n => ⟨rd_same e s, n⟩
theorem FrK.rp {vs : List (Key × V)} {ds : List (PyData × PyData)} (h : FrK H0 H vs ds) : FrK E0h H vs ds := h.move (fun _ _ e _ => ⟨e, rfl⟩) (fun _ _ e => e) fun _ _ e _ => ⟨e, rfl⟩
/-! readings -/
def zDGet (x y : V) (H : Hp) (Q : VK) : Prop := ∃ a v, x = .ref a ∧ DGet H a y (some v) ∧ Q v H
theorem rd_dget {td ty : TE} {σ : L2.St} (q : td σ H fun x H1 => ty σ H1 fun y H2 => zDGet x y H2 Q) : tDGet td ty σ H Q := q
def zDIn (y x : V) (H : Hp) (Q : VK) : Prop := ∃ a o, x = .ref a ∧ DGet H a y o ∧ Q (.bl o.isSome) H
def zDNotIn (y x : V) (H : Hp) (Q : VK) : Prop := ∃ a o, x = .ref a ∧ DGet H a y o ∧ Q (.bl (!o.isSome)) H
theorem rd_dinZ {td ty : TE} {σ : L2.St} (q : ty σ H fun y H1 => td σ H1 fun x H2 => zDIn y x H2 Q) : tDIn ty td σ H Q := q
theorem rd_dniZ {td ty : TE} {σ : L2.St} (q : ty σ H fun y H1 => td σ H1 fun x H2 => zDNotIn y x H2 Q) : tDNotIn ty td σ H Q := q
def zDPut (v x y : V) (H : Hp) (R : Hp → Prop) : Prop := ∃ a H4, x = .ref a ∧ DPut H a y v H4 ∧ R H4
theorem rd_dputZ {td ty tv : TE} {σ : L2.St} {D : Ends} (q : tv σ H fun v H1 => td σ H1 fun x H2 => ty σ H2 fun y H3 => zDPut v x y H3 fun H4 => D.nx σ H4) : sDPut td ty tv D σ H := q
theorem kV_I (i : Int) : kV (kI i) = .int i := rfl
theorem kV_S (i : Str) : kV (kS i) = .str i := rfl
theorem q_dget (hk : ∀ a b, kk a = kk b → a = b) (h : Rd H a (.dK kvs)) (f : FrK F0 G kvs (l.map fun p => (dKey (kk p.1), e p.2))) (ey : y = kV (kk k)) (hx : dget l k = some x) (q : ∀ v, Fr F0 G v (e x) → Q v H) : zDGet (.ref a) y H Q := by
  rcases frk_get (k := k) hk f with ⟨x', v, h1, h2, h3⟩ | ⟨h1, _⟩
  · rw [hx] at h1
    cases h1
    exact ⟨a, v, rfl, Or.inl ⟨kvs, kk k, h, ey, h2.symm⟩, q v h3⟩
  · rw [hx] at h1
    cases h1
theorem dhas_val (hk : ∀ a b, kk a = kk b → a = b) (f : FrK F0 G kvs (l.map fun p => (dKey (kk p.1), e p.2))) : (valV kvs (kk k)).isSome = dhas l k := by
  unfold dhas
  rcases frk_get (k := k) hk f with ⟨x', v, h1, h2, h3⟩ | ⟨h1, h2⟩ <;> rw [h1, h2] <;> rfl
theorem q_din (hk : ∀ a b, kk a = kk b → a = b) (h : Rd H a (.dK kvs)) (f : FrK F0 G kvs (l.map fun p => (dKey (kk p.1), e p.2))) (ey : y = kV (kk k)) (q : Q (.bl (dhas l k)) H) : zDIn y (.ref a) H Q :=
  ⟨a, _, rfl, Or.inl ⟨kvs, kk k, h, ey, rfl⟩, by rw [dhas_val hk f]; exact q⟩
theorem q_dni (hk : ∀ a b, kk a = kk b → a = b) (h : Rd H a (.dK kvs)) (f : FrK F0 G kvs (l.map fun p => (dKey (kk p.1), e p.2))) (ey : y = kV (kk k)) (q : Q (.bl (!dhas l k)) H) : zDNotIn y (.ref a) H Q :=
  ⟨a, _, rfl, Or.inl ⟨kvs, kk k, h, ey, rfl⟩, by rw [dhas_val hk f]; exact q⟩
theorem q_dput {r : List (κ × α)} {R : Hp → Prop} (hk : ∀ a b, kk a = kk b → a = b) (S : Sep ms H0 G H cs) (i : Nat) (hi : cs[i]? = some (a, .dK kvs)) (f : FrK F0 G kvs (l.map fun p => (dKey (kk p.1), e p.2))) (ey : y = kV (kk k)) (fv : Fr F0 G v (e x)) (h : dputF l k x = some r)
    (q : ∀ us H', Sep ms H0 G H' (cs.set i (a, .dK us)) → FrK F0 G us (r.map fun p => (dKey (kk p.1), e p.2)) → R H') : zDPut v (.ref a) y H R := by
  unfold dputF at h
  obtain ⟨h1, h2⟩ := grd h
  cases som h2
  exact ⟨a, _, rfl, Or.inl ⟨kvs, kk k, S.get i hi, ey, lim_lt (by rw [frk_len f]; exact of_decide_eq_true h1), rfl⟩, q _ _ (S.put i hi dk_tup) (frk_put hk f fv)⟩
def zDNew (H : Hp) (Q : VK) : Prop := ∀ p, H p = none → Q (.ref p) (upd H p (.dK []))
theorem rd_dnewZ {σ : L2.St} (q : zDNew H Q) : tDNewK σ H Q := q
theorem q_dnewO (S : Sep ms H0 G H cs) (q : ∀ p H', Sep ms H0 G H' ((p, .dK []) :: cs) → H0 p = none → Q (.ref p) H') : zDNew H Q := fun p hp => q p _ (S.own hp dk_tup) (S.old p hp)
/-- an owned dict is only read from here on -/
theorem Sep.fixD {ds : List (PyData × PyData)} (S : Sep ms H0 G H cs) (i : Nat) (h : cs[i]? = some (a, .dK kvs)) (hm : a ∉ ms) (f : FrK F0 G kvs ds) (n : F0 a = none) : ∃ G', Sep ms H0 G' H (cs.eraseIdx i) ∧ Same G G' ∧ Fr F0 G' (.ref a) (.dict ds) :=
  ⟨_, S.fix i h hm, sNew (S.gnone i h), .dic (Or.inl upd_same) n (f.same (sNew (S.gnone i h)))⟩
/-- an owned dict, read -/
theorem Sep.rdD {ds : List (PyData × PyData)} (S : Sep ms H0 G H cs) (i : Nat) (h : cs[i]? = some (a, .dK kvs)) (f : FrK F0 G kvs ds) : Fr E0h H (.ref a) (.dict ds) := .dic (Or.inl (S.get i h)) rfl ((f.rp).same S.sub)
def zLenD : List V → Hp → VK → Prop := fun xs H Q => ∃ a kvs, xs = [.ref a] ∧ Rd H a (.dK kvs) ∧ Q (.int (kvs.length : Int)) H
/-! a dict that is walked: it is known to the object from there on -/
def zFrz (x : V) (H : Hp) (R : V → Hp → Prop) : Prop := (∃ d u, x = .ref d ∧ H d = some u ∧ Mut (some u) ∧ ∀ od, R (.ref d) (upd H d (.frz od u))) ∨ ∃ d od u, x = .ref d ∧ H d = some (.frz od u) ∧ R (.ref d) H
def tFrzE (td : TE) : TE := fun σ H Q => td σ H fun x H1 => zFrz x H1 Q
theorem pe_frz {X : Cx} {ex : Expr} {td : TE} (h : PE X ex td) : PE X ex (tFrzE td) := by
  refine ⟨fun pins s σ H Q I hw => ?_⟩
  refine thn (h.run pins s σ H _ I hw) fun v s1 ⟨x, H1, I1, r, q⟩ => ?_
  rcases q with ⟨d, u, rfl, hd, mu, q⟩ | ⟨d, od, u, rfl, hd, q⟩
  · obtain ⟨od, I2⟩ := I1.lock hd mu
    exact ⟨.ref d, _, I2, r, q od⟩
  · exact ⟨.ref d, H1, I1, r, q⟩
theorem rd_frz {td : TE} {σ : L2.St} (q : td σ H fun x H1 => zFrz x H1 Q) : tFrzE td σ H Q := q
def FrzG (G : Hp) (d : Addr) (G' : Hp) : Prop := ∃ od kvs, G d = some (.dK kvs) ∧ G' = upd G d (.frz od (.dK kvs))
theorem FrzG.rd {d : Addr} (h : FrzG G d G') {a : Addr} {us : List (Key × V)} (r : Rd G a (.dK us)) : Rd G' a (.dK us) := by
  obtain ⟨od, kvs, h1, rfl⟩ := h
  by_cases c : a = d
  · subst c
    rcases r with r | ⟨o, r⟩
    · rw [h1] at r
      cases r
      exact Or.inr ⟨od, upd_same⟩
    · rw [h1] at r
      cases r
  · unfold Rd
    rw [upd_ne c]
    exact r
theorem FrzG.oth {d : Addr} (h : FrzG G d G') {a : Addr} {o : HO} (e : G a = some o) (n : ∀ kvs, o ≠ .dK kvs) : G' a = some o := by
  obtain ⟨od, kvs, h1, rfl⟩ := h
  have c : a ≠ d := fun z => by
    subst z
    rw [h1] at e
    exact n kvs (Option.some.inj e).symm
  rw [upd_ne c]
  exact e
theorem Fr.frz {d : Addr} {v : V} {x : PyData} (f : Fr F0 G v x) (h : FrzG G d G') : Fr F0 G' v x := f.move (fun _ _ e n => ⟨h.oth e (fun _ z => by cases z), n⟩) (fun _ _ e => h.oth e fun _ z => by cases z) fun _ _ e n => ⟨h.rd e, n⟩
theorem FrL.frz {d : Addr} {v : List V} {x : List PyData} (f : FrL F0 G v x) (h : FrzG G d G') : FrL F0 G' v x := f.move (fun _ _ e n => ⟨h.oth e (fun _ z => by cases z), n⟩) (fun _ _ e => h.oth e fun _ z => by cases z) fun _ _ e n => ⟨h.rd e, n⟩
theorem FrK.frz {d : Addr} {v : List (Key × V)} {x : List (PyData × PyData)} (f : FrK F0 G v x) (h : FrzG G d G') : FrK F0 G' v x := f.move (fun _ _ e n => ⟨h.oth e (fun _ z => by cases z), n⟩) (fun _ _ e => h.oth e fun _ z => by cases z) fun _ _ e n => ⟨h.rd e, n⟩
theorem _root_.LX.Scr.frz {d : Addr} {ns : List Int} {l : Addr} (f : Scr K G l ns) (h : FrzG G d G') : Scr K G' l ns := by
  rcases f with ⟨o, f⟩ | f
  · exact Or.inl ⟨o, h.oth f fun _ z => by cases z⟩
  · exact Or.inr f
/-- the walk over a dict that is held -/
theorem q_frz {R : V → Hp → Prop} (S : Sep ms H0 G H cs) (n : H0 a = none) (h : Rd G a (.dK kvs)) (q : ∀ od G' H', Sep ms H0 G' H' cs → (G' = G ∨ FrzG G a G') → H' a = some (.frz od (.dK kvs)) → G' a = some (.frz od (.dK kvs)) → R (.ref a) H') : zFrz (.ref a) H R := by
  rcases h with h | ⟨od, h⟩
  · refine Or.inl ⟨a, _, rfl, S.sub _ _ h, True.intro, fun od => q od (upd G a (.frz od (.dK kvs))) _ ?_ (Or.inr ⟨od, kvs, h, rfl⟩) upd_same upd_same⟩
    have ac : ∀ c ∈ cs, c.1 ≠ a := fun c hc z => by
      have := (S.cel c hc).2.1
      rw [z, h] at this
      cases this
    refine ⟨fun b u e => ?_, fun c hc => ?_, S.nd, S.msc, S.hms, fun b e => ?_, fun b u e n' => ?_, fun b xs e => ?_⟩
    · by_cases c : b = a
      · subst c
        rw [upd_same] at e ⊢
        exact e
      · rw [upd_ne c] at e ⊢
        exact S.sub b u e
    · rw [upd_ne (ac c hc), upd_ne (ac c hc)]
      exact S.cel c hc
    · by_cases c : b = a
      · subst c
        rw [upd_same] at e
        cases e
      · rw [upd_ne c] at e
        exact S.old b e
    · have c : b ≠ a := fun z => by
        subst z
        rw [n] at e
        cases e
      rw [upd_ne c]
      exact S.base b u e n'
    · by_cases c : b = a
      · subst c
        rw [upd_same] at e
        cases e
      · rw [upd_ne c] at e ⊢
        exact S.tups b xs e
  · exact Or.inr ⟨a, od, _, rfl, S.sub _ _ h, q od G H S (Or.inl rfl) (S.sub _ _ h) h⟩
def zKeys (x : V) (H : Hp) (R : It → Hp → Prop) : Prop := ∃ d o, x = .ref d ∧ ((∃ kvs, H d = some (.frz o (.dK kvs)) ∧ R (Itk d o kvs) H) ∨ ∃ kvs, H d = some (.frz o (.dT kvs)) ∧ R (Itkt d o kvs) H)
theorem rd_iKeys {td : TE} {σ : L2.St} {R : It → Hp → Prop} (q : td σ H fun x H1 => zKeys x H1 R) : iKeys td σ H R := q
theorem q_keys {od : Obj} {R : It → Hp → Prop} (h : H a = some (.frz od (.dK kvs))) (q : R (Itk a od kvs) H) : zKeys (.ref a) H R := ⟨a, od, rfl, Or.inl ⟨kvs, h, q⟩⟩
theorem w_keys {od : Obj} {l : List (Str × α)} (f : FrK F0 G kvs (l.map fun p => (dKey (kS p.1), e p.2))) : Walk (Itk a od kvs) (dkeys l).length (fun H => H a = some (.frz od (.dK kvs))) (fun i H v H' => H' = H ∧ ∀ x, (dkeys l)[i]? = some x → v = .str x) := by
  have h : (dkeys l).length = kvs.length := by unfold dkeys; rw [List.length_map, frk_len f]
  rw [h]
  refine walk_keys.mono (fun _ h => h) fun i H x H' _ _ y => ⟨y.1, fun z hz => ?_⟩
  obtain ⟨k, v, h1, h2⟩ := y.2
  have h3 : (kvs.map (·.1))[i]? = some k := by rw [List.getElem?_map, h1]; rfl
  rw [frk_keys f, List.getElem?_map] at h3
  unfold dkeys at hz
  rw [List.getElem?_map] at hz
  obtain ⟨p, h4, h5⟩ := Option.map_eq_some_iff.mp hz
  rw [h4] at h3
  have h6 : kS p.1 = k := Option.some.inj h3
  rw [h2, ← h6, ← h5]
  rfl
end
end LQ
namespace LQ
open PySem PySem.Spec PyProof.Rows L2 LX
section
variable {X : Cx} {κ α : Type} [DecidableEq κ] {kk : κ → Key} {e : α → PyData} {F0 H0 G G' H H' : Hp} {kvs : List (Key × V)} {l : List (κ × α)} {k : κ} {x : α} {v y : V} {a b : Addr} {ms : List Addr} {cs : List (Addr × HO)} {Q : VK} {K : PySem.W.Frag} {vs : List V}
theorem klenD : CallR X (.builtin "len") zLenD := by
  intro pins s σ H xs us Q I r h
  obtain ⟨a, kvs, rfl, ha, q⟩ := h
  obtain ⟨u, rfl, ru⟩ := vals1 r
  cases ru
  exact d_len I ha fun t s' I' => ⟨.int kvs.length, H, I', ⟨t, rfl⟩, q⟩
theorem q_lenD (h : Rd H a (.dK kvs)) (f : FrK F0 G kvs (l.map fun p => (dKey (kk p.1), e p.2))) (q : Q (.int (lenI l)) H) : zLenD [.ref a] H Q := ⟨a, kvs, rfl, h, by rw [frk_len f]; exact q⟩
def zCntI (K : PySem.W.Frag) : V → List V → Hp → VK → Prop := rCntI K
theorem klcount {K : PySem.W.Frag} (h : X.K = K := by rfl) : MtR X "list.count" (rCntI K) := h ▸ L2.mt_lcount
theorem q_countI {l : List Int} {i : Int} (h : H a = some (.lst vs)) (f : FrL F0 G vs (l.map eI)) (q : Q (.int ((l.count i : Nat) : Int)) H) : rCntI K (.ref a) [.int i] H Q := by
  rw [frl_ints f] at h
  exact ⟨a, l, i, rfl, rfl, SqL.of h, q⟩
/-- dict(list of pairs of an int, a text and something) -/
theorem q_dictP {kd : κ → PyData} {g : α → PyData} (hkd : ∀ (k : κ) (F G : Hp) (v : V), Fr F G v (kd k) → v = kV (kk k)) (hk : ∀ a b, kk a = kk b → a = b) {m : List (κ × α)} (S : Sep ms H0 G H cs) (h : H a = some (.lst vs)) (f : FrL F0 G vs (m.map fun p => .tuple [kd p.1, g p.2])) (hF : ∀ b, H b = none → F0 b = none)
    (q : ∀ p G' H', Sep ms H0 G' H' cs → Same G G' → Fr F0 G' (.ref p) (eD kk g (dmerge [] m)) → Q (.ref p) H') : qDictP K [.ref a] H Q := by
  have key : ∀ {vs : List V} {m : List (κ × α)}, FrL F0 G vs (m.map fun p => .tuple [kd p.1, g p.2]) → ∃ (ps : List Addr) (kvs : List (Key × V)), vs = ps.map V.ref ∧ Paired (fun p kv => SqT K H p [kV kv.1, kv.2]) ps kvs ∧ FrK F0 G kvs (m.map fun p => (dKey (kk p.1), g p.2)) := by
    intro vs m f
    induction m generalizing vs with
    | nil =>
      cases f
      exact ⟨[], [], rfl, .nil, .nil⟩
    | cons p m ih =>
      cases f with
      | cons f1 hs =>
        obtain ⟨ps, kvs, rfl, h1, h2⟩ := ih hs
        obtain ⟨t, rfl⟩ := fr_tup f1
        obtain ⟨v1, v2, k1, g1, g2⟩ := tu2 f1
        have e1 := hkd _ _ _ _ g1
        subst e1
        exact ⟨t :: ps, (kk p.1, v2) :: kvs, rfl, .cons (SqT.of (S.sub _ _ k1)) h1, .cons g2 h2⟩
  obtain ⟨ps, kvs, rfl, h1, h2⟩ := key f
  refine ⟨a, ps, kvs, rfl, SqL.of h, h1, fun p hp => q p _ _ (S.sh hp) (sNew (S.gfree hp)) (.dic (Or.inl upd_same) (hF p hp) ?_)⟩
  have h3 := frk_merge (kk := kk) (e := g) hk (l := []) (kvs := []) (F0 := F0) (G := G) .nil h2
  exact h3.same (sNew (S.gfree hp))
theorem kdI (k : Int) (F G : Hp) (v : V) (f : Fr F G v (eI k)) : v = kV (kI k) := fr_int f
theorem kdS (k : Str) (F G : Hp) (v : V) (f : Fr F G v (eS k)) : v = kV (kS k) := fr_str f
end
end LQ
namespace LQ
open PySem L2 LX
theorem frz_or {G G' : Hp} {a : Addr} {A : Hp → Prop} (f : A G) (g : FrzG G a G' → A G') (d : G' = G ∨ FrzG G a G') : A G' := by
  rcases d with rfl | d
  · exact f
  · exact g d
theorem frz_same {G0 G G' : Hp} {a : Addr} (s : Same G0 G) (d : G' = G ∨ FrzG G a G') (n : G0 a = none) : Same G0 G' := by
  rcases d with rfl | ⟨od, kvs, _, rfl⟩
  · exact s
  · exact sUpd s n
end LQ
namespace LX
open PySem L2
theorem FnG.imp {P : Program} {w : World} {K : PySem.W.Frag} {mg : Str → Option Value} {base : Heap} {k : Nat} {f : Addr} {fd : FuncData} {ps : List Str} {sp sp' : Sp} (F : FnG P w K mg base k f fd ps sp) (h : ∀ vs H Q E, sp' vs H Q E → sp vs H Q E) : FnG P w K mg base k f fd ps sp' :=
  ⟨fun vs H Q E z => F.len vs H Q E (h vs H Q E z), fun A o s H ar us vs Q E r q e b v z => F.go A o s H ar us vs Q E r q e b v (h vs H Q E z)⟩
end LX

/-! list(zip), list of a text, slices by a step of 1 or -1, lists unpacked, owned results of calls that write. -/
namespace LQ
open PySem PySem.Spec PyProof.Rows L2 LX
def zipF {α β : Type} (l : List α) (m : List β) : Option (List (α × β)) := cond (decide (l.length = m.length)) (some (l.zip m)) none
def zipSF {β : Type} (z : Str) (m : List β) : Option (List (Str × β)) := cond (decide (z.cps.size ≤ 4000) && decide (m.length = z.cps.size)) (some ((chars z).zip m)) none
def charsF (z : Str) : Option (List Str) := cond (decide (z.cps.size ≤ 4000)) (some (chars z)) none
/-- xs[::i], i 1 or -1 -/
def stepF {α : Type} (l : List α) (i : Int) : Option (List α) := cond (decide (i = 1)) (some l) (cond (decide (i = -1)) (some l.reverse) none)
section
variable {ms : List Addr} {F0 H0 G G' H H' H2 : Hp} {cs : List (Addr × HO)} {a b : Addr} {vs us : List V} {K : PySem.W.Frag} {Q : VK} {v x y : V} {α β : Type} {e : α → PyData} {e2 : β → PyData} {l : List α} {m : List β}
theorem Sep.grow (S : Sep ms H0 G H cs) (s : Same H H2) : ∃ G', Sep ms H0 G' H2 cs ∧ Same G G' ∧ (∀ b o, H b = none → H2 b = some o → G' b = some o) ∧ ∀ b xs, H2 b = some (.tup xs) → G' b = some (.tup xs) := by
  have ro : ∀ b, H2 b = none → H b = none := fun b e => by
    cases h : H b with
    | none => rfl
    | some o =>
      rw [s b o h] at e
      cases e
  have out : ∀ b, b ∉ cs.map (·.1) → hid H2 (cs.map (·.1)) b = H2 b := fun b h => hid_out h
  have sG : Same G (hid H2 (cs.map (·.1))) := fun b o e => by
    have n : b ∉ cs.map (·.1) := fun z => by
      obtain ⟨c, hc, rfl⟩ := List.mem_map.mp z
      rw [(S.cel c hc).2.1] at e
      cases e
    rw [out b n]
    exact s b o (S.sub b o e)
  have tp : ∀ b xs, H2 b = some (.tup xs) → hid H2 (cs.map (·.1)) b = some (.tup xs) := fun b xs e => by
    rw [out b]
    · exact e
    · intro z
      obtain ⟨c, hc, rfl⟩ := List.mem_map.mp z
      have := s _ _ (S.cel c hc).1
      rw [e] at this
      exact (S.cel c hc).2.2 xs (Option.some.inj this).symm
  exact ⟨hid H2 (cs.map (·.1)), ⟨fun b o e => (hid_some e).2, fun c hc => ⟨s _ _ (S.cel c hc).1, hid_in (List.mem_map_of_mem hc), (S.cel c hc).2.2⟩, S.nd, S.msc, S.hms, fun b e => S.old b (ro b e), fun b o e n => sG b o (S.base b o e n), tp⟩, sG,
    fun b o hn e => by rw [out b (S.cne hn)]; exact e, tp⟩
/-- a new list of pairs -/
theorem frl_pairs {Ts : List Addr} {l : List α} {m : List β} (hl : Ts.length = l.length) (hm : m.length = l.length) (h : ∀ (j : Nat) (x : α) (y : β), l[j]? = some x → m[j]? = some y → ∃ T v w, Ts[j]? = some T ∧ G T = some (.tup [v, w]) ∧ Fr F0 G v (e x) ∧ Fr F0 G w (e2 y)) :
    FrL F0 G (Ts.map V.ref) ((l.zip m).map (eT2 e e2)) := by
  induction l generalizing m Ts with
  | nil =>
    have : Ts = [] := List.length_eq_zero_iff.mp hl
    subst this
    exact .nil
  | cons x l ih =>
    cases m with
    | nil => cases hm
    | cons y m =>
      cases Ts with
      | nil => cases hl
      | cons T Ts =>
        obtain ⟨T', v, w, k1, k2, k3, k4⟩ := h 0 x y rfl rfl
        cases k1
        refine .cons (.tup k2 (.cons k3 (.cons k4 .nil))) (ih (by simpa using hl) (by simpa using hm) fun j x y hx hy => ?_)
        obtain ⟨T', v, w, k1, k2⟩ := h (j + 1) x y (by simpa using hx) (by simpa using hy)
        exact ⟨T', v, w, by simpa using k1, k2⟩
def zLz (K : PySem.W.Frag) (vs : List V) (H1 : Hp) (Q : VK) : Prop := ∃ (a b : Addr) (xs ys : List V), vs = [.ref a, .ref b] ∧ SqL K H1 a xs ∧ SqL K H1 b ys ∧ ys.length = xs.length ∧
  ∀ (L : Addr) (H2 : Hp) (Ts : List Addr), H1 L = none → Same H1 H2 → H2 L = some (.lst (Ts.map V.ref)) → Ts.length = xs.length → (∀ (j : Nat) (x y : V), xs[j]? = some x → ys[j]? = some y → ∃ T, Ts[j]? = some T ∧ H2 T = some (.tup [x, y])) → Q (.ref L) H2
theorem rd_lzZ {ta : TA} {σ : L2.St} (q : ta σ H fun vs H1 => zLz K vs H1 Q) : tListZip K ta σ H Q := q
theorem q_lz {r : List (α × β)} (S : Sep ms H0 G H cs) (ha : H a = some (.lst vs)) (f : FrL F0 G vs (l.map e)) (hb : H b = some (.lst us)) (g : FrL F0 G us (m.map e2)) (h : zipF l m = some r) (hF : ∀ b, H b = none → F0 b = none)
    (q : ∀ p G' H', Sep ms H0 G' H' cs → Same G G' → Fr F0 G' (.ref p) (eL (eT2 e e2) r) → Q (.ref p) H') : zLz K [.ref a, .ref b] H Q := by
  unfold zipF at h
  obtain ⟨h1, h2⟩ := grd h
  have h1 := of_decide_eq_true h1
  cases som h2
  have lv := f.len
  have lu := g.len
  rw [List.length_map] at lv lu
  refine ⟨a, b, vs, us, rfl, SqL.of ha, SqL.of hb, by omega, fun L H2 Ts nL sm hL tl ht => ?_⟩
  obtain ⟨G2, S2, s2, kn, kt⟩ := S.grow sm
  refine q L G2 H2 S2 s2 (.lst (kn L _ nL hL) (hF L nL) (frl_pairs (by omega) (by omega) fun j x y hx hy => ?_))
  obtain ⟨v, e1, f1⟩ := f.get (i := j) (d := e x) (by rw [List.getElem?_map, hx]; rfl)
  obtain ⟨w, e3, f3⟩ := g.get (i := j) (d := e2 y) (by rw [List.getElem?_map, hy]; rfl)
  obtain ⟨T, k1, k2⟩ := ht j v w e1 e3
  exact ⟨T, v, w, k1, kt _ _ k2, f1.same s2, f3.same s2⟩
def zLzT (K : PySem.W.Frag) (vs : List V) (H1 : Hp) (Q : VK) : Prop := ∃ (x : Str) (b : Addr) (ys : List V), vs = [.str x, .ref b] ∧ x.cps.size ≤ 4000 ∧ SqL K H1 b ys ∧ ys.length = x.cps.size ∧
  ∀ (L : Addr) (H2 : Hp) (Ts : List Addr), H1 L = none → Same H1 H2 → H2 L = some (.lst (Ts.map V.ref)) → Ts.length = x.cps.size → (∀ (j c : Nat) (y : V), x.cps[j]? = some c → ys[j]? = some y → ∃ T, Ts[j]? = some T ∧ H2 T = some (.tup [sg c, y])) → Q (.ref L) H2
theorem q_lzT {z : Str} {r : List (Str × β)} (S : Sep ms H0 G H cs) (hb : H b = some (.lst us)) (g : FrL F0 G us (m.map e2)) (h : zipSF z m = some r) (hF : ∀ b, H b = none → F0 b = none)
    (q : ∀ p G' H', Sep ms H0 G' H' cs → Same G G' → Fr F0 G' (.ref p) (eL (eT2 eS e2) r) → Q (.ref p) H') : zLzT K [.str z, .ref b] H Q := by
  unfold zipSF at h
  obtain ⟨h1, h2⟩ := grd h
  rw [Bool.and_eq_true, decide_eq_true_iff, decide_eq_true_iff] at h1
  cases som h2
  have lu := g.len
  rw [List.length_map] at lu
  refine ⟨z, b, us, rfl, h1.1, SqL.of hb, by omega, fun L H2 Ts nL sm hL tl ht => ?_⟩
  obtain ⟨G2, S2, s2, kn, kt⟩ := S.grow sm
  refine q L G2 H2 S2 s2 (.lst (kn L _ nL hL) (hF L nL) (frl_pairs (by rw [chars_len]; omega) (by rw [chars_len]; omega) fun j x y hx hy => ?_))
  unfold chars at hx
  rw [List.getElem?_map] at hx
  obtain ⟨c, h3, h4⟩ := Option.map_eq_some_iff.mp hx
  rw [Array.getElem?_toList] at h3
  obtain ⟨w, e3, f3⟩ := g.get (i := j) (d := e2 y) (by rw [List.getElem?_map, hy]; rfl)
  obtain ⟨T, k1, k2⟩ := ht j c w h3 e3
  exact ⟨T, sg c, w, k1, kt _ _ k2, by rw [← h4]; exact .str _, f3.same s2⟩
theorem q_listS {z : Str} {l : List Str} (h : charsF z = some l) (q : zNew (l.map V.str) H Q) : rListS [.str z] H Q := by
  unfold charsF at h
  obtain ⟨h1, h2⟩ := grd h
  cases som h2
  refine ⟨z, rfl, of_decide_eq_true h1, fun p hp => ?_⟩
  have e : (z.cps.toList.map fun c => V.str ⟨#[c]⟩) = (chars z).map V.str := by
    unfold chars
    rw [List.map_map]
    rfl
  rw [e]
  exact q p hp
/-! ### xs[::i] -/
def zSt (K : PySem.W.Frag) (x : V) (i : V) (H : Hp) (Q : VK) : Prop := ∃ a xs k, x = .ref a ∧ i = .int k ∧ SqL K H a xs ∧ (k = 1 ∨ k = -1) ∧ ∀ p, H p = none → Q (.ref p) (upd H p (.lst (if k = 1 then xs else xs.reverse)))
def tSt (K : PySem.W.Frag) (te ti : TE) : TE := fun σ H Q => te σ H fun x H1 => ti σ H1 fun i H2 => zSt K x i H2 Q
theorem rd_st {te ti : TE} {σ : L2.St} (q : te σ H fun x H1 => ti σ H1 fun i H2 => zSt K x i H2 Q) : tSt K te ti σ H Q := q
theorem one_pick (items : Array Value) : slicePick items none none (some 1) = items := by
  have e : slicePick items none none (some 1) = slicePick items none none none := rfl
  rw [e]
  unfold slicePick
  have h : sliceBounds none none none items.size = (0, (items.size : Int), 1) := by
    first
    | rfl
    | simp [sliceBounds]
  rw [h]
  show ((sliceRange 0 (items.size : Int) 1).filterMap (items[·]?)).toArray = items
  have h2 : sliceRange 0 (items.size : Int) 1 = List.range items.size := by
    unfold sliceRange
    simp
    by_cases h0 : 0 < items.size
    · rw [if_pos h0]
      simp
    · rw [if_neg h0, show items.size = 0 by omega]
      rfl
  rw [h2, PySem.W.krv_all]
end
section
variable {X : Cx} {K : PySem.W.Frag}
theorem pe_st {e st : Expr} {te ti : TE} {p3 pos : Pos} (ops : Value → Nat → List Value) (he : PE X e te) (hi : PE X st ti) (hsub : ∀ (a : Value) (b : Nat), subscripted (.Slice none none (some st) p3) false a (.ref b) = operate (ops a b) (getItem a (.ref b)) := by intros; rfl) (h : X.K = K := by rfl) :
    PE X (.Subscript e (.Slice none none (some st) p3) pos) (tSt K te ti) := by
  subst h
  refine ⟨fun pins s σ H Q I h => ?_⟩
  refine Subscript_ (thn (he.run pins s σ H _ I h) fun v s1 ⟨x, H1, I1, r1, q1⟩ => ?_)
  have q2 : ti σ H1 fun i H2 => ∃ k, i = .int k ∧ zSt X.K x (.int k) H2 Q := by
    have e : (fun (i : V) (H2 : Hp) => ∃ k, i = .int k ∧ zSt X.K x (.int k) H2 Q) = fun i H2 => zSt X.K x i H2 Q := by
      funext i H2
      refine propext ⟨fun ⟨k, e, z⟩ => e ▸ z, fun z => ?_⟩
      obtain ⟨a, xs, k, e1, e2, z2⟩ := z
      exact ⟨k, e2, a, xs, k, e1, rfl, z2⟩
    rw [e]
    exact q1
  have hst : PO X (some st) (tPart ti) := po_some hi
  refine wpAny_Slice (thn (po_none.run pins s1 σ H1 (fun o H2 => o = none ∧ H2 = H1) I1 ⟨rfl, rfl⟩) fun vl s2 ⟨l, H2, I2, pl, el, e2⟩ => ?_)
  subst el e2
  refine thn (po_none.run pins s2 σ H2 (fun o H3 => o = none ∧ H3 = H2) I2 ⟨rfl, rfl⟩) fun vu s3 ⟨u, H3, I3, pu, eu, e3⟩ => ?_
  subst eu e3
  refine thn (hst.run pins s3 σ H3 (fun o H4 => ∃ k, o = some k ∧ zSt X.K x (.int k) H4 Q) I3 ?_) fun vs s4 ⟨o, H4, I4, ps, k, eo, z⟩ => ?_
  · have e : (fun (y : V) (H' : Hp) => ∃ i, y = .int i ∧ ∃ k, some i = some k ∧ zSt X.K x (.int k) H' Q) = fun i H2 => ∃ k, i = .int k ∧ zSt X.K x (.int k) H2 Q := by
      funext y H'
      refine propext ⟨fun ⟨i, e, k, e2, z⟩ => ⟨i, e, (Option.some.inj e2) ▸ z⟩, fun ⟨k, e, z⟩ => ⟨k, e, k, rfl, z⟩⟩
    show ti σ H3 (fun y H' => ∃ i, y = .int i ∧ ∃ k, some i = some k ∧ zSt X.K x (.int k) H' Q)
    rw [e]
    exact q2
  subst eo
  obtain ⟨a, xs, k', ex, ek, hx, h1, q⟩ := z
  cases ek
  subst ex
  cases r1
  have I5 : Inv X pins σ H4 { s4 with heap := s4.heap.push { cls := .type "slice", data := .fields #[vl, vu, vs] } } := I4.kept (t' := s4.toks) fun b ob q => Heap.get?_push_of_some _ q
  obtain ⟨its, r, ht, hz⟩ := I5.list hx
  have hlen := r.length
  show wpAny (model X.prog X.w) X.A (subscriptTail e (.Slice none none (some st) p3) (.ref a) (.ref s4.heap.objs.size)) (EP X pins σ Q) X.xe { s4 with heap := s4.heap.push { cls := .type "slice", data := .fields #[vl, vu, vs] } }
  refine tail_any (ops := ops (.ref a) s4.heap.objs.size) ht.isList.typeIs (PySem.slot_list_getitem.lookup) ?_ (hsub _ _)
  rcases h1 with rfl | rfl
  · refine wpAny_getItem_list_slice ht.isList (Heap.IsSliceOf.new _ vl vu vs) pl pu ps (by decide) ?_ (by rw [List.size_toArray]; omega)
    rw [one_pick]
    refine ⟨.ref _, _, I5.laid (t' := s4.toks) (o := .lst xs) (fun b ob q => Heap.get?_push_of_some _ q) (Nat.le_refl _) ?_, rfl, q _ (I5.hok.fresh (Nat.le_refl _))⟩
    exact ⟨hz, its, 0, r, Heap.get?_push_size _ rfl⟩
  · refine wpAny_getItem_list_slice ht.isList (Heap.IsSliceOf.new _ vl vu vs) pl pu ps (by decide) ?_ (by rw [List.size_toArray]; omega)
    rw [PySem.W.krv_pick]
    refine ⟨.ref _, _, I5.laid (t' := s4.toks) (o := .lst xs.reverse) (fun b ob q => Heap.get?_push_of_some _ q) (Nat.le_refl _) ?_, rfl, q _ (I5.hok.fresh (Nat.le_refl _))⟩
    exact ⟨by rw [List.length_reverse]; exact hz, _, 0, r.reverse, Heap.get?_push_size _ rfl⟩
theorem q_st {ms : List Addr} {F0 H0 G H : Hp} {cs : List (Addr × HO)} {a : Addr} {vs : List V} {Q : VK} {α : Type} {e : α → PyData} {l r : List α} {i : Int} (S : Sep ms H0 G H cs) (ha : H a = some (.lst vs)) (f : FrL F0 G vs (l.map e)) (h : stepF l i = some r) (hF : ∀ b, H b = none → F0 b = none)
    (q : ∀ p G' H', Sep ms H0 G' H' cs → Same G G' → Fr F0 G' (.ref p) (eL e r) → Q (.ref p) H') : zSt K (.ref a) (.int i) H Q := by
  unfold stepF at h
  rcases cnd h with ⟨c, h⟩ | ⟨c, h⟩
  · have c := of_decide_eq_true c
    subst c
    cases som h
    refine ⟨a, vs, 1, rfl, rfl, SqL.of ha, Or.inl rfl, ?_⟩
    rw [if_pos rfl]
    exact q_new S f hF q
  · rcases cnd h with ⟨c2, h⟩ | ⟨c2, h⟩
    · have c2 := of_decide_eq_true c2
      subst c2
      cases som h
      refine ⟨a, vs, -1, rfl, rfl, SqL.of ha, Or.inr rfl, ?_⟩
      rw [if_neg (by decide)]
      refine q_new S ?_ hF q
      rw [List.map_reverse]
      exact f.rev
    · cases h
theorem rd_revL {te : TE} {σ : L2.St} {H : Hp} {Q : VK} (q : te σ H fun x H1 => zSt K x (.int (-1)) H1 Q) : tRevL K te σ H Q := by
  have e : (fun (x : V) (H1 : Hp) => ∃ a xs, x = .ref a ∧ SqL K H1 a xs ∧ ∀ p, H1 p = none → Q (.ref p) (upd H1 p (.lst xs.reverse))) = fun x H1 => zSt K x (.int (-1)) H1 Q := by
    funext x H1
    refine propext ⟨fun ⟨a, xs, e, h, q⟩ => ⟨a, xs, -1, e, rfl, h, Or.inr rfl, by rw [if_neg (by decide)]; exact q⟩, fun ⟨a, xs, k, e, ek, h, _, q⟩ => ⟨a, xs, e, h, ?_⟩⟩
    cases ek
    rw [if_neg (by decide)] at q
    exact q
  show te σ H _
  rw [e]
  exact q
theorem krevL {e : Expr} {te : TE} {k : Nat} {p1 p2 p3 pos : Pos} (he : PE X e te) (h : X.K = K := by rfl) : PE X (.Subscript e (.Slice none none (some (.UnaryOp .USub (.Constant (.int 1) k p1) p2)) p3) pos) (tRevL K te) := h ▸ pe_revL he
theorem kpg_lst {es : List Expr} {k n : Nat} {u : TGs} {pos : Pos} (hc : X.calm = true) (hp : PGs X es u) (hn : (assignEach es X.env).length = n := by rfl) (hst : (assignEach es X.env).findIdx? (·.1) = none := by rfl) (h : X.K = K := by rfl) : PG X (.Tuple es k pos) (gLst K n u) := h ▸ pg_lst hc hp hn hst
theorem rd_glst {n : Nat} {s : TGs} {p : Addr} {xs : List V} {σ : L2.St} {H : Hp} {R : L2.St → Hp → Prop} (h : H p = some (.lst xs)) (z : xs.length = n) (q : s xs σ H R) : gLst K n s (.ref p) σ H R := ⟨p, xs, rfl, SqL.of h, z, q⟩
/-- the items of a list of known length -/
def only2 {α : Type} (l : List α) : Option (α × α) := match l with
  | [x, y] => some (x, y)
  | _ => none
def only1 {α : Type} (l : List α) : Option α := match l with
  | [x] => some x
  | _ => none
def only3 {α : Type} (l : List α) : Option (α × α × α) := match l with
  | [x, y, z] => some (x, y, z)
  | _ => none
theorem on2 {F0 G : Hp} {vs : List V} {α : Type} {e : α → PyData} {l : List α} {p : α × α} (h : only2 l = some p) (f : FrL F0 G vs (l.map e)) : ∃ v w, vs = [v, w] ∧ Fr F0 G v (e p.1) ∧ Fr F0 G w (e p.2) := by
  unfold only2 at h
  split at h
  · cases h
    cases f with
    | cons f1 hs => cases hs with
      | cons f2 hs => cases hs; exact ⟨_, _, rfl, f1, f2⟩
  · cases h
theorem on3 {F0 G : Hp} {vs : List V} {α : Type} {e : α → PyData} {l : List α} {p : α × α × α} (h : only3 l = some p) (f : FrL F0 G vs (l.map e)) : ∃ v w x, vs = [v, w, x] ∧ Fr F0 G v (e p.1) ∧ Fr F0 G w (e p.2.1) ∧ Fr F0 G x (e p.2.2) := by
  unfold only3 at h
  split at h
  · cases h
    cases f with
    | cons f1 hs => cases hs with
      | cons f2 hs => cases hs with
        | cons f3 hs => cases hs; exact ⟨_, _, _, rfl, f1, f2, f3⟩
  · cases h
theorem on1 {F0 G : Hp} {vs : List V} {α : Type} {e : α → PyData} {l : List α} {p : α} (h : only1 l = some p) (f : FrL F0 G vs (l.map e)) : ∃ v, vs = [v] ∧ Fr F0 G v (e p) := by
  unfold only1 at h
  split at h
  · cases h
    cases f with
    | cons f1 hs => cases hs; exact ⟨_, rfl, f1⟩
  · cases h
end
end LQ

/-! ### list(zip(a text, a list)): over any two iterators that are drawn from -/
namespace LX
open PySem PySem.Spec PyProof.Rows L2
section
variable {prog : Program} {w : World} {A : Around} {E : Value → Shared → Prop} {s : Shared} {z TI TO T i1 i2 : Addr} {f : Bool} {oT : Obj} {fp1 fp2 : List Addr} {n1 n2 i : Nat} {P1 P2 : Nat → Value → Prop} {St1 St2 : Nat → Heap → Prop}
/-- a turn of a zip whose last tuple is held elsewhere -/
theorem heldItem {Q : Value → Shared → Prop} (S : ZipSep2 z TI TO i1 i2 fp1 fp2) (D1 : Draws prog w A i1 fp1 n1 P1 St1) (D2 : Draws prog w A i2 fp2 n2 P2 St2)
    (hz : IsZipHeld s.heap z TI TO T f) (hT : s.heap.get? T = some oT) (hTI : IsPair s.heap TI (.ref i1) (.ref i2)) (st1 : St1 i s.heap) (st2 : St2 i s.heap) (lt1 : i < n1) (lt2 : i < n2)
    (hQ : ∀ x1 x2 h' tk, P1 i x1 → P2 i x2 → IsZipHeld h' z TI TO T true → St1 (i + 1) h' → St2 (i + 1) h' → IsPair h' s.heap.objs.size x1 x2 → h'.objs.size = s.heap.objs.size + 1 →
      (∀ c o, c ≠ z → c ≠ i1 → c ≠ i2 → s.heap.get? c = some o → h'.get? c = some o) → Q (.ref s.heap.objs.size) { s with heap := h', toks := tk }) :
    wpAny (model prog w) A (Builtin.«zip.__next__» ⟨[.ref z], []⟩) (fun fin s' => ∃ v, fin = .done (.ret v) ∧ Q v s') E s := by
  obtain ⟨hp, g, d, tk0, os⟩ := s
  show wpAny _ _ (field (.ref z) 2 >>= _) _ _ _
  refine wpAny_bind (wpAny_field hz rfl (x := .bool false) rfl ?_)
  show wpAny _ _ (field (.ref z) 3 >>= _) _ _ _
  refine wpAny_bind (wpAny_field hz rfl (x := .ref TI) rfl (wpAny_bind (wpAny_seqItems hTI rfl ?_)))
  show wpAny _ _ (Builtin.SmallTypes.ownedTupleIsFree (.ref z) >>= _) _ _ _
  refine wpAny_bind (wpAny_tupleHeld_zip hz hT fun g0 hz0 c0 => ?_)
  replace c0 : Heap.SameBut z hp g0 := c0
  simp only [Bool.false_eq_true, if_false]
  refine wpAny_bind ?_
  rw [← Array.forIn_toList]
  simp only [List.forIn_cons, List.forIn_nil]
  refine wpAny_bind (wpAny_bind (wpAny_holding ?_))
  show wpAny _ _ (Builtin.SmallTypes.nextOf (.ref i1) >>= _) _ _ ⟨g0, g, d, tk0, os⟩
  refine wpAny_bind (D1.item i _ _ _ lt1 (D1.over st1 c0 S.zf1) fun x1 g1 tk1 hx1 u1 c1 => wpAny_pure (wpAny_pure ?_))
  replace c1 : Heap.SameBut i1 g0 g1 := c1
  refine wpAny_bind (wpAny_bind (wpAny_holding ?_))
  show wpAny _ _ (Builtin.SmallTypes.nextOf (.ref i2) >>= _) _ _ ⟨g1, g, d, tk1, os⟩
  refine wpAny_bind (D2.item i _ _ _ lt2 (D2.over (D2.over st2 c0 S.zf2) c1 S.sep1_2) fun x2 g2 tk2 hx2 u2 c2 => wpAny_pure (wpAny_pure (wpAny_pure ?_)))
  replace c2 : Heap.SameBut i2 g1 g2 := c2
  show wpAny _ _ (newTuple [x1, x2] >>= _) _ _ ⟨g2, g, d, tk2, os⟩
  refine wpAny_bind (wpAny_newTuple ?_)
  have sz : g2.objs.size = hp.objs.size := by rw [c2.1, c1.1, c0.1]
  have hz2 : IsZipHeld g2 z TI TO T true := c2.extBut _ _ S.zi2 (c1.extBut _ _ S.zi1 hz0)
  have keep : ∀ c o, c ≠ z → c ≠ i1 → c ≠ i2 → hp.get? c = some o → g2.get? c = some o := fun c o a1 a2 a3 e => c2.extBut _ _ a3 (c1.extBut _ _ a2 (c0.extBut _ _ a1 e))
  refine wpAny_pure ⟨_, rfl, ?_⟩
  show Q (.ref g2.objs.size) ⟨g2.push { cls := .type "tuple", data := .seq #[x1, x2] }, g, d, tk2, os⟩
  have hp2 : IsPair (g2.push { cls := .type "tuple", data := .seq #[x1, x2] }) g2.objs.size x1 x2 := Heap.get?_push_size _ rfl
  have sz4 : (g2.push { cls := .type "tuple", data := .seq #[x1, x2] }).objs.size = g2.objs.size + 1 := Heap.size_push ..
  rw [sz] at hp2 sz4 ⊢
  exact hQ x1 x2 _ tk2 hx1 hx2 (Heap.get?_push_of_some _ hz2) (D1.frame _ _ _ (D1.over u1 c2 S.sep2_1) fun b _ o e => Heap.get?_push_of_some _ e) (D2.frame _ _ _ u2 fun b _ o e => Heap.get?_push_of_some _ e) hp2 sz4
    fun c o a1 a2 a3 e => Heap.get?_push_of_some _ (keep c o a1 a2 a3 e)
/-- its end, the first iterator's -/
theorem heldEnd {Q : Fin → Shared → Prop} (S : ZipSep2 z TI TO i1 i2 fp1 fp2) (D1 : Draws prog w A i1 fp1 n1 P1 St1)
    (hz : IsZipHeld s.heap z TI TO T f) (hT : s.heap.get? T = some oT) (hTI : IsPair s.heap TI (.ref i1) (.ref i2)) (st1 : St1 n1 s.heap)
    (hE : ∀ h' e, (∀ c o, c ≠ z → c ≠ i1 → s.heap.get? c = some o → h'.get? c = some o) → (∃ o, h'.get? e = some o ∧ o.cls = .type "StopIteration") → E (.ref e) { s with heap := h' }) :
    wpAny (model prog w) A (Builtin.«zip.__next__» ⟨[.ref z], []⟩) Q E s := by
  obtain ⟨hp, g, d, tk0, os⟩ := s
  show wpAny _ _ (field (.ref z) 2 >>= _) _ _ _
  refine wpAny_bind (wpAny_field hz rfl (x := .bool false) rfl ?_)
  show wpAny _ _ (field (.ref z) 3 >>= _) _ _ _
  refine wpAny_bind (wpAny_field hz rfl (x := .ref TI) rfl (wpAny_bind (wpAny_seqItems hTI rfl ?_)))
  show wpAny _ _ (Builtin.SmallTypes.ownedTupleIsFree (.ref z) >>= _) _ _ _
  refine wpAny_bind (wpAny_tupleHeld_zip hz hT fun g0 hz0 c0 => ?_)
  replace c0 : Heap.SameBut z hp g0 := c0
  simp only [Bool.false_eq_true, if_false]
  refine wpAny_bind ?_
  rw [← Array.forIn_toList]
  simp only [List.forIn_cons, List.forIn_nil]
  refine wpAny_bind (wpAny_bind (wpAny_holding ?_))
  show wpAny _ _ (Builtin.SmallTypes.nextOf (.ref i1) >>= _) _ _ ⟨g0, g, d, tk0, os⟩
  refine wpAny_bind (D1.done ⟨g0, g, d, tk0, os⟩ _ _ (D1.over st1 c0 S.zf1) fun q e hq he => ?_)
  exact hE q e (fun c o a1 a2 x => hq _ _ a2 (c0.extBut _ _ a1 x)) he
theorem nextHeldItem {Q : Option Value → Shared → Prop} (S : ZipSep2 z TI TO i1 i2 fp1 fp2) (D1 : Draws prog w A.in1 i1 fp1 n1 P1 St1) (D2 : Draws prog w A.in1 i2 fp2 n2 P2 St2)
    (hz : IsZipHeld s.heap z TI TO T f) (hT : s.heap.get? T = some oT) (hTI : IsPair s.heap TI (.ref i1) (.ref i2)) (st1 : St1 i s.heap) (st2 : St2 i s.heap) (lt1 : i < n1) (lt2 : i < n2)
    (hQ : ∀ x1 x2 h' tk, P1 i x1 → P2 i x2 → IsZipHeld h' z TI TO T true → St1 (i + 1) h' → St2 (i + 1) h' → IsPair h' s.heap.objs.size x1 x2 → h'.objs.size = s.heap.objs.size + 1 →
      (∀ c o, c ≠ z → c ≠ i1 → c ≠ i2 → s.heap.get? c = some o → h'.get? c = some o) → Q (some (.ref s.heap.objs.size)) { s with heap := h', toks := tk }) :
    wpAny (model prog w) A (pyNext (.ref z)) Q E s := by
  have ty : s.TypeIs (.ref z) "zip" := ⟨_, hz, rfl⟩
  unfold pyNext
  exact wpAny_bind (wpAny_attempt (wpAny_callSpecial?_slot (name := Str.ofString "__next__") ty PySem.F.slot_zip_next
    (wpAny_call_entry PySem.F.slot_zip_next ty PySem.F.entry_zip_next (heldItem S D1 D2 hz hT hTI st1 st2 lt1 lt2 fun x1 x2 h' tk a1 a2 a3 a4 a5 a6 a7 a8 => wpAny_pure (hQ x1 x2 h' tk a1 a2 a3 a4 a5 a6 a7 a8)) (PySem.F.args_zip_next_1 _))))
theorem nextHeldEnd {Q : Option Value → Shared → Prop} (S : ZipSep2 z TI TO i1 i2 fp1 fp2) (D1 : Draws prog w A.in1 i1 fp1 n1 P1 St1)
    (hz : IsZipHeld s.heap z TI TO T f) (hT : s.heap.get? T = some oT) (hTI : IsPair s.heap TI (.ref i1) (.ref i2)) (st1 : St1 n1 s.heap)
    (hQ : ∀ h', (∀ c o, c ≠ z → c ≠ i1 → s.heap.get? c = some o → h'.get? c = some o) → Q none { s with heap := h' }) : wpAny (model prog w) A (pyNext (.ref z)) Q E s := by
  have ty : s.TypeIs (.ref z) "zip" := ⟨_, hz, rfl⟩
  unfold pyNext
  refine wpAny_bind (wpAny_attempt (wpAny_callSpecial?_slot (name := Str.ofString "__next__") ty PySem.F.slot_zip_next
    (wpAny_call_entry PySem.F.slot_zip_next ty PySem.F.entry_zip_next (heldEnd S D1 hz hT hTI st1 fun h' e hk he => ?_) (PySem.F.args_zip_next_1 _))))
  obtain ⟨o, ho, hc⟩ := he
  exact wpAny_bind (wpAny_isInstance (T := "StopIteration") (b := true) ⟨o, ho, hc⟩ isSubtype_stop (wpAny_pure (hQ _ hk)))
end
/-- the zip z amid its walk: i pairs are out, all above B -/
structure ZGt (h : Heap) (z TI TO i1 i2 B : Addr) (P1 P2 : Nat → Value → Prop) (St1 St2 : Nat → Heap → Prop) (i : Nat) (Ts : List Addr) : Prop where
  pr : IsPair h TI (.ref i1) (.ref i2)
  s1 : St1 i h
  s2 : St2 i h
  zp : (IsZip h z TI TO .none ∧ ∃ a b, IsPair h TO a b) ∨ ∃ T f oT, IsZipHeld h z TI TO T f ∧ h.get? T = some oT ∧ B ≤ T
  len : Ts.length = i
  nd : Ts.Nodup
  out : ∀ (j : Nat) (T : Addr), Ts[j]? = some T → B ≤ T ∧ ∃ x y, P1 j x ∧ P2 j y ∧ IsPair h T x y
section
variable {P : Program} {w : World} {A : Around} {R : Result → Shared → Prop} {z TI TO i1 i2 S B : Addr} {fp1 fp2 : List Addr} {n : Nat} {P1 P2 : Nat → Value → Prop} {St1 St2 : Nat → Heap → Prop} {res : Value}
theorem zipLoopG (D : ZipSep2 z TI TO i1 i2 fp1 fp2) (D1 : Draws P w A.in1.in1 i1 fp1 n P1 St1) (D2 : Draws P w A.in1.in1 i2 fp2 n P2 St2) (few : n ≤ sizeLine)
    (lt : ∀ b, b = z ∨ b = TI ∨ b = TO ∨ b ∈ fp1 ∨ b ∈ fp2 → b < B) (ltS : S < B) (offS : S ≠ z ∧ S ≠ TI ∧ S ≠ TO ∧ S ∉ fp1 ∧ S ∉ fp2) :
    ∀ (m i : Nat) (s : Shared) (Ts : List Addr), i + m = n → B ≤ s.heap.objs.size → ZGt s.heap z TI TO i1 i2 B P1 P2 St1 St2 i Ts → (∃ c, s.heap.get? S = some (seqObj "list" (Ts.map Value.ref).toArray c)) →
      (∀ (h' : Heap) (tk : Nat) (Us : List Addr) (c' : Nat), Us.length = n → Us.Nodup → (∀ (j : Nat) (T : Addr), Us[j]? = some T → B ≤ T ∧ ∃ x y, P1 j x ∧ P2 j y ∧ IsPair h' T x y) → h'.get? S = some (seqObj "list" (Us.map Value.ref).toArray c') →
        (∀ b o, b ≠ S → b ≠ z → b ≠ TO → b ≠ i1 → b ≠ i2 → s.heap.get? b = some o → h'.get? b = some o) → R (.ok (.ret res)) { s with heap := h', toks := tk }) →
      codeAny (model P w) A (.builtin "list.extend.loop" ⟨[.ref S, .ref z, res], []⟩) R s := by
  have lz := lt z (by simp)
  have lTI := lt TI (by simp)
  have lTO := lt TO (by simp)
  have li1 := lt i1 (by simp [D.mem1])
  have li2 := lt i2 (by simp [D.mem2])
  obtain ⟨oz, oTI, oTO, of1, of2⟩ := offS
  have oi1 : S ≠ i1 := fun e => of1 (e ▸ D.mem1)
  have oi2 : S ≠ i2 := fun e => of2 (e ▸ D.mem2)
  intro m
  induction m with
  | zero =>
    intro i s Ts hi hB Z ⟨c, hS⟩ hR
    have e : i = n := by omega
    subst e
    refine codeAny_builtin PySem.F.entry_extend_loop ?_
    rw [Around.under_plainId PySem.F.plain_extend_loop _]
    show wpAny _ A.in1 (pyNext (.ref z) >>= _) _ _ s
    have fin : ∀ (h' : Heap) (tk : Nat), (∀ b o, b ≠ z → b ≠ TO → b ≠ i1 → b ≠ i2 → s.heap.get? b = some o → h'.get? b = some o) → R (.ok (.ret res)) { s with heap := h', toks := tk } := fun h' tk k => by
      refine hR h' tk Ts c Z.len Z.nd (fun j T hj => ?_) (k _ _ oz oTO oi1 oi2 hS) fun b o _ b1 b2 b3 b4 e => k b o b1 b2 b3 b4 e
      obtain ⟨q1, x, y, q2, q3, q4⟩ := Z.out j T hj
      exact ⟨q1, x, y, q2, q3, pairKeep q4 fun o e => k T o (Nat.ne_of_gt (Nat.lt_of_lt_of_le lz q1)) (Nat.ne_of_gt (Nat.lt_of_lt_of_le lTO q1)) (Nat.ne_of_gt (Nat.lt_of_lt_of_le li1 q1)) (Nat.ne_of_gt (Nat.lt_of_lt_of_le li2 q1)) e⟩
    rcases Z.zp with ⟨z1, a, b, z2⟩ | ⟨T, f, oT, z1, z2, z3⟩
    · exact wpAny_bind (PySem.wpAny_pyNext_zipD2_end D D1 D2 z1 Z.pr z2 Z.s1 Z.s2 (Nat.le_refl _) (Nat.le_refl _) (Or.inl rfl) fun h' tk k => wpAny_pure (fin h' tk fun b o b1 b2 b3 b4 e => k b o b1 b2 b3 b4 e))
    · exact wpAny_bind (nextHeldEnd D D1 z1 z2 Z.pr Z.s1 fun h' k => wpAny_pure (fin h' s.toks fun b o b1 _ b3 _ e => k b o b1 b3 e))
  | succ m ih =>
    intro i s Ts hi hB Z ⟨c, hS⟩ hR
    refine codeAny_builtin PySem.F.entry_extend_loop ?_
    rw [Around.under_plainId PySem.F.plain_extend_loop _]
    show wpAny _ A.in1 (pyNext (.ref z) >>= _) _ _ s
    have szT : (Ts.map Value.ref).toArray.size = i := by rw [List.size_toArray, List.length_map, Z.len]
    have turn : ∀ (h' : Heap) (tk : Nat) (x y : Value), P1 i x → P2 i y → ((∃ T f oT, IsZipHeld h' z TI TO T f ∧ h'.get? T = some oT ∧ B ≤ T)) → St1 (i + 1) h' → St2 (i + 1) h' → IsPair h' s.heap.objs.size x y → h'.objs.size = s.heap.objs.size + 1 →
        (∀ b o, b ≠ z → b ≠ TO → b ≠ i1 → b ≠ i2 → s.heap.get? b = some o → h'.get? b = some o) →
        wpAny (model P w) A.in1 (updateSeq S (·.push (.ref s.heap.objs.size)) >>= fun _ => again (.builtin "list.extend.loop" ⟨[.ref S, .ref z, res], []⟩))
          (fun fin s' => match fin with | .done f => R (.ok f) s' | .again c' => c'.quiet = true ∧ codeAny (model P w) A c' R s') (fun e s' => R (.error e) s') { s with heap := h', toks := tk } := by
      intro h' tk x y px py hz hw1 hw2 hp hsz k
      have hS1 := k _ _ oz oTO oi1 oi2 hS
      have lim : i + 1 ≤ sizeLine := by omega
      refine wpAny_bind (wpAny_updateSeq hS1 rfl ?_ (by rw [szT]; exact Nat.le_trans (Nat.le_of_lt (by omega : i < n)) few) (by show ((Ts.map Value.ref).toArray.push _).size ≤ sizeLine + 1; rw [Array.size_push, szT]; omega))
      refine wpAny_pure ⟨plainId_quiet PySem.F.plain_extend_loop _, ?_⟩
      have other : ∀ b o, b ≠ S → h'.get? b = some o → (h'.update S (Obj.mapSeq (·.push (Value.ref s.heap.objs.size)))).get? b = some o := fun b o nb e => (Heap.get?_update_other _ _ (Ne.symm nb)).trans e
      have nS : ∀ {b : Addr}, B ≤ b → b ≠ S := fun q => Nat.ne_of_gt (Nat.lt_of_lt_of_le ltS q)
      refine ih (i + 1) _ (Ts ++ [s.heap.objs.size]) (by omega) (by show B ≤ (h'.update S _).objs.size; rw [Heap.size_update, hsz]; exact Nat.le_trans hB (Nat.le_succ _)) ?_ ?_ fun h2 tk Us c2 u1 u0 u2 u3 u4 => ?_
      · obtain ⟨T, f, oT, z1, z2, z3⟩ := hz
        exact { pr := pairKeep Z.pr fun o e => other _ o (Ne.symm oTI) (k _ o D.TIz D.TITO D.TIi1 D.TIi2 e)
                s1 := D1.frame _ _ _ hw1 fun b hb o e => other b o (fun q => of1 (q ▸ hb)) e
                s2 := D2.frame _ _ _ hw2 fun b hb o e => other b o (fun q => of2 (q ▸ hb)) e
                zp := Or.inr ⟨T, f, oT, other _ _ (Ne.symm oz) z1, other _ _ (nS z3) z2, z3⟩
                len := by rw [List.length_append, Z.len]; rfl
                nd := List.nodup_append.mpr ⟨Z.nd, List.nodup_cons.mpr ⟨List.not_mem_nil, List.nodup_nil⟩, fun T hT U hU e => by
                  obtain ⟨j, hj⟩ := List.mem_iff_getElem?.mp hT
                  obtain ⟨_, x, y, _, _, q4⟩ := Z.out j T hj
                  rw [List.mem_singleton] at hU
                  have l := Heap.lt_size q4
                  rw [e, hU] at l
                  exact Nat.lt_irrefl _ l⟩
                out := fun j T hj => by
                  by_cases c : j < Ts.length
                  · rw [List.getElem?_append_left c] at hj
                    obtain ⟨q1, x, y, q2, q3, q4⟩ := Z.out j T hj
                    exact ⟨q1, x, y, q2, q3, pairKeep q4 fun o e => other T o (nS q1) (k T o (Nat.ne_of_gt (Nat.lt_of_lt_of_le lz q1)) (Nat.ne_of_gt (Nat.lt_of_lt_of_le lTO q1)) (Nat.ne_of_gt (Nat.lt_of_lt_of_le li1 q1)) (Nat.ne_of_gt (Nat.lt_of_lt_of_le li2 q1)) e)⟩
                  · have len := Z.len
                    rw [List.getElem?_append_right (by omega)] at hj
                    have hj2 := (List.getElem?_eq_some_iff.mp hj).1
                    rw [List.length_singleton] at hj2
                    have ej : j = i := by omega
                    subst ej
                    rw [show j - Ts.length = 0 by omega] at hj
                    injection hj with hj
                    subst hj
                    exact ⟨hB, x, y, px, py, pairKeep hp fun o e => other _ o (nS hB) e⟩ }
      · have q := Heap.get?_update_self (Obj.mapSeq (·.push (Value.ref s.heap.objs.size))) hS1 rfl
        refine ⟨_, q.trans (congrArg (fun l : Array Value => some (seqObj "list" l _)) ?_)⟩
        show (Ts.map Value.ref).toArray.push (Value.ref s.heap.objs.size) = ((Ts ++ [s.heap.objs.size]).map Value.ref).toArray
        rw [List.push_toArray, List.map_append]
        rfl
      · exact hR h2 tk Us c2 u1 u0 u2 u3 fun b o b0 b1 b2 b3 b4 e => u4 b o b0 b1 b2 b3 b4 (other b o b0 (k b o b1 b2 b3 b4 e))
    rcases Z.zp with ⟨z1, a, b, z2⟩ | ⟨T, f, oT, z1, z2, z3⟩
    · refine wpAny_bind (PySem.wpAny_pyNext_zipD2_item D D1 D2 z1 Z.pr z2 Z.s1 Z.s2 (by omega) (by omega) fun x y h' tk px py b1 b2 b3 b4 b5 b6 k => ?_)
      exact turn h' tk x y px py ⟨_, false, _, b1, b5, hB⟩ b3 b4 b5 b6 fun b o n1 n2 n3 n4 e => k b o n1 n2 n3 n4 e
    · refine wpAny_bind (nextHeldItem D D1 D2 z1 z2 Z.pr Z.s1 Z.s2 (by omega) (by omega) fun x y h' tk px py b1 b3 b4 b5 b6 k => ?_)
      have n1 : T ≠ z := Nat.ne_of_gt (Nat.lt_of_lt_of_le lz z3)
      have n3 : T ≠ i1 := Nat.ne_of_gt (Nat.lt_of_lt_of_le li1 z3)
      have n4 : T ≠ i2 := Nat.ne_of_gt (Nat.lt_of_lt_of_le li2 z3)
      exact turn h' tk x y px py ⟨T, true, oT, b1, k _ _ n1 n3 n4 z2, z3⟩ b3 b4 b5 b6 fun b o n1 _ n3 n4 e => k b o n1 n3 n4 e
theorem listZipG {E : Value → Shared → Prop} {s : Shared} {Q : Value → Shared → Prop} (D : ZipSep2 z TI TO i1 i2 fp1 fp2) (D1 : Draws P w A.in1.in1.in1 i1 fp1 n P1 St1) (D2 : Draws P w A.in1.in1.in1 i2 fp2 n P2 St2) (few : n ≤ sizeLine) (hz : IsZip s.heap z TI TO .none) (hTI : IsPair s.heap TI (.ref i1) (.ref i2)) (hTO : IsPair s.heap TO .none .none)
    (h1 : St1 0 s.heap) (h2 : St2 0 s.heap) (in1 : ∀ b ∈ fp1, b < s.heap.objs.size) (in2 : ∀ b ∈ fp2, b < s.heap.objs.size)
    (hQ : ∀ (h' : Heap) (tk : Nat) (Us : List Addr) (c' : Nat), Us.length = n → Us.Nodup → (∀ (j : Nat) (T : Addr), Us[j]? = some T → s.heap.objs.size < T ∧ ∃ x y, P1 j x ∧ P2 j y ∧ IsPair h' T x y) → h'.get? s.heap.objs.size = some (seqObj "list" (Us.map Value.ref).toArray c') →
      (∀ b o, b ≠ z → b ≠ TO → b ≠ i1 → b ≠ i2 → s.heap.get? b = some o → h'.get? b = some o) → Q (.ref s.heap.objs.size) { s with heap := h', toks := tk }) :
    wpAny (model P w) A (call (.type "list") [.ref z]) Q E s := by
  refine callType_codes (Q₁ := fun obj s1 => obj = .ref s.heap.objs.size ∧ s1 = { s with heap := s.heap.push { cls := .type "list", data := .seq #[] } }) PySem.F.called_list (PySem.F.typeCall_list_1 _) PySem.F.entry_list_init (code_list_new _ ⟨rfl, rfl⟩) fun obj s1 hs1 => ?_
  obtain ⟨rfl, rfl⟩ := hs1
  have at0 : (s.heap.push { cls := .type "list", data := .seq #[] }).get? s.heap.objs.size = some { cls := .type "list", data := .seq #[] } := Heap.get?_push_size _ rfl
  have old : ∀ b o, s.heap.get? b = some o → (s.heap.push { cls := .type "list", data := .seq #[] }).get? b = some o := fun b o e => Heap.get?_push_of_some _ e
  refine ⟨⟨_, at0, rfl⟩, PySem.F.args_list_init_2 _ _, ?_⟩
  show wpAny _ _ (do let old ← Builtin.List.listItems (.ref s.heap.objs.size); Builtin.List.listUpdate (.ref s.heap.objs.size) (fun _ => #[]); letGo old.toList.reverse; Builtin.List.listExtendWith (.ref s.heap.objs.size) (.ref z) .none) _ _ _
  refine wpAny_bind ?_
  unfold Builtin.List.listItems
  refine wpAny_bind (wpAny_seqItems at0 rfl (wpAny_pure ?_))
  show wpAny _ _ (updateSeq s.heap.objs.size (fun _ => #[]) >>= fun _ => letGo (#[] : Array Value).toList.reverse >>= fun _ => Builtin.List.listExtendWith (.ref s.heap.objs.size) (.ref z) .none) _ _ _
  refine wpAny_bind (wpAny_updateSeq at0 rfl (wpAny_bind (wpAny_letGo ?_)))
  have at1 := Heap.get?_update_self (Obj.mapSeq (fun _ => (#[] : Array Value))) at0 rfl
  have ne : ∀ {b : Addr} {o : Obj}, s.heap.get? b = some o → s.heap.objs.size ≠ b := fun e => Nat.ne_of_gt (Heap.lt_size e)
  have old1 : ∀ b o, s.heap.get? b = some o → ((s.heap.push { cls := .type "list", data := .seq #[] }).update s.heap.objs.size (Obj.mapSeq (fun _ => (#[] : Array Value)))).get? b = some o := fun b o e => (Heap.get?_update_other _ _ (ne e)).trans (old b o e)
  generalize hh1 : ((s.heap.push { cls := .type "list", data := .seq #[] }).update s.heap.objs.size (Obj.mapSeq (fun _ => (#[] : Array Value)))) = hp1 at at1 old1
  have sz1 : hp1.objs.size = s.heap.objs.size + 1 := by rw [← hh1, Heap.size_update, Heap.size_push]
  unfold Builtin.List.listExtendWith
  have tz : Shared.TypeIs { s with heap := hp1 } (.ref z) "zip" := ⟨_, old1 _ _ hz, rfl⟩
  refine wpAny_bind (wpAny_typeOf tz ?_)
  have k1 : Builtin.List.listSameRef (.ref s.heap.objs.size) (.ref z) = false := by simp [Builtin.List.listSameRef, ne hz]
  have k2 : (Value.type "zip" == Value.type "list") = false := by decide
  have k3 : (Value.type "zip" == Value.type "tuple") = false := by decide
  simp only [k1, k2, k3, Bool.or_false, Bool.false_eq_true, if_false]
  refine wpAny_bind (wpAny_pyIter_zip (old1 _ _ hz) (wpAny_bind (wpAny_holding ?_)))
  unfold Builtin.List.listLengthHint
  refine wpAny_bind (wpAny_specialOf tz zip_no_len ?_)
  show wpAny _ _ (specialOf (Value.ref z) (Str.ofString "__length_hint__") >>= _) _ _ _
  refine wpAny_bind (wpAny_specialOf tz zip_no_hint (wpAny_pure ?_))
  show wpAny _ _ (rule "list.extend.makes-room" >>= fun _ => Builtin.List.listTouch (.ref s.heap.objs.size) >>= fun _ => again (.builtin "list.extend.loop" ⟨[.ref s.heap.objs.size, .ref z, .none], []⟩)) _ _ _
  refine wpAny_bind (wpAny_rule (wpAny_bind ?_))
  show wpAny _ _ (updateSeq s.heap.objs.size (·.push .none) >>= fun _ => updateSeq s.heap.objs.size (·.pop)) _ _ _
  refine wpAny_bind (wpAny_updateSeq at1 rfl ?_)
  have at2 := Heap.get?_update_self (Obj.mapSeq (·.push Value.none)) at1 rfl
  refine wpAny_updateSeq (hz := by seq_fits) at2 rfl ?_
  have at3 := Heap.get?_update_self (Obj.mapSeq (·.pop)) at2 rfl
  have old3 : ∀ b o, s.heap.get? b = some o → ((hp1.update s.heap.objs.size (Obj.mapSeq (·.push Value.none))).update s.heap.objs.size (Obj.mapSeq (·.pop))).get? b = some o := fun b o e => (Heap.get?_update_other _ _ (ne e)).trans ((Heap.get?_update_other _ _ (ne e)).trans (old1 b o e))
  have sz3 : ((hp1.update s.heap.objs.size (Obj.mapSeq (·.push Value.none))).update s.heap.objs.size (Obj.mapSeq (·.pop))).objs.size = s.heap.objs.size + 1 := by rw [Heap.size_update, Heap.size_update, sz1]
  generalize (hp1.update s.heap.objs.size (Obj.mapSeq (·.push Value.none))).update s.heap.objs.size (Obj.mapSeq (·.pop)) = hp3 at at3 old3 sz3
  refine wpAny_pure ⟨plainId_quiet PySem.F.plain_extend_loop _, ?_⟩
  have nS1 : s.heap.objs.size ∉ fp1 := fun q => Nat.lt_irrefl _ (in1 _ q)
  have nS2 : s.heap.objs.size ∉ fp2 := fun q => Nat.lt_irrefl _ (in2 _ q)
  refine zipLoopG D D1 D2 few (B := s.heap.objs.size + 1) (fun b hb => ?_) (Nat.lt_succ_self _) ⟨ne hz, ne hTI, ne hTO, nS1, nS2⟩ n 0 _ [] (Nat.zero_add _) (Nat.le_of_eq sz3.symm) ?_ ⟨_, at3⟩ fun h' tk Us c' u1 u0 u2 u3 u4 => ?_
  · have up : ∀ {b : Addr} {o : Obj}, s.heap.get? b = some o → b < s.heap.objs.size + 1 := fun e => Nat.lt_succ_of_lt (Heap.lt_size e)
    rcases hb with rfl | rfl | rfl | q | q
    · exact up hz
    · exact up hTI
    · exact up hTO
    · exact Nat.lt_succ_of_lt (in1 _ q)
    · exact Nat.lt_succ_of_lt (in2 _ q)
  · exact { pr := old3 _ _ hTI, s1 := D1.frame _ _ _ h1 fun b _ o e => old3 _ o e, s2 := D2.frame _ _ _ h2 fun b _ o e => old3 _ o e, zp := Or.inl ⟨old3 _ _ hz, _, _, old3 _ _ hTO⟩, len := rfl, nd := List.nodup_nil, out := fun j T hj => by simp at hj }
  · exact ⟨rfl, hQ h' tk Us c' u1 u0 u2 u3 fun b o b1 b2 b3 b4 e => u4 b o (Ne.symm (ne e)) b1 b2 b3 b4 (old3 b o e)⟩
end
theorem ne_nat {a b : Nat} (h : a ≠ b) : (show Addr from a) ≠ (show Addr from b) := h
theorem off_one {a n : Nat} (h : a ≠ n) : (show Addr from a) ∉ [(show Addr from n)] := fun q => h (List.mem_singleton.mp q)
theorem off_two {a m b : Nat} (h : a ≠ m) (k : a ≠ b) : (show Addr from a) ∉ [(show Addr from m), (show Addr from b)] := fun q => by
  rcases List.mem_cons.mp q with q | q
  · exact h q
  · exact k (List.mem_singleton.mp q)
theorem sep_new (n b : Nat) (h : b < n) : ZipSep2 (n + 4) (n + 2) (n + 3) n (n + 1) [n] [n + 1, b] where
  TIz := ne_nat (a := n + 2) (b := n + 4) (by omega)
  TOz := ne_nat (a := n + 3) (b := n + 4) (by omega)
  TITO := ne_nat (a := n + 2) (b := n + 3) (by omega)
  TIi1 := ne_nat (a := n + 2) (b := n) (by omega)
  mem1 := List.mem_singleton.mpr rfl
  zf1 := off_one (a := n + 4) (n := n) (by omega)
  Tf1 := off_one (a := n + 3) (n := n) (by omega)
  TIi2 := ne_nat (a := n + 2) (b := n + 1) (by omega)
  mem2 := List.mem_cons_self
  zf2 := off_two (a := n + 4) (m := n + 1) (b := b) (by omega) (by omega)
  Tf2 := off_two (a := n + 3) (m := n + 1) (b := b) (by omega) (by omega)
  sep1_2 := off_two (a := n) (m := n + 1) (b := b) (by omega) (by omega)
  sep2_1 := off_one (a := n + 1) (n := n) (by omega)
section
variable {X : Cx} {K : PySem.W.Frag}
def tListZipT (K : PySem.W.Frag) (ta : TA) : TE := fun σ H Q => ta σ H fun vs H1 => ∃ (x : Str) (b : Addr) (ys : List V), vs = [.str x, .ref b] ∧ x.cps.size ≤ 4000 ∧ SqL K H1 b ys ∧ ys.length = x.cps.size ∧
  ∀ (L : Addr) (H2 : Hp) (Ts : List Addr), H1 L = none → Same H1 H2 → H2 L = some (.lst (Ts.map V.ref)) → Ts.length = x.cps.size → (∀ (j c : Nat) (y : V), x.cps[j]? = some c → ys[j]? = some y → ∃ T, Ts[j]? = some T ∧ H2 T = some (.tup [sg c, y])) → Q (.ref L) H2
theorem rd_lzT {ta : TA} {σ : L2.St} {H : Hp} {Q : VK} (q : ta σ H fun vs H1 => ∃ (x : Str) (b : Addr) (ys : List V), vs = [.str x, .ref b] ∧ x.cps.size ≤ 4000 ∧ SqL K H1 b ys ∧ ys.length = x.cps.size ∧
  ∀ (L : Addr) (H2 : Hp) (Ts : List Addr), H1 L = none → Same H1 H2 → H2 L = some (.lst (Ts.map V.ref)) → Ts.length = x.cps.size → (∀ (j c : Nat) (y : V), x.cps[j]? = some c → ys[j]? = some y → ∃ T, Ts[j]? = some T ∧ H2 T = some (.tup [sg c, y])) → Q (.ref L) H2) : tListZipT K ta σ H Q := q
theorem pe_listZipT {e e2 : Expr} {ta : TA} {p p2 pos q : Pos} (hc : X.calm = true) (hg : Gl X "list") (hm : X.mg "list" = none) (hg2 : Gl X "zip") (hm2 : X.mg "zip" = none) (ha : PA X [e, e2] ta)
    (hs : starEach [e, e2] X.env = (false, eval e X.env) :: starEach [e2] X.env := by rfl) (hpl : (backTo q (starEach [e2] X.env)).any (·.1) = false := by rfl) (h : X.K = K := by rfl) :
    PE X (.Call (.Name "list" p) [.Call (.Name "zip" p2) [e, e2] [] q] [] pos) (tListZipT K ta) := by
  subst h
  refine ⟨fun pins s σ H Q I want => ?_⟩
  refine Call_ (ld_blt (u := .type "list") I hg hm (by decide +kernel) (PyProof.Rows.callWith_type1 (PyProof.Rows.args_cons ?_ rfl) rfl rfl))
  refine Call_ (ld_blt I hg2 hm2 PyProof.Rows.boot_zip (PyProof.Rows.callWith_type1 (thn (ha.run q pins s σ H _ I want) fun us s1 ⟨vs, H1, I1, r1, q1⟩ => ?_) hs hpl))
  obtain ⟨x, b, ys, ex, few, hy, len, qq⟩ := q1
  subst ex
  obtain ⟨u1, u2, rfl, ra, rb⟩ : ∃ u1 u2, us = [u1, u2] ∧ RelV (.str x) u1 ∧ RelV (.ref b) u2 := by
    cases r1 with
    | cons r rr =>
      cases rr with
      | cons r' rr =>
        cases rr
        exact ⟨_, _, rfl, r, r'⟩
  obtain ⟨t, rfl⟩ := ra
  cases rb
  obtain ⟨its2, rv2, p2', z2⟩ := I1.list hy
  have l2 := rv2.length
  have lb : b < s1.heap.objs.size := p2'.lt
  have lim : x.cps.size ≤ sizeLine := by rw [sizeLine_eq]; omega
  refine zip_begins2 (begins_text x t) (begins_list b its2.toArray) trivial p2'.isList fun h' hz hTI hTO w1 w2 hsz hk => ?_
  refine PyProof.Rows.args_nil ?_
  have hd := I1.ok.hd hc
  have D := sep_new s1.heap.objs.size b lb
  have e2 : its2.toArray.size = x.cps.size := by rw [List.size_toArray]; omega
  have D2 := Draws.list (prog := X.prog) (w := X.w) (A := X.A.in1.in1.in1) (by simp [hd]) (s1.heap.objs.size + 1) b (by exact Nat.ne_of_lt (Nat.lt_succ_of_lt lb)) its2.toArray
  rw [e2] at D2
  refine listZipG (s := { s1 with heap := h' }) D (Draws.text (by simp [hd]) s1.heap.objs.size x t) D2 lim hz hTI hTO ⟨_, w1, rfl, rfl⟩ ⟨⟨_, w2, rfl, rfl⟩, p2'.isList.at fun o e => hk _ o e⟩ (fun c q => by
    have q := List.mem_singleton.mp q
    rw [q]
    show s1.heap.objs.size < h'.objs.size
    rw [hsz]
    exact Nat.lt_add_of_pos_right (by decide)) (fun c q => by
    show c < h'.objs.size
    rw [hsz]
    rcases List.mem_cons.mp q with q | q
    · rw [q]
      exact Nat.add_lt_add_left (by decide) _
    · rw [List.mem_singleton.mp q]
      exact Nat.lt_add_right 5 lb) fun h2 tk Us c' n1 n0 n2 n3 n4 => ?_
  have above : ∀ {c : Addr} {o : Obj}, s1.heap.get? c = some o → h2.get? c = some o := fun {c o} e => by
    have lt := Heap.lt_size e
    exact n4 c o (Nat.ne_of_lt (Nat.lt_add_right 4 lt)) (Nat.ne_of_lt (Nat.lt_add_right 3 lt)) (Nat.ne_of_lt lt) (Nat.ne_of_lt (Nat.lt_add_right 1 lt)) (hk c o e)
  have hsz' : h'.objs.size = s1.heap.objs.size + 5 := hsz
  -- what is tracked from here on
  have bigT : ∀ (j : Nat) (T : Addr), Us[j]? = some T → h'.objs.size < T := fun j T hj => (n2 j T hj).1
  have newT : ∀ T ∈ Us, H1 T = none ∧ T ≠ h'.objs.size := fun T hT => by
    obtain ⟨j, hj⟩ := List.mem_iff_getElem?.mp hT
    have := bigT j T hj
    exact ⟨I1.hok.fresh (Nat.le_of_lt (Nat.lt_of_le_of_lt (by rw [hsz']; exact Nat.le_add_right _ _) this)), Nat.ne_of_gt this⟩
  have newL : H1 h'.objs.size = none := I1.hok.fresh (by rw [hsz']; exact Nat.le_add_right _ _)
  have at_ : ∀ (j : Nat) (T : Addr), Us[j]? = some T → ∃ x' y u v, (x.cps.toList.map sg)[j]? = some x' ∧ ys[j]? = some y ∧ RelV x' u ∧ RelV y v ∧ IsPair h2 T u v := fun j T hj => by
    obtain ⟨_, u, v, e1, e2, pr⟩ := n2 j T hj
    obtain ⟨c, t', ec, rfl⟩ := e1
    obtain ⟨y, ey, ry⟩ := vals_get rv2 (j := j) (u := v) (by simpa using e2)
    exact ⟨sg c, y, _, v, by rw [List.getElem?_map, Array.getElem?_toList, ec]; rfl, ey, ⟨t', rfl⟩, ry, pr⟩
  let H2 : Hp := fun c => if c = h'.objs.size then some (.lst (Us.map V.ref)) else if c ∈ Us then some (.tup (pick2 Us (x.cps.toList.map sg) ys c)) else H1 c
  have gL : H2 h'.objs.size = some (.lst (Us.map V.ref)) := if_pos rfl
  have gT : ∀ (j : Nat) (T : Addr) (x' y : V), Us[j]? = some T → (x.cps.toList.map sg)[j]? = some x' → ys[j]? = some y → H2 T = some (.tup [x', y]) := fun j T x' y hj hx hy => by
    have hT := List.mem_of_getElem? hj
    show (if T = h'.objs.size then _ else if T ∈ Us then _ else _) = _
    rw [if_neg (newT T hT).2, if_pos hT, pick2_at n0 hj hx hy]
  have same2 : Same H1 H2 := fun c o e => by
    have m1 : c ≠ h'.objs.size := fun z => by
      rw [z, newL] at e
      cases e
    have m2 : c ∉ Us := fun z => by
      rw [(newT c z).1] at e
      cases e
    show (if c = h'.objs.size then _ else if c ∈ Us then _ else _) = _
    rw [if_neg m1, if_neg m2]
    exact e
  have szU : (Us.map V.ref).length ≤ sizeLine := by rw [List.length_map, n1]; exact lim
  have un : Un (frs X.stack) [] H1 H2 s1.heap h2 := Un.more (fun c o e => above e) same2 fun c e lt => by
    show (if c = h'.objs.size then _ else if c ∈ Us then _ else _) = _
    rw [if_neg fun z => by rw [z, hsz'] at lt; exact Nat.not_lt_of_le (Nat.le_add_right _ 5) lt, if_neg fun z => ?_]
    · exact e
    · obtain ⟨j, hj⟩ := List.mem_iff_getElem?.mp z
      have q := bigT j c hj
      rw [hsz'] at q
      exact Nat.lt_irrefl _ (Nat.lt_of_lt_of_le (Nat.lt_of_lt_of_le lt (Nat.le_add_right _ 5)) (Nat.le_of_lt q))
  have hok : HOk X.prog X.w H2 h2 := HOk.more I1.hok (fun c o e => above e) same2 fun c o e0 e => by
    have e' : (if c = h'.objs.size then some (.lst (Us.map V.ref)) else if c ∈ Us then some (.tup (pick2 Us (x.cps.toList.map sg) ys c)) else H1 c) = some o := e
    by_cases c1 : c = h'.objs.size
    · rw [if_pos c1] at e'
      cases e'
      subst c1
      exact ⟨szU, Us.map Value.ref, c', vals_refs Us, n3⟩
    · rw [if_neg c1] at e'
      by_cases c2 : c ∈ Us
      · obtain ⟨j, hj⟩ := List.mem_iff_getElem?.mp c2
        obtain ⟨x', y, u, v, ex, ey, rx, ry, pr⟩ := at_ j c hj
        have g := gT j c x' y hj ex ey
        rw [e] at g
        cases g
        refine ⟨by show 2 ≤ sizeLine; decide, [u, v], .cons rx (.cons ry .nil), _, pr, rfl, 0, rfl⟩
      · rw [if_neg c2, e0] at e'
        cases e'
  exact ⟨.ref h'.objs.size, H2, I1.call' (ch := []) rfl un hok I1.bare (fun _ z => nomatch z), rfl, qq h'.objs.size H2 Us newL same2 gL n1 fun j c y hx hy => by
    have lt : j < Us.length := by
      have := (Array.getElem?_eq_some_iff.mp hx).1
      omega
    exact ⟨Us[j], List.getElem?_eq_getElem lt, gT j _ (sg c) y (List.getElem?_eq_getElem lt) (by rw [List.getElem?_map, Array.getElem?_toList, hx]; rfl) hy⟩⟩
end
end LX

/-! Calls that write two or three lists; results that are owned. -/
namespace LQ
open PySem L2 LX
mutual
theorem Fr.hidF {F0 G : Hp} {ps : List Addr} (hp : ∀ p ∈ ps, ∀ xs, G p ≠ some (.tup xs)) : ∀ {v : V} {d : PyData}, Fr F0 G v d → flatD d = true → Fr F0 (hid G ps) v d
  | _, _, .non, _ => .non
  | _, _, .bl b, _ => .bl b
  | _, _, .int i, _ => .int i
  | _, _, .str x, _ => .str x
  | _, _, .lst _ _ _, e => by simp [flatD] at e
  | _, _, .tup h hs, e => .tup (by rw [hid_out fun z => hp _ z _ h]; exact h) (FrL.hidF hp hs (by simpa only [flatD] using e))
  | _, _, .dic _ _ _, e => by simp [flatD] at e
theorem FrL.hidF {F0 G : Hp} {ps : List Addr} (hp : ∀ p ∈ ps, ∀ xs, G p ≠ some (.tup xs)) : ∀ {v : List V} {d : List PyData}, FrL F0 G v d → flatDs d = true → FrL F0 (hid G ps) v d
  | _, _, .nil, _ => .nil
  | _, _, .cons h hs, e => by
    simp only [flatDs, Bool.and_eq_true] at e
    exact .cons (Fr.hidF hp h e.1) (FrL.hidF hp hs e.2)
end
section
variable {ms : List Addr} {H0 F0 G G1 G2 H H' : Hp} {cs : List (Addr × HO)} {p q r a : Addr} {o1 o2 o3 u1 u2 u3 : HO} {vs us ws : List V} {ds : List PyData}
theorem Sep.unshare (S : Sep ms H0 G2 H' cs) (f : Fr H0 G2 (.ref a) (.list ds)) : ∃ G' vs, Sep ms H0 G' H' ((a, .lst vs) :: cs) ∧ H0 a = none ∧ FrL H0 G' vs ds ∧ (∀ G0, Same G0 G2 → G0 a = none → Same G0 G') ∧ ∀ F0 vs ds, FrL F0 G2 vs ds → flatDs ds = true → FrL F0 G' vs ds := by
  obtain ⟨vs, h1, h2⟩ := li f
  have n0 := li0 f
  have out : ∀ b, b ≠ a → hid G2 [a] b = G2 b := fun b hb => hid_out fun z => hb (List.mem_singleton.mp z)
  refine ⟨hid G2 [a], vs, ⟨fun b o e => S.sub b o (hid_some e).2, fun c hc => ?_, List.nodup_cons.mpr ⟨fun z => ?_, S.nd⟩, fun p hp => List.mem_cons_of_mem _ (S.msc p hp), S.hms, S.old, fun b o e n => ?_, fun b xs e => ?_⟩, n0, FrL.off f h2 (by simp), fun G0 s n b o e => ?_, fun F0 vs ds h e => h.hidF (fun p hp xs z => ?_) e⟩
  · rcases List.mem_cons.mp hc with z | z
    · rw [z]
      exact ⟨S.sub _ _ h1, hid_in (List.mem_singleton.mpr rfl), lst_tup⟩
    · obtain ⟨k1, k2, k3⟩ := S.cel c z
      refine ⟨k1, ?_, k3⟩
      by_cases e : c.1 = a
      · exact hid_in (List.mem_singleton.mpr e)
      · rw [out _ e]
        exact k2
  · obtain ⟨c, hc, e⟩ := List.mem_map.mp z
    have := (S.cel c hc).2.1
    rw [e, h1] at this
    cases this
  · rw [out b fun z => by rw [z, n0] at e; cases e]
    exact S.base b o e n
  · have g := S.tups b xs e
    rw [out b fun z => by rw [z, h1] at g; cases g]
    exact g
  · rw [out b fun z => by rw [z, n] at e; cases e]
    exact s b o e
  · rw [List.mem_singleton.mp hp, h1] at z
    cases z
theorem ix_fst {i : Nat} {c : Addr × HO} (h : cs[i]? = some c) : (cs.map (·.1))[i]? = some c.1 := by rw [List.getElem?_map, h]; rfl
/-- after a call that has written the i-th and the j-th -/
theorem Sep.ret2 (S : Sep ms H0 G H cs) (i j : Nat) (hi : cs[i]? = some (p, o1)) (hj : cs[j]? = some (q, o2)) (n : i ≠ j) (R : Ret [p, q] H G1 H') (hp : H' p = some u1) (hq : H' q = some u2) (k1 : ∀ xs, u1 ≠ .tup xs) (k2 : ∀ xs, u2 ≠ .tup xs) :
    ∃ G', Sep ms H0 G' H' ((cs.set i (p, u1)).set j (q, u2)) ∧ Same G G' ∧ (∀ v d, Fr H G1 v d → Fr H0 G' v d) ∧ ∀ v d, FrL H G1 v d → FrL H0 G' v d := by
  have hj' : (cs.set i (p, u1))[j]? = some (q, o2) := by rw [List.getElem?_set_ne n]; exact hj
  refine S.ret R (fun b hb => ?_) ((map_fst_set hj').trans (map_fst_set hi)) fun c hc => ?_
  · rcases List.mem_cons.mp hb with z | z
    · rw [z]
      exact List.mem_map.mpr ⟨_, List.mem_of_getElem? hi, rfl⟩
    · rw [List.mem_singleton.mp z]
      exact List.mem_map.mpr ⟨_, List.mem_of_getElem? hj, rfl⟩
  · obtain ⟨l, hl⟩ := List.getElem?_of_mem hc
    by_cases e2 : l = j
    · subst e2
      rw [List.getElem?_set_self (List.getElem?_eq_some_iff.mp hj').1] at hl
      cases hl
      exact ⟨hq, k2⟩
    · rw [List.getElem?_set_ne (Ne.symm e2)] at hl
      by_cases e1 : l = i
      · subst e1
        rw [List.getElem?_set_self (List.getElem?_eq_some_iff.mp hi).1] at hl
        cases hl
        exact ⟨hp, k1⟩
      · rw [List.getElem?_set_ne (Ne.symm e1)] at hl
        have m := S.cel c (List.mem_of_getElem? hl)
        refine ⟨R.sub _ _ (R.base _ _ m.1 fun z => ?_), m.2.2⟩
        rcases List.mem_cons.mp z with z | z
        · exact e1 (nodup_ix S.nd (by rw [ix_fst hl, z]) (ix_fst hi))
        · exact e2 (nodup_ix S.nd (by rw [ix_fst hl, List.mem_singleton.mp z]) (ix_fst hj))
theorem Sep.ret3 (S : Sep ms H0 G H cs) (i j k : Nat) (hi : cs[i]? = some (p, o1)) (hj : cs[j]? = some (q, o2)) (hk : cs[k]? = some (r, o3)) (n1 : i ≠ j) (n2 : i ≠ k) (n3 : j ≠ k) (R : Ret [p, q, r] H G1 H') (hp : H' p = some u1) (hq : H' q = some u2) (hr : H' r = some u3) (k1 : ∀ xs, u1 ≠ .tup xs) (k2 : ∀ xs, u2 ≠ .tup xs) (k3 : ∀ xs, u3 ≠ .tup xs) :
    ∃ G', Sep ms H0 G' H' (((cs.set i (p, u1)).set j (q, u2)).set k (r, u3)) ∧ Same G G' ∧ (∀ v d, Fr H G1 v d → Fr H0 G' v d) ∧ ∀ v d, FrL H G1 v d → FrL H0 G' v d := by
  have hj' : (cs.set i (p, u1))[j]? = some (q, o2) := by rw [List.getElem?_set_ne n1]; exact hj
  have hk' : ((cs.set i (p, u1)).set j (q, u2))[k]? = some (r, o3) := by rw [List.getElem?_set_ne n3, List.getElem?_set_ne n2]; exact hk
  refine S.ret R (fun b hb => ?_) (((map_fst_set hk').trans (map_fst_set hj')).trans (map_fst_set hi)) fun c hc => ?_
  · rcases List.mem_cons.mp hb with z | z
    · rw [z]
      exact List.mem_map.mpr ⟨_, List.mem_of_getElem? hi, rfl⟩
    · rcases List.mem_cons.mp z with z | z
      · rw [z]
        exact List.mem_map.mpr ⟨_, List.mem_of_getElem? hj, rfl⟩
      · rw [List.mem_singleton.mp z]
        exact List.mem_map.mpr ⟨_, List.mem_of_getElem? hk, rfl⟩
  · obtain ⟨l, hl⟩ := List.getElem?_of_mem hc
    by_cases e3 : l = k
    · subst e3
      rw [List.getElem?_set_self (List.getElem?_eq_some_iff.mp hk').1] at hl
      cases hl
      exact ⟨hr, k3⟩
    · rw [List.getElem?_set_ne (Ne.symm e3)] at hl
      by_cases e2 : l = j
      · subst e2
        rw [List.getElem?_set_self (List.getElem?_eq_some_iff.mp hj').1] at hl
        cases hl
        exact ⟨hq, k2⟩
      · rw [List.getElem?_set_ne (Ne.symm e2)] at hl
        by_cases e1 : l = i
        · subst e1
          rw [List.getElem?_set_self (List.getElem?_eq_some_iff.mp hi).1] at hl
          cases hl
          exact ⟨hp, k1⟩
        · rw [List.getElem?_set_ne (Ne.symm e1)] at hl
          have m := S.cel c (List.mem_of_getElem? hl)
          refine ⟨R.sub _ _ (R.base _ _ m.1 fun z => ?_), m.2.2⟩
          rcases List.mem_cons.mp z with z | z
          · exact e1 (nodup_ix S.nd (by rw [ix_fst hl, z]) (ix_fst hi))
          · rcases List.mem_cons.mp z with z | z
            · exact e2 (nodup_ix S.nd (by rw [ix_fst hl, z]) (ix_fst hj))
            · exact e3 (nodup_ix S.nd (by rw [ix_fst hl, List.mem_singleton.mp z]) (ix_fst hk))
theorem Sep.hid2 (S : Sep ms H0 G H cs) (i j : Nat) (hi : cs[i]? = some (p, o1)) (hj : cs[j]? = some (q, o2)) : Same G (hid H [p, q]) := S.hidS fun b hb => by
  rcases List.mem_cons.mp hb with z | z
  · rw [z]
    exact S.gnone i hi
  · rw [List.mem_singleton.mp z]
    exact S.gnone j hj
theorem Sep.hid3 (S : Sep ms H0 G H cs) (i j k : Nat) (hi : cs[i]? = some (p, o1)) (hj : cs[j]? = some (q, o2)) (hk : cs[k]? = some (r, o3)) : Same G (hid H [p, q, r]) := S.hidS fun b hb => by
  rcases List.mem_cons.mp hb with z | z
  · rw [z]
    exact S.gnone i hi
  · rcases List.mem_cons.mp z with z | z
    · rw [z]
      exact S.gnone j hj
    · rw [List.mem_singleton.mp z]
      exact S.gnone k hk
theorem Sep.start3 (h : H p = some (.lst us)) (k : H q = some (.lst vs)) (l : H r = some (.lst ws)) (n1 : p ≠ q) (n2 : p ≠ r) (n3 : q ≠ r) : Sep [p, q, r] H (hid H [p, q, r]) H [(p, .lst us), (q, .lst vs), (r, .lst ws)] :=
  Sep.startM H [(p, .lst us), (q, .lst vs), (r, .lst ws)] (fun c hc => by
    rcases List.mem_cons.mp hc with z | z
    · rw [z]
      exact ⟨h, lst_tup⟩
    · rcases List.mem_cons.mp z with z | z
      · rw [z]
        exact ⟨k, lst_tup⟩
      · rw [List.mem_singleton.mp z]
        exact ⟨l, lst_tup⟩) (by simp [n1, n2, n3])
/-- another owned list, read by a call that writes ps -/
theorem Sep.rdM (S : Sep ms H0 G H cs) {ps : List Addr} (j : Nat) (hj : cs[j]? = some (q, .lst vs)) (n : q ∉ ps) (s : Same G (hid H ps)) (f : FrL F0 G vs ds) : Fr E0h (hid H ps) (.ref q) (.list ds) :=
  .lst (by rw [hid_out n]; exact S.get j hj) rfl ((f.rp).same s)
end
def compLS {α β S : Type} (f : α → S → Option (Option β × S)) (l : List α) (s : S) : Option (List β × S) := cond (decide (l.length ≤ LIM)) (compS f l s) none
section
variable {ms : List Addr} {H0 F0 G H : Hp} {α β S : Type} {K : PySem.W.Frag}
theorem q_lcLS {J : It} {Gd : Hp → Prop} {Y : Nat → Hp → V → Hp → Prop} {g : TG} {σ : L2.St} {f : α → S → Option (Option β × S)} {xs : List α} {ys : List β} {s0 s1 : S} {enc : β → PyData} {c : S → List (Addr × HO)} {A : Addr} {Qd : Hp → Prop} {tt : TT} {te : TE} {vs : List Nat}
    (hf : compLS f xs s0 = some (ys, s1)) (w : Walk J xs.length Gd Y) (S0 : Sep ms H0 G H (c s0)) (hA : H A = none) (hF : ∀ b, H b = none → F0 b = none)
    (hg : ∀ s G' H' acc, Sep ms H0 G' H' ((A, .lst acc) :: c s) → Same G G' → Gd H')
    (hs : ∀ i x a s o s' G1 H1 H2 acc, xs[i]? = some a → f a s = some (o, s') → Sep ms H0 G1 H1 ((A, .lst acc) :: c s) → Same G G1 → Y i H1 x H2 →
      ∀ (T : V → Hp → Prop) (F : Hp → Prop), (∀ y b G' H', o = some b → Sep ms H0 G' H' ((A, .lst acc) :: c s') → Same G1 G' → Fr F0 G' y (enc b) → T y H') → (∀ G' H', o = none → Sep ms H0 G' H' ((A, .lst acc) :: c s') → Same G1 G' → F H') →
      g x (wipe σ vs) H2 fun σ2 H2 => wipe σ2 vs = wipe σ vs ∧ tt σ2 H2 fun b H3 => if b = true then te σ2 H3 T else F H3)
    (hd : ∀ G' H' us, Sep ms H0 G' H' ((A, .lst us) :: c s1) → Same G G' → FrL F0 G' us (ys.map enc) → H0 A = none → F0 A = none → Qd H') : LcG J g tt te vs σ H A Qd := by
  unfold compLS at hf
  obtain ⟨h1, h2⟩ := grd hf
  exact q_lcS h2 (of_decide_eq_true h1) w S0 hA hF hg hs hd
end
theorem q_neScr {ms : List Addr} {F0 H0 G H : Hp} {cs : List (Addr × HO)} {a : Addr} {y : V} {K : PySem.W.Frag} {Q : VK} {ns : List Int} {m : List Int} {c : Bool} (S : Sep ms H0 G H cs) (f : Scr K G a ns) (g : Fr F0 H y (eL eI m)) (h : eqvF (eL eI ns) (eL eI m) = some c) (q : Q (.bl (!c)) H) : rNeD K (.ref a) y H Q := by
  obtain ⟨h1, h2, h3, h4, h5⟩ := eqv_ok h
  exact ⟨_, _, .lst (f.same S.sub).seq (dp_ints ns), g.dp h4, h1, h2, by rw [h5]; exact q⟩
theorem rd_lzTZ {K : PySem.W.Frag} {ta : TA} {σ : L2.St} {H : Hp} {Q : VK} (q : ta σ H fun vs H1 => zLzT K vs H1 Q) : tListZipT K ta σ H Q := q
end LQ

/-! What the functions of the programs give: rules for their parts. -/
namespace LQ
open PySem L2 LX
def Ev {α : Type} (o : Option α) (P : α → Prop) : Prop := ∃ x, o = some x ∧ P x
section
variable {α β S R : Type}
theorem ev_s {P : α → Prop} {x : α} (h : P x) : Ev (some x) P := ⟨x, rfl, h⟩
theorem ev_b {o : Option α} {f : α → Option β} {P : α → Prop} {Q : β → Prop} (h : Ev o P) (k : ∀ x, P x → Ev (f x) Q) : Ev (o.bind f) Q := by
  obtain ⟨x, rfl, h⟩ := h
  exact k x h
theorem ev_be {o : Option α} {f : α → Option β} {x : α} {Q : β → Prop} (h : o = some x) (k : Ev (f x) Q) : Ev (o.bind f) Q := by
  rw [h]
  exact k
theorem ev_c {c : Bool} {a b : Option α} {P : α → Prop} (h1 : c = true → Ev a P) (h2 : c = false → Ev b P) : Ev (cond c a b) P := by
  cases c with
  | true => exact h1 rfl
  | false => exact h2 rfl
theorem be {o : Option α} {f : α → Option β} {x : α} {r : Option β} (h : o = some x) (k : f x = r) : o.bind f = r := by
  rw [h]
  exact k
theorem be_ev {o : Option α} {f : α → Option β} {P : α → Prop} {r : Option β} (h : Ev o P) (k : ∀ x, P x → f x = r) : o.bind f = r := by
  obtain ⟨x, rfl, h⟩ := h
  exact k x h
theorem Ev.imp {o : Option α} {P Q : α → Prop} (h : Ev o P) (k : ∀ x, P x → Q x) : Ev o Q := by
  obtain ⟨x, e, h⟩ := h
  exact ⟨x, e, k x h⟩
theorem ev_loop {f : α → S → Option S} {P : S → Prop} : ∀ {l : List α} {s : S} (I : Nat → S → Prop), I 0 s → (∀ i x s, l[i]? = some x → I i s → Ev (f x s) (I (i + 1))) → (∀ s, I l.length s → P s) → Ev (loopF f l s) P
  | [], s, I, h0, _, k => ⟨s, rfl, k s h0⟩
  | x :: xs, s, I, h0, st, k => by
    refine ev_b (st 0 x s rfl h0) fun s1 h1 => ?_
    exact ev_loop (l := xs) (s := s1) (fun i s => I (i + 1) s) h1 (fun i y s2 e h2 => st (i + 1) y s2 e h2) (fun s2 h2 => k s2 h2)
theorem loop_fold {f : α → S → Option S} {g : S → α → S} : ∀ {l : List α} {s : S} (I : Nat → S → Prop), I 0 s → (∀ i x s, l[i]? = some x → I i s → f x s = some (g s x) ∧ I (i + 1) (g s x)) → loopF f l s = some (l.foldl g s)
  | [], s, I, _, _ => rfl
  | x :: xs, s, I, h0, st => by
    obtain ⟨h1, h2⟩ := st 0 x s rfl h0
    show (f x s).bind _ = _
    rw [h1]
    exact loop_fold (l := xs) (fun i s => I (i + 1) s) h2 fun i y s2 e h => st (i + 1) y s2 e h
/-- a loop that never gives back from within -/
theorem loop_all {f : α → S → Option (Ctl R S)} {P : Ctl R S → Prop} : ∀ {l : List α} {s : S} (I : Nat → S → Prop), I 0 s → (∀ i x s, l[i]? = some x → I i s → Ev (f x s) fun c => ∃ s', c = .nx s' ∧ I (i + 1) s') → (∀ s, I l.length s → P (.nx s)) → Ev (loopC f l s) P
  | [], s, I, h0, _, k => ⟨_, rfl, k s h0⟩
  | x :: xs, s, I, h0, st, k => by
    obtain ⟨c, e, s1, rfl, h1⟩ := st 0 x s rfl h0
    show Ev ((f x s).bind _) P
    rw [e]
    exact loop_all (l := xs) (s := s1) (fun i s => I (i + 1) s) h1 (fun i y s2 e h2 => st (i + 1) y s2 e h2) (fun s2 h2 => k s2 h2)
theorem compF_map {f : α → Option (Option β)} {g : α → β} : ∀ {l : List α}, (∀ x ∈ l, f x = some (some (g x))) → compF f l = some (l.map g)
  | [], _ => rfl
  | x :: xs, h => by
    show (f x).bind _ = _
    rw [h x List.mem_cons_self]
    show (compF f xs).bind _ = _
    rw [compF_map fun y hy => h y (List.mem_cons_of_mem _ hy)]
    rfl
theorem compF_filt {f : α → Option (Option β)} {q : α → Bool} {g : α → β} : ∀ {l : List α}, (∀ x ∈ l, f x = some (if q x = true then some (g x) else none)) → compF f l = some ((l.filter q).map g)
  | [], _ => rfl
  | x :: xs, h => by
    show (f x).bind _ = _
    rw [h x List.mem_cons_self]
    show (compF f xs).bind _ = _
    rw [compF_filt fun y hy => h y (List.mem_cons_of_mem _ hy)]
    cases c : q x with
    | true => rw [List.filter_cons_of_pos c]; rfl
    | false => rw [List.filter_cons_of_neg (by simp [c])]; rfl
theorem compL_map {f : α → Option (Option β)} {g : α → β} {l : List α} (z : l.length ≤ LIM) (h : ∀ x ∈ l, f x = some (some (g x))) : compL f l = some (l.map g) := by
  unfold compL
  rw [decide_eq_true z]
  exact compF_map h
theorem compL_filt {f : α → Option (Option β)} {q : α → Bool} {g : α → β} {l : List α} (z : l.length ≤ LIM) (h : ∀ x ∈ l, f x = some (if q x = true then some (g x) else none)) : compL f l = some ((l.filter q).map g) := by
  unfold compL
  rw [decide_eq_true z]
  exact compF_filt h
theorem compT_filt {f : α → Option (Option Str)} {q : α → Bool} {g : α → Str} {l : List α} (z : l.length ≤ 4000) (h : ∀ x ∈ l, f x = some (if q x = true then some (g x) else none)) : compT f l = some ((l.filter q).map g) := by
  unfold compT
  rw [decide_eq_true z]
  exact compF_filt h
/-! ### numbers -/
theorem modF_ok {a b : Int} (h : 0 < b) : modF a b = some (a % b) := by unfold modF; rw [decide_eq_true h]; rfl
theorem divF_ok {a b : Int} (h : 0 < b) (h2 : b.natAbs < 2 ^ 1000) : divF a b = some (a / b) := by unfold divF; rw [decide_eq_true h, decide_eq_true h2]; rfl
theorem powF_ok {a b : Int} (h : 0 ≤ b) (h2 : b ≤ 1000) (h3 : a.natAbs < 2 ^ 1000) : powF a b = some (a ^ b.toNat) := by unfold powF; rw [decide_eq_true h, decide_eq_true h2, decide_eq_true h3]; rfl
theorem mulF_ok {a b : Int} (h : a.natAbs < 2 ^ 100000) (h2 : b.natAbs < 2 ^ 100000) : mulF a b = some (a * b) := by unfold mulF; rw [decide_eq_true h, decide_eq_true h2]; rfl
theorem rngF_ok {a b : Int} (h : -(2 ^ 62) ≤ a) (h2 : a < 2 ^ 62) (h3 : -(2 ^ 62) ≤ b) (h4 : b < 2 ^ 62) : rngF a b = some (rgI a b) := by unfold rngF; rw [decide_eq_true h, decide_eq_true h2, decide_eq_true h3, decide_eq_true h4]; rfl
theorem lrgF_ok {a b : Int} (h : -(2 ^ 62) ≤ a) (h2 : a < 2 ^ 62) (h3 : -(2 ^ 62) ≤ b) (h4 : b < 2 ^ 62) (h5 : (b - a).toNat ≤ LIM) : lrgF a b = some (rgI a b) := by unfold lrgF; rw [decide_eq_true h, decide_eq_true h2, decide_eq_true h3, decide_eq_true h4, decide_eq_true h5]; rfl
theorem rgI_at {a b : Int} {i : Nat} {x : Int} (h : (rgI a b)[i]? = some x) : x = a + i ∧ a + i < b := by
  unfold rgI at h
  rw [List.getElem?_map] at h
  obtain ⟨j, hj, rfl⟩ := Option.map_eq_some_iff.mp h
  obtain ⟨h1, h2⟩ := List.getElem?_eq_some_iff.mp hj
  rw [List.getElem_range] at h2
  rw [List.length_range] at h1
  subst h2
  exact ⟨rfl, by omega⟩
theorem rgI_nat (n : Nat) : rgI 0 (n : Int) = (List.range n).map fun i : Nat => (i : Int) := by
  unfold rgI
  have : ((n : Int) - 0).toNat = n := by omega
  rw [this]
  exact List.map_congr_left fun i _ => by omega
theorem maxI_eq {a b : Int} : maxI a b = max a b := by unfold maxI; split <;> omega
theorem minI_eq {a b : Int} : minI a b = min a b := by unfold minI; split <;> omega
/-! ### lists -/
theorem ix_nat {l : List α} {i : Nat} {x : α} (h : l[i]? = some x) : ix l (i : Int) = some x := by
  have hl := (List.getElem?_eq_some_iff.mp h).1
  unfold ix atI
  rw [LX.ixN_nat hl]
  exact h
theorem ix_int {l : List α} {i : Int} {x : α} (h : 0 ≤ i) (h2 : l[i.toNat]? = some x) : ix l i = some x := by
  have := ix_nat h2
  rwa [Int.toNat_of_nonneg h] at this
theorem ev_ix {l : List α} {i : Int} {P : α → Prop} (h : 0 ≤ i) (h2 : i < lenI l) (k : ∀ x, l[i.toNat]? = some x → P x) : Ev (ix l i) P := by
  have hl : i.toNat < l.length := by unfold lenI at h2; omega
  exact ⟨l[i.toNat], ix_int h (List.getElem?_eq_getElem hl), k _ (List.getElem?_eq_getElem hl)⟩
theorem appF_ok {l : List α} {x : α} (h : l.length < LIM) : appF l x = some (l ++ [x]) := by unfold appF; rw [decide_eq_true h]; rfl
theorem catF_ok {l m : List α} (h : l.length + m.length ≤ LIM) : catF l m = some (l ++ m) := by unfold catF; rw [decide_eq_true h]; rfl
theorem repF_ok {l : List α} {k : Int} (h1 : -(2 ^ 63) ≤ k) (h2 : k < 2 ^ 63) (h : l.length * k.toNat ≤ LIM) : repF l k = some (List.replicate k.toNat l).flatten := by unfold repF; rw [decide_eq_true h1, decide_eq_true h2, decide_eq_true h]; rfl
theorem setF_nat {l : List α} {i : Nat} {x : α} (h : i < l.length) : setF l (i : Int) x = some (l.set i x) := by unfold setF; rw [LX.ixN_nat h]; rfl
theorem popAt_nat {l : List α} {i : Nat} {x : α} (h : l[i]? = some x) (h2 : l.length ≤ LIM) : popAtF l (i : Int) = some (x, l.eraseIdx i) := by
  have hl := (List.getElem?_eq_some_iff.mp h).1
  unfold popAtF
  rw [decide_eq_true (show -(2 ^ 63) ≤ (i : Int) by omega), decide_eq_true (show (i : Int) < 2 ^ 63 by unfold LIM at h2; omega)]
  have : seqIndex? (i : Int) l.length = some i := by
    unfold seqIndex?
    simp
    omega
  show (seqIndex? (i : Int) l.length).bind _ = _
  rw [this]
  show (l[i]?).bind _ = _
  rw [h]
  rfl
theorem enum_at {l : List α} {i : Nat} {p : Int × α} (h : (enumI l)[i]? = some p) : p.1 = i ∧ l[i]? = some p.2 := by
  unfold enumI at h
  rw [List.getElem?_zipWith] at h
  cases h1 : (List.range l.length)[i]? with
  | none => rw [h1] at h; cases h
  | some j =>
    cases h2 : l[i]? with
    | none => rw [h1, h2] at h; cases h
    | some x =>
      rw [h1, h2] at h
      cases h
      obtain ⟨h3, h4⟩ := List.getElem?_eq_some_iff.mp h1
      rw [List.getElem_range] at h4
      subst h4
      exact ⟨rfl, rfl⟩
theorem enum_len {l : List α} : (enumI l).length = l.length := by
  unfold enumI
  rw [List.length_zipWith, List.length_range, Nat.min_self]
theorem take_min (l : List α) (n : Nat) : l.take (min n l.length) = l.take n := by
  rw [← List.take_take, List.take_length]
theorem drop_min (l : List α) (n : Nat) : l.drop (min n l.length) = l.drop n := by
  by_cases h : n ≤ l.length
  · rw [Nat.min_eq_left h]
  · rw [Nat.min_eq_right (by omega), List.drop_length, List.drop_eq_nil_of_le (by omega)]
theorem cutL_to (l : List α) (n : Nat) : cutL l none (some (n : Int)) = l.take n := by
  unfold cutL
  rw [HT.sIx_none, HT.sIx_nat, List.drop_zero, Nat.sub_zero, take_min]
theorem cutL_from (l : List α) (n : Nat) : cutL l (some (n : Int)) none = l.drop n := by
  unfold cutL
  rw [HT.sIx_none, HT.sIx_nat, drop_min, List.take_of_length_le]
  rw [List.length_drop]
  omega
theorem cutL_mid (l : List α) (n m : Nat) : cutL l (some (n : Int)) (some (m : Int)) = (l.take m).drop n := by
  unfold cutL
  rw [HT.sIx_nat, HT.sIx_nat, ← List.drop_take, take_min]
  by_cases h : n ≤ l.length
  · rw [Nat.min_eq_left h]
  · rw [List.drop_eq_nil_of_le, List.drop_eq_nil_of_le] <;> rw [List.length_take] <;> omega
theorem cutL_len (l : List α) (a b : Option Int) : (cutL l a b).length ≤ l.length := by
  unfold cutL
  rw [List.length_take, List.length_drop]
  omega
/-! ### texts of one letter -/
def lt (c : Nat) : Str := ⟨#[c]⟩
theorem lt_len (c : Nat) : lenS (lt c) = some 1 := rfl
theorem lt_inj {c d : Nat} : lt c = lt d ↔ c = d := by
  constructor
  · intro h
    have : (#[c] : Array Nat) = #[d] := congrArg Str.cps h
    simpa using this
  · intro h; rw [h]
theorem lt_dec (c d : Nat) : decide (lt c = lt d) = decide (c = d) := by
  rw [decide_eq_decide]
  exact lt_inj
theorem lt_col {c : Nat} (h : 97 ≤ c ∧ c ≤ 122) : ((!ltS (lt c) (Str.ofString "a")) && (!ltS (Str.ofString "z") (lt c))) = true := by
  have h1 : ltS (lt c) (Str.ofString "a") = false := by
    show decide (([c] : List Nat) < [97]) = false
    rw [decide_eq_false_iff_not, List.cons_lt_cons_iff]
    rintro (h1 | ⟨_, h1⟩)
    · omega
    · exact absurd h1 (List.not_lt_nil _)
  have h2 : ltS (Str.ofString "z") (lt c) = false := by
    show decide (([122] : List Nat) < [c]) = false
    rw [decide_eq_false_iff_not, List.cons_lt_cons_iff]
    rintro (h1 | ⟨_, h1⟩)
    · omega
    · exact absurd h1 (List.not_lt_nil _)
  rw [h1, h2]
  rfl
/-! ### rows -/
abbrev eRow (e : Nat × Nat) : Int × Str := ((e.1 : Int), lt e.2)
abbrev enc (r : Row) : List (Int × Str) := r.map eRow
abbrev nI (cs : List Nat) : List Int := cs.map fun n : Nat => (n : Int)
theorem enc_len (r : Row) : (enc r).length = r.length := List.length_map ..
theorem mem_nI {n : Nat} {cs : List Nat} : (n : Int) ∈ nI cs ↔ n ∈ cs := by
  constructor
  · intro h
    obtain ⟨m, h1, h2⟩ := List.mem_map.mp h
    have : m = n := by omega
    exact this ▸ h1
  · exact List.mem_map_of_mem
theorem nI_dec {n : Nat} {cs : List Nat} : decide ((n : Int) ∈ nI cs) = decide (n ∈ cs) := by
  rw [decide_eq_decide]
  exact mem_nI
end
end LQ
/-! ### equal data -/
namespace LQ
open PySem L2 LX
structure EqE {α : Type} [DecidableEq α] (n : Nat) (e : α → PyData) (ok : α → Prop) : Prop where
  sd : ∀ x, ok x → Sd n (e x)
  eq : ∀ x y, ok x → ok y → PyData.eqv (e x) (e y) = decide (x = y)
section
variable {α β : Type} [DecidableEq α] [DecidableEq β]
theorem EqE.int : EqE 0 eI (fun _ => True) := ⟨fun _ _ => Sd.int, fun x y _ _ => by
  simp only [PyData.eqv]
  exact Bool.eq_iff_iff.mpr ⟨fun h => decide_eq_true (by simpa using h), fun h => by simpa using of_decide_eq_true h⟩⟩
theorem EqE.bool : EqE 0 eB (fun _ => True) := ⟨fun _ _ => ⟨by simp only [PyData.canLay0], by simp only [PyData.depth]; omega⟩, fun x y _ _ => by cases x <;> cases y <;> simp [PyData.eqv]⟩
theorem EqE.str : EqE 0 eS (fun z => PyData.strOk z = true) := ⟨fun z h => ⟨by simp only [PyData.canLay0]; exact h, by simp only [PyData.depth]; omega⟩, fun x y _ _ => by
  simp only [PyData.eqv]
  exact Bool.eq_iff_iff.mpr ⟨fun h => decide_eq_true (by simpa using h), fun h => by simpa using of_decide_eq_true h⟩⟩
theorem Sd.up {m n : Nat} {d : PyData} (h : Sd m d) (z : m ≤ n) : Sd n d := ⟨h.lay, Nat.le_trans h.dep z⟩
theorem sd_all {n : Nat} {e : α → PyData} {ok : α → Prop} (h : EqE n e ok) : ∀ {l : List α}, (∀ x ∈ l, ok x) → PyData.canLayAll0 (l.map e) = true ∧ PyData.depthAll (l.map e) ≤ n
  | [], _ => ⟨by simp only [List.map_nil, PyData.canLayAll0], by simp only [List.map_nil, PyData.depthAll]; omega⟩
  | x :: l, k => by
    have h1 := h.sd x (k x List.mem_cons_self)
    have h2 := sd_all h fun y hy => k y (List.mem_cons_of_mem _ hy)
    simp only [List.map_cons, PyData.canLayAll0, PyData.depthAll]
    exact ⟨by rw [h1.lay, h2.1]; rfl, by have := h1.dep; omega⟩
theorem eqv_all {n : Nat} {e : α → PyData} {ok : α → Prop} (h : EqE n e ok) : ∀ {l m : List α}, (∀ x ∈ l, ok x) → (∀ x ∈ m, ok x) → PyData.eqvAll (l.map e) (m.map e) = decide (l = m)
  | [], [], _, _ => by simp only [List.map_nil, PyData.eqvAll]; rfl
  | [], _ :: _, _, _ => by simp only [List.map_nil, List.map_cons, PyData.eqvAll]; rfl
  | _ :: _, [], _, _ => by simp only [List.map_nil, List.map_cons, PyData.eqvAll]; rfl
  | x :: l, y :: m, k, k2 => by
    simp only [List.map_cons, PyData.eqvAll]
    rw [h.eq x y (k x List.mem_cons_self) (k2 y List.mem_cons_self), eqv_all h (fun y hy => k y (List.mem_cons_of_mem _ hy)) (fun y hy => k2 y (List.mem_cons_of_mem _ hy))]
    exact Bool.eq_iff_iff.mpr ⟨fun h => decide_eq_true (by simpa using h), fun h => by simpa using of_decide_eq_true h⟩
theorem EqE.list {n : Nat} {e : α → PyData} {ok : α → Prop} (h : EqE n e ok) : EqE (n + 1) (eL e) (fun l => ∀ x ∈ l, ok x) := ⟨fun l k => ⟨by simp only [PyData.canLay0]; exact (sd_all h k).1, by simp only [PyData.depth]; have := (sd_all h k).2; omega⟩, fun l m k k2 => by
  simp only [PyData.eqv]
  exact eqv_all h k k2⟩
theorem EqE.tup {n : Nat} {e : α → PyData} {f : β → PyData} {ok : α → Prop} {ok2 : β → Prop} (h : EqE n e ok) (h2 : EqE n f ok2) : EqE (n + 1) (eT2 e f) (fun p => ok p.1 ∧ ok2 p.2) := ⟨fun p k => by
  have h1 := h.sd p.1 k.1
  have h3 := h2.sd p.2 k.2
  refine ⟨?_, ?_⟩
  · simp only [PyData.canLay0, PyData.canLayAll0]
    rw [h1.lay, h3.lay]
    rfl
  · simp only [PyData.depth, PyData.depthAll]
    have := h1.dep
    have := h3.dep
    omega, fun p q k k2 => by
  simp only [PyData.eqv, PyData.eqvAll]
  rw [h.eq _ _ k.1 k2.1, h2.eq _ _ k.2 k2.2]
  obtain ⟨a, b⟩ := p
  obtain ⟨c, d⟩ := q
  exact Bool.eq_iff_iff.mpr ⟨fun h => decide_eq_true (by simpa using h), fun h => by simpa using of_decide_eq_true h⟩⟩
theorem EqE.run {n : Nat} {e : α → PyData} {ok : α → Prop} (h : EqE n e ok) (z : n ≤ 64) {x y : α} (k : ok x) (k2 : ok y) : eqvF (e x) (e y) = some (decide (x = y)) := by
  have h1 := h.sd x k
  have h2 := h.sd y k2
  unfold eqvF
  rw [h1.shaped z, h2.shaped z, PyData.hasDict_of_canLay _ h1.lay, PyData.hasDict_of_canLay _ h2.lay, h.eq x y k k2]
  rfl
end
theorem strOk_lt {c : Nat} (h : c ≤ 122) : PyData.strOk (lt c) = true := by
  unfold PyData.strOk lt
  simp
  omega
abbrev eRows : List (Int × Str) → PyData := eL (eT2 eI eS)
theorem eqRow : EqE 2 eRows (fun l => ∀ x ∈ l, True ∧ PyData.strOk x.2 = true) := EqE.list (EqE.tup EqE.int EqE.str)
theorem ok_enc {r : Row} (h : ∀ e ∈ r, 97 ≤ e.2 ∧ e.2 ≤ 122) : ∀ x ∈ enc r, True ∧ PyData.strOk x.2 = true := fun x hx => by
  obtain ⟨e, he, rfl⟩ := List.mem_map.mp hx
  exact ⟨trivial, strOk_lt (h e he).2⟩
end LQ

/-! Dicts, joined letters, different values, counts. -/
namespace LQ
open PySem L2 LX
section
variable {κ α : Type} [DecidableEq κ]
theorem dget_put (l : List (κ × α)) (k : κ) (x : α) (j : κ) : dget (dput l k x) j = if k = j then some x else dget l j := by
  unfold dput
  split
  · rename_i h
    obtain ⟨p, hp, e⟩ := List.any_eq_true.mp h
    have e := of_decide_eq_true e
    clear h
    induction l with
    | nil => cases hp
    | cons q l ih =>
      unfold dget at ih ⊢
      rw [List.map_cons]
      by_cases c : q.1 = k
      · rw [if_pos c]
        by_cases d : k = j
        · rw [if_pos d, List.find?_cons_of_pos (by rw [decide_eq_true_iff]; exact c.trans d)]
          rfl
        · rw [if_neg d, List.find?_cons_of_neg (by rw [decide_eq_true_iff]; exact fun z => d (c.symm.trans z)), List.find?_cons_of_neg (by rw [decide_eq_true_iff]; exact fun z => d (c.symm.trans z))]
          by_cases hl : p ∈ l
          · have := ih hl
            rw [if_neg d] at this
            exact this
          · have hz : ∀ u ∈ l, u.1 = k → False ∨ True := fun _ _ _ => Or.inr trivial
            clear hz
            have go : ∀ l : List (κ × α), (List.find? (fun p => decide (p.1 = j)) (l.map fun p => if p.1 = k then (p.1, x) else p)).map (·.2) = (l.find? fun p => decide (p.1 = j)).map (·.2) := by
              intro l
              induction l with
              | nil => rfl
              | cons u l ih2 =>
                rw [List.map_cons]
                by_cases c2 : u.1 = k
                · rw [if_pos c2, List.find?_cons_of_neg (by rw [decide_eq_true_iff]; exact fun z => d (c2.symm.trans z)), List.find?_cons_of_neg (by rw [decide_eq_true_iff]; exact fun z => d (c2.symm.trans z))]
                  exact ih2
                · rw [if_neg c2]
                  by_cases c3 : u.1 = j
                  · rw [List.find?_cons_of_pos (by rw [decide_eq_true_iff]; exact c3), List.find?_cons_of_pos (by rw [decide_eq_true_iff]; exact c3)]
                  · rw [List.find?_cons_of_neg (by rw [decide_eq_true_iff]; exact c3), List.find?_cons_of_neg (by rw [decide_eq_true_iff]; exact c3)]
                    exact ih2
            exact go l
      · rw [if_neg c]
        have hl : p ∈ l := by
          rcases List.mem_cons.mp hp with z | z
          · exact absurd (z ▸ e) c
          · exact z
        by_cases d : q.1 = j
        · rw [List.find?_cons_of_pos (by rw [decide_eq_true_iff]; exact d), List.find?_cons_of_pos (by rw [decide_eq_true_iff]; exact d), if_neg (fun z => c (d.trans z.symm))]
        · rw [List.find?_cons_of_neg (by rw [decide_eq_true_iff]; exact d), List.find?_cons_of_neg (by rw [decide_eq_true_iff]; exact d)]
          exact ih hl
  · rename_i h
    unfold dget
    rw [List.find?_append]
    by_cases d : k = j
    · rw [if_pos d]
      have : l.find? (fun p => decide (p.1 = j)) = none := by
        rw [List.find?_eq_none]
        intro u hu z
        exact h (List.any_eq_true.mpr ⟨u, hu, by rw [d]; exact z⟩)
      rw [this, List.find?_cons_of_pos (by rw [decide_eq_true_iff]; exact d)]
      rfl
    · rw [if_neg d, List.find?_cons_of_neg (by rw [decide_eq_true_iff]; exact d)]
      cases l.find? (fun p => decide (p.1 = j)) <;> rfl
theorem dget_merge_no {j : κ} : ∀ (m l : List (κ × α)), (∀ p ∈ m, p.1 ≠ j) → dget (dmerge l m) j = dget l j
  | [], l, _ => rfl
  | p :: m, l, h => by
    show dget (dmerge (dput l p.1 p.2) m) j = _
    rw [dget_merge_no m _ fun q hq => h q (List.mem_cons_of_mem _ hq), dget_put, if_neg (h p List.mem_cons_self)]
theorem dget_merge {p : κ × α} : ∀ (m l : List (κ × α)), (m.map (·.1)).Nodup → p ∈ m → dget (dmerge l m) p.1 = some p.2
  | [], _, _, h => nomatch h
  | q :: m, l, nd, h => by
    have nd' := List.nodup_cons.mp (show (q.1 :: m.map (·.1)).Nodup from nd)
    show dget (dmerge (dput l q.1 q.2) m) p.1 = _
    rcases List.mem_cons.mp h with z | z
    · rw [z, dget_merge_no m _ fun u hu e => nd'.1 (by rw [← e]; exact List.mem_map_of_mem (f := (·.1)) hu), dget_put, if_pos rfl]
    · exact dget_merge m _ nd'.2 z
end
theorem enc_nodup {r : Row} (V : Vr r) : ((enc r).map (·.1)).Nodup := by
  have : (enc r).map (·.1) = nI (r.map (·.1)) := by
    show List.map _ (List.map _ r) = List.map _ (List.map _ r)
    rw [List.map_map, List.map_map]
    rfl
  rw [this, nI, List.nodup_iff_pairwise_ne, List.pairwise_map]
  exact V.nodup.imp fun h z => h (by omega)
theorem dget_row {r : Row} (V : Vr r) {p : Nat} (h : p < r.length) : dget (dmerge [] (enc r)) (p : Int) = some (lt (colOf r p)) :=
  dget_merge (p := ((p : Int), lt (colOf r p))) _ _ (enc_nodup V) (List.mem_map_of_mem (f := eRow) (colOf_mem (V.has h)))
theorem join_lt {ys : List Str} (h : ∀ y ∈ ys, ∃ c, y = lt c) (z : ys.length ≤ 1000) : Ev (joinF (Str.ofString "") ys) fun s => ∃ ns : List Nat, ys = ns.map lt ∧ s = txt ns ∧ s.length = ys.length := by
  have ex : ∃ ns : List Nat, ys = ns.map lt := by
    clear z
    induction ys with
    | nil => exact ⟨[], rfl⟩
    | cons y ys ih =>
      obtain ⟨c, hc⟩ := h y List.mem_cons_self
      obtain ⟨ns, hn⟩ := ih fun u hu => h u (List.mem_cons_of_mem _ hu)
      exact ⟨c :: ns, by rw [hn, hc]; rfl⟩
  obtain ⟨ns, rfl⟩ := ex
  rw [List.length_map] at z
  have s1 : ∀ ns : List Nat, ((ns.map lt).map (·.length)).sum = ns.length := by
    intro ns
    induction ns with
    | nil => rfl
    | cons c ns ih =>
      show (lt c).length + ((ns.map lt).map (·.length)).sum = _
      rw [ih]
      show 1 + _ = _
      rw [List.length_cons]
      omega
  have e0 : (Str.ofString "").length = 0 := rfl
  unfold joinF
  rw [decide_eq_true (by rw [s1, e0]; omega)]
  exact ⟨_, rfl, ns, rfl, join_ones ns, by
    rw [show Txt.join (Str.ofString "") (ns.map lt) = txt ns from join_ones ns, List.length_map]
    show ns.toArray.size = _
    rw [List.size_toArray]⟩
theorem txt_len (ns : List Nat) : (txt ns).length = ns.length := by
  show ns.toArray.size = _
  rw [List.size_toArray]
section
variable {α β : Type} [DecidableEq α] [DecidableEq β]
/-- of two or more different values, two differ -/
theorem dd_two {l : List α} (h : 2 ≤ (dd l).length) : ∃ x ∈ l, ∃ y ∈ l, x ≠ y := by
  have nd := dd_nodup l
  match e : dd l, h with
  | x :: y :: r, _ =>
    rw [e] at nd
    refine ⟨x, mem_dd.mp (by rw [e]; exact List.mem_cons_self), y, mem_dd.mp (by rw [e]; exact List.mem_cons_of_mem _ List.mem_cons_self), fun z => ?_⟩
    exact (List.nodup_cons.mp nd).1 (by rw [z]; exact List.mem_cons_self)
theorem dd_ne {l : List α} (h : l ≠ []) : 1 ≤ (dd l).length := by
  cases l with
  | nil => exact absurd rfl h
  | cons x l =>
    have : x ∈ dd (x :: l) := mem_dd.mpr List.mem_cons_self
    cases e : dd (x :: l) with
    | nil => rw [e] at this; cases this
    | cons _ _ => exact Nat.succ_le_succ (Nat.zero_le _)
end
theorem sortU_len (ks : List Str) : (sortU ks).length = (dd ks).length := by
  unfold sortU
  exact (List.mergeSort_perm _ _).length_eq
theorem mem_sortU {ks : List Str} {x : Str} : x ∈ sortU ks ↔ x ∈ ks := by
  unfold sortU
  rw [(List.mergeSort_perm _ _).mem_iff, mem_dd]
theorem mem_sortUI {ks : List Int} {x : Int} : x ∈ sortUI ks ↔ x ∈ ks := by
  unfold sortUI
  rw [(List.mergeSort_perm _ _).mem_iff, mem_dd]
theorem count_nI (l : List Nat) (p : Nat) : (nI l).count (p : Int) = l.count p := by
  induction l with
  | nil => rfl
  | cons x l ih =>
    show (((x : Int) :: nI l)).count (p : Int) = _
    rw [List.count_cons, List.count_cons, ih]
    congr 1
    by_cases h : x = p
    · rw [h]; simp
    · rw [show ((x : Int) == (p : Int)) = false from beq_eq_false_iff_ne.mpr fun z => h (by omega), show (x == p) = false from beq_eq_false_iff_ne.mpr h]
theorem ex_nI {l : List Int} (h : ∀ x ∈ l, ∃ n : Nat, x = (n : Int)) : ∃ ns : List Nat, l = nI ns := by
  induction l with
  | nil => exact ⟨[], rfl⟩
  | cons x l ih =>
    obtain ⟨n, hn⟩ := h x List.mem_cons_self
    obtain ⟨ns, e⟩ := ih fun y hy => h y (List.mem_cons_of_mem _ hy)
    exact ⟨n :: ns, by rw [e, hn]; rfl⟩
end LQ

namespace LQF
open PySem L2 LX LQ
def F__law_bag (x_cell : Int) : Option (List Int) :=
  (modF x_cell (((10 : Int) ^ (38 : Nat)) + (133 : Int))).bind fun y1167 =>
some [(maxI (0 : Int) (x_cell - ((10 : Int) ^ (18 : Nat)))), y1167, (0 : Int)]
def F__law_draw (x_bag : (List Int)) (x_limit : Int) : Option (Int × (List Int)) :=
  (ix x_bag (0 : Int)).bind fun y1179 =>
cond (decide ((0 : Int) < y1179)) ((ix x_bag (0 : Int)).bind fun y1183 =>
(modF y1183 x_limit).bind fun y1187 =>
(ix x_bag (0 : Int)).bind fun y1189 =>
(divF y1189 x_limit).bind fun y1193 =>
(setF x_bag (0 : Int) y1193).bind fun l1195 =>
some (y1187, l1195)) ((ix x_bag (2 : Int)).bind fun y1201 =>
(setF x_bag (2 : Int) (y1201 + (1 : Int))).bind fun l1205 =>
(ix l1205 (1 : Int)).bind fun y1211 =>
(ix l1205 (2 : Int)).bind fun y1215 =>
(powF (y1211 + ((15485863 : Int) * y1215)) (3 : Int)).bind fun y1219 =>
(modF y1219 (((10 : Int) ^ (36 : Nat)) + (67 : Int))).bind fun y1221 =>
(ix l1205 (2 : Int)).bind fun y1223 =>
(powF (y1221 + ((32452867 : Int) * y1223)) (5 : Int)).bind fun y1227 =>
(modF y1227 (((10 : Int) ^ (40 : Nat)) + (121 : Int))).bind fun y1229 =>
(divF y1229 (1048583 : Int)).bind fun y1231 =>
(modF y1231 x_limit).bind fun y1233 =>
some (y1233, l1205))
def F__law_lineup (x_bag : (List Int)) (x_most : Int) : Option ((List (Int × Str)) × (List Int)) :=
  (F__law_draw x_bag x_most).bind fun y1240 =>
(F__law_draw y1240.2 (5 : Int)).bind fun y1259 =>
(ix [(Str.ofString "ab"), (Str.ofString "abc"), (Str.ofString "abcdefgh"), (Str.ofString "abcdefghijklmnopqrstuvwxyz"), (Str.ofString "zy")] y1259.1).bind fun y1272 =>
(F__law_draw y1259.2 (4 : Int)).bind fun y1279 =>
(lrgF (0 : Int) ((1 : Int) + y1240.1)).bind fun l1292 =>
(rngF (0 : Int) ((1 : Int) + y1240.1)).bind fun l1304 =>
(loopF (fun (a1306 : Int) (s1307 : ((List (Int × Str)) × (List Int) × (List Int))) => (lenS y1272).bind fun y1333 =>
(F__law_draw s1307.2.2 y1333).bind fun y1335 =>
(ixS y1272 y1335.1).bind fun y1348 =>
((cond (decide (y1279.1 = (2 : Int))) ((eqvF ((eL (eT2 eI eS)) s1307.1) ((eL (eT2 eI eS)) ([] : (List (Int × Str))))).bind fun b1404 =>
cond (!b1404) ((F__law_draw y1335.2 (3 : Int)).bind fun y1406 =>
some ((decide ((0 : Int) < y1406.1)), y1406.2)) (some (false, y1335.2))) (some (false, y1335.2))).bind fun b1420 =>
cond b1420.1 ((ix s1307.1 (-(1 : Int))).bind fun y1430 =>
some (y1430.2, b1420.2)) (some (y1348, b1420.2))).bind fun (r1395 : (Str × (List Int))) =>
(cond (decide (y1279.1 = (3 : Int))) ((ixS y1272 (b2I (decide (a1306 = (((1 : Int) + y1240.1) - (1 : Int)))))).bind fun y1453 =>
some y1453) (some r1395.1)).bind fun (r1451 : Str) =>
(F__law_draw r1395.2 (lenI s1307.2.1)).bind fun y1460 =>
(popAtF s1307.2.1 y1460.1).bind fun y1473 =>
(appF s1307.1 (y1473.1, r1451)).bind fun l1487 =>
some (l1487, y1473.2, y1460.2)) l1304 (([] : (List (Int × Str))), l1292, y1279.2)).bind fun r1330 =>
some (r1330.1, r1330.2.2)
def F__law_calls (x_bag : (List Int)) (x_size : Int) (x_most : Int) : Option ((List Int) × (List Int)) :=
  (F__law_draw x_bag (4 : Int)).bind fun y1513 =>
(ix [x_size, (minI x_size (3 : Int)), x_size, x_size] y1513.1).bind fun y1532 =>
(F__law_draw y1513.2 x_size).bind fun y1539 =>
(F__law_draw y1539.2 (x_most + (1 : Int))).bind fun y1557 =>
(rngF (0 : Int) y1557.1).bind fun l1570 =>
(loopF (fun (a1572 : Int) (s1573 : ((List Int) × (List Int))) => (F__law_draw s1573.2 y1532).bind fun y1597 =>
(ix [y1597.1, a1572] (b2I (decide (y1513.1 = (2 : Int))))).bind fun y1616 =>
(modF (y1539.1 + y1616) x_size).bind fun y1623 =>
(F__law_draw y1597.2 (4 : Int)).bind fun y1637 =>
(ix [(0 : Int), (0 : Int), (1 : Int), (2 : Int)] y1637.1).bind fun y1650 =>
(mulF y1650 (b2I (decide (y1513.1 = (3 : Int))))).bind fun y1657 =>
(repF [y1623] ((1 : Int) + y1657)).bind fun y1659 =>
(catF s1573.1 y1659).bind fun l1673 =>
some (l1673, y1637.2)) l1570 (([] : (List Int)), y1557.2)).bind fun r1594 =>
some ((cutL r1594.1 none (some x_most)), r1594.2)
def F_is_integer (x_value : Int) : Option Bool :=
  some (true && (!false))
def F_is_color (x_value : Str) : Option Bool :=
  (cond (decide ("str" = "str")) ((lenS x_value).bind fun y1699 =>
cond (decide (y1699 = (1 : Int))) (some ((!ltS x_value (Str.ofString "a")) && (!ltS (Str.ofString "z") x_value))) (some false)) (some false)).bind fun b1705 =>
some b1705
def F_is_colored_integer (x_value : (Int × Str)) : Option Bool :=
  (cond (decide ("tuple" = "tuple")) (cond (decide ((2 : Int) = (2 : Int))) ((F_is_integer x_value.1).bind fun y1729 =>
cond y1729 ((F_is_color x_value.2).bind fun y1744 =>
some y1744) (some false)) (some false)) (some false)).bind fun b1755 =>
some b1755
def F_is_lineup (x_value : (List (Int × Str))) : Option Bool :=
  cond ((!(decide ("list" = "list"))) || (!((decide ((1 : Int) ≤ (lenI x_value))) && (decide ((lenI x_value) ≤ (60 : Int)))))) (some false) ((loopC (fun (a1781 : (Int × Str)) (s1782 : Unit) => (F_is_colored_integer a1781).bind fun y1803 =>
cond (!y1803) (some (.ret false)) (some (.nx ()))) x_value ()).bind fun r1798_ => ctlK r1798_ (fun q => some q) fun r1798 =>
(compL (fun (a1825 : (Int × Str)) => some (some a1825.1)) x_value).bind fun l1847 =>
(lrgF (0 : Int) (lenI x_value)).bind fun l1873 =>
(eqvF ((eL eI) (sortI l1847)) ((eL eI) l1873)).bind fun b1881 =>
some b1881)
def F_check_lineup (x_value : (List (Int × Str))) : Option Unit :=
  (F_is_lineup x_value).bind fun y1886 =>
cond (!y1886) (none) (some ())
def F_is_person (x_lineup : (List (Int × Str))) (x_value : Int) : Option Bool :=
  ((F_is_integer x_value).bind fun y1900 =>
cond y1900 (some ((decide ((0 : Int) ≤ x_value)) && (decide (x_value < (lenI x_lineup))))) (some false)).bind fun b1917 =>
some b1917
def F_check_calls (x_lineup : (List (Int × Str))) (x_value : (List Int)) : Option Unit :=
  cond (!(decide ("list" = "list"))) (none) ((loopF (fun (a1934 : (Int × Int)) (s1935 : Unit) => (F_is_person x_lineup a1934.2).bind fun y1971 =>
cond (!y1971) (none) (some ())) (enumI x_value) ()).bind fun r1952 =>
some ())
def F_first_other_color (x_lineup : (List (Int × Str))) (x_color : Str) : Option (Option Str) :=
  (loopC (fun (a1994 : (Int × Str)) (s1995 : Unit) => cond (!(decide (a1994.2 = x_color))) (some (.ret (some a1994.2))) (some (.nx ()))) x_lineup ()).bind fun r2012_ => ctlK r2012_ (fun q => some q) fun r2012 =>
some (none : (Option Str))
def F_colors_by_person (x_lineup : (List (Int × Str))) : Option (List Str) :=
  (repF [(Str.ofString "")] (lenI x_lineup)).bind fun y2041 =>
(loopF (fun (a2055 : (Int × Str)) (s2056 : (List Str)) => (setF s2056 a2055.1 a2055.2).bind fun l2085 =>
some l2085) x_lineup y2041).bind fun r2075 =>
some r2075
def F_apply_call (x_lineup : (List (Int × Str))) (x_person : Int) : Option ((List (Int × Str)) × (Option Str)) :=
  (F_colors_by_person x_lineup).bind fun y2105 =>
(ix y2105 x_person).bind fun y2117 =>
(F_first_other_color x_lineup y2117).bind fun y2124 =>
(compL (fun (a2139 : (Int × Str)) => cond (!(decide (a2139.1 = x_person))) (some (some a2139)) (some none)) x_lineup).bind fun l2161 =>
(cond y2124.isNone (some y2117) ((y2124).bind fun o2180 =>
some o2180)).bind fun y2183 =>
(catF [(x_person, y2183)] l2161).bind fun y2202 =>
some (y2202, y2124)
def F_lineups_at_moments (x_lineup : (List (Int × Str))) (x_calls : (List Int)) : Option (List (List (Int × Str))) :=
  (loopF (fun (a2243 : Int) (s2244 : ((List (Int × Str)) × (List (List (Int × Str))))) => (F_apply_call s2244.1 a2243).bind fun y2269 =>
(appF s2244.2 y2269.1).bind fun l2287 =>
some (y2269.1, l2287)) x_calls (x_lineup, [x_lineup])).bind fun r2265 =>
some r2265.2
def F_called_colors (x_lineup : (List (Int × Str))) (x_calls : (List Int)) : Option (List Str) :=
  (F_check_lineup x_lineup).bind fun y2311 =>
(F_check_calls x_lineup x_calls).bind fun y2321 =>
(F_lineups_at_moments x_lineup x_calls).bind fun y2336 =>
(loopF (fun (a2351 : (Int × (List (Int × Str)))) (s2352 : (List Str)) => (compT (fun (a2406 : (Int × Str)) => cond (decide (a2406.1 ∈ (cutL x_calls none (some a2351.1)))) (some (some a2406.2)) (some none)) a2351.2).bind fun l2430 =>
(joinF (Str.ofString "") (sortU l2430)).bind fun y2449 =>
(appF s2352 y2449).bind fun l2451 =>
some l2451) (enumI y2336) ([] : (List Str))).bind fun r2372 =>
some r2372
def F_single_color_moments (x_lineup : (List (Int × Str))) (x_calls : (List Int)) : Option (List Int) :=
  (F_called_colors x_lineup x_calls).bind fun y2474 =>
(compL (fun (a2491 : (Int × Str)) => (lenS a2491.2).bind fun y2522 =>
cond (decide (y2522 = (1 : Int))) (some (some a2491.1)) (some none)) (enumI y2474)).bind fun l2524 =>
some l2524
def F_lineup_after (x_lineup : (List (Int × Str))) (x_calls : (List Int)) : Option (List (Int × Str)) :=
  (F_check_lineup x_lineup).bind fun y2543 =>
(F_check_calls x_lineup x_calls).bind fun y2553 =>
(loopF (fun (a2575 : Int) (s2576 : (List (Int × Str))) => (F_apply_call s2576 a2575).bind fun y2599 =>
some y2599.1) x_calls x_lineup).bind fun r2595 =>
some r2595
def F_called_sides (x_lineup : (List (Int × Str))) (x_calls : (List Int)) : Option ((List Int) × (List Int)) :=
  (F_lineup_after x_lineup x_calls).bind fun y2629 =>
(ix y2629 (0 : Int)).bind fun y2641 =>
(sortRF y2629).bind fun l2657 =>
(compL (fun (a2670 : (Int × Str)) => cond (decide (a2670.1 ∈ x_calls)) (some (some (a2670.1, a2670.2))) (some none)) l2657).bind fun l2701 =>
(compL (fun (a2721 : (Int × Str)) => cond (decide (a2721.2 = y2641.2)) (some (some a2721.1)) (some none)) l2701).bind fun l2743 =>
(compL (fun (a2763 : (Int × Str)) => cond (!(decide (a2763.2 = y2641.2))) (some (some a2763.1)) (some none)) l2701).bind fun l2785 =>
some (l2743, l2785)
def F__law_side_numbers (x_lineup : (List (Int × Str))) (x_calls : (List Int)) (x_people : (List Int)) : Option (List Int) :=
  (F_called_sides x_lineup x_calls).bind fun y2812 =>
(compL (fun (a2836 : Int) => some (some (b2I (decide (a2836 ∈ y2812.1))))) x_people).bind fun l2855 =>
some l2855
def F__law_interval_holds (x_lineup : (List (Int × Str))) (x_calls : (List Int)) (x_start : Int) (x_end : Int) : Option Bool :=
  (setSF (cutL x_calls none (some x_start))).bind fun y2885 =>
(F__law_side_numbers x_lineup (cutL x_calls none (some x_start)) (sortUI y2885)).bind fun y2908 =>
(F__law_side_numbers x_lineup (cutL x_calls none (some x_end)) (sortUI y2885)).bind fun y2929 =>
(F_lineup_after x_lineup (cutL x_calls none (some x_end))).bind fun y2950 =>
(rngF (0 : Int) (lenI (sortUI y2885))).bind fun l2983 =>
(loopC (fun (a2985 : Int) (s2986 : Unit) => (ix (sortUI y2885) a2985).bind fun y3010 =>
(ix (sortUI y2885) (0 : Int)).bind fun y3023 =>
(ix y2908 a2985).bind fun y3033 =>
(ix y2908 (0 : Int)).bind fun y3040 =>
((ix y2929 a2985).bind fun y3048 =>
(ix y2929 (0 : Int)).bind fun y3055 =>
cond (!(decide (((y3048 + y3055) % (2 : Int)) = (((y3033 + y3040) + ((((cutL x_calls (some x_start) (some x_end)).count y3010 : Nat) : Int) + (((cutL x_calls (some x_start) (some x_end)).count y3023 : Nat) : Int))) % (2 : Int))))) (some true) ((ix (sortUI y2885) a2985).bind fun y3062 =>
(dget (dmerge [] y2950) y3062).bind fun y3069 =>
(ix (sortUI y2885) (0 : Int)).bind fun y3076 =>
(dget (dmerge [] y2950) y3076).bind fun y3083 =>
some (!(decide ((!(decide (y3069 = y3083))) = (decide ((((y3033 + y3040) + ((((cutL x_calls (some x_start) (some x_end)).count y3010 : Nat) : Int) + (((cutL x_calls (some x_start) (some x_end)).count y3023 : Nat) : Int))) % (2 : Int)) = (1 : Int)))))))).bind fun b3091 =>
cond b3091 (some (.ret false)) (some (.nx ()))) l2983 ()).bind fun r3004_ => ctlK r3004_ (fun q => some q) fun r3004 =>
some true
def F__law_holds (x_bag : (List Int)) (x_lineup : (List (Int × Str))) (x_calls : (List Int)) : Option (Bool × (List Int)) :=
  (F_called_colors x_lineup x_calls).bind fun y3115 =>
(F_single_color_moments x_lineup x_calls).bind fun y3127 =>
(catF y3127 [((lenI x_calls) + (1 : Int))]).bind fun y3148 =>
(rngF (0 : Int) (lenI y3115)).bind fun l3165 =>
(compL (fun (a3169 : Int) => (ix y3115 a3169).bind fun y3184 =>
(lenS y3184).bind fun y3191 =>
cond (decide (y3191 = (2 : Int))) (some (some a3169)) (some none)) l3165).bind fun l3193 =>
(rngF (0 : Int) (minI (8 : Int) (lenI l3193))).bind fun l3211 =>
(loopC (fun (a3213 : Int) (s3214 : (List Int)) => (F__law_draw s3214 (lenI l3193)).bind fun y3240 =>
(ix l3193 y3240.1).bind fun y3253 =>
(compL (fun (a3265 : Int) => cond (decide (y3253 < a3265)) (some (some a3265)) (some none)) y3148).bind fun l3281 =>
(ix l3281 (0 : Int)).bind fun y3296 =>
(F__law_draw y3240.2 (y3296 - y3253)).bind fun y3303 =>
(F__law_interval_holds x_lineup x_calls y3253 (y3253 + y3303.1)).bind fun y3316 =>
cond (!y3316) (some (.ret (false, y3303.2))) (some (.nx y3303.2))) l3211 x_bag).bind fun r3234_ => ctlK r3234_ (fun q => some q) fun r3234 =>
some (true, r3234)
def F_law (x_script : (List Int)) : Option Bool :=
  (catF (cutL x_script none (some (6 : Int))) [(0 : Int)]).bind fun y3351 =>
(loopC (fun (a3368 : (Int × Int)) (s3369 : Unit) => (F__law_bag a3368.2).bind fun y3409 =>
(cond (decide (a3368.1 = (lenI (cutL x_script none (some (6 : Int)))))) (some ((3 : Int), y3409)) ((F__law_draw y3409 (3 : Int)).bind fun y3466 =>
(ix [(4 : Int), (12 : Int), (60 : Int)] y3466.1).bind fun y3479 =>
some (y3479, y3466.2))).bind fun y3486 =>
(F__law_lineup y3486.2 y3486.1).bind fun y3495 =>
(cond (decide (a3368.1 = (lenI (cutL x_script none (some (6 : Int)))))) (some ((5 : Int), y3495.2)) ((F__law_draw y3495.2 (3 : Int)).bind fun y3546 =>
(ix [(12 : Int), (40 : Int), (90 : Int)] y3546.1).bind fun y3559 =>
some (y3559, y3546.2))).bind fun y3566 =>
(F__law_calls y3566.2 (lenI y3495.1) y3566.1).bind fun y3575 =>
(F__law_holds y3575.2 y3495.1 y3575.1).bind fun y3590 =>
cond (!y3590.1) (some (.ret false)) (some (.nx ()))) (enumI y3351) ()).bind fun r3390_ => ctlK r3390_ (fun q => some q) fun r3390 =>
some true
end LQF

namespace K74
open PySem L2 LX LQ
section
variable {P : Program} {w : World} {K : PySem.W.Frag} {mg : Str → Option Value} {base : Heap} {a : Ad}
open LQF
def sp__law_bag (K : PySem.W.Frag) : Sp := fun vs H Q _ => ∃ (x_cell : Int), vs = [(.int x_cell)] ∧ ∃ r, F__law_bag x_cell = some r ∧ ∀ (a : Addr) (G H' : Hp), Ret [] H G H' → Fr H G (.ref a) ((eL eI) (r)) → Q (.ref a) H'
theorem ok__law_bag (T : Txt K mg a) : FnOk P w K mg base CX0 1 a.f__law_bag a.d__law_bag ["cell"] (sp__law_bag K) := by
  refine T.F__law_bag.ok sc__law_bag (fun vs H Q E h => ?_) (fun cdv A outer s H0 vs Q E hr h => ?_)
  · obtain ⟨x_cell, rfl, _⟩ := h
    rfl
  · obtain ⟨x_cell, rfl, r, h, kq⟩ := h
    have nd := sc__law_bag.nd
    have hu64 := hr.units
    refine ⟨_, (pss_one (ps_ret (pe_lst (pa_cons (pe_callB (kmax2 rfl) (by rfl) T.b_max (by decide +kernel) (pa_cons pe_int (pa_cons (pe_op op_sub (pv 0) (pe_op op_powW pe_int pe_int)) pa_nil))) (pa_cons (pe_op op_mod (pv 0) (pe_op op_add (pe_op op_powW pe_int pe_int) pe_int)) (pa_cons pe_int pa_nil)))))), ?_⟩
    unfold F__law_bag at h
    have S0 := Sep.start H0
    refine rd_ret ?_
    refine rd_lstZ ?_
    refine rd_cons ?_
    refine rd_cb ?_
    refine rd_cons ?_
    refine rd_c ?_
    refine rd_cons ?_
    refine rd_op ?_
    refine rd_var rfl ?_
    refine rd_op ?_
    refine rd_c ?_
    refine rd_c ?_
    refine rd_I ⟨by decide, by decide, by decide⟩ ?_
    refine rd_I0 ?_
    refine rd_nil ?_
    refine q_max2 ?_
    refine rd_cons ?_
    refine rd_op ?_
    refine rd_var rfl ?_
    refine rd_op ?_
    refine rd_op ?_
    refine rd_c ?_
    refine rd_c ?_
    refine rd_I ⟨by decide, by decide, by decide⟩ ?_
    refine rd_c ?_
    refine rd_I0 ?_
    obtain ⟨y1167, h1168, h⟩ := bnd h
    refine q_mod h1168 ?_
    refine rd_cons ?_
    refine rd_c ?_
    refine rd_nil ?_
    refine q_lst (F0 := H0) (ds := [eI (maxI (0 : Int) (x_cell - ((10 : Int) ^ (18 : Nat)))), eI y1167, eI (0 : Int)]) S0 (by show 3 ≤ LIM; decide) (.cons (.int _) (.cons (.int _) (.cons (.int _) .nil))) S0.old fun a1169 G1170 H1171 S1172 s1173 f1174 => ?_
    replace f1174 : Fr H0 G1170 (.ref a1169) ((eL eI) [(maxI (0 : Int) (x_cell - ((10 : Int) ^ (18 : Nat)))), y1167, (0 : Int)]) := f1174
    cases h
    exact kq a1169 _ _ S1172.toRet f1174
end
end K74

namespace K74
open PySem L2 LX LQ
section
variable {P : Program} {w : World} {K : PySem.W.Frag} {mg : Str → Option Value} {base : Heap} {a : Ad}
open LQF
def sp__law_draw (K : PySem.W.Frag) : Sp := fun vs H Q _ => ∃ (a1175 : Addr) (w1176 : List V) (x_bag : (List Int)) (x_limit : Int), vs = [.ref a1175, (.int x_limit)] ∧ H a1175 = some (.lst w1176) ∧ FrL E0h (hid H [a1175]) w1176 (x_bag.map eI) ∧ ∃ r, F__law_draw x_bag x_limit = some r ∧ ∀ (u0 : List V) (G H' : Hp), Ret [a1175] H G H' → H' a1175 = some (.lst u0) → FrL E0h G u0 ((r.2).map eI) → Q (.int (r.1)) H'
theorem ok__law_draw (T : Txt K mg a) : FnOk P w K mg base CX0 1 a.f__law_draw a.d__law_draw ["bag", "limit"] (sp__law_draw K) := by
  refine T.F__law_draw.ok sc__law_draw (fun vs H Q E h => ?_) (fun cdv A outer s H0 vs Q E hr h => ?_)
  · obtain ⟨a1175, w1176, x_bag, x_limit, rfl, _⟩ := h
    rfl
  · obtain ⟨a1175, w1176, x_bag, x_limit, rfl, h1177, f1178, r, h, kq⟩ := h
    have nd := sc__law_draw.nd
    have hu64 := hr.units
    refine ⟨_, (pss_cons (ps_if (pt_cmpR op_gt (pe_ix (kix_list (K := K)) (pv 0) pe_int (fun _ _ => rfl)) pe_int (nomark _)) (pss_cons (ps_set (i := 2) nd rfl (Or.inl rfl) (pe_op op_mod (pe_ix (kix_list (K := K)) (pv 0) pe_int (fun _ _ => rfl)) (pv 1)))
      (pss_cons (ps_asg (pe_op op_fdivW (pe_ix (kix_list (K := K)) (pv 0) pe_int (fun _ _ => rfl)) (pv 1)) (pg_sub (pv 0) pe_int set_list))
      (pss_one (ps_ret (pv 2))))) pss_nil)
      (pss_cons (ps_asg (pe_op op_add (pe_ix (kix_list (K := K)) (pv 0) pe_int (fun _ _ => rfl)) pe_int) (pg_sub (pv 0) pe_int set_list))
      (pss_cons (ps_set (i := 3) nd rfl (Or.inl rfl) (pe_op op_mod (pe_op op_powW (pe_op op_add (pe_ix (kix_list (K := K)) (pv 0) pe_int (fun _ _ => rfl)) (pe_op op_mul pe_int (pe_ix (kix_list (K := K)) (pv 0) pe_int (fun _ _ => rfl)))) pe_int) (pe_op op_add (pe_op op_powW pe_int pe_int) pe_int)))
      (pss_cons (ps_set (i := 3) nd rfl (Or.inl rfl) (pe_op op_mod (pe_op op_powW (pe_op op_add (pv 3) (pe_op op_mul pe_int (pe_ix (kix_list (K := K)) (pv 0) pe_int (fun _ _ => rfl)))) pe_int) (pe_op op_add (pe_op op_powW pe_int pe_int) pe_int)))
      (pss_one (ps_ret (pe_op op_mod (pe_op op_fdivW (pv 3) pe_int) (pv 1)))))))), ?_⟩
    unfold F__law_draw at h
    have S0 := Sep.start1 h1177
    refine rd_seq ?_
    refine rd_ifS ?_
    refine rd_test ?_
    refine rd_op ?_
    refine rd_op ?_
    refine rd_var rfl ?_
    refine rd_c ?_
    obtain ⟨y1179, h1180, h⟩ := bnd h
    refine q_ixL (S0.get 0 rfl) f1178 h1180 fun v1181 f1182 => ?_
    cases fr_int f1182
    refine rd_c ?_
    refine rd_I0 ?_
    refine rd_bl ?_
    rcases cnd h with ⟨c1235, h⟩ | ⟨c1235, h⟩
    ·
      refine iteY c1235 ?_
      refine rd_seq ?_
      refine rd_asg ?_
      refine rd_op ?_
      refine rd_op ?_
      refine rd_var rfl ?_
      refine rd_c ?_
      obtain ⟨y1183, h1184, h⟩ := bnd h
      refine q_ixL (S0.get 0 rfl) f1178 h1184 fun v1185 f1186 => ?_
      cases fr_int f1186
      refine rd_var rfl ?_
      obtain ⟨y1187, h1188, h⟩ := bnd h
      refine q_mod h1188 ?_
      refine rd_nameS (σ' := [some (.ref a1175), some (.int x_limit), some (.int y1187), none]) rfl ?_
      refine rd_mk ?_
      refine rd_seq ?_
      refine rd_asg ?_
      refine rd_op ?_
      refine rd_op ?_
      refine rd_var rfl ?_
      refine rd_c ?_
      obtain ⟨y1189, h1190, h⟩ := bnd h
      refine q_ixL (S0.get 0 rfl) f1178 h1190 fun v1191 f1192 => ?_
      cases fr_int f1192
      refine rd_var rfl ?_
      obtain ⟨y1193, h1194, h⟩ := bnd h
      refine q_div h1194 ?_
      refine rd_sub ?_
      refine rd_var rfl ?_
      refine rd_c ?_
      obtain ⟨l1195, h1196, h⟩ := bnd h
      refine q_setL S0 0 rfl f1178 (.int _) h1196 fun w1197 H1198 S1199 f1200 => ?_
      have S1199 : Sep [a1175] H0 (hid H0 [a1175]) H1198 [(a1175, .lst w1197)] := S1199
      refine rd_mk ?_
      refine rd_ret ?_
      refine rd_var rfl ?_
      cases h
      exact kq w1197 _ _ S1199.toRet (S1199.get 0 rfl) f1200
    ·
      refine iteN c1235 ?_
      refine rd_next ?_
      refine rd_mk ?_
      refine rd_seq ?_
      refine rd_asg ?_
      refine rd_op ?_
      refine rd_op ?_
      refine rd_var rfl ?_
      refine rd_c ?_
      obtain ⟨y1201, h1202, h⟩ := bnd h
      refine q_ixL (S0.get 0 rfl) f1178 h1202 fun v1203 f1204 => ?_
      cases fr_int f1204
      refine rd_c ?_
      refine rd_I0 ?_
      refine rd_sub ?_
      refine rd_var rfl ?_
      refine rd_c ?_
      obtain ⟨l1205, h1206, h⟩ := bnd h
      refine q_setL S0 0 rfl f1178 (.int _) h1206 fun w1207 H1208 S1209 f1210 => ?_
      have S1209 : Sep [a1175] H0 (hid H0 [a1175]) H1208 [(a1175, .lst w1207)] := S1209
      refine rd_mk ?_
      refine rd_seq ?_
      refine rd_asg ?_
      refine rd_op ?_
      refine rd_op ?_
      refine rd_op ?_
      refine rd_op ?_
      refine rd_var rfl ?_
      refine rd_c ?_
      obtain ⟨y1211, h1212, h⟩ := bnd h
      refine q_ixL (S1209.get 0 rfl) f1210 h1212 fun v1213 f1214 => ?_
      cases fr_int f1214
      refine rd_op ?_
      refine rd_c ?_
      refine rd_op ?_
      refine rd_var rfl ?_
      refine rd_c ?_
      obtain ⟨y1215, h1216, h⟩ := bnd h
      refine q_ixL (S1209.get 0 rfl) f1210 h1216 fun v1217 f1218 => ?_
      cases fr_int f1218
      refine rd_I (Or.inl ⟨by decide, by decide⟩) ?_
      refine rd_I0 ?_
      refine rd_c ?_
      obtain ⟨y1219, h1220, h⟩ := bnd h
      refine q_pow h1220 ?_
      refine rd_op ?_
      refine rd_op ?_
      refine rd_c ?_
      refine rd_c ?_
      refine rd_I ⟨by decide, by decide, by decide⟩ ?_
      refine rd_c ?_
      refine rd_I0 ?_
      obtain ⟨y1221, h1222, h⟩ := bnd h
      refine q_mod h1222 ?_
      refine rd_nameS (σ' := [some (.ref a1175), some (.int x_limit), none, some (.int y1221)]) rfl ?_
      refine rd_mk ?_
      refine rd_seq ?_
      refine rd_asg ?_
      refine rd_op ?_
      refine rd_op ?_
      refine rd_op ?_
      refine rd_var rfl ?_
      refine rd_op ?_
      refine rd_c ?_
      refine rd_op ?_
      refine rd_var rfl ?_
      refine rd_c ?_
      obtain ⟨y1223, h1224, h⟩ := bnd h
      refine q_ixL (S1209.get 0 rfl) f1210 h1224 fun v1225 f1226 => ?_
      cases fr_int f1226
      refine rd_I (Or.inl ⟨by decide, by decide⟩) ?_
      refine rd_I0 ?_
      refine rd_c ?_
      obtain ⟨y1227, h1228, h⟩ := bnd h
      refine q_pow h1228 ?_
      refine rd_op ?_
      refine rd_op ?_
      refine rd_c ?_
      refine rd_c ?_
      refine rd_I ⟨by decide, by decide, by decide⟩ ?_
      refine rd_c ?_
      refine rd_I0 ?_
      obtain ⟨y1229, h1230, h⟩ := bnd h
      refine q_mod h1230 ?_
      refine rd_nameS (σ' := [some (.ref a1175), some (.int x_limit), none, some (.int y1229)]) rfl ?_
      refine rd_mk ?_
      refine rd_ret ?_
      refine rd_op ?_
      refine rd_op ?_
      refine rd_var rfl ?_
      refine rd_c ?_
      obtain ⟨y1231, h1232, h⟩ := bnd h
      refine q_div h1232 ?_
      refine rd_var rfl ?_
      obtain ⟨y1233, h1234, h⟩ := bnd h
      refine q_mod h1234 ?_
      cases h
      exact kq w1207 _ _ S1209.toRet (S1209.get 0 rfl) f1210
end
end K74

namespace K74
open PySem L2 LX LQ
section
variable {P : Program} {w : World} {K : PySem.W.Frag} {mg : Str → Option Value} {base : Heap} {a : Ad}
open LQF
def sp__law_lineup (K : PySem.W.Frag) : Sp := fun vs H Q _ => ∃ (a1236 : Addr) (w1237 : List V) (x_bag : (List Int)) (x_most : Int), vs = [.ref a1236, (.int x_most)] ∧ H a1236 = some (.lst w1237) ∧ FrL E0h (hid H [a1236]) w1237 (x_bag.map eI) ∧ ∃ r, F__law_lineup x_bag x_most = some r ∧ ∀ (a : Addr) (u0 : List V) (G H' : Hp), Ret [a1236] H G H' → H' a1236 = some (.lst u0) → FrL E0h G u0 ((r.2).map eI) → Fr H G (.ref a) ((eL (eT2 eI eS)) (r.1)) → Q (.ref a) H'
theorem ok__law_lineup (T : Txt K mg a) : FnOk P w K mg base CX0 2 a.f__law_lineup a.d__law_lineup ["bag", "most"] (sp__law_lineup K) := by
  refine T.F__law_lineup.ok sc__law_lineup (fun vs H Q E h => ?_) (fun cdv A outer s H0 vs Q E hr h => ?_)
  · obtain ⟨a1236, w1237, x_bag, x_most, rfl, _⟩ := h
    rfl
  · obtain ⟨a1236, w1237, x_bag, x_most, rfl, h1238, f1239, r, h, kq⟩ := h
    have nd := sc__law_lineup.nd
    have hu64 := hr.units
    refine ⟨_, (pss_cons (ps_set (i := 2) nd rfl (Or.inl rfl) (pe_op op_add pe_int (pe_call (ok__law_draw T) (hr.mono (by decide)) rfl T.g__law_draw T.k__law_draw T.n__law_draw .nil pass0 (pa_cons (pv 0) (pa_cons (pv 1) pa_nil)))))
      (pss_cons (ps_set (i := 3) nd rfl (Or.inl rfl) (pe_ix (kix_list (K := K)) (pe_lst (pa_cons pe_str (pa_cons pe_str (pa_cons pe_str (pa_cons pe_str (pa_cons pe_str pa_nil)))))) (pe_call (ok__law_draw T) (hr.mono (by decide)) rfl T.g__law_draw T.k__law_draw T.n__law_draw .nil pass0 (pa_cons (pv 0) (pa_cons pe_int pa_nil))) (fun _ _ => rfl)))
      (pss_cons (ps_set (i := 4) nd rfl (Or.inl rfl) (pe_call (ok__law_draw T) (hr.mono (by decide)) rfl T.g__law_draw T.k__law_draw T.n__law_draw .nil pass0 (pa_cons (pv 0) (pa_cons pe_int pa_nil))))
      (pss_cons (ps_set (i := 5) nd rfl (Or.inl rfl) (pe_listRg rfl rfl T.b_list (prg_1 rfl T.b_range (pv 2))))
      (pss_cons (ps_set (i := 6) nd rfl (Or.inl rfl) (pe_lst pa_nil))
      (pss_cons (ps_for PassesOwn.never rfl (pi_range1 rfl T.b_range (pa_cons (pv 2) pa_nil)) (pg_name (i := 7) nd rfl (Or.inl rfl)) (pss_cons (ps_set (i := 8) nd rfl (Or.inl rfl) (pe_ix ix_str (pv 3) (pe_call (ok__law_draw T) (hr.mono (by decide)) rfl T.g__law_draw T.k__law_draw T.n__law_draw .nil pass0 (pa_cons (pv 0) (pa_cons (pe_callB klenS (by rfl) T.b_len (by decide +kernel) (pa_cons (pv 3) pa_nil)) pa_nil))) (fun _ _ => rfl)))
      (Evl.pss_cut (ps_if (PW.pt (pw_and (pt_cmpR op_eq (pv 4) pe_int (nomark _)) (pw_and (pt_cmpR (kneD (K := K) hu64) (pv 6) (pe_lst pa_nil) (nomark _)) (pw_and1 (pt_cmpR op_gt (pe_call (ok__law_draw T) (hr.mono (by decide)) rfl T.g__law_draw T.k__law_draw T.n__law_draw .nil pass0 (pa_cons (pv 0) (pa_cons pe_int pa_nil))) pe_int (nomark _)))))) (pss_one (ps_set (i := 8) nd rfl (Or.inl rfl) (pe_ix (kix_tup (K := K)) (pe_ix (kix_list (K := K)) (pv 6) (pe_un un_neg pe_int) (fun _ _ => rfl)) pe_int (fun _ _ => rfl)))) pss_nil)
      (Evl.pss_cut (ps_if (pt_cmpR op_eq (pv 4) pe_int (nomark _)) (pss_one (ps_set (i := 8) nd rfl (Or.inl rfl) (pe_ix ix_str (pv 3) (pe_callTy kint1 (by rfl) T.b_int (by decide +kernel) (pa_cons (pe_cmpR op_eq (pv 7) (pe_op op_sub (pv 2) pe_int) (nomark _)) pa_nil)) (fun _ _ => rfl)))) pss_nil)
      (pss_one (ps_expr (kbm (K := K) PySem.F.plainAttrs_list PySem.F.slot_list_append PySem.F.type_list_append mt_append (pv 6) (pa_cons (pe_tup (pa_cons (kbm (K := K) PySem.F.plainAttrs_list PySem.F.slot_list_pop PySem.F.type_list_pop mt_popAt (pv 5) (pa_cons (pe_call (ok__law_draw T) (hr.mono (by decide)) rfl T.g__law_draw T.k__law_draw T.n__law_draw .nil pass0 (pa_cons (pv 0) (pa_cons (pe_callB (klen (K := K)) (by rfl) T.b_len (by decide +kernel) (pa_cons (pv 5) pa_nil)) pa_nil))) pa_nil)) (pa_cons (pv 8) pa_nil))) pa_nil))))))))
      (pss_one (ps_ret (pv 6))))))))), ?_⟩
    unfold F__law_lineup at h
    have S0 := Sep.start1 h1238
    refine rd_seq ?_
    refine rd_asg ?_
    refine rd_op ?_
    refine rd_c ?_
    refine rd_call ?_
    refine rd_cons ?_
    refine rd_var rfl ?_
    refine rd_cons ?_
    refine rd_var rfl ?_
    refine rd_nil ?_
    obtain ⟨y1240, h1241, h⟩ := bnd h
    refine ⟨a1236, w1237, x_bag, x_most, rfl, (S0.get 0 rfl), (f1239.same (S0.hid1 0 rfl)), y1240, h1241, fun w1245 G1242 H1243 R1244 h1246 k1247 => ?_⟩
    obtain ⟨G1248, S1249, s1250, t1251, l1252⟩ := S0.ret1 0 rfl R1244 h1246 lst_tup
    have k1247 := l1252 _ _ (k1247.imm (flat_map flI _))
    have f1239 := f1239.same s1250
    have k1247 := k1247.rp
    have S1249 : Sep [a1236] H0 G1248 H1243 [(a1236, .lst w1245)] := S1249
    refine rd_I0 ?_
    refine rd_nameS (σ' := [some (.ref a1236), some (.int x_most), some (.int ((1 : Int) + y1240.1)), none, none, none, none, none, none]) rfl ?_
    refine rd_mk ?_
    refine rd_seq ?_
    refine rd_asg ?_
    refine rd_op ?_
    refine rd_lstZ ?_
    refine rd_cons ?_
    refine rd_c ?_
    refine rd_cons ?_
    refine rd_c ?_
    refine rd_cons ?_
    refine rd_c ?_
    refine rd_cons ?_
    refine rd_c ?_
    refine rd_cons ?_
    refine rd_c ?_
    refine rd_nil ?_
    refine q_lst (F0 := H0) (ds := [eS (Str.ofString "ab"), eS (Str.ofString "abc"), eS (Str.ofString "abcdefgh"), eS (Str.ofString "abcdefghijklmnopqrstuvwxyz"), eS (Str.ofString "zy")]) S1249 (by show 5 ≤ LIM; decide) (.cons (.str _) (.cons (.str _) (.cons (.str _) (.cons (.str _) (.cons (.str _) .nil))))) S1249.old fun a1253 G1254 H1255 S1256 s1257 f1258 => ?_
    have k1247 := k1247.same s1257
    replace f1258 : Fr H0 G1254 (.ref a1253) ((eL eS) [(Str.ofString "ab"), (Str.ofString "abc"), (Str.ofString "abcdefgh"), (Str.ofString "abcdefghijklmnopqrstuvwxyz"), (Str.ofString "zy")]) := f1258
    refine rd_call ?_
    refine rd_cons ?_
    refine rd_var rfl ?_
    refine rd_cons ?_
    refine rd_c ?_
    refine rd_nil ?_
    obtain ⟨y1259, h1260, h⟩ := bnd h
    refine ⟨a1236, w1245, y1240.2, (5 : Int), rfl, (S1256.get 0 rfl), (k1247.same (S1256.hid1 0 rfl)), y1259, h1260, fun w1264 G1261 H1262 R1263 h1265 k1266 => ?_⟩
    obtain ⟨G1267, S1268, s1269, t1270, l1271⟩ := S1256.ret1 0 rfl R1263 h1265 lst_tup
    have k1266 := l1271 _ _ (k1266.imm (flat_map flI _))
    have f1258 := f1258.same s1269
    have k1247 := k1247.same s1269
    have k1266 := k1266.rp
    have S1268 : Sep [a1236] H0 G1267 H1262 [(a1236, .lst w1264)] := S1268
    obtain ⟨y1272, h1273, h⟩ := bnd h
    obtain ⟨w1274, h1275, k1276⟩ := li f1258
    refine q_ixL (S1268.sub _ _ h1275) k1276 h1273 fun v1277 f1278 => ?_
    cases fr_str f1278
    refine rd_nameS (σ' := [some (.ref a1236), some (.int x_most), some (.int ((1 : Int) + y1240.1)), some (.str y1272), none, none, none, none, none]) rfl ?_
    refine rd_mk ?_
    refine rd_seq ?_
    refine rd_asg ?_
    refine rd_call ?_
    refine rd_cons ?_
    refine rd_var rfl ?_
    refine rd_cons ?_
    refine rd_c ?_
    refine rd_nil ?_
    obtain ⟨y1279, h1280, h⟩ := bnd h
    refine ⟨a1236, w1264, y1259.2, (4 : Int), rfl, (S1268.get 0 rfl), (k1266.same (S1268.hid1 0 rfl)), y1279, h1280, fun w1284 G1281 H1282 R1283 h1285 k1286 => ?_⟩
    obtain ⟨G1287, S1288, s1289, t1290, l1291⟩ := S1268.ret1 0 rfl R1283 h1285 lst_tup
    have k1286 := l1291 _ _ (k1286.imm (flat_map flI _))
    have k1266 := k1266.same s1289
    have k1286 := k1286.rp
    have S1288 : Sep [a1236] H0 G1287 H1282 [(a1236, .lst w1284)] := S1288
    refine rd_nameS (σ' := [some (.ref a1236), some (.int x_most), some (.int ((1 : Int) + y1240.1)), some (.str y1272), some (.int y1279.1), none, none, none, none]) rfl ?_
    refine rd_mk ?_
    refine rd_seq ?_
    refine rd_asg ?_
    refine rd_lstRgZ ?_
    refine rd_rg1 ?_
    refine rd_var rfl ?_
    refine ⟨_, rfl, ?_⟩
    obtain ⟨l1292, h1293, h⟩ := bnd h
    refine q_lrg h1293 ?_
    refine q_newO S1288 fun a1294 H1295 S1296 n1297 => ?_
    have f1298 : FrL H0 G1287 (l1292.map V.int) (l1292.map eI) := (ints_frl l1292)
    refine rd_nameS (σ' := [some (.ref a1236), some (.int x_most), some (.int ((1 : Int) + y1240.1)), some (.str y1272), some (.int y1279.1), some (.ref a1294), none, none, none]) rfl ?_
    refine rd_mk ?_
    refine rd_seq ?_
    refine rd_asg ?_
    refine rd_lstZ ?_
    refine rd_nil ?_
    refine q_lstO S1296 (by show 0 ≤ LIM; decide) fun a1299 H1300 S1301 n1302 => ?_
    have f1303 : FrL H0 G1287 [] (([] : (List (Int × Str))).map (eT2 eI eS)) := .nil
    refine rd_nameS (σ' := [some (.ref a1236), some (.int x_most), some (.int ((1 : Int) + y1240.1)), some (.str y1272), some (.int y1279.1), some (.ref a1294), some (.ref a1299), none, none]) rfl ?_
    refine rd_mk ?_
    refine rd_seq ?_
    refine rd_for ?_
    refine rd_iR1 ?_
    refine rd_cons ?_
    refine rd_var rfl ?_
    refine rd_nil ?_
    obtain ⟨l1304, h1305, h⟩ := bnd h
    refine q_rng1 h1305 ?_
    obtain ⟨r1330, h1331, h⟩ := bnd h
    refine q_forF h1331 (w_rng1 h1305) (fun s1307 σ' H' => ∃ (x1319 : Option V) (x1320 : Option V) (w1321 : List V) (w1323 : List V) (w1325 : List V) (G1315 : Hp), σ' = [some (.ref a1236), some (.int x_most), some (.int ((1 : Int) + y1240.1)), some (.str y1272), some (.int y1279.1), some (.ref a1294), some (.ref a1299), x1319, x1320] ∧ Sep [a1236] H0 G1315 H' [(a1299, .lst w1321), (a1294, .lst w1323), (a1236, .lst w1325)] ∧ Same G1287 G1315 ∧ FrL H0 G1315 w1321 ((s1307.1).map (eT2 eI eS)) ∧ FrL H0 G1315 w1323 ((s1307.2.1).map eI) ∧ FrL E0h G1315 w1325 ((s1307.2.2).map eI)) ?_ ?_ ?_ ?_
    · exact ⟨_, _, [], (l1292.map V.int), w1284, G1287, rfl, S1301, Same.refl _, f1303, f1298, k1286⟩
    · rintro s1307 _ H1316 ⟨x1319, x1320, w1321, w1323, w1325, G1315, rfl, S1317, sE1318, f1322, f1324, f1326⟩
      exact trivial
    · rintro i1308 a1306 s1307 s1309 x1310 _ H1316 H1311 h1312 h ⟨x1319, x1320, w1321, w1323, w1325, G1315, rfl, S1317, sE1318, f1322, f1324, f1326⟩ h1313
      obtain ⟨rfl, e1332⟩ := h1313
      cases e1332 _ h1312
      refine rd_nameS (σ' := [some (.ref a1236), some (.int x_most), some (.int ((1 : Int) + y1240.1)), some (.str y1272), some (.int y1279.1), some (.ref a1294), some (.ref a1299), some (.int a1306), x1320]) rfl ?_
      refine rd_seq ?_
      refine rd_asg ?_
      refine rd_op ?_
      refine rd_var rfl ?_
      refine rd_call ?_
      refine rd_cons ?_
      refine rd_var rfl ?_
      refine rd_cons ?_
      refine rd_cb ?_
      refine rd_cons ?_
      refine rd_var rfl ?_
      refine rd_nil ?_
      obtain ⟨y1333, h1334, h⟩ := bnd h
      refine q_lenS h1334 ?_
      refine rd_nil ?_
      obtain ⟨y1335, h1336, h⟩ := bnd h
      refine ⟨a1236, w1325, s1307.2.2, y1333, rfl, (S1317.get 2 rfl), (f1326.same (S1317.hid1 2 rfl)), y1335, h1336, fun w1340 G1337 H1338 R1339 h1341 k1342 => ?_⟩
      obtain ⟨G1343, S1344, s1345, t1346, l1347⟩ := S1317.ret1 2 rfl R1339 h1341 lst_tup
      have k1342 := l1347 _ _ (k1342.imm (flat_map flI _))
      have f1322 := f1322.same s1345
      have f1324 := f1324.same s1345
      have f1326 := f1326.same s1345
      have sE1318 := sE1318.trans s1345
      have k1342 := k1342.rp
      have S1344 : Sep [a1236] H0 G1343 H1338 [(a1299, .lst w1321), (a1294, .lst w1323), (a1236, .lst w1340)] := S1344
      obtain ⟨y1348, h1349, h⟩ := bnd h
      refine q_ixS h1349 ?_
      refine rd_nameS (σ' := [some (.ref a1236), some (.int x_most), some (.int ((1 : Int) + y1240.1)), some (.str y1272), some (.int y1279.1), some (.ref a1294), some (.ref a1299), some (.int a1306), some (.str y1348)]) rfl ?_
      refine rd_mk ?_
      obtain ⟨r1395, ho1396, h⟩ := bnd h
      refine rd_cut (fun σ' H' => ∃ (w1445 : List V) (G1441 : Hp), σ' = [some (.ref a1236), some (.int x_most), some (.int ((1 : Int) + y1240.1)), some (.str y1272), some (.int y1279.1), some (.ref a1294), some (.ref a1299), some (.int a1306), some (.str r1395.1)] ∧ Sep [a1236] H0 G1441 H' [(a1299, .lst w1321), (a1294, .lst w1323), (a1236, .lst w1445)] ∧ Same G1343 G1441 ∧ FrL E0h G1441 w1445 ((r1395.2).map eI)) ?_ ?_
      ·
        have h := ho1396
        have sE1350 := Same.refl G1343
        refine rd_ifS ?_
        obtain ⟨b1420, h1421, h⟩ := bnd h
        refine rd_ttM (fun k H' => ∃ (w1426 : List V) (G1422 : Hp), k = b1420.1 ∧ Sep [a1236] H0 G1422 H' [(a1299, .lst w1321), (a1294, .lst w1323), (a1236, .lst w1426)] ∧ Same G1343 G1422 ∧ FrL E0h G1422 w1426 ((b1420.2).map eI)) (fun R q => ?_) ?_
        ·
          have sE1397 := Same.refl G1343
          have h := h1421
          refine rd_and ?_
          refine rd_test ?_
          refine rd_op ?_
          refine rd_var rfl ?_
          refine rd_c ?_
          refine q_eqI ?_
          refine rd_bl ?_
          rcases cnd h with ⟨c1428, h⟩ | ⟨c1428, h⟩
          ·
            refine iteY c1428 ?_
            refine rd_and ?_
            refine rd_test ?_
            refine rd_op ?_
            refine rd_var rfl ?_
            refine rd_lstZ ?_
            refine rd_nil ?_
            refine q_lst (F0 := H0) (ds := []) S1344 (by show 0 ≤ LIM; decide) .nil S1344.old fun a1398 G1399 H1400 S1401 s1402 f1403 => ?_
            have f1322 := f1322.same s1402
            have f1324 := f1324.same s1402
            have k1342 := k1342.same s1402
            have sE1397 := sE1397.trans s1402
            replace f1403 : Fr H0 G1399 (.ref a1398) ((eL eA) ([] : (List PyData))) := f1403
            obtain ⟨b1404, h1405, h⟩ := bnd h
            refine q_neD (S1401.rd 0 rfl f1322) (f1403.rp.same S1401.sub) h1405 ?_
            refine rd_bl ?_
            rcases cnd h with ⟨c1429, h⟩ | ⟨c1429, h⟩
            ·
              refine iteY c1429 ?_
              refine rd_test ?_
              refine rd_op ?_
              refine rd_call ?_
              refine rd_cons ?_
              refine rd_var rfl ?_
              refine rd_cons ?_
              refine rd_c ?_
              refine rd_nil ?_
              obtain ⟨y1406, h1407, h⟩ := bnd h
              refine ⟨a1236, w1340, y1335.2, (3 : Int), rfl, (S1401.get 2 rfl), (k1342.same (S1401.hid1 2 rfl)), y1406, h1407, fun w1411 G1408 H1409 R1410 h1412 k1413 => ?_⟩
              obtain ⟨G1414, S1415, s1416, t1417, l1418⟩ := S1401.ret1 2 rfl R1410 h1412 lst_tup
              have k1413 := l1418 _ _ (k1413.imm (flat_map flI _))
              have f1322 := f1322.same s1416
              have f1324 := f1324.same s1416
              have k1342 := k1342.same s1416
              have sE1397 := sE1397.trans s1416
              have k1413 := k1413.rp
              have S1415 : Sep [a1236] H0 G1414 H1409 [(a1299, .lst w1321), (a1294, .lst w1323), (a1236, .lst w1411)] := S1415
              refine rd_c ?_
              refine rd_I0 ?_
              refine rd_bl ?_
              cases h
              exact q _ _ ⟨w1411, G1414, rfl, S1415, sE1397, k1413⟩
            ·
              refine iteN c1429 ?_
              cases h
              exact q _ _ ⟨w1340, G1399, rfl, S1401, sE1397, k1342⟩
          ·
            refine iteN c1428 ?_
            cases h
            exact q _ _ ⟨w1340, G1343, rfl, S1344, sE1397, k1342⟩
        rintro _ H1423 ⟨w1426, G1422, rfl, S1424, s1425, f1427⟩
        have f1322 := f1322.same s1425
        have f1324 := f1324.same s1425
        have sE1350 := sE1350.trans s1425
        rcases cnd h with ⟨c1440, h⟩ | ⟨c1440, h⟩
        ·
          refine iteY c1440 ?_
          refine rd_asg ?_
          refine rd_op ?_
          refine rd_op ?_
          refine rd_var rfl ?_
          refine rd_un ?_
          refine rd_c ?_
          refine rd_U ?_
          obtain ⟨y1430, h1431, h⟩ := bnd h
          refine q_ixL (S1424.get 0 rfl) f1322 h1431 fun v1432 f1433 => ?_
          obtain ⟨a1434, rfl⟩ := fr_tup f1433
          refine rd_c ?_
          obtain ⟨v1435, v1436, h1439, f1437, f1438⟩ := tu2 f1433
          cases fr_int f1437
          cases fr_str f1438
          refine rd_ixT (S1424.sub _ _ h1439) rfl ?_
          refine rd_nameS (σ' := [some (.ref a1236), some (.int x_most), some (.int ((1 : Int) + y1240.1)), some (.str y1272), some (.int y1279.1), some (.ref a1294), some (.ref a1299), some (.int a1306), some (.str y1430.2)]) rfl ?_
          cases h
          exact ⟨w1426, G1422, rfl, S1424, sE1350, f1427⟩
        ·
          refine iteN c1440 ?_
          refine rd_next ?_
          cases h
          exact ⟨w1426, G1422, rfl, S1424, sE1350, f1427⟩
      rintro _ H1442 ⟨w1445, G1441, rfl, S1443, sE1444, f1446⟩
      have f1322 := f1322.same sE1444
      have f1324 := f1324.same sE1444
      have sE1318 := sE1318.trans sE1444
      obtain ⟨r1451, ho1452, h⟩ := bnd h
      refine rd_cut (fun σ' H' => ∃  (G1456 : Hp), σ' = [some (.ref a1236), some (.int x_most), some (.int ((1 : Int) + y1240.1)), some (.str y1272), some (.int y1279.1), some (.ref a1294), some (.ref a1299), some (.int a1306), some (.str r1451)] ∧ Sep [a1236] H0 G1456 H' [(a1299, .lst w1321), (a1294, .lst w1323), (a1236, .lst w1445)] ∧ Same G1441 G1456) ?_ ?_
      ·
        have h := ho1452
        have sE1447 := Same.refl G1441
        refine rd_ifS ?_
        refine rd_test ?_
        refine rd_op ?_
        refine rd_var rfl ?_
        refine rd_c ?_
        refine q_eqI ?_
        refine rd_bl ?_
        rcases cnd h with ⟨c1455, h⟩ | ⟨c1455, h⟩
        ·
          refine iteY c1455 ?_
          refine rd_asg ?_
          refine rd_op ?_
          refine rd_var rfl ?_
          refine rd_cb ?_
          refine rd_cons ?_
          refine rd_op ?_
          refine rd_var rfl ?_
          refine rd_op ?_
          refine rd_var rfl ?_
          refine rd_c ?_
          refine rd_I0 ?_
          refine q_eqI ?_
          refine rd_nil ?_
          refine q_int1 ?_
          obtain ⟨y1453, h1454, h⟩ := bnd h
          refine q_ixS h1454 ?_
          refine rd_nameS (σ' := [some (.ref a1236), some (.int x_most), some (.int ((1 : Int) + y1240.1)), some (.str y1272), some (.int y1279.1), some (.ref a1294), some (.ref a1299), some (.int a1306), some (.str y1453)]) rfl ?_
          cases h
          exact ⟨G1441, rfl, S1443, sE1447⟩
        ·
          refine iteN c1455 ?_
          refine rd_next ?_
          cases h
          exact ⟨G1441, rfl, S1443, sE1447⟩
      rintro _ H1457 ⟨G1456, rfl, S1458, sE1459⟩
      have f1322 := f1322.same sE1459
      have f1324 := f1324.same sE1459
      have f1446 := f1446.same sE1459
      have sE1318 := sE1318.trans sE1459
      refine rd_drop ?_
      refine rd_bm ?_
      refine rd_var rfl ?_
      refine ⟨Or.inl ⟨rfl, _, SqL.of (S1458.get 0 rfl)⟩, ?_⟩
      refine rd_cons ?_
      refine rd_tupZ ?_
      refine rd_cons ?_
      refine rd_bm ?_
      refine rd_var rfl ?_
      refine ⟨Or.inl ⟨rfl, _, SqL.of (S1458.get 1 rfl)⟩, ?_⟩
      refine rd_cons ?_
      refine rd_call ?_
      refine rd_cons ?_
      refine rd_var rfl ?_
      refine rd_cons ?_
      refine rd_cb ?_
      refine rd_cons ?_
      refine rd_var rfl ?_
      refine rd_nil ?_
      refine q_len (S1458.get 1 rfl) f1324 ?_
      refine rd_nil ?_
      obtain ⟨y1460, h1461, h⟩ := bnd h
      refine ⟨a1236, w1445, r1395.2, (lenI s1307.2.1), rfl, (S1458.get 2 rfl), (f1446.same (S1458.hid1 2 rfl)), y1460, h1461, fun w1465 G1462 H1463 R1464 h1466 k1467 => ?_⟩
      obtain ⟨G1468, S1469, s1470, t1471, l1472⟩ := S1458.ret1 2 rfl R1464 h1466 lst_tup
      have k1467 := l1472 _ _ (k1467.imm (flat_map flI _))
      have f1322 := f1322.same s1470
      have f1324 := f1324.same s1470
      have f1446 := f1446.same s1470
      have sE1318 := sE1318.trans s1470
      have k1467 := k1467.rp
      have S1469 : Sep [a1236] H0 G1468 H1463 [(a1299, .lst w1321), (a1294, .lst w1323), (a1236, .lst w1465)] := S1469
      refine rd_nil ?_
      obtain ⟨y1473, h1474, h⟩ := bnd h
      refine q_popAt (x := y1473.1) (r := y1473.2) S1469 1 rfl f1324 h1474 fun v1475 w1476 H1477 S1478 f1479 f1480 => ?_
      have S1478 : Sep [a1236] H0 G1468 H1477 [(a1299, .lst w1321), (a1294, .lst w1476), (a1236, .lst w1465)] := S1478
      cases fr_int f1480
      refine rd_cons ?_
      refine rd_var rfl ?_
      refine rd_nil ?_
      refine q_tup (F0 := H0) (ds := [eI y1473.1, eS r1451]) S1478 (by show 2 ≤ LIM; decide) (.cons (.int _) (.cons (.str _) .nil)) fun a1481 G1482 H1483 S1484 s1485 f1486 => ?_
      have f1322 := f1322.same s1485
      have f1479 := f1479.same s1485
      have k1467 := k1467.same s1485
      have sE1318 := sE1318.trans s1485
      replace f1486 : Fr H0 G1482 (.ref a1481) ((eT2 eI eS) (y1473.1, r1451)) := f1486
      refine rd_nil ?_
      obtain ⟨l1487, h1488, h⟩ := bnd h
      refine q_app S1484 0 rfl f1322 f1486 h1488 fun w1489 H1490 S1491 f1492 => ?_
      have S1491 : Sep [a1236] H0 G1482 H1490 [(a1299, .lst w1489), (a1294, .lst w1476), (a1236, .lst w1465)] := S1491
      cases h
      exact ⟨_, _, w1489, w1476, w1465, G1482, rfl, S1491, sE1318, f1492, f1479, k1467⟩
    rintro _ H1494 ⟨x1497, x1498, w1499, w1501, w1503, G1493, rfl, S1495, sE1496, f1500, f1502, f1504⟩
    refine rd_mk ?_
    refine rd_ret ?_
    refine rd_var rfl ?_
    obtain ⟨G1505, S1506, s1507, f1508⟩ := S1495.fixL 0 rfl (S1495.notms n1302) f1500 n1302
    have f1502 := f1502.same s1507
    have f1504 := f1504.same s1507
    cases h
    exact kq a1299 w1503 _ _ S1506.toRet (S1506.get 1 rfl) f1504 f1508
end
end K74

namespace K74
open PySem L2 LX LQ
section
variable {P : Program} {w : World} {K : PySem.W.Frag} {mg : Str → Option Value} {base : Heap} {a : Ad}
open LQF
def sp__law_calls (K : PySem.W.Frag) : Sp := fun vs H Q _ => ∃ (a1509 : Addr) (w1510 : List V) (x_bag : (List Int)) (x_size : Int) (x_most : Int), vs = [.ref a1509, (.int x_size), (.int x_most)] ∧ H a1509 = some (.lst w1510) ∧ FrL E0h (hid H [a1509]) w1510 (x_bag.map eI) ∧ ∃ r, F__law_calls x_bag x_size x_most = some r ∧ ∀ (a : Addr) (u0 : List V) (G H' : Hp), Ret [a1509] H G H' → H' a1509 = some (.lst u0) → FrL E0h G u0 ((r.2).map eI) → Fr H G (.ref a) ((eL eI) (r.1)) → Q (.ref a) H'
theorem ok__law_calls (T : Txt K mg a) : FnOk P w K mg base CX0 2 a.f__law_calls a.d__law_calls ["bag", "size", "most"] (sp__law_calls K) := by
  refine T.F__law_calls.ok sc__law_calls (fun vs H Q E h => ?_) (fun cdv A outer s H0 vs Q E hr h => ?_)
  · obtain ⟨a1509, w1510, x_bag, x_size, x_most, rfl, _⟩ := h
    rfl
  · obtain ⟨a1509, w1510, x_bag, x_size, x_most, rfl, h1511, f1512, r, h, kq⟩ := h
    have nd := sc__law_calls.nd
    have hu64 := hr.units
    refine ⟨_, (pss_cons (ps_set (i := 3) nd rfl (Or.inl rfl) (pe_call (ok__law_draw T) (hr.mono (by decide)) rfl T.g__law_draw T.k__law_draw T.n__law_draw .nil pass0 (pa_cons (pv 0) (pa_cons pe_int pa_nil))))
      (pss_cons (ps_set (i := 4) nd rfl (Or.inl rfl) (pe_ix (kix_list (K := K)) (pe_lst (pa_cons (pv 1) (pa_cons (pe_callB (kmin2 rfl) (by rfl) T.b_min (by decide +kernel) (pa_cons (pv 1) (pa_cons pe_int pa_nil))) (pa_cons (pv 1) (pa_cons (pv 1) pa_nil))))) (pv 3) (fun _ _ => rfl)))
      (pss_cons (ps_set (i := 5) nd rfl (Or.inl rfl) (pe_call (ok__law_draw T) (hr.mono (by decide)) rfl T.g__law_draw T.k__law_draw T.n__law_draw .nil pass0 (pa_cons (pv 0) (pa_cons (pv 1) pa_nil))))
      (pss_cons (ps_set (i := 6) nd rfl (Or.inl rfl) (pe_lst pa_nil))
      (pss_cons (ps_for PassesOwn.never rfl (pi_range1 rfl T.b_range (pa_cons (pe_call (ok__law_draw T) (hr.mono (by decide)) rfl T.g__law_draw T.k__law_draw T.n__law_draw .nil pass0 (pa_cons (pv 0) (pa_cons (pe_op op_add (pv 2) pe_int) pa_nil))) pa_nil)) (pg_name (i := 7) nd rfl (Or.inl rfl)) (pss_cons (ps_set (i := 8) nd rfl (Or.inl rfl) (pe_op op_mod (pe_op op_add (pv 5) (pe_ix (kix_list (K := K)) (pe_lst (pa_cons (pe_call (ok__law_draw T) (hr.mono (by decide)) rfl T.g__law_draw T.k__law_draw T.n__law_draw .nil pass0 (pa_cons (pv 0) (pa_cons (pv 4) pa_nil))) (pa_cons (pv 7) pa_nil))) (pe_callTy kint1 (by rfl) T.b_int (by decide +kernel) (pa_cons (pe_cmpR op_eq (pv 3) pe_int (nomark _)) pa_nil)) (fun _ _ => rfl))) (pv 1)))
      (pss_one (ps_expr (kbm (K := K) PySem.F.plainAttrs_list PySem.F.slot_list_extend PySem.F.type_list_extend mt_extend (pv 6) (pa_cons (pe_op op_rep (pe_lst (pa_cons (pv 8) pa_nil)) (pe_op op_add pe_int (pe_op op_mulW (pe_ix (kix_list (K := K)) (pe_lst (pa_cons pe_int (pa_cons pe_int (pa_cons pe_int (pa_cons pe_int pa_nil))))) (pe_call (ok__law_draw T) (hr.mono (by decide)) rfl T.g__law_draw T.k__law_draw T.n__law_draw .nil pass0 (pa_cons (pv 0) (pa_cons pe_int pa_nil))) (fun _ _ => rfl)) (pe_callTy kint1 (by rfl) T.b_int (by decide +kernel) (pa_cons (pe_cmpR op_eq (pv 3) pe_int (nomark _)) pa_nil))))) pa_nil))))))
      (pss_one (ps_ret (pe_slice (ksl_list (K := K)) (pv 6) po_none (po_some (pv 2)))))))))), ?_⟩
    unfold F__law_calls at h
    have S0 := Sep.start1 h1511
    refine rd_seq ?_
    refine rd_asg ?_
    refine rd_call ?_
    refine rd_cons ?_
    refine rd_var rfl ?_
    refine rd_cons ?_
    refine rd_c ?_
    refine rd_nil ?_
    obtain ⟨y1513, h1514, h⟩ := bnd h
    refine ⟨a1509, w1510, x_bag, (4 : Int), rfl, (S0.get 0 rfl), (f1512.same (S0.hid1 0 rfl)), y1513, h1514, fun w1518 G1515 H1516 R1517 h1519 k1520 => ?_⟩
    obtain ⟨G1521, S1522, s1523, t1524, l1525⟩ := S0.ret1 0 rfl R1517 h1519 lst_tup
    have k1520 := l1525 _ _ (k1520.imm (flat_map flI _))
    have f1512 := f1512.same s1523
    have k1520 := k1520.rp
    have S1522 : Sep [a1509] H0 G1521 H1516 [(a1509, .lst w1518)] := S1522
    refine rd_nameS (σ' := [some (.ref a1509), some (.int x_size), some (.int x_most), some (.int y1513.1), none, none, none, none, none]) rfl ?_
    refine rd_mk ?_
    refine rd_seq ?_
    refine rd_asg ?_
    refine rd_op ?_
    refine rd_lstZ ?_
    refine rd_cons ?_
    refine rd_var rfl ?_
    refine rd_cons ?_
    refine rd_cb ?_
    refine rd_cons ?_
    refine rd_var rfl ?_
    refine rd_cons ?_
    refine rd_c ?_
    refine rd_nil ?_
    refine q_min2 ?_
    refine rd_cons ?_
    refine rd_var rfl ?_
    refine rd_cons ?_
    refine rd_var rfl ?_
    refine rd_nil ?_
    refine q_lst (F0 := H0) (ds := [eI x_size, eI (minI x_size (3 : Int)), eI x_size, eI x_size]) S1522 (by show 4 ≤ LIM; decide) (.cons (.int _) (.cons (.int _) (.cons (.int _) (.cons (.int _) .nil)))) S1522.old fun a1526 G1527 H1528 S1529 s1530 f1531 => ?_
    have k1520 := k1520.same s1530
    replace f1531 : Fr H0 G1527 (.ref a1526) ((eL eI) [x_size, (minI x_size (3 : Int)), x_size, x_size]) := f1531
    refine rd_var rfl ?_
    obtain ⟨y1532, h1533, h⟩ := bnd h
    obtain ⟨w1534, h1535, k1536⟩ := li f1531
    refine q_ixL (S1529.sub _ _ h1535) k1536 h1533 fun v1537 f1538 => ?_
    cases fr_int f1538
    refine rd_nameS (σ' := [some (.ref a1509), some (.int x_size), some (.int x_most), some (.int y1513.1), some (.int y1532), none, none, none, none]) rfl ?_
    refine rd_mk ?_
    refine rd_seq ?_
    refine rd_asg ?_
    refine rd_call ?_
    refine rd_cons ?_
    refine rd_var rfl ?_
    refine rd_cons ?_
    refine rd_var rfl ?_
    refine rd_nil ?_
    obtain ⟨y1539, h1540, h⟩ := bnd h
    refine ⟨a1509, w1518, y1513.2, x_size, rfl, (S1529.get 0 rfl), (k1520.same (S1529.hid1 0 rfl)), y1539, h1540, fun w1544 G1541 H1542 R1543 h1545 k1546 => ?_⟩
    obtain ⟨G1547, S1548, s1549, t1550, l1551⟩ := S1529.ret1 0 rfl R1543 h1545 lst_tup
    have k1546 := l1551 _ _ (k1546.imm (flat_map flI _))
    have k1520 := k1520.same s1549
    have k1546 := k1546.rp
    have S1548 : Sep [a1509] H0 G1547 H1542 [(a1509, .lst w1544)] := S1548
    refine rd_nameS (σ' := [some (.ref a1509), some (.int x_size), some (.int x_most), some (.int y1513.1), some (.int y1532), some (.int y1539.1), none, none, none]) rfl ?_
    refine rd_mk ?_
    refine rd_seq ?_
    refine rd_asg ?_
    refine rd_lstZ ?_
    refine rd_nil ?_
    refine q_lstO S1548 (by show 0 ≤ LIM; decide) fun a1552 H1553 S1554 n1555 => ?_
    have f1556 : FrL H0 G1547 [] (([] : (List Int)).map eI) := .nil
    refine rd_nameS (σ' := [some (.ref a1509), some (.int x_size), some (.int x_most), some (.int y1513.1), some (.int y1532), some (.int y1539.1), some (.ref a1552), none, none]) rfl ?_
    refine rd_mk ?_
    refine rd_seq ?_
    refine rd_for ?_
    refine rd_iR1 ?_
    refine rd_cons ?_
    refine rd_call ?_
    refine rd_cons ?_
    refine rd_var rfl ?_
    refine rd_cons ?_
    refine rd_op ?_
    refine rd_var rfl ?_
    refine rd_c ?_
    refine rd_I0 ?_
    refine rd_nil ?_
    obtain ⟨y1557, h1558, h⟩ := bnd h
    refine ⟨a1509, w1544, y1539.2, (x_most + (1 : Int)), rfl, (S1554.get 1 rfl), (k1546.same (S1554.hid1 1 rfl)), y1557, h1558, fun w1562 G1559 H1560 R1561 h1563 k1564 => ?_⟩
    obtain ⟨G1565, S1566, s1567, t1568, l1569⟩ := S1554.ret1 1 rfl R1561 h1563 lst_tup
    have k1564 := l1569 _ _ (k1564.imm (flat_map flI _))
    have f1556 := f1556.same s1567
    have k1546 := k1546.same s1567
    have k1564 := k1564.rp
    have S1566 : Sep [a1509] H0 G1565 H1560 [(a1552, .lst []), (a1509, .lst w1562)] := S1566
    refine rd_nil ?_
    obtain ⟨l1570, h1571, h⟩ := bnd h
    refine q_rng1 h1571 ?_
    obtain ⟨r1594, h1595, h⟩ := bnd h
    refine q_forF h1595 (w_rng1 h1571) (fun s1573 σ' H' => ∃ (x1585 : Option V) (x1586 : Option V) (w1587 : List V) (w1589 : List V) (G1581 : Hp), σ' = [some (.ref a1509), some (.int x_size), some (.int x_most), some (.int y1513.1), some (.int y1532), some (.int y1539.1), some (.ref a1552), x1585, x1586] ∧ Sep [a1509] H0 G1581 H' [(a1552, .lst w1587), (a1509, .lst w1589)] ∧ Same G1565 G1581 ∧ FrL H0 G1581 w1587 ((s1573.1).map eI) ∧ FrL E0h G1581 w1589 ((s1573.2).map eI)) ?_ ?_ ?_ ?_
    · exact ⟨_, _, [], w1562, G1565, rfl, S1566, Same.refl _, f1556, k1564⟩
    · rintro s1573 _ H1582 ⟨x1585, x1586, w1587, w1589, G1581, rfl, S1583, sE1584, f1588, f1590⟩
      exact trivial
    · rintro i1574 a1572 s1573 s1575 x1576 _ H1582 H1577 h1578 h ⟨x1585, x1586, w1587, w1589, G1581, rfl, S1583, sE1584, f1588, f1590⟩ h1579
      obtain ⟨rfl, e1596⟩ := h1579
      cases e1596 _ h1578
      refine rd_nameS (σ' := [some (.ref a1509), some (.int x_size), some (.int x_most), some (.int y1513.1), some (.int y1532), some (.int y1539.1), some (.ref a1552), some (.int a1572), x1586]) rfl ?_
      refine rd_seq ?_
      refine rd_asg ?_
      refine rd_op ?_
      refine rd_op ?_
      refine rd_var rfl ?_
      refine rd_op ?_
      refine rd_lstZ ?_
      refine rd_cons ?_
      refine rd_call ?_
      refine rd_cons ?_
      refine rd_var rfl ?_
      refine rd_cons ?_
      refine rd_var rfl ?_
      refine rd_nil ?_
      obtain ⟨y1597, h1598, h⟩ := bnd h
      refine ⟨a1509, w1589, s1573.2, y1532, rfl, (S1583.get 1 rfl), (f1590.same (S1583.hid1 1 rfl)), y1597, h1598, fun w1602 G1599 H1600 R1601 h1603 k1604 => ?_⟩
      obtain ⟨G1605, S1606, s1607, t1608, l1609⟩ := S1583.ret1 1 rfl R1601 h1603 lst_tup
      have k1604 := l1609 _ _ (k1604.imm (flat_map flI _))
      have f1588 := f1588.same s1607
      have f1590 := f1590.same s1607
      have sE1584 := sE1584.trans s1607
      have k1604 := k1604.rp
      have S1606 : Sep [a1509] H0 G1605 H1600 [(a1552, .lst w1587), (a1509, .lst w1602)] := S1606
      refine rd_cons ?_
      refine rd_var rfl ?_
      refine rd_nil ?_
      refine q_lst (F0 := H0) (ds := [eI y1597.1, eI a1572]) S1606 (by show 2 ≤ LIM; decide) (.cons (.int _) (.cons (.int _) .nil)) S1606.old fun a1610 G1611 H1612 S1613 s1614 f1615 => ?_
      have f1588 := f1588.same s1614
      have k1604 := k1604.same s1614
      have sE1584 := sE1584.trans s1614
      replace f1615 : Fr H0 G1611 (.ref a1610) ((eL eI) [y1597.1, a1572]) := f1615
      refine rd_cb ?_
      refine rd_cons ?_
      refine rd_op ?_
      refine rd_var rfl ?_
      refine rd_c ?_
      refine q_eqI ?_
      refine rd_nil ?_
      refine q_int1 ?_
      obtain ⟨y1616, h1617, h⟩ := bnd h
      obtain ⟨w1618, h1619, k1620⟩ := li f1615
      refine q_ixL (S1613.sub _ _ h1619) k1620 h1617 fun v1621 f1622 => ?_
      cases fr_int f1622
      refine rd_I0 ?_
      refine rd_var rfl ?_
      obtain ⟨y1623, h1624, h⟩ := bnd h
      refine q_mod h1624 ?_
      refine rd_nameS (σ' := [some (.ref a1509), some (.int x_size), some (.int x_most), some (.int y1513.1), some (.int y1532), some (.int y1539.1), some (.ref a1552), some (.int a1572), some (.int y1623)]) rfl ?_
      refine rd_mk ?_
      refine rd_drop ?_
      refine rd_bm ?_
      refine rd_var rfl ?_
      refine ⟨Or.inl ⟨rfl, _, SqL.of (S1613.get 0 rfl)⟩, ?_⟩
      refine rd_cons ?_
      refine rd_op ?_
      refine rd_lstZ ?_
      refine rd_cons ?_
      refine rd_var rfl ?_
      refine rd_nil ?_
      refine q_lst (F0 := H0) (ds := [eI y1623]) S1613 (by show 1 ≤ LIM; decide) (.cons (.int _) .nil) S1613.old fun a1625 G1626 H1627 S1628 s1629 f1630 => ?_
      have f1588 := f1588.same s1629
      have k1604 := k1604.same s1629
      have sE1584 := sE1584.trans s1629
      replace f1630 : Fr H0 G1626 (.ref a1625) ((eL eI) [y1623]) := f1630
      refine rd_op ?_
      refine rd_c ?_
      refine rd_op ?_
      refine rd_op ?_
      refine rd_lstZ ?_
      refine rd_cons ?_
      refine rd_c ?_
      refine rd_cons ?_
      refine rd_c ?_
      refine rd_cons ?_
      refine rd_c ?_
      refine rd_cons ?_
      refine rd_c ?_
      refine rd_nil ?_
      refine q_lst (F0 := H0) (ds := [eI (0 : Int), eI (0 : Int), eI (1 : Int), eI (2 : Int)]) S1628 (by show 4 ≤ LIM; decide) (.cons (.int _) (.cons (.int _) (.cons (.int _) (.cons (.int _) .nil)))) S1628.old fun a1631 G1632 H1633 S1634 s1635 f1636 => ?_
      have f1630 := f1630.same s1635
      have f1588 := f1588.same s1635
      have k1604 := k1604.same s1635
      have sE1584 := sE1584.trans s1635
      replace f1636 : Fr H0 G1632 (.ref a1631) ((eL eI) [(0 : Int), (0 : Int), (1 : Int), (2 : Int)]) := f1636
      refine rd_call ?_
      refine rd_cons ?_
      refine rd_var rfl ?_
      refine rd_cons ?_
      refine rd_c ?_
      refine rd_nil ?_
      obtain ⟨y1637, h1638, h⟩ := bnd h
      refine ⟨a1509, w1602, y1597.2, (4 : Int), rfl, (S1634.get 1 rfl), (k1604.same (S1634.hid1 1 rfl)), y1637, h1638, fun w1642 G1639 H1640 R1641 h1643 k1644 => ?_⟩
      obtain ⟨G1645, S1646, s1647, t1648, l1649⟩ := S1634.ret1 1 rfl R1641 h1643 lst_tup
      have k1644 := l1649 _ _ (k1644.imm (flat_map flI _))
      have f1630 := f1630.same s1647
      have f1636 := f1636.same s1647
      have f1588 := f1588.same s1647
      have k1604 := k1604.same s1647
      have sE1584 := sE1584.trans s1647
      have k1644 := k1644.rp
      have S1646 : Sep [a1509] H0 G1645 H1640 [(a1552, .lst w1587), (a1509, .lst w1642)] := S1646
      obtain ⟨y1650, h1651, h⟩ := bnd h
      obtain ⟨w1652, h1653, k1654⟩ := li f1636
      refine q_ixL (S1646.sub _ _ h1653) k1654 h1651 fun v1655 f1656 => ?_
      cases fr_int f1656
      refine rd_cb ?_
      refine rd_cons ?_
      refine rd_op ?_
      refine rd_var rfl ?_
      refine rd_c ?_
      refine q_eqI ?_
      refine rd_nil ?_
      refine q_int1 ?_
      obtain ⟨y1657, h1658, h⟩ := bnd h
      refine q_mulW h1658 ?_
      refine rd_I0 ?_
      obtain ⟨y1659, h1660, h⟩ := bnd h
      obtain ⟨w1661, h1662, k1663⟩ := li f1630
      refine q_rep S1646 (S1646.sub _ _ h1662) k1663 h1660 S1646.old fun a1664 G1667 H1665 S1666 s1668 f1669 => ?_
      have f1588 := f1588.same s1668
      have k1644 := k1644.same s1668
      have sE1584 := sE1584.trans s1668
      refine rd_nil ?_
      obtain ⟨w1670, h1671, k1672⟩ := li f1669
      obtain ⟨l1673, h1674, h⟩ := bnd h
      refine q_ext S1666 0 rfl f1588 (S1666.sub _ _ h1671) k1672 h1674 fun w1675 H1676 S1677 f1678 => ?_
      have S1677 : Sep [a1509] H0 G1667 H1676 [(a1552, .lst w1675), (a1509, .lst w1642)] := S1677
      cases h
      exact ⟨_, _, w1675, w1642, G1667, rfl, S1677, sE1584, f1678, k1644⟩
    rintro _ H1680 ⟨x1683, x1684, w1685, w1687, G1679, rfl, S1681, sE1682, f1686, f1688⟩
    refine rd_mk ?_
    refine rd_ret ?_
    refine rd_sl ?_
    refine rd_var rfl ?_
    refine rd_nopart ?_
    refine rd_part ?_
    refine rd_var rfl ?_
    refine rd_int ?_
    refine q_slL S1681 (S1681.get 0 rfl) f1686 S1681.old fun a1689 G1692 H1690 S1691 s1693 f1694 => ?_
    have f1686 := f1686.same s1693
    have f1688 := f1688.same s1693
    cases h
    exact kq a1689 w1687 _ _ S1691.toRet (S1691.get 1 rfl) f1688 f1694
end
end K74

namespace K74
open PySem L2 LX LQ
section
variable {P : Program} {w : World} {K : PySem.W.Frag} {mg : Str → Option Value} {base : Heap} {a : Ad}
open LQF
def sp_is_integer (K : PySem.W.Frag) : Sp := fun vs H Q _ => ∃ (x_value : Int), vs = [(.int x_value)] ∧ ∃ r, F_is_integer x_value = some r ∧ ∀ (G H' : Hp), Ret [] H G H' → Q (.bl (r)) H'
theorem ok_is_integer (T : Txt K mg a) : FnOk P w K mg base CX0 1 a.f_is_integer a.d_is_integer ["value"] (sp_is_integer K) := by
  refine T.F_is_integer.ok sc_is_integer (fun vs H Q E h => ?_) (fun cdv A outer s H0 vs Q E hr h => ?_)
  · obtain ⟨x_value, rfl, _⟩ := h
    rfl
  · obtain ⟨x_value, rfl, r, h, kq⟩ := h
    have nd := sc_is_integer.nd
    have hu64 := hr.units
    refine ⟨_, (pss_one (ps_ret (pe_and (pe_callB (kisi (K := K)) (by rfl) T.b_isinstance (by decide +kernel) (pa_cons (pv 0) (pa_cons (pe_bltn (v := .ty "int") (by rfl) T.b_int (by decide +kernel) rfl) pa_nil))) (pe_one (pe_not (pe_callB (kisi (K := K)) (by rfl) T.b_isinstance (by decide +kernel) (pa_cons (pv 0) (pa_cons (pe_bltn (v := .ty "bool") (by rfl) T.b_bool (by decide +kernel) rfl) pa_nil)))))))), ?_⟩
    unfold F_is_integer at h
    have S0 := Sep.start H0
    refine rd_ret ?_
    refine rd_teM2 (fun k H' => k = .bl (true && (!false)) ∧ H0 = H') (fun R q => ?_) ?_
    ·
      refine rd_andV ?_
      refine rd_cb ?_
      refine rd_cons ?_
      refine rd_var rfl ?_
      refine rd_cons ?_
      refine rd_c ?_
      refine rd_nil ?_
      refine rd_isi (.ty "int") (.base (.int _)) (kit_ty (r := true) (by decide +kernel)) ?_
      refine ⟨_, rfl, ?_⟩
      refine ite_by (fun c1697 => ?_) (fun c1697 => ?_)
      ·
        refine rd_notV ?_
        refine rd_cb ?_
        refine rd_cons ?_
        refine rd_var rfl ?_
        refine rd_cons ?_
        refine rd_c ?_
        refine rd_nil ?_
        refine rd_isi (.ty "bool") (.base (.int _)) (kit_ty (r := false) (by decide +kernel)) ?_
        refine rd_bl ?_
        exact q _ _ ⟨(congrArg V.bl (andT c1697 rfl)), rfl⟩
      ·
        exact q _ _ ⟨(congrArg V.bl (andF c1697)), rfl⟩
    rintro _ _ ⟨rfl, rfl⟩
    cases h
    exact kq _ _ S0.toRet
end
end K74

namespace K74
open PySem L2 LX LQ
section
variable {P : Program} {w : World} {K : PySem.W.Frag} {mg : Str → Option Value} {base : Heap} {a : Ad}
open LQF
def sp_is_color (K : PySem.W.Frag) : Sp := fun vs H Q _ => ∃ (x_value : Str), vs = [(.str x_value)] ∧ ∃ r, F_is_color x_value = some r ∧ ∀ (G H' : Hp), Ret [] H G H' → Q (.bl (r)) H'
theorem ok_is_color (T : Txt K mg a) : FnOk P w K mg base CX0 1 a.f_is_color a.d_is_color ["value"] (sp_is_color K) := by
  refine T.F_is_color.ok sc_is_color (fun vs H Q E h => ?_) (fun cdv A outer s H0 vs Q E hr h => ?_)
  · obtain ⟨x_value, rfl, _⟩ := h
    rfl
  · obtain ⟨x_value, rfl, r, h, kq⟩ := h
    have nd := sc_is_color.nd
    have hu64 := hr.units
    refine ⟨_, (pss_one (ps_ret (pe_and (pe_cmpR op_isTyB (pe_typeOf rfl T.b_type (pv 0)) (pe_bltn (v := .ty "str") (by rfl) T.b_str (by decide +kernel) rfl) (nomark _)) (pe_and (pe_cmpR op_eq (pe_callB klenS (by rfl) T.b_len (by decide +kernel) (pa_cons (pv 0) pa_nil)) pe_int (nomark _)) (pe_one (pe_chain op_le_str op_le_str pe_str (pv 0) pe_str)))))), ?_⟩
    unfold F_is_color at h
    have S0 := Sep.start H0
    refine rd_ret ?_
    obtain ⟨b1705, h1706, h⟩ := bnd h
    refine rd_teM2 (fun k H' => ∃  (G1707 : Hp), k = .bl b1705 ∧ Sep [] H0 G1707 H' [] ∧ Same H0 G1707) (fun R q => ?_) ?_
    ·
      have sE1698 := Same.refl H0
      have h := h1706
      refine rd_andV ?_
      refine rd_op ?_
      refine rd_cb ?_
      refine rd_cons ?_
      refine rd_var rfl ?_
      refine rd_nil ?_
      refine rd_typ (n := "str") rfl ?_
      refine rd_c ?_
      refine rd_2ty ?_
      refine ⟨_, rfl, ?_⟩
      rcases cnd h with ⟨c1711, h⟩ | ⟨c1711, h⟩
      ·
        refine iteY c1711 ?_
        refine rd_andV ?_
        refine rd_op ?_
        refine rd_cb ?_
        refine rd_cons ?_
        refine rd_var rfl ?_
        refine rd_nil ?_
        obtain ⟨y1699, h1700, h⟩ := bnd h
        refine q_lenS h1700 ?_
        refine rd_c ?_
        refine q_eqI ?_
        refine ⟨_, rfl, ?_⟩
        rcases cnd h with ⟨c1712, h⟩ | ⟨c1712, h⟩
        ·
          refine iteY c1712 ?_
          refine rd_teM2 (fun k H' => k = .bl ((!ltS x_value (Str.ofString "a")) && (!ltS (Str.ofString "z") x_value)) ∧ H0 = H') (fun R q => ?_) ?_
          ·
            refine rd_chain ?_
            refine rd_c ?_
            refine rd_var rfl ?_
            refine rd_2s ?_
            refine rd_bl ?_
            refine ite_by (fun c1703 => ?_) (fun c1703 => ?_)
            ·
              refine rd_c ?_
              refine rd_2s ?_
              exact q _ _ ⟨(congrArg V.bl (andT c1703 rfl)), rfl⟩
            ·
              exact q _ _ ⟨(congrArg V.bl (andF c1703)), rfl⟩
          rintro _ _ ⟨rfl, rfl⟩
          cases h
          exact q _ _ ⟨H0, rfl, S0, sE1698⟩
        ·
          refine iteN c1712 ?_
          cases h
          exact q _ _ ⟨H0, rfl, S0, sE1698⟩
      ·
        refine iteN c1711 ?_
        cases h
        exact q _ _ ⟨H0, rfl, S0, sE1698⟩
    rintro _ H1708 ⟨G1707, rfl, S1709, s1710⟩
    cases h
    exact kq _ _ S1709.toRet
end
end K74

namespace K74
open PySem L2 LX LQ
section
variable {P : Program} {w : World} {K : PySem.W.Frag} {mg : Str → Option Value} {base : Heap} {a : Ad}
open LQF
def sp_is_colored_integer (K : PySem.W.Frag) : Sp := fun vs H Q _ => ∃ (a1713 : Addr) (x_value : (Int × Str)), vs = [.ref a1713] ∧ Fr E0h H (.ref a1713) ((eT2 eI eS) x_value) ∧ ∃ r, F_is_colored_integer x_value = some r ∧ ∀ (G H' : Hp), Ret [] H G H' → Q (.bl (r)) H'
theorem ok_is_colored_integer (T : Txt K mg a) : FnOk P w K mg base CX0 2 a.f_is_colored_integer a.d_is_colored_integer ["value"] (sp_is_colored_integer K) := by
  refine T.F_is_colored_integer.ok sc_is_colored_integer (fun vs H Q E h => ?_) (fun cdv A outer s H0 vs Q E hr h => ?_)
  · obtain ⟨a1713, x_value, rfl, _⟩ := h
    rfl
  · obtain ⟨a1713, x_value, rfl, f1714, r, h, kq⟩ := h
    have nd := sc_is_colored_integer.nd
    have hu64 := hr.units
    refine ⟨_, (pss_one (ps_ret (pe_and (pe_cmpR op_isTyB (pe_typeOf rfl T.b_type (pv 0)) (pe_bltn (v := .ty "tuple") (by rfl) T.b_tuple (by decide +kernel) rfl) (nomark _)) (pe_and (pe_cmpR op_eq (pe_callB (klen (K := K)) (by rfl) T.b_len (by decide +kernel) (pa_cons (pv 0) pa_nil)) pe_int (nomark _)) (pe_and (pe_call (ok_is_integer T) (hr.mono (by decide)) rfl T.g_is_integer T.k_is_integer T.n_is_integer .nil pass0 (pa_cons (pe_ix (kix_tup (K := K)) (pv 0) pe_int (fun _ _ => rfl)) pa_nil)) (pe_one (pe_call (ok_is_color T) (hr.mono (by decide)) rfl T.g_is_color T.k_is_color T.n_is_color .nil pass0 (pa_cons (pe_ix (kix_tup (K := K)) (pv 0) pe_int (fun _ _ => rfl)) pa_nil)))))))), ?_⟩
    unfold F_is_colored_integer at h
    have S0 := Sep.start H0
    refine rd_ret ?_
    obtain ⟨b1755, h1756, h⟩ := bnd h
    refine rd_teM2 (fun k H' => ∃  (G1757 : Hp), k = .bl b1755 ∧ Sep [] H0 G1757 H' [] ∧ Same H0 G1757) (fun R q => ?_) ?_
    ·
      have sE1715 := Same.refl H0
      have h := h1756
      refine rd_andV ?_
      refine rd_op ?_
      refine rd_cb ?_
      refine rd_cons ?_
      refine rd_var rfl ?_
      refine rd_nil ?_
      obtain ⟨_, h1716, _⟩ := tu f1714
      refine rd_tyT (S0.sub _ _ h1716) ?_
      refine rd_c ?_
      refine rd_2ty ?_
      refine ⟨_, rfl, ?_⟩
      rcases cnd h with ⟨c1761, h⟩ | ⟨c1761, h⟩
      ·
        refine iteY c1761 ?_
        refine rd_andV ?_
        refine rd_op ?_
        refine rd_cb ?_
        refine rd_cons ?_
        refine rd_var rfl ?_
        refine rd_nil ?_
        obtain ⟨v1719, v1720, h1723, f1721, f1722⟩ := tu2 f1714
        cases fr_int f1721
        cases fr_str f1722
        refine rd_lenT (S0.sub _ _ h1723) ?_
        refine rd_c ?_
        refine q_eqI ?_
        refine ⟨_, rfl, ?_⟩
        rcases cnd h with ⟨c1762, h⟩ | ⟨c1762, h⟩
        ·
          refine iteY c1762 ?_
          refine rd_andV ?_
          refine rd_call ?_
          refine rd_cons ?_
          refine rd_op ?_
          refine rd_var rfl ?_
          refine rd_c ?_
          obtain ⟨v1724, v1725, h1728, f1726, f1727⟩ := tu2 f1714
          cases fr_int f1726
          cases fr_str f1727
          refine rd_ixT (S0.sub _ _ h1728) rfl ?_
          refine rd_nil ?_
          obtain ⟨y1729, h1730, h⟩ := bnd h
          refine ⟨x_value.1, rfl, y1729, h1730, fun G1731 H1732 R1733 => ?_⟩
          obtain ⟨G1734, S1735, s1736, t1737, l1738⟩ := S0.ret0 R1733
          have f1714 := f1714.same s1736
          have sE1715 := sE1715.trans s1736
          refine ⟨_, rfl, ?_⟩
          rcases cnd h with ⟨c1763, h⟩ | ⟨c1763, h⟩
          ·
            refine iteY c1763 ?_
            refine rd_call ?_
            refine rd_cons ?_
            refine rd_op ?_
            refine rd_var rfl ?_
            refine rd_c ?_
            obtain ⟨v1739, v1740, h1743, f1741, f1742⟩ := tu2 f1714
            cases fr_int f1741
            cases fr_str f1742
            refine rd_ixT (S1735.sub _ _ h1743) rfl ?_
            refine rd_nil ?_
            obtain ⟨y1744, h1745, h⟩ := bnd h
            refine ⟨x_value.2, rfl, y1744, h1745, fun G1746 H1747 R1748 => ?_⟩
            obtain ⟨G1749, S1750, s1751, t1752, l1753⟩ := S1735.ret0 R1748
            have f1714 := f1714.same s1751
            have sE1715 := sE1715.trans s1751
            cases h
            exact q _ _ ⟨G1749, rfl, S1750, sE1715⟩
          ·
            refine iteN c1763 ?_
            cases h
            exact q _ _ ⟨G1734, rfl, S1735, sE1715⟩
        ·
          refine iteN c1762 ?_
          cases h
          exact q _ _ ⟨H0, rfl, S0, sE1715⟩
      ·
        refine iteN c1761 ?_
        cases h
        exact q _ _ ⟨H0, rfl, S0, sE1715⟩
    rintro _ H1758 ⟨G1757, rfl, S1759, s1760⟩
    have f1714 := f1714.same s1760
    cases h
    exact kq _ _ S1759.toRet
end
end K74

namespace K74
open PySem L2 LX LQ
section
variable {P : Program} {w : World} {K : PySem.W.Frag} {mg : Str → Option Value} {base : Heap} {a : Ad}
open LQF
def sp_is_lineup (K : PySem.W.Frag) : Sp := fun vs H Q _ => ∃ (a1764 : Addr) (x_value : (List (Int × Str))), vs = [.ref a1764] ∧ Fr E0h H (.ref a1764) ((eL (eT2 eI eS)) x_value) ∧ ∃ r, F_is_lineup x_value = some r ∧ ∀ (G H' : Hp), Ret [] H G H' → Q (.bl (r)) H'
theorem ok_is_lineup (T : Txt K mg a) : FnOk P w K mg base CX0 3 a.f_is_lineup a.d_is_lineup ["value"] (sp_is_lineup K) := by
  refine T.F_is_lineup.ok sc_is_lineup (fun vs H Q E h => ?_) (fun cdv A outer s H0 vs Q E hr h => ?_)
  · obtain ⟨a1764, x_value, rfl, _⟩ := h
    rfl
  · obtain ⟨a1764, x_value, rfl, f1765, r, h, kq⟩ := h
    have nd := sc_is_lineup.nd
    have hu64 := hr.units
    refine ⟨_, (pss_cons (ps_if (PW.pt (pw_or (pt_cmpR op_notTyB (pe_typeOf rfl T.b_type (pv 0)) (pe_bltn (v := .ty "list") (by rfl) T.b_list (by decide +kernel) rfl) (nomark _)) (pw_or1 (pt_not (pt_chain op_le op_le pe_int (pe_callB (klen (K := K)) (by rfl) T.b_len (by decide +kernel) (pa_cons (pv 0) pa_nil)) (pe_glob (v := .int 60) rfl T.c_MOST_PEOPLE ⟨_, rfl⟩)))))) (pss_one (ps_ret pe_bl)) pss_nil)
      (pss_cons (ps_for PassesOwn.never rfl (kpi_list (K := K) (pv 0)) (pg_name (i := 1) nd rfl (Or.inl rfl)) (pss_one (ps_if (pt_not (pt_val (pe_call (ok_is_colored_integer T) (hr.mono (by decide)) rfl T.g_is_colored_integer T.k_is_colored_integer T.n_is_colored_integer .nil pass0 (pa_cons (pv 1) pa_nil)))) (pss_one (ps_ret pe_bl)) pss_nil)))
      (pss_one (ps_ret (pe_cmpR (keqD (K := K) hu64) (pe_callB (ksorted (K := K)) (by rfl) T.b_sorted (by decide +kernel) (pa_cons (pe_lc (own := [("person", 2), ("_", 3)]) (g := gTup K 2 (gCons (gName 2) (gCons (gName 3) gNil))) (tt := tYes) rfl nd (kpi_list (K := K) (pv 0)) (blkOk_by (own := [("person", 2), ("_", 3)]) (N := ["value", "item", "person", "_"]) (sc := defScope s_is_lineup) (by decide +kernel)) (fun _ _ _ _ _ => (kpg_tup (K := K) rfl (pgs_cons (pg_name (i := 2) nd rfl (Or.inl rfl)) (pgs_cons (pg_name (i := 3) nd rfl (Or.inl rfl)) pgs_nil)))) (fun _ _ _ _ _ => pts_nil) (fun _ _ _ _ _ => (pv 2))) pa_nil)) (pe_listRg rfl rfl T.b_list (prg_1 rfl T.b_range (pe_callB (klen (K := K)) (by rfl) T.b_len (by decide +kernel) (pa_cons (pv 0) pa_nil)))) (nomark _)))))), ?_⟩
    unfold F_is_lineup at h
    have S0 := Sep.start H0
    refine rd_seq ?_
    refine rd_ifS ?_
    refine rd_ttM (fun k H' => k = ((!(decide ("list" = "list"))) || (!((decide ((1 : Int) ≤ (lenI x_value))) && (decide ((lenI x_value) ≤ (60 : Int)))))) ∧ H0 = H') (fun R q => ?_) ?_
    ·
      refine rd_or ?_
      refine rd_test ?_
      refine rd_op ?_
      refine rd_cb ?_
      refine rd_cons ?_
      refine rd_var rfl ?_
      refine rd_nil ?_
      obtain ⟨w1767, h1768, k1769⟩ := li f1765
      refine rd_tyL (S0.sub _ _ h1768) ?_
      refine rd_c ?_
      refine rd_NT ?_
      refine rd_bl ?_
      refine ite_by (fun c1777 => ?_) (fun c1777 => ?_)
      ·
        exact q _ _ ⟨(orT c1777), rfl⟩
      ·
        refine rd_not ?_
        refine rd_test ?_
        refine rd_teM2 (fun k H' => k = .bl ((decide ((1 : Int) ≤ (lenI x_value))) && (decide ((lenI x_value) ≤ (60 : Int)))) ∧ H0 = H') (fun R q => ?_) ?_
        ·
          refine rd_chain ?_
          refine rd_c ?_
          refine rd_cb ?_
          refine rd_cons ?_
          refine rd_var rfl ?_
          refine rd_nil ?_
          obtain ⟨w1771, h1772, k1773⟩ := li f1765
          refine q_len (S0.sub _ _ h1772) k1773 ?_
          refine rd_I0 ?_
          refine rd_bl ?_
          refine ite_by (fun c1775 => ?_) (fun c1775 => ?_)
          ·
            refine rd_c ?_
            refine rd_I0 ?_
            exact q _ _ ⟨(congrArg V.bl (andT c1775 rfl)), rfl⟩
          ·
            exact q _ _ ⟨(congrArg V.bl (andF c1775)), rfl⟩
        rintro _ _ ⟨rfl, rfl⟩
        refine rd_bl ?_
        exact q _ _ ⟨(orF c1777 rfl), rfl⟩
    rintro _ _ ⟨rfl, rfl⟩
    rcases cnd h with ⟨c1883, h⟩ | ⟨c1883, h⟩
    ·
      refine iteY c1883 ?_
      refine rd_ret ?_
      refine rd_c ?_
      cases h
      exact kq _ _ S0.toRet
    ·
      refine iteN c1883 ?_
      refine rd_next ?_
      refine rd_mk ?_
      refine rd_seq ?_
      refine rd_for ?_
      refine rd_iList ?_
      refine rd_var rfl ?_
      obtain ⟨w1778, h1779, k1780⟩ := li f1765
      refine ⟨_, rfl, ⟨_, SqL.of (S0.sub _ _ h1779)⟩, ?_⟩
      obtain ⟨r1798_, h1799, ho1797⟩ := bnd h
      refine q_forC h1799 (w_li k1780) (fun s1782 σ' H' => ∃ (x1794 : Option V) (G1790 : Hp), σ' = [some (.ref a1764), x1794, none, none] ∧ Sep [] H0 G1790 H' [] ∧ Same H0 G1790) ?_ ?_ ?_ ?_
      · exact ⟨_, H0, rfl, S0, Same.refl _⟩
      · rintro s1782 _ H1791 ⟨x1794, G1790, rfl, S1792, sE1793⟩
        exact (S1792.sub _ _ (sE1793 _ _ h1779))
      · rintro i1783 a1781 s1782 c1789 x1785 _ H1791 H1786 h1787 h ⟨x1794, G1790, rfl, S1792, sE1793⟩ h1788 hq1795 kb1796
        have f1765 := f1765.same sE1793
        obtain ⟨rfl, e1800⟩ := h1788
        have f1801 := (e1800 _ h1787).same sE1793
        obtain ⟨a1802, rfl⟩ := fr_tup f1801
        refine rd_nameS (σ' := [some (.ref a1764), some (.ref a1802), none, none]) rfl ?_
        refine rd_ifS ?_
        refine rd_not ?_
        refine rd_tB ?_
        refine rd_call ?_
        refine rd_cons ?_
        refine rd_var rfl ?_
        refine rd_nil ?_
        obtain ⟨y1803, h1804, h⟩ := bnd h
        refine ⟨a1802, a1781, rfl, (f1801.same S1792.sub), y1803, h1804, fun G1805 H1806 R1807 => ?_⟩
        obtain ⟨G1808, S1809, s1810, t1811, l1812⟩ := S1792.ret0 R1807
        have f1765 := f1765.same s1810
        have f1801 := f1801.same s1810
        have sE1793 := sE1793.trans s1810
        refine rd_bl ?_
        rcases cnd h with ⟨c1814, h⟩ | ⟨c1814, h⟩
        ·
          refine iteY c1814 ?_
          refine rd_ret ?_
          refine rd_c ?_
          cases h
          have e1813 := hq1795 _ rfl
          subst e1813
          cases (show some (false) = some _ from ho1797)
          exact kq _ _ S1809.toRet
        ·
          refine iteN c1814 ?_
          refine rd_next ?_
          cases h
          exact ⟨_, rfl, _, G1808, rfl, S1809, sE1793⟩
      rintro r1798 _ H1816 rfl ⟨x1819, G1815, rfl, S1817, sE1818⟩
      have h := ho1797
      have f1765 := f1765.same sE1818
      refine rd_mk ?_
      refine rd_ret ?_
      refine rd_op ?_
      refine rd_cb ?_
      refine rd_cons ?_
      refine rd_lc ?_
      refine rd_iList ?_
      refine rd_var rfl ?_
      obtain ⟨w1820, h1821, k1822⟩ := li f1765
      refine ⟨_, rfl, ⟨_, SqL.of (S1817.sub _ _ h1821)⟩, ?_⟩
      intro D1823 h1824
      obtain ⟨l1847, h1848, h⟩ := bnd h
      refine q_lcL (enc := eI) (F0 := H0) h1848 (w_li k1822) S1817 h1824 S1817.old ?_ ?_ ?_
      · rintro GD1823 HD1823 accD1823 SD1823 sD1823
        exact (SD1823.sub _ _ (sD1823 _ _ h1821))
      · rintro i1826 x1827 a1825 o1836 G1830 H1828 H1829 acc1835 h1833 h S1831 s1832 h1834 T F hT hF
        have f1765 := f1765.same s1832
        have sT1837 := Same.refl G1830
        obtain ⟨rfl, e1839⟩ := h1834
        have f1840 := (e1839 _ h1833).same s1832
        obtain ⟨a1841, rfl⟩ := fr_tup f1840
        obtain ⟨v1842, v1843, h1846, f1844, f1845⟩ := tu2 f1840
        cases fr_int f1844
        cases fr_str f1845
        refine rd_gtup (S1831.sub _ _ h1846) rfl ?_
        refine rd_gcons ?_
        refine rd_nameS (σ' := [some (.ref a1764), x1819, some (.int a1825.1), none]) rfl ?_
        refine rd_gcons ?_
        refine rd_nameS (σ' := [some (.ref a1764), x1819, some (.int a1825.1), some (.str a1825.2)]) rfl ?_
        refine rd_gnil ?_
        refine ⟨rfl, ?_⟩
        refine rd_tyes ?_
        refine iteY rfl ?_
        refine rd_var rfl ?_
        cases h
        exact hT _ _ _ _ rfl S1831 sT1837 (.int _)
      rintro G1849 H1850 w1851 S1852 s1853 f1854 n1855 n1856
      have f1765 := f1765.same s1853
      obtain ⟨G1857, S1858, s1859, f1860⟩ := S1852.fixF 0 rfl (by simp) f1854 n1856
      have f1765 := f1765.same s1859
      refine rd_nil ?_
      obtain ⟨w1861, h1862, k1863⟩ := li f1860
      refine q_sortI (S1858.sub _ _ h1862) k1863 ?_
      refine q_new (F0 := H0) (ds := (sortI l1847).map eI) S1858 (ints_frl _) S1858.old fun a1864 G1865 H1866 S1867 s1868 f1869 => ?_
      have f1765 := f1765.same s1868
      refine rd_lstRgZ ?_
      refine rd_rg1 ?_
      refine rd_cb ?_
      refine rd_cons ?_
      refine rd_var rfl ?_
      refine rd_nil ?_
      obtain ⟨w1870, h1871, k1872⟩ := li f1765
      refine q_len (S1867.sub _ _ h1871) k1872 ?_
      refine ⟨_, rfl, ?_⟩
      obtain ⟨l1873, h1874, h⟩ := bnd h
      refine q_lrg h1874 ?_
      refine q_new (F0 := H0) (ds := l1873.map eI) S1867 (ints_frl l1873) S1867.old fun a1875 G1876 H1877 S1878 s1879 f1880 => ?_
      have f1765 := f1765.same s1879
      have f1869 := f1869.same s1879
      obtain ⟨b1881, h1882, h⟩ := bnd h
      refine q_eqD (f1869.rp.same S1878.sub) (f1880.rp.same S1878.sub) h1882 ?_
      cases h
      exact kq _ _ S1878.toRet
end
end K74

namespace K74
open PySem L2 LX LQ
section
variable {P : Program} {w : World} {K : PySem.W.Frag} {mg : Str → Option Value} {base : Heap} {a : Ad}
open LQF
def sp_check_lineup (K : PySem.W.Frag) : Sp := fun vs H Q _ => ∃ (a1884 : Addr) (x_value : (List (Int × Str))), vs = [.ref a1884] ∧ Fr E0h H (.ref a1884) ((eL (eT2 eI eS)) x_value) ∧ ∃ r, F_check_lineup x_value = some r ∧ ∀ (G H' : Hp), Ret [] H G H' → Q .non H'
theorem ok_check_lineup (T : Txt K mg a) : FnOk P w K mg base CX0 4 a.f_check_lineup a.d_check_lineup ["value"] (sp_check_lineup K) := by
  refine T.F_check_lineup.ok sc_check_lineup (fun vs H Q E h => ?_) (fun cdv A outer s H0 vs Q E hr h => ?_)
  · obtain ⟨a1884, x_value, rfl, _⟩ := h
    rfl
  · obtain ⟨a1884, x_value, rfl, f1885, r, h, kq⟩ := h
    have nd := sc_check_lineup.nd
    have hu64 := hr.units
    refine ⟨_, (pss_one (ps_if (pt_not (pt_val (pe_call (ok_is_lineup T) (hr.mono (by decide)) rfl T.g_is_lineup T.k_is_lineup T.n_is_lineup .nil pass0 (pa_cons (pv 0) pa_nil)))) pss_never pss_nil)), ?_⟩
    unfold F_check_lineup at h
    have S0 := Sep.start H0
    refine rd_ifS ?_
    refine rd_not ?_
    refine rd_tB ?_
    refine rd_call ?_
    refine rd_cons ?_
    refine rd_var rfl ?_
    refine rd_nil ?_
    obtain ⟨y1886, h1887, h⟩ := bnd h
    refine ⟨a1884, x_value, rfl, (f1885.same S0.sub), y1886, h1887, fun G1888 H1889 R1890 => ?_⟩
    obtain ⟨G1891, S1892, s1893, t1894, l1895⟩ := S0.ret0 R1890
    have f1885 := f1885.same s1893
    refine rd_bl ?_
    rcases cnd h with ⟨c1896, h⟩ | ⟨c1896, h⟩
    ·
      refine iteY c1896 ?_
      cases h
    ·
      refine iteN c1896 ?_
      refine rd_next ?_
      cases h
      exact kq _ _ S1892.toRet
end
end K74

namespace K74
open PySem L2 LX LQ
section
variable {P : Program} {w : World} {K : PySem.W.Frag} {mg : Str → Option Value} {base : Heap} {a : Ad}
open LQF
def sp_is_person (K : PySem.W.Frag) : Sp := fun vs H Q _ => ∃ (a1897 : Addr) (x_lineup : (List (Int × Str))) (x_value : Int), vs = [.ref a1897, (.int x_value)] ∧ Fr E0h H (.ref a1897) ((eL (eT2 eI eS)) x_lineup) ∧ ∃ r, F_is_person x_lineup x_value = some r ∧ ∀ (G H' : Hp), Ret [] H G H' → Q (.bl (r)) H'
theorem ok_is_person (T : Txt K mg a) : FnOk P w K mg base CX0 2 a.f_is_person a.d_is_person ["lineup", "value"] (sp_is_person K) := by
  refine T.F_is_person.ok sc_is_person (fun vs H Q E h => ?_) (fun cdv A outer s H0 vs Q E hr h => ?_)
  · obtain ⟨a1897, x_lineup, x_value, rfl, _⟩ := h
    rfl
  · obtain ⟨a1897, x_lineup, x_value, rfl, f1898, r, h, kq⟩ := h
    have nd := sc_is_person.nd
    have hu64 := hr.units
    refine ⟨_, (pss_one (ps_ret (pe_and (pe_call (ok_is_integer T) (hr.mono (by decide)) rfl T.g_is_integer T.k_is_integer T.n_is_integer .nil pass0 (pa_cons (pv 1) pa_nil)) (pe_one (pe_chain op_le op_lt pe_int (pv 1) (pe_callB (klen (K := K)) (by rfl) T.b_len (by decide +kernel) (pa_cons (pv 0) pa_nil))))))), ?_⟩
    unfold F_is_person at h
    have S0 := Sep.start H0
    refine rd_ret ?_
    obtain ⟨b1917, h1918, h⟩ := bnd h
    refine rd_teM2 (fun k H' => ∃  (G1919 : Hp), k = .bl b1917 ∧ Sep [] H0 G1919 H' [] ∧ Same H0 G1919) (fun R q => ?_) ?_
    ·
      have sE1899 := Same.refl H0
      have h := h1918
      refine rd_andV ?_
      refine rd_call ?_
      refine rd_cons ?_
      refine rd_var rfl ?_
      refine rd_nil ?_
      obtain ⟨y1900, h1901, h⟩ := bnd h
      refine ⟨x_value, rfl, y1900, h1901, fun G1902 H1903 R1904 => ?_⟩
      obtain ⟨G1905, S1906, s1907, t1908, l1909⟩ := S0.ret0 R1904
      have f1898 := f1898.same s1907
      have sE1899 := sE1899.trans s1907
      refine ⟨_, rfl, ?_⟩
      rcases cnd h with ⟨c1923, h⟩ | ⟨c1923, h⟩
      ·
        refine iteY c1923 ?_
        refine rd_teM2 (fun k H' => k = .bl ((decide ((0 : Int) ≤ x_value)) && (decide (x_value < (lenI x_lineup)))) ∧ H1903 = H') (fun R q => ?_) ?_
        ·
          refine rd_chain ?_
          refine rd_c ?_
          refine rd_var rfl ?_
          refine rd_I0 ?_
          refine rd_bl ?_
          refine ite_by (fun c1915 => ?_) (fun c1915 => ?_)
          ·
            refine rd_cb ?_
            refine rd_cons ?_
            refine rd_var rfl ?_
            refine rd_nil ?_
            obtain ⟨w1911, h1912, k1913⟩ := li f1898
            refine q_len (S1906.sub _ _ h1912) k1913 ?_
            refine rd_I0 ?_
            exact q _ _ ⟨(congrArg V.bl (andT c1915 rfl)), rfl⟩
          ·
            exact q _ _ ⟨(congrArg V.bl (andF c1915)), rfl⟩
        rintro _ _ ⟨rfl, rfl⟩
        cases h
        exact q _ _ ⟨G1905, rfl, S1906, sE1899⟩
      ·
        refine iteN c1923 ?_
        cases h
        exact q _ _ ⟨G1905, rfl, S1906, sE1899⟩
    rintro _ H1920 ⟨G1919, rfl, S1921, s1922⟩
    have f1898 := f1898.same s1922
    cases h
    exact kq _ _ S1921.toRet
end
end K74

namespace K74
open PySem L2 LX LQ
section
variable {P : Program} {w : World} {K : PySem.W.Frag} {mg : Str → Option Value} {base : Heap} {a : Ad}
open LQF
def sp_check_calls (K : PySem.W.Frag) : Sp := fun vs H Q _ => ∃ (a1924 : Addr) (x_lineup : (List (Int × Str))) (a1925 : Addr) (x_value : (List Int)), vs = [.ref a1924, .ref a1925] ∧ Fr E0h H (.ref a1924) ((eL (eT2 eI eS)) x_lineup) ∧ Fr E0h H (.ref a1925) ((eL eI) x_value) ∧ ∃ r, F_check_calls x_lineup x_value = some r ∧ ∀ (G H' : Hp), Ret [] H G H' → Q .non H'
theorem ok_check_calls (T : Txt K mg a) : FnOk P w K mg base CX0 3 a.f_check_calls a.d_check_calls ["lineup", "value"] (sp_check_calls K) := by
  refine T.F_check_calls.ok sc_check_calls (fun vs H Q E h => ?_) (fun cdv A outer s H0 vs Q E hr h => ?_)
  · obtain ⟨a1924, x_lineup, a1925, x_value, rfl, _⟩ := h
    rfl
  · obtain ⟨a1924, x_lineup, a1925, x_value, rfl, f1926, f1927, r, h, kq⟩ := h
    have nd := sc_check_calls.nd
    have hu64 := hr.units
    refine ⟨_, (pss_cons (ps_if (pt_cmpR op_notTyB (pe_typeOf rfl T.b_type (pv 1)) (pe_bltn (v := .ty "list") (by rfl) T.b_list (by decide +kernel) rfl) (nomark _)) pss_never pss_nil)
      (pss_one (ps_for PassesOwn.never rfl (pi_enum rfl T.b_enumerate (pa_cons (pv 1) pa_nil)) (kpg_tup (K := K) rfl (pgs_cons (pg_name (i := 2) nd rfl (Or.inl rfl)) (pgs_cons (pg_name (i := 3) nd rfl (Or.inl rfl)) pgs_nil))) (pss_one (ps_if (pt_not (pt_val (pe_call (ok_is_person T) (hr.mono (by decide)) rfl T.g_is_person T.k_is_person T.n_is_person .nil pass0 (pa_cons (pv 0) (pa_cons (pv 3) pa_nil))))) pss_never pss_nil))))), ?_⟩
    unfold F_check_calls at h
    have S0 := Sep.start H0
    refine rd_seq ?_
    refine rd_ifS ?_
    refine rd_test ?_
    refine rd_op ?_
    refine rd_cb ?_
    refine rd_cons ?_
    refine rd_var rfl ?_
    refine rd_nil ?_
    obtain ⟨w1928, h1929, k1930⟩ := li f1927
    refine rd_tyL (S0.sub _ _ h1929) ?_
    refine rd_c ?_
    refine rd_NT ?_
    refine rd_bl ?_
    rcases cnd h with ⟨c1988, h⟩ | ⟨c1988, h⟩
    ·
      refine iteY c1988 ?_
      cases h
    ·
      refine iteN c1988 ?_
      refine rd_next ?_
      refine rd_mk ?_
      refine rd_for ?_
      refine rd_iEn ?_
      refine rd_cons ?_
      refine rd_var rfl ?_
      refine rd_nil ?_
      obtain ⟨w1931, h1932, k1933⟩ := li f1927
      refine ⟨_, _, rfl, SqL.of (S0.sub _ _ h1932), ?_⟩
      obtain ⟨r1952, h1953, h⟩ := bnd h
      refine q_forF h1953 (w_en k1933) (fun s1935 σ' H' => ∃ (x1947 : Option V) (x1948 : Option V) (G1943 : Hp), σ' = [some (.ref a1924), some (.ref a1925), x1947, x1948] ∧ Sep [] H0 G1943 H' [] ∧ Same H0 G1943) ?_ ?_ ?_ ?_
      · exact ⟨_, _, H0, rfl, S0, Same.refl _⟩
      · rintro s1935 _ H1944 ⟨x1947, x1948, G1943, rfl, S1945, sE1946⟩
        exact (S1945.sub _ _ (sE1946 _ _ h1932))
      · rintro i1936 a1934 s1935 s1937 x1938 _ H1944 H1939 h1940 h ⟨x1947, x1948, G1943, rfl, S1945, sE1946⟩ h1941
        have f1926 := f1926.same sE1946
        obtain ⟨T1954, v1955, v1956, rfl, h1957, e1959, e1958⟩ := h1941
        obtain ⟨k1960, k1961⟩ := e1958 _ h1940
        replace k1960 := k1960.same sE1946
        replace k1961 := k1961.same sE1946
        obtain ⟨G1962, S1963, s1964, f1965⟩ := S1945.pair h1957 e1959 k1960 k1961
        have f1926 := f1926.same s1964
        have sE1946 := sE1946.trans s1964
        replace f1965 : Fr E0h G1962 (.ref T1954) (eT2 eI eI a1934) := f1965
        obtain ⟨v1966, v1967, h1970, f1968, f1969⟩ := tu2 f1965
        cases fr_int f1968
        cases fr_int f1969
        refine rd_gtup (S1963.sub _ _ h1970) rfl ?_
        refine rd_gcons ?_
        refine rd_nameS (σ' := [some (.ref a1924), some (.ref a1925), some (.int a1934.1), x1948]) rfl ?_
        refine rd_gcons ?_
        refine rd_nameS (σ' := [some (.ref a1924), some (.ref a1925), some (.int a1934.1), some (.int a1934.2)]) rfl ?_
        refine rd_gnil ?_
        refine rd_ifS ?_
        refine rd_not ?_
        refine rd_tB ?_
        refine rd_call ?_
        refine rd_cons ?_
        refine rd_var rfl ?_
        refine rd_cons ?_
        refine rd_var rfl ?_
        refine rd_nil ?_
        obtain ⟨y1971, h1972, h⟩ := bnd h
        refine ⟨a1924, x_lineup, a1934.2, rfl, (f1926.same S1963.sub), y1971, h1972, fun G1973 H1974 R1975 => ?_⟩
        obtain ⟨G1976, S1977, s1978, t1979, l1980⟩ := S1963.ret0 R1975
        have f1926 := f1926.same s1978
        have sE1946 := sE1946.trans s1978
        refine rd_bl ?_
        rcases cnd h with ⟨c1981, h⟩ | ⟨c1981, h⟩
        ·
          refine iteY c1981 ?_
          cases h
        ·
          refine iteN c1981 ?_
          refine rd_next ?_
          cases h
          exact ⟨_, _, G1976, rfl, S1977, sE1946⟩
      rintro _ H1983 ⟨x1986, x1987, G1982, rfl, S1984, sE1985⟩
      have f1926 := f1926.same sE1985
      cases h
      exact kq _ _ S1984.toRet
end
end K74

namespace K74
open PySem L2 LX LQ
section
variable {P : Program} {w : World} {K : PySem.W.Frag} {mg : Str → Option Value} {base : Heap} {a : Ad}
open LQF
def sp_first_other_color (K : PySem.W.Frag) : Sp := fun vs H Q _ => ∃ (a1989 : Addr) (x_lineup : (List (Int × Str))) (x_color : Str), vs = [.ref a1989, (.str x_color)] ∧ Fr E0h H (.ref a1989) ((eL (eT2 eI eS)) x_lineup) ∧ ∃ r, F_first_other_color x_lineup x_color = some r ∧ ∀ (G H' : Hp), Ret [] H G H' → Q (vO V.str (r)) H'
theorem ok_first_other_color (T : Txt K mg a) : FnOk P w K mg base CX0 1 a.f_first_other_color a.d_first_other_color ["lineup", "color"] (sp_first_other_color K) := by
  refine T.F_first_other_color.ok sc_first_other_color (fun vs H Q E h => ?_) (fun cdv A outer s H0 vs Q E hr h => ?_)
  · obtain ⟨a1989, x_lineup, x_color, rfl, _⟩ := h
    rfl
  · obtain ⟨a1989, x_lineup, x_color, rfl, f1990, r, h, kq⟩ := h
    have nd := sc_first_other_color.nd
    have hu64 := hr.units
    refine ⟨_, (pss_cons (ps_for PassesOwn.never rfl (kpi_list (K := K) (pv 0)) (kpg_tup (K := K) rfl (pgs_cons (pg_name (i := 2) nd rfl (Or.inl rfl)) (pgs_cons (pg_name (i := 3) nd rfl (Or.inl rfl)) pgs_nil))) (pss_one (ps_if (pt_cmpR op_ne (pv 3) (pv 1) (nomark _)) (pss_one (ps_ret (pv 3))) pss_nil)))
      (pss_one (ps_ret pe_non))), ?_⟩
    unfold F_first_other_color at h
    have S0 := Sep.start H0
    refine rd_seq ?_
    refine rd_for ?_
    refine rd_iList ?_
    refine rd_var rfl ?_
    obtain ⟨w1991, h1992, k1993⟩ := li f1990
    refine ⟨_, rfl, ⟨_, SqL.of (S0.sub _ _ h1992)⟩, ?_⟩
    obtain ⟨r2012_, h2013, ho2011⟩ := bnd h
    refine q_forC h2013 (w_li k1993) (fun s1995 σ' H' => ∃ (x2007 : Option V) (x2008 : Option V) (G2003 : Hp), σ' = [some (.ref a1989), some (.str x_color), x2007, x2008] ∧ Sep [] H0 G2003 H' [] ∧ Same H0 G2003) ?_ ?_ ?_ ?_
    · exact ⟨_, _, H0, rfl, S0, Same.refl _⟩
    · rintro s1995 _ H2004 ⟨x2007, x2008, G2003, rfl, S2005, sE2006⟩
      exact (S2005.sub _ _ (sE2006 _ _ h1992))
    · rintro i1996 a1994 s1995 c2002 x1998 _ H2004 H1999 h2000 h ⟨x2007, x2008, G2003, rfl, S2005, sE2006⟩ h2001 hq2009 kb2010
      obtain ⟨rfl, e2014⟩ := h2001
      have f2015 := (e2014 _ h2000).same sE2006
      obtain ⟨a2016, rfl⟩ := fr_tup f2015
      obtain ⟨v2017, v2018, h2021, f2019, f2020⟩ := tu2 f2015
      cases fr_int f2019
      cases fr_str f2020
      refine rd_gtup (S2005.sub _ _ h2021) rfl ?_
      refine rd_gcons ?_
      refine rd_nameS (σ' := [some (.ref a1989), some (.str x_color), some (.int a1994.1), x2008]) rfl ?_
      refine rd_gcons ?_
      refine rd_nameS (σ' := [some (.ref a1989), some (.str x_color), some (.int a1994.1), some (.str a1994.2)]) rfl ?_
      refine rd_gnil ?_
      refine rd_ifS ?_
      refine rd_test ?_
      refine rd_op ?_
      refine rd_var rfl ?_
      refine rd_var rfl ?_
      refine q_neS ?_
      refine rd_bl ?_
      rcases cnd h with ⟨c2023, h⟩ | ⟨c2023, h⟩
      ·
        refine iteY c2023 ?_
        refine rd_ret ?_
        refine rd_var rfl ?_
        cases h
        have e2022 := hq2009 _ rfl
        subst e2022
        cases (show some ((some a1994.2)) = some _ from ho2011)
        exact kq _ _ S2005.toRet
      ·
        refine iteN c2023 ?_
        refine rd_next ?_
        cases h
        exact ⟨_, rfl, _, _, G2003, rfl, S2005, sE2006⟩
    rintro r2012 _ H2025 rfl ⟨x2028, x2029, G2024, rfl, S2026, sE2027⟩
    have h := ho2011
    refine rd_mk ?_
    refine rd_ret ?_
    refine rd_c ?_
    cases h
    exact kq _ _ S2026.toRet
end
end K74

namespace K74
open PySem L2 LX LQ
section
variable {P : Program} {w : World} {K : PySem.W.Frag} {mg : Str → Option Value} {base : Heap} {a : Ad}
open LQF
def sp_colors_by_person (K : PySem.W.Frag) : Sp := fun vs H Q _ => ∃ (a2030 : Addr) (x_lineup : (List (Int × Str))), vs = [.ref a2030] ∧ Fr E0h H (.ref a2030) ((eL (eT2 eI eS)) x_lineup) ∧ ∃ r, F_colors_by_person x_lineup = some r ∧ ∀ (a : Addr) (G H' : Hp), Ret [] H G H' → Fr H G (.ref a) ((eL eS) (r)) → Q (.ref a) H'
theorem ok_colors_by_person (T : Txt K mg a) : FnOk P w K mg base CX0 1 a.f_colors_by_person a.d_colors_by_person ["lineup"] (sp_colors_by_person K) := by
  refine T.F_colors_by_person.ok sc_colors_by_person (fun vs H Q E h => ?_) (fun cdv A outer s H0 vs Q E hr h => ?_)
  · obtain ⟨a2030, x_lineup, rfl, _⟩ := h
    rfl
  · obtain ⟨a2030, x_lineup, rfl, f2031, r, h, kq⟩ := h
    have nd := sc_colors_by_person.nd
    have hu64 := hr.units
    refine ⟨_, (pss_cons (ps_set (i := 1) nd rfl (Or.inl rfl) (pe_op op_rep (pe_lst (pa_cons pe_str pa_nil)) (pe_callB (klen (K := K)) (by rfl) T.b_len (by decide +kernel) (pa_cons (pv 0) pa_nil))))
      (pss_cons (ps_for PassesOwn.never rfl (kpi_list (K := K) (pv 0)) (kpg_tup (K := K) rfl (pgs_cons (pg_name (i := 2) nd rfl (Or.inl rfl)) (pgs_cons (pg_name (i := 3) nd rfl (Or.inl rfl)) pgs_nil))) (pss_one (ps_asg (pv 3) (pg_sub (pv 1) (pv 2) set_list))))
      (pss_one (ps_ret (pv 1))))), ?_⟩
    unfold F_colors_by_person at h
    have S0 := Sep.start H0
    refine rd_seq ?_
    refine rd_asg ?_
    refine rd_op ?_
    refine rd_lstZ ?_
    refine rd_cons ?_
    refine rd_c ?_
    refine rd_nil ?_
    refine q_lst (F0 := H0) (ds := [eS (Str.ofString "")]) S0 (by show 1 ≤ LIM; decide) (.cons (.str _) .nil) S0.old fun a2032 G2033 H2034 S2035 s2036 f2037 => ?_
    have f2031 := f2031.same s2036
    replace f2037 : Fr H0 G2033 (.ref a2032) ((eL eS) [(Str.ofString "")]) := f2037
    refine rd_cb ?_
    refine rd_cons ?_
    refine rd_var rfl ?_
    refine rd_nil ?_
    obtain ⟨w2038, h2039, k2040⟩ := li f2031
    refine q_len (S2035.sub _ _ h2039) k2040 ?_
    obtain ⟨y2041, h2042, h⟩ := bnd h
    obtain ⟨w2043, h2044, k2045⟩ := li f2037
    refine q_repO S2035 (S2035.sub _ _ h2044) k2045 h2042 fun a2046 w2049 H2047 S2048 n2050 f2051 => ?_
    refine rd_nameS (σ' := [some (.ref a2030), some (.ref a2046), none, none]) rfl ?_
    refine rd_mk ?_
    refine rd_seq ?_
    refine rd_for ?_
    refine rd_iList ?_
    refine rd_var rfl ?_
    obtain ⟨w2052, h2053, k2054⟩ := li f2031
    refine ⟨_, rfl, ⟨_, SqL.of (S2048.sub _ _ h2053)⟩, ?_⟩
    obtain ⟨r2075, h2076, h⟩ := bnd h
    refine q_forF h2076 (w_li k2054) (fun s2056 σ' H' => ∃ (x2068 : Option V) (x2069 : Option V) (w2070 : List V) (G2064 : Hp), σ' = [some (.ref a2030), some (.ref a2046), x2068, x2069] ∧ Sep [] H0 G2064 H' [(a2046, .lst w2070)] ∧ Same G2033 G2064 ∧ FrL H0 G2064 w2070 ((s2056).map eS)) ?_ ?_ ?_ ?_
    · exact ⟨_, _, w2049, G2033, rfl, S2048, Same.refl _, f2051⟩
    · rintro s2056 _ H2065 ⟨x2068, x2069, w2070, G2064, rfl, S2066, sE2067, f2071⟩
      exact (S2066.sub _ _ (sE2067 _ _ h2053))
    · rintro i2057 a2055 s2056 s2058 x2059 _ H2065 H2060 h2061 h ⟨x2068, x2069, w2070, G2064, rfl, S2066, sE2067, f2071⟩ h2062
      obtain ⟨rfl, e2077⟩ := h2062
      have f2078 := (e2077 _ h2061).same sE2067
      obtain ⟨a2079, rfl⟩ := fr_tup f2078
      obtain ⟨v2080, v2081, h2084, f2082, f2083⟩ := tu2 f2078
      cases fr_int f2082
      cases fr_str f2083
      refine rd_gtup (S2066.sub _ _ h2084) rfl ?_
      refine rd_gcons ?_
      refine rd_nameS (σ' := [some (.ref a2030), some (.ref a2046), some (.int a2055.1), x2069]) rfl ?_
      refine rd_gcons ?_
      refine rd_nameS (σ' := [some (.ref a2030), some (.ref a2046), some (.int a2055.1), some (.str a2055.2)]) rfl ?_
      refine rd_gnil ?_
      refine rd_asg ?_
      refine rd_var rfl ?_
      refine rd_sub ?_
      refine rd_var rfl ?_
      refine rd_var rfl ?_
      obtain ⟨l2085, h2086, h⟩ := bnd h
      refine q_setL S2066 0 rfl f2071 (.str _) h2086 fun w2087 H2088 S2089 f2090 => ?_
      have S2089 : Sep [] H0 G2064 H2088 [(a2046, .lst w2087)] := S2089
      cases h
      exact ⟨_, _, w2087, G2064, rfl, S2089, sE2067, f2090⟩
    rintro _ H2092 ⟨x2095, x2096, w2097, G2091, rfl, S2093, sE2094, f2098⟩
    refine rd_mk ?_
    refine rd_ret ?_
    refine rd_var rfl ?_
    obtain ⟨G2099, S2100, s2101, f2102⟩ := S2093.fixL 0 rfl (by simp) f2098 n2050
    cases h
    exact kq a2046 _ _ S2100.toRet f2102
end
end K74

namespace K74
open PySem L2 LX LQ
section
variable {P : Program} {w : World} {K : PySem.W.Frag} {mg : Str → Option Value} {base : Heap} {a : Ad}
open LQF
def sp_apply_call (K : PySem.W.Frag) : Sp := fun vs H Q _ => ∃ (a2103 : Addr) (x_lineup : (List (Int × Str))) (x_person : Int), vs = [.ref a2103, (.int x_person)] ∧ Fr E0h H (.ref a2103) ((eL (eT2 eI eS)) x_lineup) ∧ ∃ r, F_apply_call x_lineup x_person = some r ∧ ∀ (a : Addr) (G H' : Hp), Ret [] H G H' → Fr H G (.ref a) ((eT2 (eL (eT2 eI eS)) (eO eS)) (r)) → Q (.ref a) H'
theorem ok_apply_call (T : Txt K mg a) : FnOk P w K mg base CX0 2 a.f_apply_call a.d_apply_call ["lineup", "person"] (sp_apply_call K) := by
  refine T.F_apply_call.ok sc_apply_call (fun vs H Q E h => ?_) (fun cdv A outer s H0 vs Q E hr h => ?_)
  · obtain ⟨a2103, x_lineup, x_person, rfl, _⟩ := h
    rfl
  · obtain ⟨a2103, x_lineup, x_person, rfl, f2104, r, h, kq⟩ := h
    have nd := sc_apply_call.nd
    have hu64 := hr.units
    refine ⟨_, (pss_cons (ps_set (i := 2) nd rfl (Or.inl rfl) (pe_ix (kix_list (K := K)) (pe_call (ok_colors_by_person T) (hr.mono (by decide)) rfl T.g_colors_by_person T.k_colors_by_person T.n_colors_by_person .nil pass0 (pa_cons (pv 0) pa_nil)) (pv 1) (fun _ _ => rfl)))
      (pss_cons (ps_set (i := 3) nd rfl (Or.inl rfl) (pe_call (ok_first_other_color T) (hr.mono (by decide)) rfl T.g_first_other_color T.k_first_other_color T.n_first_other_color .nil pass0 (pa_cons (pv 0) (pa_cons (pv 2) pa_nil))))
      (pss_cons (ps_setLc (i := 4) (own := [("pair", 5)]) (g := gName 5) rfl nd rfl rfl (sw_true rfl rfl rfl (by decide +kernel)) (kpi_list (K := K) (pv 0)) (blkOk_by (own := [("pair", 5)]) (N := ["lineup", "person", "color", "taken", "others", "pair"]) (sc := defScope s_apply_call) (by decide +kernel)) (fun _ _ _ _ _ => (pg_name (i := 5) nd rfl (Or.inl rfl))) (fun _ _ _ _ _ => pts_one (pt_cmpR op_ne (pe_ix (kix_tup (K := K)) (pv 5) pe_int (fun _ _ => rfl)) (pv 1) (nomark _))) (fun _ _ _ _ _ => (pv 5)))
      (pss_one (ps_ret (pe_tup (pa_cons (pe_op op_cat (pe_lst (pa_cons (pe_tup (pa_cons (pv 1) (pa_cons (pe_ifExp (pt_cmpR kisN (pv 3) pe_non (nomark _)) (pv 2) (pv 3)) pa_nil))) pa_nil)) (pv 4)) (pa_cons (pv 3) pa_nil)))))))), ?_⟩
    unfold F_apply_call at h
    have S0 := Sep.start H0
    refine rd_seq ?_
    refine rd_asg ?_
    refine rd_op ?_
    refine rd_call ?_
    refine rd_cons ?_
    refine rd_var rfl ?_
    refine rd_nil ?_
    obtain ⟨y2105, h2106, h⟩ := bnd h
    refine ⟨a2103, x_lineup, rfl, (f2104.same S0.sub), y2105, h2106, fun a2110 G2107 H2108 R2109 f2111 => ?_⟩
    obtain ⟨G2112, S2113, s2114, t2115, l2116⟩ := S0.ret0 R2109
    have f2104 := f2104.same s2114
    have f2111 := t2115 _ _ f2111
    refine rd_var rfl ?_
    obtain ⟨y2117, h2118, h⟩ := bnd h
    obtain ⟨w2119, h2120, k2121⟩ := li f2111
    refine q_ixL (S2113.sub _ _ h2120) k2121 h2118 fun v2122 f2123 => ?_
    cases fr_str f2123
    refine rd_nameS (σ' := [some (.ref a2103), some (.int x_person), some (.str y2117), none, none, none]) rfl ?_
    refine rd_mk ?_
    refine rd_seq ?_
    refine rd_asg ?_
    refine rd_call ?_
    refine rd_cons ?_
    refine rd_var rfl ?_
    refine rd_cons ?_
    refine rd_var rfl ?_
    refine rd_nil ?_
    obtain ⟨y2124, h2125, h⟩ := bnd h
    refine ⟨a2103, x_lineup, y2117, rfl, (f2104.same S2113.sub), y2124, h2125, fun G2126 H2127 R2128 => ?_⟩
    obtain ⟨G2129, S2130, s2131, t2132, l2133⟩ := S2113.ret0 R2128
    have f2104 := f2104.same s2131
    refine rd_nameS (σ' := [some (.ref a2103), some (.int x_person), some (.str y2117), some (vO V.str y2124), none, none]) rfl ?_
    refine rd_mk ?_
    refine rd_seq ?_
    refine rd_asg ?_
    refine rd_lc ?_
    refine rd_iList ?_
    refine rd_var rfl ?_
    obtain ⟨w2134, h2135, k2136⟩ := li f2104
    refine ⟨_, rfl, ⟨_, SqL.of (S2130.sub _ _ h2135)⟩, ?_⟩
    intro D2137 h2138
    obtain ⟨l2161, h2162, h⟩ := bnd h
    refine q_lcL (enc := (eT2 eI eS)) (F0 := H0) h2162 (w_li k2136) S2130 h2138 S2130.old ?_ ?_ ?_
    · rintro GD2137 HD2137 accD2137 SD2137 sD2137
      exact (SD2137.sub _ _ (sD2137 _ _ h2135))
    · rintro i2140 x2141 a2139 o2150 G2144 H2142 H2143 acc2149 h2147 h S2145 s2146 h2148 T F hT hF
      have f2104 := f2104.same s2146
      have sT2151 := Same.refl G2144
      obtain ⟨rfl, e2153⟩ := h2148
      have f2154 := (e2153 _ h2147).same s2146
      obtain ⟨a2155, rfl⟩ := fr_tup f2154
      refine rd_nameS (σ' := [some (.ref a2103), some (.int x_person), some (.str y2117), some (vO V.str y2124), none, some (.ref a2155)]) rfl ?_
      refine ⟨rfl, ?_⟩
      refine rd_test ?_
      refine rd_op ?_
      refine rd_op ?_
      refine rd_var rfl ?_
      refine rd_c ?_
      obtain ⟨v2156, v2157, h2160, f2158, f2159⟩ := tu2 f2154
      cases fr_int f2158
      cases fr_str f2159
      refine rd_ixT (S2145.sub _ _ h2160) rfl ?_
      refine rd_var rfl ?_
      refine q_neI ?_
      refine rd_bl ?_
      rcases cnd h with ⟨c2163, h⟩ | ⟨c2163, h⟩
      ·
        refine iteY c2163 ?_
        refine rd_var rfl ?_
        cases h
        exact hT _ _ _ _ rfl S2145 sT2151 (f2154.imm ((flT2 flI flS) _))
      ·
        refine iteN c2163 ?_
        cases h
        exact hF _ _ rfl S2145 sT2151
    rintro G2164 H2165 w2166 S2167 s2168 f2169 n2170 n2171
    have f2104 := f2104.same s2168
    obtain ⟨G2172, S2173, s2174, f2175⟩ := S2167.fixF 0 rfl (by simp) f2169 n2171
    have f2104 := f2104.same s2174
    refine rd_nameS (σ' := [some (.ref a2103), some (.int x_person), some (.str y2117), some (vO V.str y2124), some (.ref D2137), none]) rfl ?_
    refine rd_mk ?_
    refine rd_ret ?_
    refine rd_tupZ ?_
    refine rd_cons ?_
    refine rd_op ?_
    refine rd_lstZ ?_
    refine rd_cons ?_
    refine rd_tupZ ?_
    refine rd_cons ?_
    refine rd_var rfl ?_
    refine rd_cons ?_
    obtain ⟨y2183, h2184, h⟩ := bnd h
    refine rd_teM2 (fun k H' => ∃  (G2185 : Hp), k = (.str y2183) ∧ Sep [] H0 G2185 H' [] ∧ Same G2172 G2185) (fun R q => ?_) ?_
    ·
      have sE2176 := Same.refl G2172
      have h := h2184
      refine rd_ifE ?_
      refine rd_test ?_
      refine rd_op ?_
      refine rd_var rfl ?_
      refine rd_c ?_
      refine q_isNS ?_
      refine rd_bl ?_
      rcases cnd h with ⟨c2189, h⟩ | ⟨c2189, h⟩
      ·
        refine iteY c2189 ?_
        refine rd_var rfl ?_
        cases h
        exact q _ _ ⟨G2172, rfl, S2173, sE2176⟩
      ·
        refine iteN c2189 ?_
        obtain ⟨o2180, h2181, h⟩ := bnd h
        have e2182 : (vO V.str y2124) = (.str o2180) := by rw [h2181]; rfl
        refine rd_varE rfl e2182 ?_
        cases h
        exact q _ _ ⟨G2172, rfl, S2173, sE2176⟩
    rintro _ H2186 ⟨G2185, rfl, S2187, s2188⟩
    have f2175 := f2175.same s2188
    refine rd_nil ?_
    refine q_tup (F0 := H0) (ds := [eI x_person, eS y2183]) S2187 (by show 2 ≤ LIM; decide) (.cons (.int _) (.cons (.str _) .nil)) fun a2190 G2191 H2192 S2193 s2194 f2195 => ?_
    have f2175 := f2175.same s2194
    replace f2195 : Fr H0 G2191 (.ref a2190) ((eT2 eI eS) (x_person, y2183)) := f2195
    refine rd_nil ?_
    refine q_lst (F0 := H0) (ds := [(eT2 eI eS) (x_person, y2183)]) S2193 (by show 1 ≤ LIM; decide) (.cons f2195 .nil) S2193.old fun a2196 G2197 H2198 S2199 s2200 f2201 => ?_
    have f2175 := f2175.same s2200
    replace f2201 : Fr H0 G2197 (.ref a2196) ((eL (eT2 eI eS)) [(x_person, y2183)]) := f2201
    refine rd_var rfl ?_
    obtain ⟨y2202, h2203, h⟩ := bnd h
    obtain ⟨w2204, h2205, k2206⟩ := li f2201
    obtain ⟨w2207, h2208, k2209⟩ := li f2175
    refine q_cat S2199 (S2199.sub _ _ h2205) k2206 (S2199.sub _ _ h2208) k2209 h2203 S2199.old fun a2210 G2213 H2211 S2212 s2214 f2215 => ?_
    have f2175 := f2175.same s2214
    refine rd_cons ?_
    refine rd_var rfl ?_
    refine rd_nil ?_
    refine q_tup (F0 := H0) (ds := [(eL (eT2 eI eS)) y2202, (eO eS) y2124]) S2212 (by show 2 ≤ LIM; decide) (.cons f2215 (.cons (oS_fr _) .nil)) fun a2216 G2217 H2218 S2219 s2220 f2221 => ?_
    have f2175 := f2175.same s2220
    replace f2221 : Fr H0 G2217 (.ref a2216) ((eT2 (eL (eT2 eI eS)) (eO eS)) (y2202, y2124)) := f2221
    cases h
    exact kq a2216 _ _ S2219.toRet f2221
end
end K74

namespace K74
open PySem L2 LX LQ
section
variable {P : Program} {w : World} {K : PySem.W.Frag} {mg : Str → Option Value} {base : Heap} {a : Ad}
open LQF
def sp_lineups_at_moments (K : PySem.W.Frag) : Sp := fun vs H Q _ => ∃ (a2222 : Addr) (x_lineup : (List (Int × Str))) (a2223 : Addr) (x_calls : (List Int)), vs = [.ref a2222, .ref a2223] ∧ Fr E0h H (.ref a2222) ((eL (eT2 eI eS)) x_lineup) ∧ Fr E0h H (.ref a2223) ((eL eI) x_calls) ∧ ∃ r, F_lineups_at_moments x_lineup x_calls = some r ∧ ∀ (a : Addr) (G H' : Hp), Ret [] H G H' → Fr H G (.ref a) ((eL (eL (eT2 eI eS))) (r)) → Q (.ref a) H'
theorem ok_lineups_at_moments (T : Txt K mg a) : FnOk P w K mg base CX0 3 a.f_lineups_at_moments a.d_lineups_at_moments ["lineup", "calls"] (sp_lineups_at_moments K) := by
  refine T.F_lineups_at_moments.ok sc_lineups_at_moments (fun vs H Q E h => ?_) (fun cdv A outer s H0 vs Q E hr h => ?_)
  · obtain ⟨a2222, x_lineup, a2223, x_calls, rfl, _⟩ := h
    rfl
  · obtain ⟨a2222, x_lineup, a2223, x_calls, rfl, f2224, f2225, r, h, kq⟩ := h
    have nd := sc_lineups_at_moments.nd
    have hu64 := hr.units
    refine ⟨_, (pss_cons (ps_set (i := 2) nd rfl (Or.inl rfl) (pe_callTy (klist (K := K)) (by rfl) T.b_list (by decide +kernel) (pa_cons (pv 0) pa_nil)))
      (pss_cons (ps_set (i := 3) nd rfl (Or.inl rfl) (pe_lst (pa_cons (pv 2) pa_nil)))
      (pss_cons (ps_for PassesOwn.never rfl (kpi_list (K := K) (pv 1)) (pg_name (i := 4) nd rfl (Or.inl rfl)) (pss_cons (ps_asg (pe_call (ok_apply_call T) (hr.mono (by decide)) rfl T.g_apply_call T.k_apply_call T.n_apply_call .nil pass0 (pa_cons (pv 2) (pa_cons (pv 4) pa_nil))) (kpg_tup (K := K) rfl (pgs_cons (pg_name (i := 2) nd rfl (Or.inl rfl)) (pgs_cons (pg_name (i := 5) nd rfl (Or.inl rfl)) pgs_nil))))
      (pss_one (ps_expr (kbm (K := K) PySem.F.plainAttrs_list PySem.F.slot_list_append PySem.F.type_list_append mt_append (pv 3) (pa_cons (pv 2) pa_nil))))))
      (pss_one (ps_ret (pv 3)))))), ?_⟩
    unfold F_lineups_at_moments at h
    have S0 := Sep.start H0
    refine rd_seq ?_
    refine rd_asg ?_
    refine rd_cb ?_
    refine rd_cons ?_
    refine rd_var rfl ?_
    refine rd_nil ?_
    obtain ⟨w2226, h2227, k2228⟩ := li f2224
    refine q_list S0 (S0.sub _ _ h2227) (k2228.imm (flat_map (flT2 flI flS) _)) S0.old fun a2229 G2230 H2231 S2232 s2233 f2234 => ?_
    have f2224 := f2224.same s2233
    have f2225 := f2225.same s2233
    refine rd_nameS (σ' := [some (.ref a2222), some (.ref a2223), some (.ref a2229), none, none, none]) rfl ?_
    refine rd_mk ?_
    refine rd_seq ?_
    refine rd_asg ?_
    refine rd_lstZ ?_
    refine rd_cons ?_
    refine rd_var rfl ?_
    refine rd_nil ?_
    refine q_lstO S2232 (by show 1 ≤ LIM; decide) fun a2235 H2236 S2237 n2238 => ?_
    have f2239 : FrL H0 G2230 [(.ref a2229)] ([x_lineup].map (eL (eT2 eI eS))) := (.cons f2234 .nil)
    refine rd_nameS (σ' := [some (.ref a2222), some (.ref a2223), some (.ref a2229), some (.ref a2235), none, none]) rfl ?_
    refine rd_mk ?_
    refine rd_seq ?_
    refine rd_for ?_
    refine rd_iList ?_
    refine rd_var rfl ?_
    obtain ⟨w2240, h2241, k2242⟩ := li f2225
    refine ⟨_, rfl, ⟨_, SqL.of (S2237.sub _ _ h2241)⟩, ?_⟩
    obtain ⟨r2265, h2266, h⟩ := bnd h
    refine q_forF h2266 (w_li k2242) (fun s2244 σ' H' => ∃ (x2256 : Option V) (x2257 : Option V) (a2258 : Addr) (w2260 : List V) (G2252 : Hp), σ' = [some (.ref a2222), some (.ref a2223), some (.ref a2258), some (.ref a2235), x2256, x2257] ∧ Sep [] H0 G2252 H' [(a2235, .lst w2260)] ∧ Same G2230 G2252 ∧ Fr H0 G2252 (.ref a2258) ((eL (eT2 eI eS)) s2244.1) ∧ FrL H0 G2252 w2260 ((s2244.2).map (eL (eT2 eI eS)))) ?_ ?_ ?_ ?_
    · exact ⟨_, _, a2229, [(.ref a2229)], G2230, rfl, S2237, Same.refl _, f2234, f2239⟩
    · rintro s2244 _ H2253 ⟨x2256, x2257, a2258, w2260, G2252, rfl, S2254, sE2255, f2259, f2261⟩
      exact (S2254.sub _ _ (sE2255 _ _ h2241))
    · rintro i2245 a2243 s2244 s2246 x2247 _ H2253 H2248 h2249 h ⟨x2256, x2257, a2258, w2260, G2252, rfl, S2254, sE2255, f2259, f2261⟩ h2250
      obtain ⟨rfl, e2267⟩ := h2250
      have f2268 := (e2267 _ h2249).same sE2255
      cases fr_int f2268
      refine rd_nameS (σ' := [some (.ref a2222), some (.ref a2223), some (.ref a2258), some (.ref a2235), some (.int a2243), x2257]) rfl ?_
      refine rd_seq ?_
      refine rd_asg ?_
      refine rd_call ?_
      refine rd_cons ?_
      refine rd_var rfl ?_
      refine rd_cons ?_
      refine rd_var rfl ?_
      refine rd_nil ?_
      obtain ⟨y2269, h2270, h⟩ := bnd h
      refine ⟨a2258, s2244.1, a2243, rfl, (f2259.rp.same S2254.sub), y2269, h2270, fun a2274 G2271 H2272 R2273 f2275 => ?_⟩
      obtain ⟨G2276, S2277, s2278, t2279, l2280⟩ := S2254.ret0 R2273
      have f2259 := f2259.same s2278
      have f2261 := f2261.same s2278
      have sE2255 := sE2255.trans s2278
      have f2275 := t2279 _ _ f2275
      obtain ⟨v2281, v2282, h2285, f2283, f2284⟩ := tu2 f2275
      obtain ⟨a2286, rfl⟩ := fr_lst f2283
      cases fr_oS f2284
      refine rd_gtup (S2277.sub _ _ h2285) rfl ?_
      refine rd_gcons ?_
      refine rd_nameS (σ' := [some (.ref a2222), some (.ref a2223), some (.ref a2286), some (.ref a2235), some (.int a2243), x2257]) rfl ?_
      refine rd_gcons ?_
      refine rd_nameS (σ' := [some (.ref a2222), some (.ref a2223), some (.ref a2286), some (.ref a2235), some (.int a2243), some (vO V.str y2269.2)]) rfl ?_
      refine rd_gnil ?_
      refine rd_mk ?_
      refine rd_drop ?_
      refine rd_bm ?_
      refine rd_var rfl ?_
      refine ⟨Or.inl ⟨rfl, _, SqL.of (S2277.get 0 rfl)⟩, ?_⟩
      refine rd_cons ?_
      refine rd_var rfl ?_
      refine rd_nil ?_
      obtain ⟨l2287, h2288, h⟩ := bnd h
      refine q_app S2277 0 rfl f2261 f2283 h2288 fun w2289 H2290 S2291 f2292 => ?_
      have S2291 : Sep [] H0 G2276 H2290 [(a2235, .lst w2289)] := S2291
      cases h
      exact ⟨_, _, a2286, w2289, G2276, rfl, S2291, sE2255, f2283, f2292⟩
    rintro _ H2294 ⟨x2297, x2298, a2299, w2301, G2293, rfl, S2295, sE2296, f2300, f2302⟩
    refine rd_mk ?_
    refine rd_ret ?_
    refine rd_var rfl ?_
    obtain ⟨G2303, S2304, s2305, f2306⟩ := S2295.fixL 0 rfl (by simp) f2302 n2238
    cases h
    exact kq a2235 _ _ S2304.toRet f2306
end
end K74

namespace K74
open PySem L2 LX LQ
section
variable {P : Program} {w : World} {K : PySem.W.Frag} {mg : Str → Option Value} {base : Heap} {a : Ad}
open LQF
def sp_called_colors (K : PySem.W.Frag) : Sp := fun vs H Q _ => ∃ (a2307 : Addr) (x_lineup : (List (Int × Str))) (a2308 : Addr) (x_calls : (List Int)), vs = [.ref a2307, .ref a2308] ∧ Fr E0h H (.ref a2307) ((eL (eT2 eI eS)) x_lineup) ∧ Fr E0h H (.ref a2308) ((eL eI) x_calls) ∧ ∃ r, F_called_colors x_lineup x_calls = some r ∧ ∀ (a : Addr) (G H' : Hp), Ret [] H G H' → Fr H G (.ref a) ((eL eS) (r)) → Q (.ref a) H'
theorem ok_called_colors (T : Txt K mg a) : FnOk P w K mg base CX0 5 a.f_called_colors a.d_called_colors ["lineup", "calls"] (sp_called_colors K) := by
  refine T.F_called_colors.ok sc_called_colors (fun vs H Q E h => ?_) (fun cdv A outer s H0 vs Q E hr h => ?_)
  · obtain ⟨a2307, x_lineup, a2308, x_calls, rfl, _⟩ := h
    rfl
  · obtain ⟨a2307, x_lineup, a2308, x_calls, rfl, f2309, f2310, r, h, kq⟩ := h
    have nd := sc_called_colors.nd
    have hu64 := hr.units
    refine ⟨_, (pss_cons (ps_expr (pe_call (ok_check_lineup T) (hr.mono (by decide)) rfl T.g_check_lineup T.k_check_lineup T.n_check_lineup .nil pass0 (pa_cons (pv 0) pa_nil)))
      (pss_cons (ps_expr (pe_call (ok_check_calls T) (hr.mono (by decide)) rfl T.g_check_calls T.k_check_calls T.n_check_calls .nil pass0 (pa_cons (pv 0) (pa_cons (pv 1) pa_nil))))
      (pss_cons (ps_set (i := 2) nd rfl (Or.inl rfl) (pe_lst pa_nil))
      (pss_cons (ps_for PassesOwn.never rfl (pi_enum rfl T.b_enumerate (pa_cons (pe_call (ok_lineups_at_moments T) (hr.mono (by decide)) rfl T.g_lineups_at_moments T.k_lineups_at_moments T.n_lineups_at_moments .nil pass0 (pa_cons (pv 0) (pa_cons (pv 1) pa_nil))) pa_nil)) (kpg_tup (K := K) rfl (pgs_cons (pg_name (i := 3) nd rfl (Or.inl rfl)) (pgs_cons (pg_name (i := 4) nd rfl (Or.inl rfl)) pgs_nil))) (pss_cons (ps_set (i := 5) nd rfl (Or.inr rfl) (pe_slice (ksl_list (K := K)) (pv 1) po_none (po_some (pv 3))))
      (pss_one (ps_expr (kbm (K := K) PySem.F.plainAttrs_list PySem.F.slot_list_append PySem.F.type_list_append mt_append (pv 2) (pa_cons (kbm (K := K) PySem.F.plainAttrs_str PySem.F.slot_str_join PySem.F.type_str_join (kjoin (K := K)) pe_str (pa_cons (pe_callB (ksortTxt (P := P) (w := w) rfl) (by rfl) T.b_sorted (by decide +kernel) (pa_cons (pe_scT (P := P) (w := w) (own := [("person", 6), ("color", 7)]) (g := gTup K 2 (gCons (gName 6) (gCons (gName 7) gNil))) rfl nd (kpi_list (K := K) (pv 4)) (blkOk_by (own := [("person", 6), ("color", 7)]) (N := ["lineup", "calls", "texts", "moment", "current", "called", "person", "color"]) (sc := defScope s_called_colors) (by decide +kernel)) (fun _ _ _ _ _ => (kpg_tup (K := K) rfl (pgs_cons (pg_name (i := 6) nd rfl (Or.inl rfl)) (pgs_cons (pg_name (i := 7) nd rfl (Or.inl rfl)) pgs_nil)))) (fun _ _ _ _ _ => pts_one (pt_cmpR (kin (K := K)) (pv 6) (pv 5) rfl)) (fun _ _ _ _ _ => (pv 7))) pa_nil)) pa_nil)) pa_nil))))))
      (pss_one (ps_ret (pv 2))))))), ?_⟩
    unfold F_called_colors at h
    have S0 := Sep.start H0
    refine rd_seq ?_
    refine rd_drop ?_
    refine rd_call ?_
    refine rd_cons ?_
    refine rd_var rfl ?_
    refine rd_nil ?_
    obtain ⟨y2311, h2312, h⟩ := bnd h
    refine ⟨a2307, x_lineup, rfl, (f2309.same S0.sub), y2311, h2312, fun G2313 H2314 R2315 => ?_⟩
    obtain ⟨G2316, S2317, s2318, t2319, l2320⟩ := S0.ret0 R2315
    have f2309 := f2309.same s2318
    have f2310 := f2310.same s2318
    refine rd_mk ?_
    refine rd_seq ?_
    refine rd_drop ?_
    refine rd_call ?_
    refine rd_cons ?_
    refine rd_var rfl ?_
    refine rd_cons ?_
    refine rd_var rfl ?_
    refine rd_nil ?_
    obtain ⟨y2321, h2322, h⟩ := bnd h
    refine ⟨a2307, x_lineup, a2308, x_calls, rfl, (f2309.same S2317.sub), (f2310.same S2317.sub), y2321, h2322, fun G2323 H2324 R2325 => ?_⟩
    obtain ⟨G2326, S2327, s2328, t2329, l2330⟩ := S2317.ret0 R2325
    have f2309 := f2309.same s2328
    have f2310 := f2310.same s2328
    refine rd_mk ?_
    refine rd_seq ?_
    refine rd_asg ?_
    refine rd_lstZ ?_
    refine rd_nil ?_
    refine q_lstO S2327 (by show 0 ≤ LIM; decide) fun a2331 H2332 S2333 n2334 => ?_
    have f2335 : FrL H0 G2326 [] (([] : (List Str)).map eS) := .nil
    refine rd_nameS (σ' := [some (.ref a2307), some (.ref a2308), some (.ref a2331), none, none, none, none, none]) rfl ?_
    refine rd_mk ?_
    refine rd_seq ?_
    refine rd_for ?_
    refine rd_iEn ?_
    refine rd_cons ?_
    refine rd_call ?_
    refine rd_cons ?_
    refine rd_var rfl ?_
    refine rd_cons ?_
    refine rd_var rfl ?_
    refine rd_nil ?_
    obtain ⟨y2336, h2337, h⟩ := bnd h
    refine ⟨a2307, x_lineup, a2308, x_calls, rfl, (f2309.same S2333.sub), (f2310.same S2333.sub), y2336, h2337, fun a2341 G2338 H2339 R2340 f2342 => ?_⟩
    obtain ⟨G2343, S2344, s2345, t2346, l2347⟩ := S2333.ret0 R2340
    have f2309 := f2309.same s2345
    have f2310 := f2310.same s2345
    have f2335 := f2335.same s2345
    have f2342 := t2346 _ _ f2342
    refine rd_nil ?_
    obtain ⟨w2348, h2349, k2350⟩ := li f2342
    refine ⟨_, _, rfl, SqL.of (S2344.sub _ _ h2349), ?_⟩
    obtain ⟨r2372, h2373, h⟩ := bnd h
    refine q_forF h2373 (w_en k2350) (fun s2352 σ' H' => ∃ (x2364 : Option V) (x2365 : Option V) (x2366 : Option V) (w2367 : List V) (G2360 : Hp), σ' = [some (.ref a2307), some (.ref a2308), some (.ref a2331), x2364, x2365, x2366, none, none] ∧ Sep [] H0 G2360 H' [(a2331, .lst w2367)] ∧ Same G2343 G2360 ∧ FrL H0 G2360 w2367 ((s2352).map eS)) ?_ ?_ ?_ ?_
    · exact ⟨_, _, _, [], G2343, rfl, S2344, Same.refl _, f2335⟩
    · rintro s2352 _ H2361 ⟨x2364, x2365, x2366, w2367, G2360, rfl, S2362, sE2363, f2368⟩
      exact (S2362.sub _ _ (sE2363 _ _ h2349))
    · rintro i2353 a2351 s2352 s2354 x2355 _ H2361 H2356 h2357 h ⟨x2364, x2365, x2366, w2367, G2360, rfl, S2362, sE2363, f2368⟩ h2358
      have f2310 := f2310.same sE2363
      obtain ⟨T2374, v2375, v2376, rfl, h2377, e2379, e2378⟩ := h2358
      obtain ⟨k2380, k2381⟩ := e2378 _ h2357
      replace k2380 := k2380.same sE2363
      replace k2381 := k2381.same sE2363
      obtain ⟨G2382, S2383, s2384, f2385⟩ := S2362.pair h2377 e2379 k2380 k2381
      have f2310 := f2310.same s2384
      have f2368 := f2368.same s2384
      have sE2363 := sE2363.trans s2384
      replace f2385 : Fr H0 G2382 (.ref T2374) (eT2 eI (eL (eT2 eI eS)) a2351) := f2385
      obtain ⟨v2386, v2387, h2390, f2388, f2389⟩ := tu2 f2385
      cases fr_int f2388
      obtain ⟨a2391, rfl⟩ := fr_lst f2389
      refine rd_gtup (S2383.sub _ _ h2390) rfl ?_
      refine rd_gcons ?_
      refine rd_nameS (σ' := [some (.ref a2307), some (.ref a2308), some (.ref a2331), some (.int a2351.1), x2365, x2366, none, none]) rfl ?_
      refine rd_gcons ?_
      refine rd_nameS (σ' := [some (.ref a2307), some (.ref a2308), some (.ref a2331), some (.int a2351.1), some (.ref a2391), x2366, none, none]) rfl ?_
      refine rd_gnil ?_
      refine rd_seq ?_
      refine rd_asg ?_
      refine rd_sl ?_
      refine rd_var rfl ?_
      refine rd_nopart ?_
      refine rd_part ?_
      refine rd_var rfl ?_
      refine rd_int ?_
      obtain ⟨w2392, h2393, k2394⟩ := li f2310
      refine q_slL S2383 (S2383.sub _ _ h2393) (k2394.imm (flat_map flI _)) S2383.old fun a2395 G2398 H2396 S2397 s2399 f2400 => ?_
      have f2310 := f2310.same s2399
      have f2389 := f2389.same s2399
      have f2368 := f2368.same s2399
      have sE2363 := sE2363.trans s2399
      refine rd_nameS (σ' := [some (.ref a2307), some (.ref a2308), some (.ref a2331), some (.int a2351.1), some (.ref a2391), some (.ref a2395), none, none]) rfl ?_
      refine rd_mk ?_
      refine rd_drop ?_
      refine rd_bm ?_
      refine rd_var rfl ?_
      refine ⟨Or.inl ⟨rfl, _, SqL.of (S2397.get 0 rfl)⟩, ?_⟩
      refine rd_cons ?_
      refine rd_bm ?_
      refine rd_c ?_
      refine ⟨rfl, ?_⟩
      refine rd_cons ?_
      refine rd_cb ?_
      refine rd_cons ?_
      refine rd_scT' ?_
      refine rd_iList ?_
      refine rd_var rfl ?_
      obtain ⟨w2401, h2402, k2403⟩ := li f2389
      refine ⟨_, rfl, ⟨_, SqL.of (S2397.sub _ _ h2402)⟩, ?_⟩
      intro D2404 h2405
      obtain ⟨l2430, h2431, h⟩ := bnd h
      refine q_scT h2431 (w_li k2403) S2397 h2405 ?_ ?_ ?_
      · rintro GD2404 HD2404 accD2404 SD2404 sD2404
        exact (SD2404.sub _ _ (sD2404 _ _ h2402))
      · rintro i2407 x2408 a2406 o2417 G2411 H2409 H2410 u2416 h2414 h S2412 s2413 h2415 T F hT hF
        have f2310 := f2310.same s2413
        have f2389 := f2389.same s2413
        have f2400 := f2400.same s2413
        have f2368 := f2368.same s2413
        have sT2418 := Same.refl G2411
        obtain ⟨rfl, e2419⟩ := h2415
        have f2420 := (e2419 _ h2414).same s2413
        obtain ⟨a2421, rfl⟩ := fr_tup f2420
        obtain ⟨v2422, v2423, h2426, f2424, f2425⟩ := tu2 f2420
        cases fr_int f2424
        cases fr_str f2425
        refine rd_gtup (S2412.sub _ _ h2426) rfl ?_
        refine rd_gcons ?_
        refine rd_nameS (σ' := [some (.ref a2307), some (.ref a2308), some (.ref a2331), some (.int a2351.1), some (.ref a2391), some (.ref a2395), some (.int a2406.1), none]) rfl ?_
        refine rd_gcons ?_
        refine rd_nameS (σ' := [some (.ref a2307), some (.ref a2308), some (.ref a2331), some (.int a2351.1), some (.ref a2391), some (.ref a2395), some (.int a2406.1), some (.str a2406.2)]) rfl ?_
        refine rd_gnil ?_
        refine ⟨rfl, ?_⟩
        refine rd_test ?_
        refine rd_op ?_
        refine rd_var rfl ?_
        refine rd_var rfl ?_
        obtain ⟨w2427, h2428, k2429⟩ := li f2400
        refine q_inI (S2412.sub _ _ h2428) k2429 ?_
        refine rd_bl ?_
        rcases cnd h with ⟨c2432, h⟩ | ⟨c2432, h⟩
        ·
          refine iteY c2432 ?_
          refine rd_var rfl ?_
          cases h
          exact hT _ _ _ rfl S2412 sT2418
        ·
          refine iteN c2432 ?_
          cases h
          exact hF _ _ rfl S2412 sT2418
      rintro G2433 H2434 S2435 s2436 f2437
      have f2310 := f2310.same s2436
      have f2389 := f2389.same s2436
      have f2400 := f2400.same s2436
      have f2368 := f2368.same s2436
      have sE2363 := sE2363.trans s2436
      refine rd_nil ?_
      refine q_sortU S2435 f2437 ?_
      refine q_new (F0 := H0) (ds := (sortU l2430).map eS) S2435 (strs_frl _) S2435.old fun a2440 G2441 H2442 S2443 s2444 f2445 => ?_
      have f2310 := f2310.same s2444
      have f2389 := f2389.same s2444
      have f2400 := f2400.same s2444
      have f2368 := f2368.same s2444
      have sE2363 := sE2363.trans s2444
      refine rd_nil ?_
      obtain ⟨w2446, h2447, k2448⟩ := li f2445
      obtain ⟨y2449, h2450, h⟩ := bnd h
      refine q_join (S2443.sub _ _ h2447) k2448 h2450 ?_
      refine rd_nil ?_
      obtain ⟨l2451, h2452, h⟩ := bnd h
      refine q_app S2443 0 rfl f2368 (.str _) h2452 fun w2453 H2454 S2455 f2456 => ?_
      have S2455 : Sep [] H0 G2441 H2454 [(a2331, .lst w2453)] := S2455
      cases h
      exact ⟨_, _, _, w2453, G2441, rfl, S2455, sE2363, f2456⟩
    rintro _ H2458 ⟨x2461, x2462, x2463, w2464, G2457, rfl, S2459, sE2460, f2465⟩
    have f2310 := f2310.same sE2460
    refine rd_mk ?_
    refine rd_ret ?_
    refine rd_var rfl ?_
    obtain ⟨G2466, S2467, s2468, f2469⟩ := S2459.fixL 0 rfl (by simp) f2465 n2334
    cases h
    exact kq a2331 _ _ S2467.toRet f2469
end
end K74

namespace K74
open PySem L2 LX LQ
section
variable {P : Program} {w : World} {K : PySem.W.Frag} {mg : Str → Option Value} {base : Heap} {a : Ad}
open LQF
def sp_single_color_moments (K : PySem.W.Frag) : Sp := fun vs H Q _ => ∃ (a2470 : Addr) (x_lineup : (List (Int × Str))) (a2471 : Addr) (x_calls : (List Int)), vs = [.ref a2470, .ref a2471] ∧ Fr E0h H (.ref a2470) ((eL (eT2 eI eS)) x_lineup) ∧ Fr E0h H (.ref a2471) ((eL eI) x_calls) ∧ ∃ r, F_single_color_moments x_lineup x_calls = some r ∧ ∀ (a : Addr) (G H' : Hp), Ret [] H G H' → Fr H G (.ref a) ((eL eI) (r)) → Q (.ref a) H'
theorem ok_single_color_moments (T : Txt K mg a) : FnOk P w K mg base CX0 6 a.f_single_color_moments a.d_single_color_moments ["lineup", "calls"] (sp_single_color_moments K) := by
  refine T.F_single_color_moments.ok sc_single_color_moments (fun vs H Q E h => ?_) (fun cdv A outer s H0 vs Q E hr h => ?_)
  · obtain ⟨a2470, x_lineup, a2471, x_calls, rfl, _⟩ := h
    rfl
  · obtain ⟨a2470, x_lineup, a2471, x_calls, rfl, f2472, f2473, r, h, kq⟩ := h
    have nd := sc_single_color_moments.nd
    have hu64 := hr.units
    refine ⟨_, (pss_one (ps_ret (pe_lc (own := [("moment", 2), ("text", 3)]) (g := gTup K 2 (gCons (gName 2) (gCons (gName 3) gNil))) rfl nd (pi_enum rfl T.b_enumerate (pa_cons (pe_call (ok_called_colors T) (hr.mono (by decide)) rfl T.g_called_colors T.k_called_colors T.n_called_colors .nil pass0 (pa_cons (pv 0) (pa_cons (pv 1) pa_nil))) pa_nil)) (blkOk_by (own := [("moment", 2), ("text", 3)]) (N := ["lineup", "calls", "moment", "text"]) (sc := defScope s_single_color_moments) (by decide +kernel)) (fun _ _ _ _ _ => (kpg_tup (K := K) rfl (pgs_cons (pg_name (i := 2) nd rfl (Or.inl rfl)) (pgs_cons (pg_name (i := 3) nd rfl (Or.inl rfl)) pgs_nil)))) (fun _ _ _ _ _ => pts_one (pt_cmpR op_eq (pe_callB klenS (by rfl) T.b_len (by decide +kernel) (pa_cons (pv 3) pa_nil)) pe_int (nomark _))) (fun _ _ _ _ _ => (pv 2))))), ?_⟩
    unfold F_single_color_moments at h
    have S0 := Sep.start H0
    refine rd_ret ?_
    refine rd_lc ?_
    refine rd_iEn ?_
    refine rd_cons ?_
    refine rd_call ?_
    refine rd_cons ?_
    refine rd_var rfl ?_
    refine rd_cons ?_
    refine rd_var rfl ?_
    refine rd_nil ?_
    obtain ⟨y2474, h2475, h⟩ := bnd h
    refine ⟨a2470, x_lineup, a2471, x_calls, rfl, (f2472.same S0.sub), (f2473.same S0.sub), y2474, h2475, fun a2479 G2476 H2477 R2478 f2480 => ?_⟩
    obtain ⟨G2481, S2482, s2483, t2484, l2485⟩ := S0.ret0 R2478
    have f2472 := f2472.same s2483
    have f2473 := f2473.same s2483
    have f2480 := t2484 _ _ f2480
    refine rd_nil ?_
    obtain ⟨w2486, h2487, k2488⟩ := li f2480
    refine ⟨_, _, rfl, SqL.of (S2482.sub _ _ h2487), ?_⟩
    intro D2489 h2490
    obtain ⟨l2524, h2525, h⟩ := bnd h
    refine q_lcL (enc := eI) (F0 := H0) h2525 (w_en k2488) S2482 h2490 S2482.old ?_ ?_ ?_
    · rintro GD2489 HD2489 accD2489 SD2489 sD2489
      exact (SD2489.sub _ _ (sD2489 _ _ h2487))
    · rintro i2492 x2493 a2491 o2502 G2496 H2494 H2495 acc2501 h2499 h S2497 s2498 h2500 T F hT hF
      have f2472 := f2472.same s2498
      have f2473 := f2473.same s2498
      have sT2503 := Same.refl G2496
      obtain ⟨T2505, v2506, v2507, rfl, h2508, e2510, e2509⟩ := h2500
      obtain ⟨k2511, k2512⟩ := e2509 _ h2499
      replace k2511 := k2511.same s2498
      replace k2512 := k2512.same s2498
      obtain ⟨G2513, S2514, s2515, f2516⟩ := S2497.pair h2508 e2510 k2511 k2512
      have f2472 := f2472.same s2515
      have f2473 := f2473.same s2515
      have sT2503 := sT2503.trans s2515
      replace f2516 : Fr H0 G2513 (.ref T2505) (eT2 eI eS a2491) := f2516
      obtain ⟨v2517, v2518, h2521, f2519, f2520⟩ := tu2 f2516
      cases fr_int f2519
      cases fr_str f2520
      refine rd_gtup (S2514.sub _ _ h2521) rfl ?_
      refine rd_gcons ?_
      refine rd_nameS (σ' := [some (.ref a2470), some (.ref a2471), some (.int a2491.1), none]) rfl ?_
      refine rd_gcons ?_
      refine rd_nameS (σ' := [some (.ref a2470), some (.ref a2471), some (.int a2491.1), some (.str a2491.2)]) rfl ?_
      refine rd_gnil ?_
      refine ⟨rfl, ?_⟩
      refine rd_test ?_
      refine rd_op ?_
      refine rd_cb ?_
      refine rd_cons ?_
      refine rd_var rfl ?_
      refine rd_nil ?_
      obtain ⟨y2522, h2523, h⟩ := bnd h
      refine q_lenS h2523 ?_
      refine rd_c ?_
      refine q_eqI ?_
      refine rd_bl ?_
      rcases cnd h with ⟨c2526, h⟩ | ⟨c2526, h⟩
      ·
        refine iteY c2526 ?_
        refine rd_var rfl ?_
        cases h
        exact hT _ _ _ _ rfl S2514 sT2503 (.int _)
      ·
        refine iteN c2526 ?_
        cases h
        exact hF _ _ rfl S2514 sT2503
    rintro G2527 H2528 w2529 S2530 s2531 f2532 n2533 n2534
    have f2472 := f2472.same s2531
    have f2473 := f2473.same s2531
    obtain ⟨G2535, S2536, s2537, f2538⟩ := S2530.fixF 0 rfl (by simp) f2532 n2534
    have f2472 := f2472.same s2537
    have f2473 := f2473.same s2537
    cases h
    exact kq D2489 _ _ S2536.toRet f2538
end
end K74

namespace K74
open PySem L2 LX LQ
section
variable {P : Program} {w : World} {K : PySem.W.Frag} {mg : Str → Option Value} {base : Heap} {a : Ad}
open LQF
def sp_lineup_after (K : PySem.W.Frag) : Sp := fun vs H Q _ => ∃ (a2539 : Addr) (x_lineup : (List (Int × Str))) (a2540 : Addr) (x_calls : (List Int)), vs = [.ref a2539, .ref a2540] ∧ Fr E0h H (.ref a2539) ((eL (eT2 eI eS)) x_lineup) ∧ Fr E0h H (.ref a2540) ((eL eI) x_calls) ∧ ∃ r, F_lineup_after x_lineup x_calls = some r ∧ ∀ (a : Addr) (G H' : Hp), Ret [] H G H' → Fr H G (.ref a) ((eL (eT2 eI eS)) (r)) → Q (.ref a) H'
theorem ok_lineup_after (T : Txt K mg a) : FnOk P w K mg base CX0 5 a.f_lineup_after a.d_lineup_after ["lineup", "calls"] (sp_lineup_after K) := by
  refine T.F_lineup_after.ok sc_lineup_after (fun vs H Q E h => ?_) (fun cdv A outer s H0 vs Q E hr h => ?_)
  · obtain ⟨a2539, x_lineup, a2540, x_calls, rfl, _⟩ := h
    rfl
  · obtain ⟨a2539, x_lineup, a2540, x_calls, rfl, f2541, f2542, r, h, kq⟩ := h
    have nd := sc_lineup_after.nd
    have hu64 := hr.units
    refine ⟨_, (pss_cons (ps_expr (pe_call (ok_check_lineup T) (hr.mono (by decide)) rfl T.g_check_lineup T.k_check_lineup T.n_check_lineup .nil pass0 (pa_cons (pv 0) pa_nil)))
      (pss_cons (ps_expr (pe_call (ok_check_calls T) (hr.mono (by decide)) rfl T.g_check_calls T.k_check_calls T.n_check_calls .nil pass0 (pa_cons (pv 0) (pa_cons (pv 1) pa_nil))))
      (pss_cons (ps_set (i := 2) nd rfl (Or.inl rfl) (pe_callTy (klist (K := K)) (by rfl) T.b_list (by decide +kernel) (pa_cons (pv 0) pa_nil)))
      (pss_cons (ps_for PassesOwn.never rfl (kpi_list (K := K) (pv 1)) (pg_name (i := 3) nd rfl (Or.inl rfl)) (pss_one (ps_asg (pe_call (ok_apply_call T) (hr.mono (by decide)) rfl T.g_apply_call T.k_apply_call T.n_apply_call .nil pass0 (pa_cons (pv 2) (pa_cons (pv 3) pa_nil))) (kpg_tup (K := K) rfl (pgs_cons (pg_name (i := 2) nd rfl (Or.inl rfl)) (pgs_cons (pg_name (i := 4) nd rfl (Or.inl rfl)) pgs_nil))))))
      (pss_one (ps_ret (pv 2))))))), ?_⟩
    unfold F_lineup_after at h
    have S0 := Sep.start H0
    refine rd_seq ?_
    refine rd_drop ?_
    refine rd_call ?_
    refine rd_cons ?_
    refine rd_var rfl ?_
    refine rd_nil ?_
    obtain ⟨y2543, h2544, h⟩ := bnd h
    refine ⟨a2539, x_lineup, rfl, (f2541.same S0.sub), y2543, h2544, fun G2545 H2546 R2547 => ?_⟩
    obtain ⟨G2548, S2549, s2550, t2551, l2552⟩ := S0.ret0 R2547
    have f2541 := f2541.same s2550
    have f2542 := f2542.same s2550
    refine rd_mk ?_
    refine rd_seq ?_
    refine rd_drop ?_
    refine rd_call ?_
    refine rd_cons ?_
    refine rd_var rfl ?_
    refine rd_cons ?_
    refine rd_var rfl ?_
    refine rd_nil ?_
    obtain ⟨y2553, h2554, h⟩ := bnd h
    refine ⟨a2539, x_lineup, a2540, x_calls, rfl, (f2541.same S2549.sub), (f2542.same S2549.sub), y2553, h2554, fun G2555 H2556 R2557 => ?_⟩
    obtain ⟨G2558, S2559, s2560, t2561, l2562⟩ := S2549.ret0 R2557
    have f2541 := f2541.same s2560
    have f2542 := f2542.same s2560
    refine rd_mk ?_
    refine rd_seq ?_
    refine rd_asg ?_
    refine rd_cb ?_
    refine rd_cons ?_
    refine rd_var rfl ?_
    refine rd_nil ?_
    obtain ⟨w2563, h2564, k2565⟩ := li f2541
    refine q_list S2559 (S2559.sub _ _ h2564) (k2565.imm (flat_map (flT2 flI flS) _)) S2559.old fun a2566 G2567 H2568 S2569 s2570 f2571 => ?_
    have f2541 := f2541.same s2570
    have f2542 := f2542.same s2570
    refine rd_nameS (σ' := [some (.ref a2539), some (.ref a2540), some (.ref a2566), none, none]) rfl ?_
    refine rd_mk ?_
    refine rd_seq ?_
    refine rd_for ?_
    refine rd_iList ?_
    refine rd_var rfl ?_
    obtain ⟨w2572, h2573, k2574⟩ := li f2542
    refine ⟨_, rfl, ⟨_, SqL.of (S2569.sub _ _ h2573)⟩, ?_⟩
    obtain ⟨r2595, h2596, h⟩ := bnd h
    refine q_forF h2596 (w_li k2574) (fun s2576 σ' H' => ∃ (x2588 : Option V) (x2589 : Option V) (a2590 : Addr) (G2584 : Hp), σ' = [some (.ref a2539), some (.ref a2540), some (.ref a2590), x2588, x2589] ∧ Sep [] H0 G2584 H' [] ∧ Same G2567 G2584 ∧ Fr H0 G2584 (.ref a2590) ((eL (eT2 eI eS)) s2576)) ?_ ?_ ?_ ?_
    · exact ⟨_, _, a2566, G2567, rfl, S2569, Same.refl _, f2571⟩
    · rintro s2576 _ H2585 ⟨x2588, x2589, a2590, G2584, rfl, S2586, sE2587, f2591⟩
      exact (S2586.sub _ _ (sE2587 _ _ h2573))
    · rintro i2577 a2575 s2576 s2578 x2579 _ H2585 H2580 h2581 h ⟨x2588, x2589, a2590, G2584, rfl, S2586, sE2587, f2591⟩ h2582
      obtain ⟨rfl, e2597⟩ := h2582
      have f2598 := (e2597 _ h2581).same sE2587
      cases fr_int f2598
      refine rd_nameS (σ' := [some (.ref a2539), some (.ref a2540), some (.ref a2590), some (.int a2575), x2589]) rfl ?_
      refine rd_asg ?_
      refine rd_call ?_
      refine rd_cons ?_
      refine rd_var rfl ?_
      refine rd_cons ?_
      refine rd_var rfl ?_
      refine rd_nil ?_
      obtain ⟨y2599, h2600, h⟩ := bnd h
      refine ⟨a2590, s2576, a2575, rfl, (f2591.rp.same S2586.sub), y2599, h2600, fun a2604 G2601 H2602 R2603 f2605 => ?_⟩
      obtain ⟨G2606, S2607, s2608, t2609, l2610⟩ := S2586.ret0 R2603
      have f2591 := f2591.same s2608
      have sE2587 := sE2587.trans s2608
      have f2605 := t2609 _ _ f2605
      obtain ⟨v2611, v2612, h2615, f2613, f2614⟩ := tu2 f2605
      obtain ⟨a2616, rfl⟩ := fr_lst f2613
      cases fr_oS f2614
      refine rd_gtup (S2607.sub _ _ h2615) rfl ?_
      refine rd_gcons ?_
      refine rd_nameS (σ' := [some (.ref a2539), some (.ref a2540), some (.ref a2616), some (.int a2575), x2589]) rfl ?_
      refine rd_gcons ?_
      refine rd_nameS (σ' := [some (.ref a2539), some (.ref a2540), some (.ref a2616), some (.int a2575), some (vO V.str y2599.2)]) rfl ?_
      refine rd_gnil ?_
      cases h
      exact ⟨_, _, a2616, G2606, rfl, S2607, sE2587, f2613⟩
    rintro _ H2618 ⟨x2621, x2622, a2623, G2617, rfl, S2619, sE2620, f2624⟩
    refine rd_mk ?_
    refine rd_ret ?_
    refine rd_var rfl ?_
    cases h
    exact kq a2623 _ _ S2619.toRet f2624
end
end K74

namespace K74
open PySem L2 LX LQ
section
variable {P : Program} {w : World} {K : PySem.W.Frag} {mg : Str → Option Value} {base : Heap} {a : Ad}
open LQF
def sp_called_sides (K : PySem.W.Frag) : Sp := fun vs H Q _ => ∃ (a2625 : Addr) (x_lineup : (List (Int × Str))) (a2626 : Addr) (x_calls : (List Int)), vs = [.ref a2625, .ref a2626] ∧ Fr E0h H (.ref a2625) ((eL (eT2 eI eS)) x_lineup) ∧ Fr E0h H (.ref a2626) ((eL eI) x_calls) ∧ ∃ r, F_called_sides x_lineup x_calls = some r ∧ ∀ (a : Addr) (G H' : Hp), Ret [] H G H' → Fr H G (.ref a) ((eT2 (eL eI) (eL eI)) (r)) → Q (.ref a) H'
theorem ok_called_sides (T : Txt K mg a) : FnOk P w K mg base CX0 6 a.f_called_sides a.d_called_sides ["lineup", "calls"] (sp_called_sides K) := by
  refine T.F_called_sides.ok sc_called_sides (fun vs H Q E h => ?_) (fun cdv A outer s H0 vs Q E hr h => ?_)
  · obtain ⟨a2625, x_lineup, a2626, x_calls, rfl, _⟩ := h
    rfl
  · obtain ⟨a2625, x_lineup, a2626, x_calls, rfl, f2627, f2628, r, h, kq⟩ := h
    have nd := sc_called_sides.nd
    have hu64 := hr.units
    refine ⟨_, (pss_cons (ps_set (i := 2) nd rfl (Or.inl rfl) (pe_call (ok_lineup_after T) (hr.mono (by decide)) rfl T.g_lineup_after T.k_lineup_after T.n_lineup_after .nil pass0 (pa_cons (pv 0) (pa_cons (pv 1) pa_nil))))
      (pss_cons (ps_set (i := 3) nd rfl (Or.inr rfl) (pe_ix (kix_tup (K := K)) (pe_ix (kix_list (K := K)) (pv 2) pe_int (fun _ _ => rfl)) pe_int (fun _ _ => rfl)))
      (pss_cons (ps_setLc (i := 4) (own := [("person", 7), ("color", 8)]) (g := gTup K 2 (gCons (gName 7) (gCons (gName 8) gNil))) rfl nd rfl rfl (sw_true rfl rfl rfl (by decide +kernel)) (kpi_list (K := K) (pe_callB (ksortT (K := K) (m := fun e : Int × Str => [.int e.1, .str e.2]) (enc := encIS) srtIS hu64) (by rfl) T.b_sorted (by decide +kernel) (pa_cons (pv 2) pa_nil))) (blkOk_by (own := [("person", 7), ("color", 8)]) (N := ["lineup", "calls", "after", "front", "called", "alike", "different", "person", "color"]) (sc := defScope s_called_sides) (by decide +kernel)) (fun _ _ _ _ _ => (kpg_tup (K := K) rfl (pgs_cons (pg_name (i := 7) nd rfl (Or.inl rfl)) (pgs_cons (pg_name (i := 8) nd rfl (Or.inl rfl)) pgs_nil)))) (fun _ _ _ _ _ => pts_one (pt_cmpR (kin (K := K)) (pv 7) (pv 1) rfl)) (fun _ _ _ _ _ => (pe_tup (pa_cons (pv 7) (pa_cons (pv 8) pa_nil)))))
      (pss_cons (ps_setLc (i := 5) (own := [("person", 7), ("color", 8)]) (g := gTup K 2 (gCons (gName 7) (gCons (gName 8) gNil))) rfl nd rfl rfl (sw_true rfl rfl rfl (by decide +kernel)) (kpi_list (K := K) (pv 4)) (blkOk_by (own := [("person", 7), ("color", 8)]) (N := ["lineup", "calls", "after", "front", "called", "alike", "different", "person", "color"]) (sc := defScope s_called_sides) (by decide +kernel)) (fun _ _ _ _ _ => (kpg_tup (K := K) rfl (pgs_cons (pg_name (i := 7) nd rfl (Or.inl rfl)) (pgs_cons (pg_name (i := 8) nd rfl (Or.inl rfl)) pgs_nil)))) (fun _ _ _ _ _ => pts_one (pt_cmpR op_eq (pv 8) (pv 3) (nomark _))) (fun _ _ _ _ _ => (pv 7)))
      (pss_cons (ps_setLc (i := 6) (own := [("person", 7), ("color", 8)]) (g := gTup K 2 (gCons (gName 7) (gCons (gName 8) gNil))) rfl nd rfl rfl (sw_true rfl rfl rfl (by decide +kernel)) (kpi_list (K := K) (pv 4)) (blkOk_by (own := [("person", 7), ("color", 8)]) (N := ["lineup", "calls", "after", "front", "called", "alike", "different", "person", "color"]) (sc := defScope s_called_sides) (by decide +kernel)) (fun _ _ _ _ _ => (kpg_tup (K := K) rfl (pgs_cons (pg_name (i := 7) nd rfl (Or.inl rfl)) (pgs_cons (pg_name (i := 8) nd rfl (Or.inl rfl)) pgs_nil)))) (fun _ _ _ _ _ => pts_one (pt_cmpR op_ne (pv 8) (pv 3) (nomark _))) (fun _ _ _ _ _ => (pv 7)))
      (pss_one (ps_ret (pe_tup (pa_cons (pv 5) (pa_cons (pv 6) pa_nil)))))))))), ?_⟩
    unfold F_called_sides at h
    have S0 := Sep.start H0
    refine rd_seq ?_
    refine rd_asg ?_
    refine rd_call ?_
    refine rd_cons ?_
    refine rd_var rfl ?_
    refine rd_cons ?_
    refine rd_var rfl ?_
    refine rd_nil ?_
    obtain ⟨y2629, h2630, h⟩ := bnd h
    refine ⟨a2625, x_lineup, a2626, x_calls, rfl, (f2627.same S0.sub), (f2628.same S0.sub), y2629, h2630, fun a2634 G2631 H2632 R2633 f2635 => ?_⟩
    obtain ⟨G2636, S2637, s2638, t2639, l2640⟩ := S0.ret0 R2633
    have f2627 := f2627.same s2638
    have f2628 := f2628.same s2638
    have f2635 := t2639 _ _ f2635
    refine rd_nameS (σ' := [some (.ref a2625), some (.ref a2626), some (.ref a2634), none, none, none, none, none, none]) rfl ?_
    refine rd_mk ?_
    refine rd_seq ?_
    refine rd_asg ?_
    refine rd_op ?_
    refine rd_op ?_
    refine rd_var rfl ?_
    refine rd_c ?_
    obtain ⟨y2641, h2642, h⟩ := bnd h
    obtain ⟨w2643, h2644, k2645⟩ := li f2635
    refine q_ixL (S2637.sub _ _ h2644) k2645 h2642 fun v2646 f2647 => ?_
    obtain ⟨a2648, rfl⟩ := fr_tup f2647
    refine rd_c ?_
    obtain ⟨v2649, v2650, h2653, f2651, f2652⟩ := tu2 f2647
    cases fr_int f2651
    cases fr_str f2652
    refine rd_ixT (S2637.sub _ _ h2653) rfl ?_
    refine rd_nameS (σ' := [some (.ref a2625), some (.ref a2626), some (.ref a2634), some (.str y2641.2), none, none, none, none, none]) rfl ?_
    refine rd_mk ?_
    refine rd_seq ?_
    refine rd_asg ?_
    refine rd_lc ?_
    refine rd_iList ?_
    refine rd_cb ?_
    refine rd_cons ?_
    refine rd_var rfl ?_
    refine rd_nil ?_
    obtain ⟨w2654, h2655, k2656⟩ := li f2635
    obtain ⟨l2657, h2658, h⟩ := bnd h
    refine q_sortR S2637 (S2637.sub _ _ h2655) k2656 h2658 fun a2659 G2660 H2661 S2662 s2663 f2664 => ?_
    have f2628 := f2628.same s2663
    have f2635 := f2635.same s2663
    obtain ⟨w2665, h2666, k2667⟩ := li f2664
    refine ⟨_, rfl, ⟨_, SqL.of (S2662.sub _ _ h2666)⟩, ?_⟩
    intro D2668 h2669
    obtain ⟨l2701, h2702, h⟩ := bnd h
    refine q_lcL (enc := (eT2 eI eS)) (F0 := H0) h2702 (w_li k2667) S2662 h2669 S2662.old ?_ ?_ ?_
    · rintro GD2668 HD2668 accD2668 SD2668 sD2668
      exact (SD2668.sub _ _ (sD2668 _ _ h2666))
    · rintro i2671 x2672 a2670 o2681 G2675 H2673 H2674 acc2680 h2678 h S2676 s2677 h2679 T F hT hF
      have f2628 := f2628.same s2677
      have f2635 := f2635.same s2677
      have sT2682 := Same.refl G2675
      obtain ⟨rfl, e2684⟩ := h2679
      have f2685 := (e2684 _ h2678).same s2677
      obtain ⟨a2686, rfl⟩ := fr_tup f2685
      obtain ⟨v2687, v2688, h2691, f2689, f2690⟩ := tu2 f2685
      cases fr_int f2689
      cases fr_str f2690
      refine rd_gtup (S2676.sub _ _ h2691) rfl ?_
      refine rd_gcons ?_
      refine rd_nameS (σ' := [some (.ref a2625), some (.ref a2626), some (.ref a2634), some (.str y2641.2), none, none, none, some (.int a2670.1), none]) rfl ?_
      refine rd_gcons ?_
      refine rd_nameS (σ' := [some (.ref a2625), some (.ref a2626), some (.ref a2634), some (.str y2641.2), none, none, none, some (.int a2670.1), some (.str a2670.2)]) rfl ?_
      refine rd_gnil ?_
      refine ⟨rfl, ?_⟩
      refine rd_test ?_
      refine rd_op ?_
      refine rd_var rfl ?_
      refine rd_var rfl ?_
      obtain ⟨w2692, h2693, k2694⟩ := li f2628
      refine q_inI (S2676.sub _ _ h2693) k2694 ?_
      refine rd_bl ?_
      rcases cnd h with ⟨c2703, h⟩ | ⟨c2703, h⟩
      ·
        refine iteY c2703 ?_
        refine rd_tupZ ?_
        refine rd_cons ?_
        refine rd_var rfl ?_
        refine rd_cons ?_
        refine rd_var rfl ?_
        refine rd_nil ?_
        refine q_tup (F0 := H0) (ds := [eI a2670.1, eS a2670.2]) S2676 (by show 2 ≤ LIM; decide) (.cons (.int _) (.cons (.str _) .nil)) fun a2695 G2696 H2697 S2698 s2699 f2700 => ?_
        have f2628 := f2628.same s2699
        have f2635 := f2635.same s2699
        have sT2682 := sT2682.trans s2699
        replace f2700 : Fr H0 G2696 (.ref a2695) ((eT2 eI eS) (a2670.1, a2670.2)) := f2700
        cases h
        exact hT _ _ _ _ rfl S2698 sT2682 f2700
      ·
        refine iteN c2703 ?_
        cases h
        exact hF _ _ rfl S2676 sT2682
    rintro G2704 H2705 w2706 S2707 s2708 f2709 n2710 n2711
    have f2628 := f2628.same s2708
    have f2635 := f2635.same s2708
    obtain ⟨G2712, S2713, s2714, f2715⟩ := S2707.fixF 0 rfl (by simp) f2709 n2711
    have f2628 := f2628.same s2714
    have f2635 := f2635.same s2714
    refine rd_nameS (σ' := [some (.ref a2625), some (.ref a2626), some (.ref a2634), some (.str y2641.2), some (.ref D2668), none, none, none, none]) rfl ?_
    refine rd_mk ?_
    refine rd_seq ?_
    refine rd_asg ?_
    refine rd_lc ?_
    refine rd_iList ?_
    refine rd_var rfl ?_
    obtain ⟨w2716, h2717, k2718⟩ := li f2715
    refine ⟨_, rfl, ⟨_, SqL.of (S2713.sub _ _ h2717)⟩, ?_⟩
    intro D2719 h2720
    obtain ⟨l2743, h2744, h⟩ := bnd h
    refine q_lcL (enc := eI) (F0 := H0) h2744 (w_li k2718) S2713 h2720 S2713.old ?_ ?_ ?_
    · rintro GD2719 HD2719 accD2719 SD2719 sD2719
      exact (SD2719.sub _ _ (sD2719 _ _ h2717))
    · rintro i2722 x2723 a2721 o2732 G2726 H2724 H2725 acc2731 h2729 h S2727 s2728 h2730 T F hT hF
      have f2715 := f2715.same s2728
      have sT2733 := Same.refl G2726
      obtain ⟨rfl, e2735⟩ := h2730
      have f2736 := (e2735 _ h2729).same s2728
      obtain ⟨a2737, rfl⟩ := fr_tup f2736
      obtain ⟨v2738, v2739, h2742, f2740, f2741⟩ := tu2 f2736
      cases fr_int f2740
      cases fr_str f2741
      refine rd_gtup (S2727.sub _ _ h2742) rfl ?_
      refine rd_gcons ?_
      refine rd_nameS (σ' := [some (.ref a2625), some (.ref a2626), some (.ref a2634), some (.str y2641.2), some (.ref D2668), none, none, some (.int a2721.1), none]) rfl ?_
      refine rd_gcons ?_
      refine rd_nameS (σ' := [some (.ref a2625), some (.ref a2626), some (.ref a2634), some (.str y2641.2), some (.ref D2668), none, none, some (.int a2721.1), some (.str a2721.2)]) rfl ?_
      refine rd_gnil ?_
      refine ⟨rfl, ?_⟩
      refine rd_test ?_
      refine rd_op ?_
      refine rd_var rfl ?_
      refine rd_var rfl ?_
      refine q_eqS ?_
      refine rd_bl ?_
      rcases cnd h with ⟨c2745, h⟩ | ⟨c2745, h⟩
      ·
        refine iteY c2745 ?_
        refine rd_var rfl ?_
        cases h
        exact hT _ _ _ _ rfl S2727 sT2733 (.int _)
      ·
        refine iteN c2745 ?_
        cases h
        exact hF _ _ rfl S2727 sT2733
    rintro G2746 H2747 w2748 S2749 s2750 f2751 n2752 n2753
    have f2715 := f2715.same s2750
    obtain ⟨G2754, S2755, s2756, f2757⟩ := S2749.fixF 0 rfl (by simp) f2751 n2753
    have f2715 := f2715.same s2756
    refine rd_nameS (σ' := [some (.ref a2625), some (.ref a2626), some (.ref a2634), some (.str y2641.2), some (.ref D2668), some (.ref D2719), none, none, none]) rfl ?_
    refine rd_mk ?_
    refine rd_seq ?_
    refine rd_asg ?_
    refine rd_lc ?_
    refine rd_iList ?_
    refine rd_var rfl ?_
    obtain ⟨w2758, h2759, k2760⟩ := li f2715
    refine ⟨_, rfl, ⟨_, SqL.of (S2755.sub _ _ h2759)⟩, ?_⟩
    intro D2761 h2762
    obtain ⟨l2785, h2786, h⟩ := bnd h
    refine q_lcL (enc := eI) (F0 := H0) h2786 (w_li k2760) S2755 h2762 S2755.old ?_ ?_ ?_
    · rintro GD2761 HD2761 accD2761 SD2761 sD2761
      exact (SD2761.sub _ _ (sD2761 _ _ h2759))
    · rintro i2764 x2765 a2763 o2774 G2768 H2766 H2767 acc2773 h2771 h S2769 s2770 h2772 T F hT hF
      have f2715 := f2715.same s2770
      have f2757 := f2757.same s2770
      have sT2775 := Same.refl G2768
      obtain ⟨rfl, e2777⟩ := h2772
      have f2778 := (e2777 _ h2771).same s2770
      obtain ⟨a2779, rfl⟩ := fr_tup f2778
      obtain ⟨v2780, v2781, h2784, f2782, f2783⟩ := tu2 f2778
      cases fr_int f2782
      cases fr_str f2783
      refine rd_gtup (S2769.sub _ _ h2784) rfl ?_
      refine rd_gcons ?_
      refine rd_nameS (σ' := [some (.ref a2625), some (.ref a2626), some (.ref a2634), some (.str y2641.2), some (.ref D2668), some (.ref D2719), none, some (.int a2763.1), none]) rfl ?_
      refine rd_gcons ?_
      refine rd_nameS (σ' := [some (.ref a2625), some (.ref a2626), some (.ref a2634), some (.str y2641.2), some (.ref D2668), some (.ref D2719), none, some (.int a2763.1), some (.str a2763.2)]) rfl ?_
      refine rd_gnil ?_
      refine ⟨rfl, ?_⟩
      refine rd_test ?_
      refine rd_op ?_
      refine rd_var rfl ?_
      refine rd_var rfl ?_
      refine q_neS ?_
      refine rd_bl ?_
      rcases cnd h with ⟨c2787, h⟩ | ⟨c2787, h⟩
      ·
        refine iteY c2787 ?_
        refine rd_var rfl ?_
        cases h
        exact hT _ _ _ _ rfl S2769 sT2775 (.int _)
      ·
        refine iteN c2787 ?_
        cases h
        exact hF _ _ rfl S2769 sT2775
    rintro G2788 H2789 w2790 S2791 s2792 f2793 n2794 n2795
    have f2715 := f2715.same s2792
    have f2757 := f2757.same s2792
    obtain ⟨G2796, S2797, s2798, f2799⟩ := S2791.fixF 0 rfl (by simp) f2793 n2795
    have f2715 := f2715.same s2798
    have f2757 := f2757.same s2798
    refine rd_nameS (σ' := [some (.ref a2625), some (.ref a2626), some (.ref a2634), some (.str y2641.2), some (.ref D2668), some (.ref D2719), some (.ref D2761), none, none]) rfl ?_
    refine rd_mk ?_
    refine rd_ret ?_
    refine rd_tupZ ?_
    refine rd_cons ?_
    refine rd_var rfl ?_
    refine rd_cons ?_
    refine rd_var rfl ?_
    refine rd_nil ?_
    refine q_tup (F0 := H0) (ds := [(eL eI) l2743, (eL eI) l2785]) S2797 (by show 2 ≤ LIM; decide) (.cons f2757 (.cons f2799 .nil)) fun a2800 G2801 H2802 S2803 s2804 f2805 => ?_
    have f2757 := f2757.same s2804
    have f2799 := f2799.same s2804
    replace f2805 : Fr H0 G2801 (.ref a2800) ((eT2 (eL eI) (eL eI)) (l2743, l2785)) := f2805
    cases h
    exact kq a2800 _ _ S2803.toRet f2805
end
end K74

namespace K74
open PySem L2 LX LQ
section
variable {P : Program} {w : World} {K : PySem.W.Frag} {mg : Str → Option Value} {base : Heap} {a : Ad}
open LQF
def sp__law_side_numbers (K : PySem.W.Frag) : Sp := fun vs H Q _ => ∃ (a2806 : Addr) (x_lineup : (List (Int × Str))) (a2807 : Addr) (x_calls : (List Int)) (a2808 : Addr) (x_people : (List Int)), vs = [.ref a2806, .ref a2807, .ref a2808] ∧ Fr E0h H (.ref a2806) ((eL (eT2 eI eS)) x_lineup) ∧ Fr E0h H (.ref a2807) ((eL eI) x_calls) ∧ Fr E0h H (.ref a2808) ((eL eI) x_people) ∧ ∃ r, F__law_side_numbers x_lineup x_calls x_people = some r ∧ ∀ (a : Addr) (G H' : Hp), Ret [] H G H' → Fr H G (.ref a) ((eL eI) (r)) → Q (.ref a) H'
theorem ok__law_side_numbers (T : Txt K mg a) : FnOk P w K mg base CX0 7 a.f__law_side_numbers a.d__law_side_numbers ["lineup", "calls", "people"] (sp__law_side_numbers K) := by
  refine T.F__law_side_numbers.ok sc__law_side_numbers (fun vs H Q E h => ?_) (fun cdv A outer s H0 vs Q E hr h => ?_)
  · obtain ⟨a2806, x_lineup, a2807, x_calls, a2808, x_people, rfl, _⟩ := h
    rfl
  · obtain ⟨a2806, x_lineup, a2807, x_calls, a2808, x_people, rfl, f2809, f2810, f2811, r, h, kq⟩ := h
    have nd := sc__law_side_numbers.nd
    have hu64 := hr.units
    refine ⟨_, (pss_cons (ps_asg (pe_call (ok_called_sides T) (hr.mono (by decide)) rfl T.g_called_sides T.k_called_sides T.n_called_sides .nil pass0 (pa_cons (pv 0) (pa_cons (pv 1) pa_nil))) (kpg_tup (K := K) rfl (pgs_cons (pg_name (i := 3) nd rfl (Or.inr rfl)) (pgs_cons (pg_name (i := 4) nd rfl (Or.inl rfl)) pgs_nil))))
      (pss_one (ps_ret (pe_lc (own := [("person", 5)]) (g := gName 5) (tt := tYes) rfl nd (kpi_list (K := K) (pv 2)) (blkOk_by (own := [("person", 5)]) (N := ["lineup", "calls", "people", "same", "others", "person"]) (sc := defScope s__law_side_numbers) (by decide +kernel)) (fun _ _ _ _ _ => (pg_name (i := 5) nd rfl (Or.inl rfl))) (fun _ _ _ _ _ => pts_nil) (fun _ _ _ _ _ => (pe_callTy kint1 (by rfl) T.b_int (by decide +kernel) (pa_cons (pe_cmpR (kin (K := K)) (pv 5) (pv 3) rfl) pa_nil))))))), ?_⟩
    unfold F__law_side_numbers at h
    have S0 := Sep.start H0
    refine rd_seq ?_
    refine rd_asg ?_
    refine rd_call ?_
    refine rd_cons ?_
    refine rd_var rfl ?_
    refine rd_cons ?_
    refine rd_var rfl ?_
    refine rd_nil ?_
    obtain ⟨y2812, h2813, h⟩ := bnd h
    refine ⟨a2806, x_lineup, a2807, x_calls, rfl, (f2809.same S0.sub), (f2810.same S0.sub), y2812, h2813, fun a2817 G2814 H2815 R2816 f2818 => ?_⟩
    obtain ⟨G2819, S2820, s2821, t2822, l2823⟩ := S0.ret0 R2816
    have f2809 := f2809.same s2821
    have f2810 := f2810.same s2821
    have f2811 := f2811.same s2821
    have f2818 := t2822 _ _ f2818
    obtain ⟨v2824, v2825, h2828, f2826, f2827⟩ := tu2 f2818
    obtain ⟨a2829, rfl⟩ := fr_lst f2826
    obtain ⟨a2830, rfl⟩ := fr_lst f2827
    refine rd_gtup (S2820.sub _ _ h2828) rfl ?_
    refine rd_gcons ?_
    refine rd_nameS (σ' := [some (.ref a2806), some (.ref a2807), some (.ref a2808), some (.ref a2829), none, none]) rfl ?_
    refine rd_gcons ?_
    refine rd_nameS (σ' := [some (.ref a2806), some (.ref a2807), some (.ref a2808), some (.ref a2829), some (.ref a2830), none]) rfl ?_
    refine rd_gnil ?_
    refine rd_mk ?_
    refine rd_ret ?_
    refine rd_lc ?_
    refine rd_iList ?_
    refine rd_var rfl ?_
    obtain ⟨w2831, h2832, k2833⟩ := li f2811
    refine ⟨_, rfl, ⟨_, SqL.of (S2820.sub _ _ h2832)⟩, ?_⟩
    intro D2834 h2835
    obtain ⟨l2855, h2856, h⟩ := bnd h
    refine q_lcL (enc := eI) (F0 := H0) h2856 (w_li k2833) S2820 h2835 S2820.old ?_ ?_ ?_
    · rintro GD2834 HD2834 accD2834 SD2834 sD2834
      exact (SD2834.sub _ _ (sD2834 _ _ h2832))
    · rintro i2837 x2838 a2836 o2847 G2841 H2839 H2840 acc2846 h2844 h S2842 s2843 h2845 T F hT hF
      have f2811 := f2811.same s2843
      have f2826 := f2826.same s2843
      have sT2848 := Same.refl G2841
      obtain ⟨rfl, e2850⟩ := h2845
      have f2851 := (e2850 _ h2844).same s2843
      cases fr_int f2851
      refine rd_nameS (σ' := [some (.ref a2806), some (.ref a2807), some (.ref a2808), some (.ref a2829), some (.ref a2830), some (.int a2836)]) rfl ?_
      refine ⟨rfl, ?_⟩
      refine rd_tyes ?_
      refine iteY rfl ?_
      refine rd_cb ?_
      refine rd_cons ?_
      refine rd_op ?_
      refine rd_var rfl ?_
      refine rd_var rfl ?_
      obtain ⟨w2852, h2853, k2854⟩ := li f2826
      refine q_inI (S2842.sub _ _ h2853) k2854 ?_
      refine rd_nil ?_
      refine q_int1 ?_
      cases h
      exact hT _ _ _ _ rfl S2842 sT2848 (.int _)
    rintro G2857 H2858 w2859 S2860 s2861 f2862 n2863 n2864
    have f2811 := f2811.same s2861
    have f2826 := f2826.same s2861
    obtain ⟨G2865, S2866, s2867, f2868⟩ := S2860.fixF 0 rfl (by simp) f2862 n2864
    have f2811 := f2811.same s2867
    have f2826 := f2826.same s2867
    cases h
    exact kq D2834 _ _ S2866.toRet f2868
end
end K74

namespace K74
open PySem L2 LX LQ
section
variable {P : Program} {w : World} {K : PySem.W.Frag} {mg : Str → Option Value} {base : Heap} {a : Ad}
open LQF
def sp__law_interval_holds (K : PySem.W.Frag) : Sp := fun vs H Q _ => ∃ (a2869 : Addr) (x_lineup : (List (Int × Str))) (a2870 : Addr) (x_calls : (List Int)) (x_start : Int) (x_end : Int), vs = [.ref a2869, .ref a2870, (.int x_start), (.int x_end)] ∧ Fr E0h H (.ref a2869) ((eL (eT2 eI eS)) x_lineup) ∧ Fr E0h H (.ref a2870) ((eL eI) x_calls) ∧ ∃ r, F__law_interval_holds x_lineup x_calls x_start x_end = some r ∧ ∀ (G H' : Hp), Ret [] H G H' → Q (.bl (r)) H'
theorem ok__law_interval_holds (T : Txt K mg a) : FnOk P w K mg base CX0 8 a.f__law_interval_holds a.d__law_interval_holds ["lineup", "calls", "start", "end"] (sp__law_interval_holds K) := by
  refine T.F__law_interval_holds.ok sc__law_interval_holds (fun vs H Q E h => ?_) (fun cdv A outer s H0 vs Q E hr h => ?_)
  · obtain ⟨a2869, x_lineup, a2870, x_calls, x_start, x_end, rfl, _⟩ := h
    rfl
  · obtain ⟨a2869, x_lineup, a2870, x_calls, x_start, x_end, rfl, f2871, f2872, r, h, kq⟩ := h
    have nd := sc__law_interval_holds.nd
    have hu64 := hr.units
    refine ⟨_, (pss_cons (ps_set (i := 4) nd rfl (Or.inl rfl) (pe_callB (ksortInt (P := P) (w := w) rfl) (by rfl) T.b_sorted (by decide +kernel) (pa_cons (pe_callTy (ksetI (K := K) (P := P) (w := w) rfl) (by rfl) T.b_set (by decide +kernel) (pa_cons (pe_slice (ksl_list (K := K)) (pv 1) po_none (po_some (pv 2))) pa_nil)) pa_nil)))
      (pss_cons (ps_set (i := 5) nd rfl (Or.inl rfl) (pe_call (ok__law_side_numbers T) (hr.mono (by decide)) rfl T.g__law_side_numbers T.k__law_side_numbers T.n__law_side_numbers .nil pass0 (pa_cons (pv 0) (pa_cons (pe_slice (ksl_list (K := K)) (pv 1) po_none (po_some (pv 2))) (pa_cons (pv 4) pa_nil)))))
      (pss_cons (ps_set (i := 6) nd rfl (Or.inl rfl) (pe_call (ok__law_side_numbers T) (hr.mono (by decide)) rfl T.g__law_side_numbers T.k__law_side_numbers T.n__law_side_numbers .nil pass0 (pa_cons (pv 0) (pa_cons (pe_slice (ksl_list (K := K)) (pv 1) po_none (po_some (pv 3))) (pa_cons (pv 4) pa_nil)))))
      (pss_cons (ps_set (i := 7) nd rfl (Or.inl rfl) (pe_callTy (kdictP (K := K) rfl) (by rfl) T.b_dict (by decide +kernel) (pa_cons (pe_call (ok_lineup_after T) (hr.mono (by decide)) rfl T.g_lineup_after T.k_lineup_after T.n_lineup_after .nil pass0 (pa_cons (pv 0) (pa_cons (pe_slice (ksl_list (K := K)) (pv 1) po_none (po_some (pv 3))) pa_nil))) pa_nil)))
      (pss_cons (ps_set (i := 8) nd rfl (Or.inl rfl) (pe_slice (ksl_list (K := K)) (pv 1) (po_some (pv 2)) (po_some (pv 3))))
      (pss_cons (ps_for PassesOwn.never rfl (pi_range1 rfl T.b_range (pa_cons (pe_callB (klen (K := K)) (by rfl) T.b_len (by decide +kernel) (pa_cons (pv 4) pa_nil)) pa_nil)) (pg_name (i := 9) nd rfl (Or.inl rfl)) (pss_cons (ps_set (i := 10) nd rfl (Or.inl rfl) (pe_op op_add (kbm (K := K) PySem.F.plainAttrs_list PySem.F.slot_list_count PySem.F.type_list_count (klcount (K := K)) (pv 8) (pa_cons (pe_ix (kix_list (K := K)) (pv 4) (pv 9) (fun _ _ => rfl)) pa_nil)) (kbm (K := K) PySem.F.plainAttrs_list PySem.F.slot_list_count PySem.F.type_list_count (klcount (K := K)) (pv 8) (pa_cons (pe_ix (kix_list (K := K)) (pv 4) pe_int (fun _ _ => rfl)) pa_nil))))
      (pss_cons (ps_set (i := 11) nd rfl (Or.inl rfl) (pe_op op_mod (pe_op op_add (pe_op op_add (pe_ix (kix_list (K := K)) (pv 5) (pv 9) (fun _ _ => rfl)) (pe_ix (kix_list (K := K)) (pv 5) pe_int (fun _ _ => rfl))) (pv 10)) pe_int))
      (pss_one (ps_if (PW.pt (pw_or (pt_cmpR op_ne (pe_op op_mod (pe_op op_add (pe_ix (kix_list (K := K)) (pv 6) (pv 9) (fun _ _ => rfl)) (pe_ix (kix_list (K := K)) (pv 6) pe_int (fun _ _ => rfl))) pe_int) (pv 11) (nomark _)) (pw_or1 (pt_cmpR op_ne (pe_cmpR op_ne (pe_dget (u1_of hu64) (pv 7) (pe_ix (kix_list (K := K)) (pv 4) (pv 9) (fun _ _ => rfl)) (fun _ _ => rfl)) (pe_dget (u1_of hu64) (pv 7) (pe_ix (kix_list (K := K)) (pv 4) pe_int (fun _ _ => rfl)) (fun _ _ => rfl)) (nomark _)) (pe_cmpR op_eq (pv 11) pe_int (nomark _)) (nomark _))))) (pss_one (ps_ret pe_bl)) pss_nil)))))
      (pss_one (ps_ret pe_bl)))))))), ?_⟩
    unfold F__law_interval_holds at h
    have S0 := Sep.start H0
    refine rd_seq ?_
    refine rd_asg ?_
    refine rd_cb ?_
    refine rd_cons ?_
    refine rd_cb ?_
    refine rd_cons ?_
    refine rd_sl ?_
    refine rd_var rfl ?_
    refine rd_nopart ?_
    refine rd_part ?_
    refine rd_var rfl ?_
    refine rd_int ?_
    obtain ⟨w2873, h2874, k2875⟩ := li f2872
    refine q_slL S0 (S0.sub _ _ h2874) (k2875.imm (flat_map flI _)) S0.old fun a2876 G2879 H2877 S2878 s2880 f2881 => ?_
    have f2871 := f2871.same s2880
    have f2872 := f2872.same s2880
    refine rd_nil ?_
    obtain ⟨w2882, h2883, k2884⟩ := li f2881
    obtain ⟨y2885, h2886, h⟩ := bnd h
    refine q_setI S2878 (S2878.sub _ _ h2883) k2884 h2886 fun a2887 G2891 H2888 S2889 s2892 f2890 => ?_
    have f2871 := f2871.same s2892
    have f2872 := f2872.same s2892
    refine rd_nil ?_
    refine q_sortUI S2889 f2890 ?_
    refine q_new (F0 := H0) (ds := (sortUI y2885).map eI) S2889 (ints_frl _) S2889.old fun a2893 G2894 H2895 S2896 s2897 f2898 => ?_
    have f2871 := f2871.same s2897
    have f2872 := f2872.same s2897
    refine rd_nameS (σ' := [some (.ref a2869), some (.ref a2870), some (.int x_start), some (.int x_end), some (.ref a2893), none, none, none, none, none, none, none]) rfl ?_
    refine rd_mk ?_
    refine rd_seq ?_
    refine rd_asg ?_
    refine rd_call ?_
    refine rd_cons ?_
    refine rd_var rfl ?_
    refine rd_cons ?_
    refine rd_sl ?_
    refine rd_var rfl ?_
    refine rd_nopart ?_
    refine rd_part ?_
    refine rd_var rfl ?_
    refine rd_int ?_
    obtain ⟨w2899, h2900, k2901⟩ := li f2872
    refine q_slL S2896 (S2896.sub _ _ h2900) (k2901.imm (flat_map flI _)) S2896.old fun a2902 G2905 H2903 S2904 s2906 f2907 => ?_
    have f2871 := f2871.same s2906
    have f2872 := f2872.same s2906
    have f2898 := f2898.same s2906
    refine rd_cons ?_
    refine rd_var rfl ?_
    refine rd_nil ?_
    obtain ⟨y2908, h2909, h⟩ := bnd h
    refine ⟨a2869, x_lineup, a2902, (cutL x_calls none (some x_start)), a2893, (sortUI y2885), rfl, (f2871.same S2904.sub), (f2907.rp.same S2904.sub), (f2898.rp.same S2904.sub), y2908, h2909, fun a2913 G2910 H2911 R2912 f2914 => ?_⟩
    obtain ⟨G2915, S2916, s2917, t2918, l2919⟩ := S2904.ret0 R2912
    have f2871 := f2871.same s2917
    have f2872 := f2872.same s2917
    have f2898 := f2898.same s2917
    have f2914 := t2918 _ _ f2914
    refine rd_nameS (σ' := [some (.ref a2869), some (.ref a2870), some (.int x_start), some (.int x_end), some (.ref a2893), some (.ref a2913), none, none, none, none, none, none]) rfl ?_
    refine rd_mk ?_
    refine rd_seq ?_
    refine rd_asg ?_
    refine rd_call ?_
    refine rd_cons ?_
    refine rd_var rfl ?_
    refine rd_cons ?_
    refine rd_sl ?_
    refine rd_var rfl ?_
    refine rd_nopart ?_
    refine rd_part ?_
    refine rd_var rfl ?_
    refine rd_int ?_
    obtain ⟨w2920, h2921, k2922⟩ := li f2872
    refine q_slL S2916 (S2916.sub _ _ h2921) (k2922.imm (flat_map flI _)) S2916.old fun a2923 G2926 H2924 S2925 s2927 f2928 => ?_
    have f2871 := f2871.same s2927
    have f2872 := f2872.same s2927
    have f2898 := f2898.same s2927
    have f2914 := f2914.same s2927
    refine rd_cons ?_
    refine rd_var rfl ?_
    refine rd_nil ?_
    obtain ⟨y2929, h2930, h⟩ := bnd h
    refine ⟨a2869, x_lineup, a2923, (cutL x_calls none (some x_end)), a2893, (sortUI y2885), rfl, (f2871.same S2925.sub), (f2928.rp.same S2925.sub), (f2898.rp.same S2925.sub), y2929, h2930, fun a2934 G2931 H2932 R2933 f2935 => ?_⟩
    obtain ⟨G2936, S2937, s2938, t2939, l2940⟩ := S2925.ret0 R2933
    have f2871 := f2871.same s2938
    have f2872 := f2872.same s2938
    have f2898 := f2898.same s2938
    have f2914 := f2914.same s2938
    have f2935 := t2939 _ _ f2935
    refine rd_nameS (σ' := [some (.ref a2869), some (.ref a2870), some (.int x_start), some (.int x_end), some (.ref a2893), some (.ref a2913), some (.ref a2934), none, none, none, none, none]) rfl ?_
    refine rd_mk ?_
    refine rd_seq ?_
    refine rd_asg ?_
    refine rd_cb ?_
    refine rd_cons ?_
    refine rd_call ?_
    refine rd_cons ?_
    refine rd_var rfl ?_
    refine rd_cons ?_
    refine rd_sl ?_
    refine rd_var rfl ?_
    refine rd_nopart ?_
    refine rd_part ?_
    refine rd_var rfl ?_
    refine rd_int ?_
    obtain ⟨w2941, h2942, k2943⟩ := li f2872
    refine q_slL S2937 (S2937.sub _ _ h2942) (k2943.imm (flat_map flI _)) S2937.old fun a2944 G2947 H2945 S2946 s2948 f2949 => ?_
    have f2871 := f2871.same s2948
    have f2872 := f2872.same s2948
    have f2898 := f2898.same s2948
    have f2914 := f2914.same s2948
    have f2935 := f2935.same s2948
    refine rd_nil ?_
    obtain ⟨y2950, h2951, h⟩ := bnd h
    refine ⟨a2869, x_lineup, a2944, (cutL x_calls none (some x_end)), rfl, (f2871.same S2946.sub), (f2949.rp.same S2946.sub), y2950, h2951, fun a2955 G2952 H2953 R2954 f2956 => ?_⟩
    obtain ⟨G2957, S2958, s2959, t2960, l2961⟩ := S2946.ret0 R2954
    have f2871 := f2871.same s2959
    have f2872 := f2872.same s2959
    have f2898 := f2898.same s2959
    have f2914 := f2914.same s2959
    have f2935 := f2935.same s2959
    have f2956 := t2960 _ _ f2956
    refine rd_nil ?_
    obtain ⟨w2962, h2963, k2964⟩ := li f2956
    refine q_dictP (kk := kI) (g := eS) (m := y2950) kdI kI_inj S2958 (S2958.sub _ _ h2963) k2964 S2958.old fun a2965 G2966 H2967 S2968 s2969 f2970 => ?_
    have f2871 := f2871.same s2969
    have f2872 := f2872.same s2969
    have f2898 := f2898.same s2969
    have f2914 := f2914.same s2969
    have f2935 := f2935.same s2969
    refine rd_nameS (σ' := [some (.ref a2869), some (.ref a2870), some (.int x_start), some (.int x_end), some (.ref a2893), some (.ref a2913), some (.ref a2934), some (.ref a2965), none, none, none, none]) rfl ?_
    refine rd_mk ?_
    refine rd_seq ?_
    refine rd_asg ?_
    refine rd_sl ?_
    refine rd_var rfl ?_
    refine rd_part ?_
    refine rd_var rfl ?_
    refine rd_int ?_
    refine rd_part ?_
    refine rd_var rfl ?_
    refine rd_int ?_
    obtain ⟨w2971, h2972, k2973⟩ := li f2872
    refine q_slL S2968 (S2968.sub _ _ h2972) (k2973.imm (flat_map flI _)) S2968.old fun a2974 G2977 H2975 S2976 s2978 f2979 => ?_
    have f2872 := f2872.same s2978
    have f2898 := f2898.same s2978
    have f2914 := f2914.same s2978
    have f2935 := f2935.same s2978
    have f2970 := f2970.same s2978
    refine rd_nameS (σ' := [some (.ref a2869), some (.ref a2870), some (.int x_start), some (.int x_end), some (.ref a2893), some (.ref a2913), some (.ref a2934), some (.ref a2965), some (.ref a2974), none, none, none]) rfl ?_
    refine rd_mk ?_
    refine rd_seq ?_
    refine rd_for ?_
    refine rd_iR1 ?_
    refine rd_cons ?_
    refine rd_cb ?_
    refine rd_cons ?_
    refine rd_var rfl ?_
    refine rd_nil ?_
    obtain ⟨w2980, h2981, k2982⟩ := li f2898
    refine q_len (S2976.sub _ _ h2981) k2982 ?_
    refine rd_nil ?_
    obtain ⟨l2983, h2984, h⟩ := bnd h
    refine q_rng1 h2984 ?_
    obtain ⟨r3004_, h3005, ho3003⟩ := bnd h
    refine q_forC h3005 (w_rng1 h2984) (fun s2986 σ' H' => ∃ (x2998 : Option V) (x2999 : Option V) (x3000 : Option V) (G2994 : Hp), σ' = [some (.ref a2869), some (.ref a2870), some (.int x_start), some (.int x_end), some (.ref a2893), some (.ref a2913), some (.ref a2934), some (.ref a2965), some (.ref a2974), x2998, x2999, x3000] ∧ Sep [] H0 G2994 H' [] ∧ Same G2977 G2994) ?_ ?_ ?_ ?_
    · exact ⟨_, _, _, G2977, rfl, S2976, Same.refl _⟩
    · rintro s2986 _ H2995 ⟨x2998, x2999, x3000, G2994, rfl, S2996, sE2997⟩
      exact trivial
    · rintro i2987 a2985 s2986 c2993 x2989 _ H2995 H2990 h2991 h ⟨x2998, x2999, x3000, G2994, rfl, S2996, sE2997⟩ h2992 hq3001 kb3002
      have f2898 := f2898.same sE2997
      have f2914 := f2914.same sE2997
      have f2935 := f2935.same sE2997
      have f2970 := f2970.same sE2997
      have f2979 := f2979.same sE2997
      obtain ⟨rfl, e3006⟩ := h2992
      cases e3006 _ h2991
      refine rd_nameS (σ' := [some (.ref a2869), some (.ref a2870), some (.int x_start), some (.int x_end), some (.ref a2893), some (.ref a2913), some (.ref a2934), some (.ref a2965), some (.ref a2974), some (.int a2985), x2999, x3000]) rfl ?_
      refine rd_seq ?_
      refine rd_asg ?_
      refine rd_op ?_
      refine rd_bm ?_
      refine rd_var rfl ?_
      obtain ⟨w3007, h3008, k3009⟩ := li f2979
      refine ⟨Or.inl ⟨rfl, _, SqL.of (S2996.sub _ _ h3008)⟩, ?_⟩
      refine rd_cons ?_
      refine rd_op ?_
      refine rd_var rfl ?_
      refine rd_var rfl ?_
      obtain ⟨y3010, h3011, h⟩ := bnd h
      obtain ⟨w3012, h3013, k3014⟩ := li f2898
      refine q_ixL (S2996.sub _ _ h3013) k3014 h3011 fun v3015 f3016 => ?_
      cases fr_int f3016
      refine rd_nil ?_
      obtain ⟨w3017, h3018, k3019⟩ := li f2979
      refine q_countI (S2996.sub _ _ h3018) k3019 ?_
      refine rd_bm ?_
      refine rd_var rfl ?_
      obtain ⟨w3020, h3021, k3022⟩ := li f2979
      refine ⟨Or.inl ⟨rfl, _, SqL.of (S2996.sub _ _ h3021)⟩, ?_⟩
      refine rd_cons ?_
      refine rd_op ?_
      refine rd_var rfl ?_
      refine rd_c ?_
      obtain ⟨y3023, h3024, h⟩ := bnd h
      obtain ⟨w3025, h3026, k3027⟩ := li f2898
      refine q_ixL (S2996.sub _ _ h3026) k3027 h3024 fun v3028 f3029 => ?_
      cases fr_int f3029
      refine rd_nil ?_
      obtain ⟨w3030, h3031, k3032⟩ := li f2979
      refine q_countI (S2996.sub _ _ h3031) k3032 ?_
      refine rd_I0 ?_
      refine rd_nameS (σ' := [some (.ref a2869), some (.ref a2870), some (.int x_start), some (.int x_end), some (.ref a2893), some (.ref a2913), some (.ref a2934), some (.ref a2965), some (.ref a2974), some (.int a2985), some (.int ((((cutL x_calls (some x_start) (some x_end)).count y3010 : Nat) : Int) + (((cutL x_calls (some x_start) (some x_end)).count y3023 : Nat) : Int))), x3000]) rfl ?_
      refine rd_mk ?_
      refine rd_seq ?_
      refine rd_asg ?_
      refine rd_op ?_
      refine rd_op ?_
      refine rd_op ?_
      refine rd_op ?_
      refine rd_var rfl ?_
      refine rd_var rfl ?_
      obtain ⟨y3033, h3034, h⟩ := bnd h
      obtain ⟨w3035, h3036, k3037⟩ := li f2914
      refine q_ixL (S2996.sub _ _ h3036) k3037 h3034 fun v3038 f3039 => ?_
      cases fr_int f3039
      refine rd_op ?_
      refine rd_var rfl ?_
      refine rd_c ?_
      obtain ⟨y3040, h3041, h⟩ := bnd h
      obtain ⟨w3042, h3043, k3044⟩ := li f2914
      refine q_ixL (S2996.sub _ _ h3043) k3044 h3041 fun v3045 f3046 => ?_
      cases fr_int f3046
      refine rd_I0 ?_
      refine rd_var rfl ?_
      refine rd_I0 ?_
      refine rd_c ?_
      refine rd_I (by show (0 : Int) < _; decide) ?_
      refine rd_nameS (σ' := [some (.ref a2869), some (.ref a2870), some (.int x_start), some (.int x_end), some (.ref a2893), some (.ref a2913), some (.ref a2934), some (.ref a2965), some (.ref a2974), some (.int a2985), some (.int ((((cutL x_calls (some x_start) (some x_end)).count y3010 : Nat) : Int) + (((cutL x_calls (some x_start) (some x_end)).count y3023 : Nat) : Int))), some (.int (((y3033 + y3040) + ((((cutL x_calls (some x_start) (some x_end)).count y3010 : Nat) : Int) + (((cutL x_calls (some x_start) (some x_end)).count y3023 : Nat) : Int))) % (2 : Int)))]) rfl ?_
      refine rd_mk ?_
      refine rd_ifS ?_
      obtain ⟨b3091, h3092, h⟩ := bnd h
      refine rd_ttM (fun k H' => ∃  (G3093 : Hp), k = b3091 ∧ Sep [] H0 G3093 H' [] ∧ Same G2994 G3093) (fun R q => ?_) ?_
      ·
        have sE3047 := Same.refl G2994
        have h := h3092
        refine rd_or ?_
        refine rd_test ?_
        refine rd_op ?_
        refine rd_op ?_
        refine rd_op ?_
        refine rd_op ?_
        refine rd_var rfl ?_
        refine rd_var rfl ?_
        obtain ⟨y3048, h3049, h⟩ := bnd h
        obtain ⟨w3050, h3051, k3052⟩ := li f2935
        refine q_ixL (S2996.sub _ _ h3051) k3052 h3049 fun v3053 f3054 => ?_
        cases fr_int f3054
        refine rd_op ?_
        refine rd_var rfl ?_
        refine rd_c ?_
        obtain ⟨y3055, h3056, h⟩ := bnd h
        obtain ⟨w3057, h3058, k3059⟩ := li f2935
        refine q_ixL (S2996.sub _ _ h3058) k3059 h3056 fun v3060 f3061 => ?_
        cases fr_int f3061
        refine rd_I0 ?_
        refine rd_c ?_
        refine rd_I (by show (0 : Int) < _; decide) ?_
        refine rd_var rfl ?_
        refine q_neI ?_
        refine rd_bl ?_
        rcases cnd h with ⟨c3097, h⟩ | ⟨c3097, h⟩
        ·
          refine iteY c3097 ?_
          cases h
          exact q _ _ ⟨G2994, rfl, S2996, sE3047⟩
        ·
          refine iteN c3097 ?_
          refine rd_test ?_
          refine rd_op ?_
          refine rd_op ?_
          refine rd_dget ?_
          refine rd_var rfl ?_
          refine rd_op ?_
          refine rd_var rfl ?_
          refine rd_var rfl ?_
          obtain ⟨y3062, h3063, h⟩ := bnd h
          obtain ⟨w3064, h3065, k3066⟩ := li f2898
          refine q_ixL (S2996.sub _ _ h3065) k3066 h3063 fun v3067 f3068 => ?_
          cases fr_int f3068
          obtain ⟨y3069, h3070, h⟩ := bnd h
          obtain ⟨w3071, h3072, k3073⟩ := di f2970
          refine q_dget (kk := kI) kI_inj (rd_same h3072 S2996.sub) k3073 (kV_I _).symm h3070 fun v3074 f3075 => ?_
          cases fr_str f3075
          refine rd_dget ?_
          refine rd_var rfl ?_
          refine rd_op ?_
          refine rd_var rfl ?_
          refine rd_c ?_
          obtain ⟨y3076, h3077, h⟩ := bnd h
          obtain ⟨w3078, h3079, k3080⟩ := li f2898
          refine q_ixL (S2996.sub _ _ h3079) k3080 h3077 fun v3081 f3082 => ?_
          cases fr_int f3082
          obtain ⟨y3083, h3084, h⟩ := bnd h
          obtain ⟨w3085, h3086, k3087⟩ := di f2970
          refine q_dget (kk := kI) kI_inj (rd_same h3086 S2996.sub) k3087 (kV_I _).symm h3084 fun v3088 f3089 => ?_
          cases fr_str f3089
          refine q_neS ?_
          refine rd_op ?_
          refine rd_var rfl ?_
          refine rd_c ?_
          refine q_eqI ?_
          refine q_neB ?_
          refine rd_bl ?_
          cases h
          exact q _ _ ⟨G2994, rfl, S2996, sE3047⟩
      rintro _ H3094 ⟨G3093, rfl, S3095, s3096⟩
      have f2898 := f2898.same s3096
      have f2914 := f2914.same s3096
      have f2935 := f2935.same s3096
      have f2970 := f2970.same s3096
      have f2979 := f2979.same s3096
      have sE2997 := sE2997.trans s3096
      rcases cnd h with ⟨c3099, h⟩ | ⟨c3099, h⟩
      ·
        refine iteY c3099 ?_
        refine rd_ret ?_
        refine rd_c ?_
        cases h
        have e3098 := hq3001 _ rfl
        subst e3098
        cases (show some (false) = some _ from ho3003)
        exact kq _ _ S3095.toRet
      ·
        refine iteN c3099 ?_
        refine rd_next ?_
        cases h
        exact ⟨_, rfl, _, _, _, G3093, rfl, S3095, sE2997⟩
    rintro r3004 _ H3101 rfl ⟨x3104, x3105, x3106, G3100, rfl, S3102, sE3103⟩
    have h := ho3003
    have f2898 := f2898.same sE3103
    have f2914 := f2914.same sE3103
    have f2935 := f2935.same sE3103
    have f2970 := f2970.same sE3103
    have f2979 := f2979.same sE3103
    refine rd_mk ?_
    refine rd_ret ?_
    refine rd_c ?_
    cases h
    exact kq _ _ S3102.toRet
end
end K74

namespace K74
open PySem L2 LX LQ
section
variable {P : Program} {w : World} {K : PySem.W.Frag} {mg : Str → Option Value} {base : Heap} {a : Ad}
open LQF
def sp__law_holds (K : PySem.W.Frag) : Sp := fun vs H Q _ => ∃ (a3107 : Addr) (w3108 : List V) (x_bag : (List Int)) (a3109 : Addr) (x_lineup : (List (Int × Str))) (a3110 : Addr) (x_calls : (List Int)), vs = [.ref a3107, .ref a3109, .ref a3110] ∧ H a3107 = some (.lst w3108) ∧ FrL E0h (hid H [a3107]) w3108 (x_bag.map eI) ∧ Fr E0h (hid H [a3107]) (.ref a3109) ((eL (eT2 eI eS)) x_lineup) ∧ Fr E0h (hid H [a3107]) (.ref a3110) ((eL eI) x_calls) ∧ ∃ r, F__law_holds x_bag x_lineup x_calls = some r ∧ ∀ (u0 : List V) (G H' : Hp), Ret [a3107] H G H' → H' a3107 = some (.lst u0) → FrL E0h G u0 ((r.2).map eI) → Q (.bl (r.1)) H'
theorem ok__law_holds (T : Txt K mg a) : FnOk P w K mg base CX0 9 a.f__law_holds a.d__law_holds ["bag", "lineup", "calls"] (sp__law_holds K) := by
  refine T.F__law_holds.ok sc__law_holds (fun vs H Q E h => ?_) (fun cdv A outer s H0 vs Q E hr h => ?_)
  · obtain ⟨a3107, w3108, x_bag, a3109, x_lineup, a3110, x_calls, rfl, _⟩ := h
    rfl
  · obtain ⟨a3107, w3108, x_bag, a3109, x_lineup, a3110, x_calls, rfl, h3111, f3112, f3113, f3114, r, h, kq⟩ := h
    have nd := sc__law_holds.nd
    have hu64 := hr.units
    refine ⟨_, (pss_cons (ps_set (i := 3) nd rfl (Or.inr rfl) (pe_call (ok_called_colors T) (hr.mono (by decide)) rfl T.g_called_colors T.k_called_colors T.n_called_colors .nil pass0 (pa_cons (pv 1) (pa_cons (pv 2) pa_nil))))
      (pss_cons (ps_set (i := 4) nd rfl (Or.inl rfl) (pe_op op_cat (pe_call (ok_single_color_moments T) (hr.mono (by decide)) rfl T.g_single_color_moments T.k_single_color_moments T.n_single_color_moments .nil pass0 (pa_cons (pv 1) (pa_cons (pv 2) pa_nil))) (pe_lst (pa_cons (pe_op op_add (pe_callB (klen (K := K)) (by rfl) T.b_len (by decide +kernel) (pa_cons (pv 2) pa_nil)) pe_int) pa_nil))))
      (pss_cons (ps_setLc (i := 5) (own := [("k", 9)]) (g := gName 9) rfl nd rfl rfl (sw_true rfl rfl rfl (by decide +kernel)) (pi_range1 rfl T.b_range (pa_cons (pe_callB (klen (K := K)) (by rfl) T.b_len (by decide +kernel) (pa_cons (pv 3) pa_nil)) pa_nil)) (blkOk_by (own := [("k", 9)]) (N := ["bag", "lineup", "calls", "colors", "single", "starts", "turn", "start", "stop", "k"]) (sc := defScope s__law_holds) (by decide +kernel)) (fun _ _ _ _ _ => (pg_name (i := 9) nd rfl (Or.inl rfl))) (fun _ _ _ _ _ => pts_one (pt_cmpR op_eq (pe_callB klenS (by rfl) T.b_len (by decide +kernel) (pa_cons (pe_ix (kix_list (K := K)) (pv 3) (pv 9) (fun _ _ => rfl)) pa_nil)) pe_int (nomark _))) (fun _ _ _ _ _ => (pv 9)))
      (pss_cons (ps_for PassesOwn.never rfl (pi_range1 rfl T.b_range (pa_cons (pe_callB (kmin2 rfl) (by rfl) T.b_min (by decide +kernel) (pa_cons pe_int (pa_cons (pe_callB (klen (K := K)) (by rfl) T.b_len (by decide +kernel) (pa_cons (pv 5) pa_nil)) pa_nil))) pa_nil)) (pg_name (i := 6) nd rfl (Or.inl rfl)) (pss_cons (ps_set (i := 7) nd rfl (Or.inr rfl) (pe_ix (kix_list (K := K)) (pv 5) (pe_call (ok__law_draw T) (hr.mono (by decide)) rfl T.g__law_draw T.k__law_draw T.n__law_draw .nil pass0 (pa_cons (pv 0) (pa_cons (pe_callB (klen (K := K)) (by rfl) T.b_len (by decide +kernel) (pa_cons (pv 5) pa_nil)) pa_nil))) (fun _ _ => rfl)))
      (pss_cons (ps_set (i := 8) nd rfl (Or.inl rfl) (pe_ix (kix_list (K := K)) (pe_lc (own := [("k", 9)]) (g := gName 9) rfl nd (kpi_list (K := K) (pv 4)) (blkOk_by (own := [("k", 9)]) (N := ["bag", "lineup", "calls", "colors", "single", "starts", "turn", "start", "stop", "k"]) (sc := defScope s__law_holds) (by decide +kernel)) (fun _ _ _ _ _ => (pg_name (i := 9) nd rfl (Or.inl rfl))) (fun _ _ _ _ _ => pts_one (pt_cmpR op_gt (pv 9) (pv 7) (nomark _))) (fun _ _ _ _ _ => (pv 9))) pe_int (fun _ _ => rfl)))
      (pss_one (ps_if (pt_not (pt_val (pe_call (ok__law_interval_holds T) (hr.mono (by decide)) rfl T.g__law_interval_holds T.k__law_interval_holds T.n__law_interval_holds .nil pass0 (pa_cons (pv 1) (pa_cons (pv 2) (pa_cons (pv 7) (pa_cons (pe_op op_add (pv 7) (pe_call (ok__law_draw T) (hr.mono (by decide)) rfl T.g__law_draw T.k__law_draw T.n__law_draw .nil pass0 (pa_cons (pv 0) (pa_cons (pe_op op_sub (pv 8) (pv 7)) pa_nil)))) pa_nil))))))) (pss_one (ps_ret pe_bl)) pss_nil)))))
      (pss_one (ps_ret pe_bl)))))), ?_⟩
    unfold F__law_holds at h
    have S0 := Sep.start1 h3111
    refine rd_seq ?_
    refine rd_asg ?_
    refine rd_call ?_
    refine rd_cons ?_
    refine rd_var rfl ?_
    refine rd_cons ?_
    refine rd_var rfl ?_
    refine rd_nil ?_
    obtain ⟨y3115, h3116, h⟩ := bnd h
    refine ⟨a3109, x_lineup, a3110, x_calls, rfl, (f3113.same S0.sub), (f3114.same S0.sub), y3115, h3116, fun a3120 G3117 H3118 R3119 f3121 => ?_⟩
    obtain ⟨G3122, S3123, s3124, t3125, l3126⟩ := S0.ret0 R3119
    have f3113 := f3113.same s3124
    have f3114 := f3114.same s3124
    have f3112 := f3112.same s3124
    have f3121 := t3125 _ _ f3121
    refine rd_nameS (σ' := [some (.ref a3107), some (.ref a3109), some (.ref a3110), some (.ref a3120), none, none, none, none, none, none]) rfl ?_
    refine rd_mk ?_
    refine rd_seq ?_
    refine rd_asg ?_
    refine rd_op ?_
    refine rd_call ?_
    refine rd_cons ?_
    refine rd_var rfl ?_
    refine rd_cons ?_
    refine rd_var rfl ?_
    refine rd_nil ?_
    obtain ⟨y3127, h3128, h⟩ := bnd h
    refine ⟨a3109, x_lineup, a3110, x_calls, rfl, (f3113.same S3123.sub), (f3114.same S3123.sub), y3127, h3128, fun a3132 G3129 H3130 R3131 f3133 => ?_⟩
    obtain ⟨G3134, S3135, s3136, t3137, l3138⟩ := S3123.ret0 R3131
    have f3113 := f3113.same s3136
    have f3114 := f3114.same s3136
    have f3121 := f3121.same s3136
    have f3112 := f3112.same s3136
    have f3133 := t3137 _ _ f3133
    refine rd_lstZ ?_
    refine rd_cons ?_
    refine rd_op ?_
    refine rd_cb ?_
    refine rd_cons ?_
    refine rd_var rfl ?_
    refine rd_nil ?_
    obtain ⟨w3139, h3140, k3141⟩ := li f3114
    refine q_len (S3135.sub _ _ h3140) k3141 ?_
    refine rd_c ?_
    refine rd_I0 ?_
    refine rd_nil ?_
    refine q_lst (F0 := H0) (ds := [eI ((lenI x_calls) + (1 : Int))]) S3135 (by show 1 ≤ LIM; decide) (.cons (.int _) .nil) S3135.old fun a3142 G3143 H3144 S3145 s3146 f3147 => ?_
    have f3113 := f3113.same s3146
    have f3114 := f3114.same s3146
    have f3121 := f3121.same s3146
    have f3133 := f3133.same s3146
    have f3112 := f3112.same s3146
    replace f3147 : Fr H0 G3143 (.ref a3142) ((eL eI) [((lenI x_calls) + (1 : Int))]) := f3147
    obtain ⟨y3148, h3149, h⟩ := bnd h
    obtain ⟨w3150, h3151, k3152⟩ := li f3133
    obtain ⟨w3153, h3154, k3155⟩ := li f3147
    refine q_cat S3145 (S3145.sub _ _ h3151) k3152 (S3145.sub _ _ h3154) k3155 h3149 S3145.old fun a3156 G3159 H3157 S3158 s3160 f3161 => ?_
    have f3113 := f3113.same s3160
    have f3114 := f3114.same s3160
    have f3121 := f3121.same s3160
    have f3112 := f3112.same s3160
    refine rd_nameS (σ' := [some (.ref a3107), some (.ref a3109), some (.ref a3110), some (.ref a3120), some (.ref a3156), none, none, none, none, none]) rfl ?_
    refine rd_mk ?_
    refine rd_seq ?_
    refine rd_asg ?_
    refine rd_lc ?_
    refine rd_iR1 ?_
    refine rd_cons ?_
    refine rd_cb ?_
    refine rd_cons ?_
    refine rd_var rfl ?_
    refine rd_nil ?_
    obtain ⟨w3162, h3163, k3164⟩ := li f3121
    refine q_len (S3158.sub _ _ h3163) k3164 ?_
    refine rd_nil ?_
    obtain ⟨l3165, h3166, h⟩ := bnd h
    refine q_rng1 h3166 ?_
    intro D3167 h3168
    obtain ⟨l3193, h3194, h⟩ := bnd h
    refine q_lcL (enc := eI) (F0 := H0) h3194 (w_rng1 h3166) S3158 h3168 S3158.old ?_ ?_ ?_
    · rintro GD3167 HD3167 accD3167 SD3167 sD3167
      exact trivial
    · rintro i3170 x3171 a3169 o3180 G3174 H3172 H3173 acc3179 h3177 h S3175 s3176 h3178 T F hT hF
      have f3113 := f3113.same s3176
      have f3114 := f3114.same s3176
      have f3121 := f3121.same s3176
      have f3161 := f3161.same s3176
      have f3112 := f3112.same s3176
      have sT3181 := Same.refl G3174
      obtain ⟨rfl, e3183⟩ := h3178
      cases e3183 _ h3177
      refine rd_nameS (σ' := [some (.ref a3107), some (.ref a3109), some (.ref a3110), some (.ref a3120), some (.ref a3156), none, none, none, none, some (.int a3169)]) rfl ?_
      refine ⟨rfl, ?_⟩
      refine rd_test ?_
      refine rd_op ?_
      refine rd_cb ?_
      refine rd_cons ?_
      refine rd_op ?_
      refine rd_var rfl ?_
      refine rd_var rfl ?_
      obtain ⟨y3184, h3185, h⟩ := bnd h
      obtain ⟨w3186, h3187, k3188⟩ := li f3121
      refine q_ixL (S3175.sub _ _ h3187) k3188 h3185 fun v3189 f3190 => ?_
      cases fr_str f3190
      refine rd_nil ?_
      obtain ⟨y3191, h3192, h⟩ := bnd h
      refine q_lenS h3192 ?_
      refine rd_c ?_
      refine q_eqI ?_
      refine rd_bl ?_
      rcases cnd h with ⟨c3195, h⟩ | ⟨c3195, h⟩
      ·
        refine iteY c3195 ?_
        refine rd_var rfl ?_
        cases h
        exact hT _ _ _ _ rfl S3175 sT3181 (.int _)
      ·
        refine iteN c3195 ?_
        cases h
        exact hF _ _ rfl S3175 sT3181
    rintro G3196 H3197 w3198 S3199 s3200 f3201 n3202 n3203
    have f3113 := f3113.same s3200
    have f3114 := f3114.same s3200
    have f3121 := f3121.same s3200
    have f3161 := f3161.same s3200
    have f3112 := f3112.same s3200
    obtain ⟨G3204, S3205, s3206, f3207⟩ := S3199.fixF 0 rfl (S3199.notms n3202) f3201 n3203
    have f3113 := f3113.same s3206
    have f3114 := f3114.same s3206
    have f3121 := f3121.same s3206
    have f3161 := f3161.same s3206
    have f3112 := f3112.same s3206
    refine rd_nameS (σ' := [some (.ref a3107), some (.ref a3109), some (.ref a3110), some (.ref a3120), some (.ref a3156), some (.ref D3167), none, none, none, none]) rfl ?_
    refine rd_mk ?_
    refine rd_seq ?_
    refine rd_for ?_
    refine rd_iR1 ?_
    refine rd_cons ?_
    refine rd_cb ?_
    refine rd_cons ?_
    refine rd_c ?_
    refine rd_cons ?_
    refine rd_cb ?_
    refine rd_cons ?_
    refine rd_var rfl ?_
    refine rd_nil ?_
    obtain ⟨w3208, h3209, k3210⟩ := li f3207
    refine q_len (S3205.sub _ _ h3209) k3210 ?_
    refine rd_nil ?_
    refine q_min2 ?_
    refine rd_nil ?_
    obtain ⟨l3211, h3212, h⟩ := bnd h
    refine q_rng1 h3212 ?_
    obtain ⟨r3234_, h3235, ho3233⟩ := bnd h
    refine q_forC h3235 (w_rng1 h3212) (fun s3214 σ' H' => ∃ (x3226 : Option V) (x3227 : Option V) (x3228 : Option V) (w3229 : List V) (G3222 : Hp), σ' = [some (.ref a3107), some (.ref a3109), some (.ref a3110), some (.ref a3120), some (.ref a3156), some (.ref D3167), x3226, x3227, x3228, none] ∧ Sep [a3107] H0 G3222 H' [(a3107, .lst w3229)] ∧ Same G3204 G3222 ∧ FrL E0h G3222 w3229 ((s3214).map eI)) ?_ ?_ ?_ ?_
    · exact ⟨_, _, _, w3108, G3204, rfl, S3205, Same.refl _, f3112⟩
    · rintro s3214 _ H3223 ⟨x3226, x3227, x3228, w3229, G3222, rfl, S3224, sE3225, f3230⟩
      exact trivial
    · rintro i3215 a3213 s3214 c3221 x3217 _ H3223 H3218 h3219 h ⟨x3226, x3227, x3228, w3229, G3222, rfl, S3224, sE3225, f3230⟩ h3220 hq3231 kb3232
      have f3113 := f3113.same sE3225
      have f3114 := f3114.same sE3225
      have f3161 := f3161.same sE3225
      have f3207 := f3207.same sE3225
      obtain ⟨rfl, e3236⟩ := h3220
      cases e3236 _ h3219
      refine rd_nameS (σ' := [some (.ref a3107), some (.ref a3109), some (.ref a3110), some (.ref a3120), some (.ref a3156), some (.ref D3167), some (.int a3213), x3227, x3228, none]) rfl ?_
      refine rd_seq ?_
      refine rd_asg ?_
      refine rd_op ?_
      refine rd_var rfl ?_
      refine rd_call ?_
      refine rd_cons ?_
      refine rd_var rfl ?_
      refine rd_cons ?_
      refine rd_cb ?_
      refine rd_cons ?_
      refine rd_var rfl ?_
      refine rd_nil ?_
      obtain ⟨w3237, h3238, k3239⟩ := li f3207
      refine q_len (S3224.sub _ _ h3238) k3239 ?_
      refine rd_nil ?_
      obtain ⟨y3240, h3241, h⟩ := bnd h
      refine ⟨a3107, w3229, s3214, (lenI l3193), rfl, (S3224.get 0 rfl), (f3230.same (S3224.hid1 0 rfl)), y3240, h3241, fun w3245 G3242 H3243 R3244 h3246 k3247 => ?_⟩
      obtain ⟨G3248, S3249, s3250, t3251, l3252⟩ := S3224.ret1 0 rfl R3244 h3246 lst_tup
      have k3247 := l3252 _ _ (k3247.imm (flat_map flI _))
      have f3113 := f3113.same s3250
      have f3114 := f3114.same s3250
      have f3161 := f3161.same s3250
      have f3207 := f3207.same s3250
      have f3230 := f3230.same s3250
      have sE3225 := sE3225.trans s3250
      have k3247 := k3247.rp
      have S3249 : Sep [a3107] H0 G3248 H3243 [(a3107, .lst w3245)] := S3249
      obtain ⟨y3253, h3254, h⟩ := bnd h
      obtain ⟨w3255, h3256, k3257⟩ := li f3207
      refine q_ixL (S3249.sub _ _ h3256) k3257 h3254 fun v3258 f3259 => ?_
      cases fr_int f3259
      refine rd_nameS (σ' := [some (.ref a3107), some (.ref a3109), some (.ref a3110), some (.ref a3120), some (.ref a3156), some (.ref D3167), some (.int a3213), some (.int y3253), x3228, none]) rfl ?_
      refine rd_mk ?_
      refine rd_seq ?_
      refine rd_asg ?_
      refine rd_op ?_
      refine rd_lc ?_
      refine rd_iList ?_
      refine rd_var rfl ?_
      obtain ⟨w3260, h3261, k3262⟩ := li f3161
      refine ⟨_, rfl, ⟨_, SqL.of (S3249.sub _ _ h3261)⟩, ?_⟩
      intro D3263 h3264
      obtain ⟨l3281, h3282, h⟩ := bnd h
      refine q_lcL (enc := eI) (F0 := H0) h3282 (w_li k3262) S3249 h3264 S3249.old ?_ ?_ ?_
      · rintro GD3263 HD3263 accD3263 SD3263 sD3263
        exact (SD3263.sub _ _ (sD3263 _ _ h3261))
      · rintro i3266 x3267 a3265 o3276 G3270 H3268 H3269 acc3275 h3273 h S3271 s3272 h3274 T F hT hF
        have f3113 := f3113.same s3272
        have f3114 := f3114.same s3272
        have f3161 := f3161.same s3272
        have f3207 := f3207.same s3272
        have k3247 := k3247.same s3272
        have sT3277 := Same.refl G3270
        obtain ⟨rfl, e3279⟩ := h3274
        have f3280 := (e3279 _ h3273).same s3272
        cases fr_int f3280
        refine rd_nameS (σ' := [some (.ref a3107), some (.ref a3109), some (.ref a3110), some (.ref a3120), some (.ref a3156), some (.ref D3167), some (.int a3213), some (.int y3253), x3228, some (.int a3265)]) rfl ?_
        refine ⟨rfl, ?_⟩
        refine rd_test ?_
        refine rd_op ?_
        refine rd_var rfl ?_
        refine rd_var rfl ?_
        refine rd_I0 ?_
        refine rd_bl ?_
        rcases cnd h with ⟨c3283, h⟩ | ⟨c3283, h⟩
        ·
          refine iteY c3283 ?_
          refine rd_var rfl ?_
          cases h
          exact hT _ _ _ _ rfl S3271 sT3277 (.int _)
        ·
          refine iteN c3283 ?_
          cases h
          exact hF _ _ rfl S3271 sT3277
      rintro G3284 H3285 w3286 S3287 s3288 f3289 n3290 n3291
      have f3113 := f3113.same s3288
      have f3114 := f3114.same s3288
      have f3161 := f3161.same s3288
      have f3207 := f3207.same s3288
      have k3247 := k3247.same s3288
      have sE3225 := sE3225.trans s3288
      obtain ⟨G3292, S3293, s3294, f3295⟩ := S3287.fixF 0 rfl (S3287.notms n3290) f3289 n3291
      have f3113 := f3113.same s3294
      have f3114 := f3114.same s3294
      have f3161 := f3161.same s3294
      have f3207 := f3207.same s3294
      have k3247 := k3247.same s3294
      have sE3225 := sE3225.trans s3294
      refine rd_c ?_
      obtain ⟨y3296, h3297, h⟩ := bnd h
      obtain ⟨w3298, h3299, k3300⟩ := li f3295
      refine q_ixL (S3293.sub _ _ h3299) k3300 h3297 fun v3301 f3302 => ?_
      cases fr_int f3302
      refine rd_nameS (σ' := [some (.ref a3107), some (.ref a3109), some (.ref a3110), some (.ref a3120), some (.ref a3156), some (.ref D3167), some (.int a3213), some (.int y3253), some (.int y3296), none]) rfl ?_
      refine rd_mk ?_
      refine rd_ifS ?_
      refine rd_not ?_
      refine rd_tB ?_
      refine rd_call ?_
      refine rd_cons ?_
      refine rd_var rfl ?_
      refine rd_cons ?_
      refine rd_var rfl ?_
      refine rd_cons ?_
      refine rd_var rfl ?_
      refine rd_cons ?_
      refine rd_op ?_
      refine rd_var rfl ?_
      refine rd_call ?_
      refine rd_cons ?_
      refine rd_var rfl ?_
      refine rd_cons ?_
      refine rd_op ?_
      refine rd_var rfl ?_
      refine rd_var rfl ?_
      refine rd_I0 ?_
      refine rd_nil ?_
      obtain ⟨y3303, h3304, h⟩ := bnd h
      refine ⟨a3107, w3245, y3240.2, (y3296 - y3253), rfl, (S3293.get 0 rfl), (k3247.same (S3293.hid1 0 rfl)), y3303, h3304, fun w3308 G3305 H3306 R3307 h3309 k3310 => ?_⟩
      obtain ⟨G3311, S3312, s3313, t3314, l3315⟩ := S3293.ret1 0 rfl R3307 h3309 lst_tup
      have k3310 := l3315 _ _ (k3310.imm (flat_map flI _))
      have f3113 := f3113.same s3313
      have f3114 := f3114.same s3313
      have f3161 := f3161.same s3313
      have f3207 := f3207.same s3313
      have k3247 := k3247.same s3313
      have sE3225 := sE3225.trans s3313
      have k3310 := k3310.rp
      have S3312 : Sep [a3107] H0 G3311 H3306 [(a3107, .lst w3308)] := S3312
      refine rd_I0 ?_
      refine rd_nil ?_
      obtain ⟨y3316, h3317, h⟩ := bnd h
      refine ⟨a3109, x_lineup, a3110, x_calls, y3253, (y3253 + y3303.1), rfl, (f3113.same S3312.sub), (f3114.same S3312.sub), y3316, h3317, fun G3318 H3319 R3320 => ?_⟩
      obtain ⟨G3321, S3322, s3323, t3324, l3325⟩ := S3312.ret0 R3320
      have f3113 := f3113.same s3323
      have f3114 := f3114.same s3323
      have f3161 := f3161.same s3323
      have f3207 := f3207.same s3323
      have k3310 := k3310.same s3323
      have sE3225 := sE3225.trans s3323
      refine rd_bl ?_
      rcases cnd h with ⟨c3327, h⟩ | ⟨c3327, h⟩
      ·
        refine iteY c3327 ?_
        refine rd_ret ?_
        refine rd_c ?_
        cases h
        have e3326 := hq3231 _ rfl
        subst e3326
        cases (show some ((false, y3303.2)) = some _ from ho3233)
        exact kq w3308 _ _ S3322.toRet (S3322.get 0 rfl) k3310
      ·
        refine iteN c3327 ?_
        refine rd_next ?_
        cases h
        exact ⟨_, rfl, _, _, _, w3308, G3321, rfl, S3322, sE3225, k3310⟩
    rintro r3234 _ H3329 rfl ⟨x3332, x3333, x3334, w3335, G3328, rfl, S3330, sE3331, f3336⟩
    have h := ho3233
    have f3113 := f3113.same sE3331
    have f3114 := f3114.same sE3331
    have f3161 := f3161.same sE3331
    have f3207 := f3207.same sE3331
    refine rd_mk ?_
    refine rd_ret ?_
    refine rd_c ?_
    cases h
    exact kq w3335 _ _ S3330.toRet (S3330.get 0 rfl) f3336
end
end K74

namespace K74
open PySem L2 LX LQ
section
variable {P : Program} {w : World} {K : PySem.W.Frag} {mg : Str → Option Value} {base : Heap} {a : Ad}
open LQF
def sp_law0 (K : PySem.W.Frag) : Sp := fun vs H Q _ => ∃ (a3337 : Addr) (x_script : (List Int)), vs = [.ref a3337] ∧ Scr K H a3337 x_script ∧ ∃ r, F_law x_script = some r ∧ ∀ (G H' : Hp), Ret [] H G H' → Q (.bl (r)) H'
theorem ok_law0 (T : Txt K mg a) : FnOk P w K mg base CX0 10 a.f_law a.d_law ["script"] (sp_law0 K) := by
  refine T.F_law.ok sc_law (fun vs H Q E h => ?_) (fun cdv A outer s H0 vs Q E hr h => ?_)
  · obtain ⟨a3337, x_script, rfl, _⟩ := h
    rfl
  · obtain ⟨a3337, x_script, rfl, f3338, r, h, kq⟩ := h
    have nd := sc_law.nd
    have hu64 := hr.units
    refine ⟨_, (pss_cons (ps_for PassesOwn.never rfl (pi_enum rfl T.b_enumerate (pa_cons (pe_op op_cat (pe_slice (ksl_list (K := K)) (pv 0) po_none (po_some pe_int)) (pe_lst (pa_cons pe_int pa_nil))) pa_nil)) (kpg_tup (K := K) rfl (pgs_cons (pg_name (i := 1) nd rfl (Or.inl rfl)) (pgs_cons (pg_name (i := 2) nd rfl (Or.inl rfl)) pgs_nil))) (pss_cons (ps_set (i := 3) nd rfl (Or.inl rfl) (pe_call (ok__law_bag T) (hr.mono (by decide)) rfl T.g__law_bag T.k__law_bag T.n__law_bag .nil pass0 (pa_cons (pv 2) pa_nil)))
      (pss_cons (ps_set (i := 4) nd rfl (Or.inl rfl) (pe_cmpR op_eq (pv 1) (pe_callB (klen (K := K)) (by rfl) T.b_len (by decide +kernel) (pa_cons (pe_slice (ksl_list (K := K)) (pv 0) po_none (po_some pe_int)) pa_nil)) (nomark _)))
      (pss_cons (ps_set (i := 5) nd rfl (Or.inl rfl) (pe_call (ok__law_lineup T) (hr.mono (by decide)) rfl T.g__law_lineup T.k__law_lineup T.n__law_lineup .nil pass0 (pa_cons (pv 3) (pa_cons (pe_ifExp (pt_val (pv 4)) pe_int (pe_ix (kix_list (K := K)) (pe_lst (pa_cons pe_int (pa_cons pe_int (pa_cons pe_int pa_nil)))) (pe_call (ok__law_draw T) (hr.mono (by decide)) rfl T.g__law_draw T.k__law_draw T.n__law_draw .nil pass0 (pa_cons (pv 3) (pa_cons pe_int pa_nil))) (fun _ _ => rfl))) pa_nil))))
      (pss_cons (ps_set (i := 6) nd rfl (Or.inl rfl) (pe_call (ok__law_calls T) (hr.mono (by decide)) rfl T.g__law_calls T.k__law_calls T.n__law_calls .nil pass0 (pa_cons (pv 3) (pa_cons (pe_callB (klen (K := K)) (by rfl) T.b_len (by decide +kernel) (pa_cons (pv 5) pa_nil)) (pa_cons (pe_ifExp (pt_val (pv 4)) pe_int (pe_ix (kix_list (K := K)) (pe_lst (pa_cons pe_int (pa_cons pe_int (pa_cons pe_int pa_nil)))) (pe_call (ok__law_draw T) (hr.mono (by decide)) rfl T.g__law_draw T.k__law_draw T.n__law_draw .nil pass0 (pa_cons (pv 3) (pa_cons pe_int pa_nil))) (fun _ _ => rfl))) pa_nil)))))
      (pss_one (ps_if (pt_not (pt_val (pe_call (ok__law_holds T) (hr.mono (by decide)) rfl T.g__law_holds T.k__law_holds T.n__law_holds .nil pass0 (pa_cons (pv 3) (pa_cons (pv 5) (pa_cons (pv 6) pa_nil)))))) (pss_one (ps_ret pe_bl)) pss_nil)))))))
      (pss_one (ps_ret pe_bl))), ?_⟩
    unfold F_law at h
    have S0 := Sep.start H0
    refine rd_seq ?_
    refine rd_for ?_
    refine rd_iEn ?_
    refine rd_cons ?_
    refine rd_op ?_
    refine rd_sl ?_
    refine rd_var rfl ?_
    refine rd_nopart ?_
    refine rd_part ?_
    refine rd_c ?_
    refine rd_int ?_
    refine q_slScr S0 f3338 fun a3339 G3343 H3340 S3341 s3344 f3342 => ?_
    have f3338 := f3338.same s3344
    refine rd_lstZ ?_
    refine rd_cons ?_
    refine rd_c ?_
    refine rd_nil ?_
    refine q_lst (F0 := H0) (ds := [eI (0 : Int)]) S3341 (by show 1 ≤ LIM; decide) (.cons (.int _) .nil) S3341.old fun a3345 G3346 H3347 S3348 s3349 f3350 => ?_
    have f3338 := f3338.same s3349
    have f3342 := f3342.same s3349
    replace f3350 : Fr H0 G3346 (.ref a3345) ((eL eI) [(0 : Int)]) := f3350
    obtain ⟨y3351, h3352, h⟩ := bnd h
    obtain ⟨w3353, h3354, k3355⟩ := li f3342
    obtain ⟨w3356, h3357, k3358⟩ := li f3350
    refine q_cat S3348 (S3348.sub _ _ h3354) k3355 (S3348.sub _ _ h3357) k3358 h3352 S3348.old fun a3359 G3362 H3360 S3361 s3363 f3364 => ?_
    have f3338 := f3338.same s3363
    refine rd_nil ?_
    obtain ⟨w3365, h3366, k3367⟩ := li f3364
    refine ⟨_, _, rfl, SqL.of (S3361.sub _ _ h3366), ?_⟩
    obtain ⟨r3390_, h3391, ho3389⟩ := bnd h
    refine q_forC h3391 (w_en k3367) (fun s3369 σ' H' => ∃ (x3381 : Option V) (x3382 : Option V) (x3383 : Option V) (x3384 : Option V) (x3385 : Option V) (x3386 : Option V) (G3377 : Hp), σ' = [some (.ref a3337), x3381, x3382, x3383, x3384, x3385, x3386] ∧ Sep [] H0 G3377 H' [] ∧ Same G3362 G3377) ?_ ?_ ?_ ?_
    · exact ⟨_, _, _, _, _, _, G3362, rfl, S3361, Same.refl _⟩
    · rintro s3369 _ H3378 ⟨x3381, x3382, x3383, x3384, x3385, x3386, G3377, rfl, S3379, sE3380⟩
      exact (S3379.sub _ _ (sE3380 _ _ h3366))
    · rintro i3370 a3368 s3369 c3376 x3372 _ H3378 H3373 h3374 h ⟨x3381, x3382, x3383, x3384, x3385, x3386, G3377, rfl, S3379, sE3380⟩ h3375 hq3387 kb3388
      have f3338 := f3338.same sE3380
      obtain ⟨T3392, v3393, v3394, rfl, h3395, e3397, e3396⟩ := h3375
      obtain ⟨k3398, k3399⟩ := e3396 _ h3374
      replace k3398 := k3398.same sE3380
      replace k3399 := k3399.same sE3380
      obtain ⟨G3400, S3401, s3402, f3403⟩ := S3379.pair h3395 e3397 k3398 k3399
      have f3338 := f3338.same s3402
      have sE3380 := sE3380.trans s3402
      replace f3403 : Fr H0 G3400 (.ref T3392) (eT2 eI eI a3368) := f3403
      obtain ⟨v3404, v3405, h3408, f3406, f3407⟩ := tu2 f3403
      cases fr_int f3406
      cases fr_int f3407
      refine rd_gtup (S3401.sub _ _ h3408) rfl ?_
      refine rd_gcons ?_
      refine rd_nameS (σ' := [some (.ref a3337), some (.int a3368.1), x3382, x3383, x3384, x3385, x3386]) rfl ?_
      refine rd_gcons ?_
      refine rd_nameS (σ' := [some (.ref a3337), some (.int a3368.1), some (.int a3368.2), x3383, x3384, x3385, x3386]) rfl ?_
      refine rd_gnil ?_
      refine rd_seq ?_
      refine rd_asg ?_
      refine rd_call ?_
      refine rd_cons ?_
      refine rd_var rfl ?_
      refine rd_nil ?_
      obtain ⟨y3409, h3410, h⟩ := bnd h
      refine ⟨a3368.2, rfl, y3409, h3410, fun a3414 G3411 H3412 R3413 f3415 => ?_⟩
      obtain ⟨G3416, w3421, S3417, s3418, n3422, f3423⟩ := S3401.ret0O R3413 f3415
      have f3338 := f3338.same s3418
      have sE3380 := sE3380.trans s3418
      refine rd_nameS (σ' := [some (.ref a3337), some (.int a3368.1), some (.int a3368.2), some (.ref a3414), x3384, x3385, x3386]) rfl ?_
      refine rd_mk ?_
      refine rd_seq ?_
      refine rd_asg ?_
      refine rd_op ?_
      refine rd_var rfl ?_
      refine rd_cb ?_
      refine rd_cons ?_
      refine rd_sl ?_
      refine rd_var rfl ?_
      refine rd_nopart ?_
      refine rd_part ?_
      refine rd_c ?_
      refine rd_int ?_
      refine q_slScr S3417 f3338 fun a3424 G3428 H3425 S3426 s3429 f3427 => ?_
      have f3338 := f3338.same s3429
      have f3423 := f3423.same s3429
      have sE3380 := sE3380.trans s3429
      refine rd_nil ?_
      obtain ⟨w3430, h3431, k3432⟩ := li f3427
      refine q_len (S3426.sub _ _ h3431) k3432 ?_
      refine q_eqI ?_
      refine rd_nameS (σ' := [some (.ref a3337), some (.int a3368.1), some (.int a3368.2), some (.ref a3414), some (.bl (decide (a3368.1 = (lenI (cutL x_script none (some (6 : Int))))))), x3385, x3386]) rfl ?_
      refine rd_mk ?_
      refine rd_seq ?_
      refine rd_asg ?_
      refine rd_call ?_
      refine rd_cons ?_
      refine rd_var rfl ?_
      refine rd_cons ?_
      obtain ⟨y3486, h3487, h⟩ := bnd h
      refine rd_teM2 (fun k H' => ∃ (w3492 : List V) (G3488 : Hp), k = (.int y3486.1) ∧ Sep [] H0 G3488 H' [(a3414, .lst w3492)] ∧ Same G3428 G3488 ∧ FrL H0 G3488 w3492 ((y3486.2).map eI)) (fun R q => ?_) ?_
      ·
        have sE3433 := Same.refl G3428
        have h := h3487
        refine rd_ifE ?_
        refine rd_tB ?_
        refine rd_var rfl ?_
        refine rd_bl ?_
        rcases cnd h with ⟨c3494, h⟩ | ⟨c3494, h⟩
        ·
          refine iteY c3494 ?_
          refine rd_c ?_
          cases h
          exact q _ _ ⟨w3421, G3428, rfl, S3426, sE3433, f3423⟩
        ·
          refine iteN c3494 ?_
          refine rd_op ?_
          refine rd_lstZ ?_
          refine rd_cons ?_
          refine rd_c ?_
          refine rd_cons ?_
          refine rd_c ?_
          refine rd_cons ?_
          refine rd_c ?_
          refine rd_nil ?_
          refine q_lst (F0 := H0) (ds := [eI (4 : Int), eI (12 : Int), eI (60 : Int)]) S3426 (by show 3 ≤ LIM; decide) (.cons (.int _) (.cons (.int _) (.cons (.int _) .nil))) S3426.old fun a3460 G3461 H3462 S3463 s3464 f3465 => ?_
          have f3338 := f3338.same s3464
          have f3423 := f3423.same s3464
          have sE3433 := sE3433.trans s3464
          replace f3465 : Fr H0 G3461 (.ref a3460) ((eL eI) [(4 : Int), (12 : Int), (60 : Int)]) := f3465
          refine rd_call ?_
          refine rd_cons ?_
          refine rd_var rfl ?_
          refine rd_cons ?_
          refine rd_c ?_
          refine rd_nil ?_
          obtain ⟨y3466, h3467, h⟩ := bnd h
          refine ⟨a3414, w3421, y3409, (3 : Int), rfl, (S3463.get 0 rfl), (f3423.rp.same (S3463.hid1 0 rfl)), y3466, h3467, fun w3471 G3468 H3469 R3470 h3472 k3473 => ?_⟩
          obtain ⟨G3474, S3475, s3476, t3477, l3478⟩ := S3463.ret1 0 rfl R3470 h3472 lst_tup
          have k3473 := l3478 _ _ (k3473.imm (flat_map flI _))
          have f3338 := f3338.same s3476
          have f3465 := f3465.same s3476
          have f3423 := f3423.same s3476
          have sE3433 := sE3433.trans s3476
          have S3475 : Sep [] H0 G3474 H3469 [(a3414, .lst w3471)] := S3475
          obtain ⟨y3479, h3480, h⟩ := bnd h
          obtain ⟨w3481, h3482, k3483⟩ := li f3465
          refine q_ixL (S3475.sub _ _ h3482) k3483 h3480 fun v3484 f3485 => ?_
          cases fr_int f3485
          cases h
          exact q _ _ ⟨w3471, G3474, rfl, S3475, sE3433, k3473⟩
      rintro _ H3489 ⟨w3492, G3488, rfl, S3490, s3491, f3493⟩
      have f3338 := f3338.same s3491
      have sE3380 := sE3380.trans s3491
      refine rd_nil ?_
      obtain ⟨y3495, h3496, h⟩ := bnd h
      refine ⟨a3414, w3492, y3486.2, y3486.1, rfl, (S3490.get 0 rfl), (f3493.rp.same (S3490.hid1 0 rfl)), y3495, h3496, fun a3500 w3501 G3497 H3498 R3499 h3502 k3503 f3504 => ?_⟩
      obtain ⟨G3505, S3506, s3507, t3508, l3509⟩ := S3490.ret1 0 rfl R3499 h3502 lst_tup
      have k3503 := l3509 _ _ (k3503.imm (flat_map flI _))
      have f3338 := f3338.same s3507
      have f3493 := f3493.same s3507
      have sE3380 := sE3380.trans s3507
      have S3506 : Sep [] H0 G3505 H3498 [(a3414, .lst w3501)] := S3506
      have f3504 := t3508 _ _ f3504
      refine rd_nameS (σ' := [some (.ref a3337), some (.int a3368.1), some (.int a3368.2), some (.ref a3414), some (.bl (decide (a3368.1 = (lenI (cutL x_script none (some (6 : Int))))))), some (.ref a3500), x3386]) rfl ?_
      refine rd_mk ?_
      refine rd_seq ?_
      refine rd_asg ?_
      refine rd_call ?_
      refine rd_cons ?_
      refine rd_var rfl ?_
      refine rd_cons ?_
      refine rd_cb ?_
      refine rd_cons ?_
      refine rd_var rfl ?_
      refine rd_nil ?_
      obtain ⟨w3510, h3511, k3512⟩ := li f3504
      refine q_len (S3506.sub _ _ h3511) k3512 ?_
      refine rd_cons ?_
      obtain ⟨y3566, h3567, h⟩ := bnd h
      refine rd_teM2 (fun k H' => ∃ (w3572 : List V) (G3568 : Hp), k = (.int y3566.1) ∧ Sep [] H0 G3568 H' [(a3414, .lst w3572)] ∧ Same G3505 G3568 ∧ FrL H0 G3568 w3572 ((y3566.2).map eI)) (fun R q => ?_) ?_
      ·
        have sE3513 := Same.refl G3505
        have h := h3567
        refine rd_ifE ?_
        refine rd_tB ?_
        refine rd_var rfl ?_
        refine rd_bl ?_
        rcases cnd h with ⟨c3574, h⟩ | ⟨c3574, h⟩
        ·
          refine iteY c3574 ?_
          refine rd_c ?_
          cases h
          exact q _ _ ⟨w3501, G3505, rfl, S3506, sE3513, k3503⟩
        ·
          refine iteN c3574 ?_
          refine rd_op ?_
          refine rd_lstZ ?_
          refine rd_cons ?_
          refine rd_c ?_
          refine rd_cons ?_
          refine rd_c ?_
          refine rd_cons ?_
          refine rd_c ?_
          refine rd_nil ?_
          refine q_lst (F0 := H0) (ds := [eI (12 : Int), eI (40 : Int), eI (90 : Int)]) S3506 (by show 3 ≤ LIM; decide) (.cons (.int _) (.cons (.int _) (.cons (.int _) .nil))) S3506.old fun a3540 G3541 H3542 S3543 s3544 f3545 => ?_
          have f3338 := f3338.same s3544
          have f3504 := f3504.same s3544
          have k3503 := k3503.same s3544
          have sE3513 := sE3513.trans s3544
          replace f3545 : Fr H0 G3541 (.ref a3540) ((eL eI) [(12 : Int), (40 : Int), (90 : Int)]) := f3545
          refine rd_call ?_
          refine rd_cons ?_
          refine rd_var rfl ?_
          refine rd_cons ?_
          refine rd_c ?_
          refine rd_nil ?_
          obtain ⟨y3546, h3547, h⟩ := bnd h
          refine ⟨a3414, w3501, y3495.2, (3 : Int), rfl, (S3543.get 0 rfl), (k3503.rp.same (S3543.hid1 0 rfl)), y3546, h3547, fun w3551 G3548 H3549 R3550 h3552 k3553 => ?_⟩
          obtain ⟨G3554, S3555, s3556, t3557, l3558⟩ := S3543.ret1 0 rfl R3550 h3552 lst_tup
          have k3553 := l3558 _ _ (k3553.imm (flat_map flI _))
          have f3338 := f3338.same s3556
          have f3504 := f3504.same s3556
          have f3545 := f3545.same s3556
          have k3503 := k3503.same s3556
          have sE3513 := sE3513.trans s3556
          have S3555 : Sep [] H0 G3554 H3549 [(a3414, .lst w3551)] := S3555
          obtain ⟨y3559, h3560, h⟩ := bnd h
          obtain ⟨w3561, h3562, k3563⟩ := li f3545
          refine q_ixL (S3555.sub _ _ h3562) k3563 h3560 fun v3564 f3565 => ?_
          cases fr_int f3565
          cases h
          exact q _ _ ⟨w3551, G3554, rfl, S3555, sE3513, k3553⟩
      rintro _ H3569 ⟨w3572, G3568, rfl, S3570, s3571, f3573⟩
      have f3338 := f3338.same s3571
      have f3504 := f3504.same s3571
      have sE3380 := sE3380.trans s3571
      refine rd_nil ?_
      obtain ⟨y3575, h3576, h⟩ := bnd h
      refine ⟨a3414, w3572, y3566.2, (lenI y3495.1), y3566.1, rfl, (S3570.get 0 rfl), (f3573.rp.same (S3570.hid1 0 rfl)), y3575, h3576, fun a3580 w3581 G3577 H3578 R3579 h3582 k3583 f3584 => ?_⟩
      obtain ⟨G3585, S3586, s3587, t3588, l3589⟩ := S3570.ret1 0 rfl R3579 h3582 lst_tup
      have k3583 := l3589 _ _ (k3583.imm (flat_map flI _))
      have f3338 := f3338.same s3587
      have f3504 := f3504.same s3587
      have f3573 := f3573.same s3587
      have sE3380 := sE3380.trans s3587
      have S3586 : Sep [] H0 G3585 H3578 [(a3414, .lst w3581)] := S3586
      have f3584 := t3588 _ _ f3584
      refine rd_nameS (σ' := [some (.ref a3337), some (.int a3368.1), some (.int a3368.2), some (.ref a3414), some (.bl (decide (a3368.1 = (lenI (cutL x_script none (some (6 : Int))))))), some (.ref a3500), some (.ref a3580)]) rfl ?_
      refine rd_mk ?_
      refine rd_ifS ?_
      refine rd_not ?_
      refine rd_tB ?_
      refine rd_call ?_
      refine rd_cons ?_
      refine rd_var rfl ?_
      refine rd_cons ?_
      refine rd_var rfl ?_
      refine rd_cons ?_
      refine rd_var rfl ?_
      refine rd_nil ?_
      obtain ⟨y3590, h3591, h⟩ := bnd h
      refine ⟨a3414, w3581, y3575.2, a3500, y3495.1, a3580, y3575.1, rfl, (S3586.get 0 rfl), (k3583.rp.same (S3586.hid1 0 rfl)), (f3504.rp.same (S3586.hid1 0 rfl)), (f3584.rp.same (S3586.hid1 0 rfl)), y3590, h3591, fun w3595 G3592 H3593 R3594 h3596 k3597 => ?_⟩
      obtain ⟨G3598, S3599, s3600, t3601, l3602⟩ := S3586.ret1 0 rfl R3594 h3596 lst_tup
      have k3597 := l3602 _ _ (k3597.imm (flat_map flI _))
      have f3338 := f3338.same s3600
      have f3504 := f3504.same s3600
      have f3584 := f3584.same s3600
      have k3583 := k3583.same s3600
      have sE3380 := sE3380.trans s3600
      have S3599 : Sep [] H0 G3598 H3593 [(a3414, .lst w3595)] := S3599
      refine rd_bl ?_
      rcases cnd h with ⟨c3605, h⟩ | ⟨c3605, h⟩
      ·
        refine iteY c3605 ?_
        refine rd_ret ?_
        refine rd_c ?_
        cases h
        have e3603 := hq3387 _ rfl
        subst e3603
        cases (show some (false) = some _ from ho3389)
        exact kq _ _ S3599.toRet
      ·
        refine iteN c3605 ?_
        refine rd_next ?_
        have S3604 := S3599.drop 0 rfl n3422
        have S3604 : Sep [] H0 G3598 H3593 [] := S3604
        cases h
        exact ⟨_, rfl, _, _, _, _, _, _, G3598, rfl, S3604, sE3380⟩
    rintro r3390 _ H3607 rfl ⟨x3610, x3611, x3612, x3613, x3614, x3615, G3606, rfl, S3608, sE3609⟩
    have h := ho3389
    have f3338 := f3338.same sE3609
    refine rd_mk ?_
    refine rd_ret ?_
    refine rd_c ?_
    cases h
    exact kq _ _ S3608.toRet
end
end K74

namespace LQF
open PySem L2 LX LQ
def Bg (k : Nat) (l : List Int) : Prop := ∃ a b c : Int, l = [a, b, c] ∧ 0 ≤ b ∧ b < 100000000000000000000000000000000000133 ∧ 0 ≤ c ∧ c ≤ k
theorem Bg.up {k m : Nat} {l : List Int} (h : Bg k l) (z : k ≤ m) : Bg m l := by
  obtain ⟨a, b, c, e, h1, h2, h3, h4⟩ := h
  exact ⟨a, b, c, e, h1, h2, h3, by omega⟩
theorem big1 {i : Int} (h0 : 0 ≤ i) (h : i < 2 ^ 200) : i.natAbs < 2 ^ 1000 := Nat.lt_of_lt_of_le (show i.natAbs < 2 ^ 200 by omega) (Nat.pow_le_pow_right (by decide) (by decide))
theorem m_bag (c : Int) : Ev (F__law_bag c) (Bg 0) := by
  unfold F__law_bag
  refine ev_be (modF_ok (by decide)) (ev_s ⟨_, _, _, rfl, ?_, ?_, by omega, by omega⟩)
  · exact Int.emod_nonneg _ (by decide)
  · exact Int.emod_lt_of_pos _ (by decide)
theorem m_draw {k : Nat} {l : List Int} {n : Int} (h : Bg k l) (hn : 0 < n) (hm : n < 2 ^ 62) (hk : k < 2 ^ 64) : Ev (F__law_draw l n) fun r => 0 ≤ r.1 ∧ r.1 < n ∧ Bg (k + 1) r.2 := by
  obtain ⟨a, b, c, rfl, h1, h2, h3, h4⟩ := h
  unfold F__law_draw
  refine ev_be (x := a) rfl ?_
  refine ev_c (fun ha => ?_) (fun ha => ?_)
  · refine ev_be (x := a) rfl ?_
    refine ev_be (modF_ok hn) ?_
    refine ev_be (x := a) rfl ?_
    refine ev_be (divF_ok hn (by omega)) ?_
    refine ev_be (x := [a / n, b, c]) rfl ?_
    exact ev_s ⟨Int.emod_nonneg _ (by omega), Int.emod_lt_of_pos _ hn, _, _, _, rfl, h1, h2, h3, by omega⟩
  · refine ev_be (x := c) rfl ?_
    refine ev_be (x := [a, b, c + 1]) rfl ?_
    refine ev_be (x := b) rfl ?_
    refine ev_be (x := c + 1) rfl ?_
    refine ev_be (powF_ok (by decide) (by decide) (big1 (by omega) (by omega))) ?_
    refine ev_be (modF_ok (by decide)) ?_
    refine ev_be (x := c + 1) rfl ?_
    have e0 := Int.emod_nonneg ((b + 15485863 * (c + 1)) ^ (3 : Int).toNat) (show (10 : Int) ^ 36 + 67 ≠ 0 by decide)
    have e1 := Int.emod_lt_of_pos ((b + 15485863 * (c + 1)) ^ (3 : Int).toNat) (show 0 < (10 : Int) ^ 36 + 67 by decide)
    have e2 : (10 : Int) ^ 36 + 67 < 2 ^ 190 := by decide
    generalize (b + 15485863 * (c + 1)) ^ (3 : Int).toNat % ((10 : Int) ^ 36 + 67) = y at e0 e1
    refine ev_be (powF_ok (by decide) (by decide) (big1 (by omega) (by omega))) ?_
    refine ev_be (modF_ok (by decide)) ?_
    refine ev_be (divF_ok (by decide) (by decide)) ?_
    refine ev_be (modF_ok hn) ?_
    exact ev_s ⟨Int.emod_nonneg _ (by omega), Int.emod_lt_of_pos _ hn, _, _, _, rfl, h1, h2, by omega, by omega⟩
end LQF

namespace LQF
open PySem L2 LX LQ
def Cl (s : Str) : Prop := ∃ c, s = lt c ∧ 97 ≤ c ∧ c ≤ 122
def okz (z : Str) : Prop := 2 ≤ z.length ∧ z.length ≤ 26 ∧ ∀ c ∈ z.cps.toList, 97 ≤ c ∧ c ≤ 122
theorem okz_of {z : Str} (h : z.cps.toList.all (fun c => decide (97 ≤ c ∧ c ≤ 122)) = true) (h1 : 2 ≤ z.length) (h2 : z.length ≤ 26) : okz z :=
  ⟨h1, h2, fun c hc => of_decide_eq_true (List.all_eq_true.mp h c hc)⟩
theorem okz_len {z : Str} (h : okz z) : lenS z = some (z.length : Int) := by
  unfold lenS
  rw [decide_eq_true (show z.length ≤ LIM from Nat.le_trans h.2.1 (by decide))]
  rfl
theorem okz_at {z : Str} (h : okz z) {i : Int} (h0 : 0 ≤ i) (h1 : i < z.length) : Ev (ixS z i) Cl := by
  have hl : i.toNat < z.cps.toList.length := by
    rw [Array.length_toList]
    have : z.length = z.cps.size := rfl
    omega
  have e : atI z.cps.toList i = some z.cps.toList[i.toNat] := ix_int h0 (List.getElem?_eq_getElem hl)
  unfold ixS
  rw [decide_eq_true (show z.length ≤ LIM from Nat.le_trans h.2.1 (by decide)), e]
  exact ⟨_, rfl, _, rfl, h.2.2 _ (List.getElem_mem hl)⟩
theorem pick5 {r : Int} (r0 : 0 ≤ r) (r1 : r < 5) : Ev (ix [(Str.ofString "ab"), (Str.ofString "abc"), (Str.ofString "abcdefgh"), (Str.ofString "abcdefghijklmnopqrstuvwxyz"), (Str.ofString "zy")] r) okz := by
  have h : r = 0 ∨ r = 1 ∨ r = 2 ∨ r = 3 ∨ r = 4 := by omega
  rcases h with rfl | rfl | rfl | rfl | rfl
  · exact ⟨_, rfl, okz_of (by decide +kernel) (by decide +kernel) (by decide +kernel)⟩
  · exact ⟨_, rfl, okz_of (by decide +kernel) (by decide +kernel) (by decide +kernel)⟩
  · exact ⟨_, rfl, okz_of (by decide +kernel) (by decide +kernel) (by decide +kernel)⟩
  · exact ⟨_, rfl, okz_of (by decide +kernel) (by decide +kernel) (by decide +kernel)⟩
  · exact ⟨_, rfl, okz_of (by decide +kernel) (by decide +kernel) (by decide +kernel)⟩
/-- the lineup amid its making -/
structure Lin (n i k : Nat) (s : List (Int × Str) × List Int × List Int) : Prop where
  ex : ∃ (rr : Row) (ls : List Nat), s.1 = enc rr ∧ s.2.1 = nI ls ∧ rr.length = i ∧ (rr.map (·.1) ++ ls).Perm (List.range n) ∧ ∀ e ∈ rr, 97 ≤ e.2 ∧ e.2 ≤ 122
  bg : Bg k s.2.2
theorem erase_map {α β : Type} (f : α → β) : ∀ (l : List α) (j : Nat), (l.map f).eraseIdx j = (l.eraseIdx j).map f
  | [], _ => rfl
  | x :: l, 0 => rfl
  | x :: l, j + 1 => by
    show f x :: (l.map f).eraseIdx j = f x :: (l.eraseIdx j).map f
    rw [erase_map f l j]
theorem erase_perm {α : Type} : ∀ (l : List α) (j : Nat) (h : j < l.length), (l[j] :: l.eraseIdx j).Perm l
  | [], _, h => nomatch h
  | x :: l, 0, _ => List.Perm.refl _
  | x :: l, j + 1, h => (List.Perm.swap _ _ _).trans ((erase_perm l j (Nat.lt_of_succ_lt_succ h)).cons x)
theorem last_enc {rr : Row} (h : rr ≠ []) (hc : ∀ e ∈ rr, 97 ≤ e.2 ∧ e.2 ≤ 122) (z : rr.length ≤ 1000) : Ev (ix (enc rr) (-(1 : Int))) fun y => Cl y.2 := by
  have hl : 0 < rr.length := by cases rr with | nil => exact absurd rfl h | cons => exact Nat.succ_pos _
  have e : ix (enc rr) (-(1 : Int)) = (enc rr)[rr.length - 1]? := by
    unfold ix atI ixN
    rw [enc_len]
    rw [if_neg (by omega), if_pos (by omega)]
    show (enc rr)[((rr.length : Int) + -1).toNat]? = _
    congr 1
    omega
  rw [e, List.getElem?_map, List.getElem?_eq_getElem (by omega)]
  exact ⟨_, rfl, _, rfl, hc _ (List.getElem_mem _)⟩
theorem m_lineup {k : Nat} {l : List Int} {n : Int} (h : Bg k l) (hn : 1 ≤ n) (hm : n ≤ 60) (hk : k < 2 ^ 60) : Ev (F__law_lineup l n) fun r => ∃ row : Row, Vr row ∧ r.1 = enc row ∧ (row.length : Int) ≤ n ∧ Bg (k + 300) r.2 := by
  unfold F__law_lineup
  refine ev_b (m_draw h (by omega) (by omega) (by omega)) fun y1 ⟨a0, a1, B1⟩ => ?_
  refine ev_b (m_draw B1 (by decide) (by decide) (by omega)) fun y2 ⟨b0, b1, B2⟩ => ?_
  refine ev_b (pick5 b0 b1) fun z hz => ?_
  refine ev_b (m_draw B2 (by decide) (by decide) (by omega)) fun y4 ⟨c0, c1, B4⟩ => ?_
  obtain ⟨m, hm2⟩ : ∃ m : Nat, 1 + y1.1 = (m : Int) := ⟨(1 + y1.1).toNat, by omega⟩
  rw [hm2]
  refine ev_be (lrgF_ok (by decide) (by decide) (by omega) (by omega) (by unfold LIM; omega)) ?_
  refine ev_be (rngF_ok (by decide) (by decide) (by omega) (by omega)) ?_
  rw [rgI_nat]
  refine ev_b (ev_loop (P := fun s => Lin m m (k + 3 + 3 * m) s) (fun i s => i ≤ m ∧ Lin m i (k + 3 + 3 * i) s) ⟨Nat.zero_le _, ⟨[], List.range m, rfl, rfl, rfl, List.Perm.refl _, fun e he => nomatch he⟩, B4⟩ ?_ ?_) ?_
  · rintro i x ⟨f, lf, bg⟩ hi ⟨im, ⟨rr, ls, e1, e2, len, pm, col⟩, B⟩
    dsimp only at e1 e2 B
    subst e1
    subst e2
    rw [List.getElem?_map] at hi
    obtain ⟨i', hi', rfl⟩ := Option.map_eq_some_iff.mp hi
    have il := (List.getElem?_eq_some_iff.mp hi').1
    rw [List.length_range] at il
    rw [okz_len hz]
    refine ev_be rfl ?_
    have z2 := hz.1
    have z26 := hz.2.1
    refine ev_b (m_draw B (by omega) (by omega) (by omega)) fun y5 ⟨d0, d1, B5⟩ => ?_
    refine ev_b (okz_at hz d0 d1) fun c hc => ?_
    refine ev_b (P := fun p => Cl p.1 ∧ Bg (k + 3 + 3 * i + 2) p.2) ?_ fun p ⟨hp, Bp⟩ => ?_
    · refine ev_b (P := fun p => Bg (k + 3 + 3 * i + 2) p.2 ∧ (p.1 = true → rr ≠ [])) ?_ fun p ⟨Bp, ne⟩ => ?_
      · refine ev_c (fun _ => ?_) (fun _ => ev_s ⟨B5.up (by omega), fun h => nomatch h⟩)
        have e := eqRow.run (by decide) (ok_enc col) (show ∀ x ∈ ([] : List (Int × Str)), True ∧ PyData.strOk x.2 = true from fun x hx => nomatch hx)
        refine ev_be e ?_
        refine ev_c (fun h => ?_) (fun _ => ev_s ⟨B5.up (by omega), fun h => nomatch h⟩)
        refine ev_b (m_draw B5 (by decide) (by decide) (by omega)) fun y6 ⟨g0, g1, B6⟩ => ?_
        refine ev_s ⟨B6, fun _ z => ?_⟩
        rw [z] at h
        simp at h
      · refine ev_c (fun h => ?_) (fun _ => ev_s ⟨hc, Bp⟩)
        have n2 := h
        refine ev_b (last_enc (ne n2) col (by omega)) fun y hy => ?_
        exact ev_s ⟨hy, Bp⟩
    · refine ev_b (P := Cl) ?_ fun c2 hc2 => ?_
      · refine ev_c (fun _ => ?_) (fun _ => ev_s hp)
        refine ev_b (okz_at hz ?_ ?_) fun y hy => ev_s hy
        · unfold b2I; split <;> omega
        · unfold b2I; split <;> omega
      · have pl := pm.length_eq
        rw [List.length_append, List.length_map, List.length_range] at pl
        have ll : lenI (nI ls) = (ls.length : Int) := by unfold lenI; rw [List.length_map]
        rw [ll]
        refine ev_b (m_draw Bp (by omega) (by omega) (by omega)) fun y7 ⟨f0, f1, B7⟩ => ?_
        obtain ⟨j, hj⟩ : ∃ j : Nat, y7.1 = (j : Int) := ⟨y7.1.toNat, by omega⟩
        rw [hj]
        have jl : j < ls.length := by omega
        refine ev_be (popAt_nat (x := (ls[j] : Int)) (by rw [List.getElem?_map, List.getElem?_eq_getElem jl]; rfl) (by rw [List.length_map]; unfold LIM; omega)) ?_
        refine ev_be (appF_ok (by rw [enc_len]; unfold LIM; omega)) ?_
        obtain ⟨c, rfl, hc97⟩ := hc2
        refine ev_s ⟨by omega, ⟨rr ++ [(ls[j], c)], ls.eraseIdx j, by show enc rr ++ [eRow (ls[j], c)] = _; rw [enc, enc, List.map_append]; rfl, ?_, by rw [List.length_append]; simp [len], ?_, ?_⟩, B7.up (by omega)⟩
        · show (nI ls).eraseIdx j = nI (ls.eraseIdx j)
          exact erase_map _ _ _
        · rw [List.map_append, List.append_assoc]
          refine List.Perm.trans (List.Perm.append_left _ ?_) pm
          exact erase_perm ls j jl
        · intro e he
          rcases List.mem_append.mp he with h1 | h1
          · exact col e h1
          · rw [List.mem_singleton.mp h1]
            exact hc97
  · intro s ⟨_, h⟩
    rw [List.length_map, List.length_range] at h
    exact h
  · rintro ⟨f, lf, bg⟩ ⟨⟨rr, ls, e1, e2, len, pm, col⟩, B⟩
    dsimp only at e1 e2 B
    have pl := pm.length_eq
    rw [List.length_append, List.length_map, List.length_range] at pl
    have l0 : ls = [] := List.eq_nil_of_length_eq_zero (by omega)
    rw [l0, List.append_nil] at pm
    exact ev_s ⟨rr, ⟨by omega, by omega, col, by rw [len]; exact pm⟩, e1, by omega, B.up (by omega)⟩
end LQF

namespace LQF
open PySem L2 LX LQ
theorem m_calls {k : Nat} {l : List Int} {n mo : Int} (h : Bg k l) (hn : 1 ≤ n) (hm : n ≤ 60) (h0 : 0 ≤ mo) (h1 : mo ≤ 300) (hk : k < 2 ^ 60) :
    Ev (F__law_calls l n mo) fun r => ∃ cs : List Nat, r.1 = nI cs ∧ (∀ c ∈ cs, (c : Int) < n) ∧ (cs.length : Int) ≤ mo ∧ Bg (k + 1000) r.2 := by
  unfold F__law_calls
  refine ev_b (m_draw h (by decide) (by decide) (by omega)) fun y1 ⟨a0, a1, B1⟩ => ?_
  refine ev_b (P := fun v => 1 ≤ v ∧ v ≤ n) ?_ fun v ⟨v0, v1⟩ => ?_
  · have mi : minI n 3 = min n 3 := minI_eq
    have z : y1.1 = 0 ∨ y1.1 = 1 ∨ y1.1 = 2 ∨ y1.1 = 3 := by omega
    rcases z with z | z | z | z <;> rw [z]
    · exact ⟨_, rfl, hn, by omega⟩
    · exact ⟨_, rfl, by omega, by omega⟩
    · exact ⟨_, rfl, hn, by omega⟩
    · exact ⟨_, rfl, hn, by omega⟩
  refine ev_b (m_draw B1 (by omega) (by omega) (by omega)) fun y3 ⟨c0, c1, B3⟩ => ?_
  refine ev_b (m_draw B3 (by omega) (by omega) (by omega)) fun y4 ⟨d0, d1, B4⟩ => ?_
  obtain ⟨m, hm2⟩ : ∃ m : Nat, y4.1 = (m : Int) := ⟨y4.1.toNat, by omega⟩
  rw [hm2]
  refine ev_be (rngF_ok (by decide) (by decide) (by omega) (by omega)) ?_
  rw [rgI_nat]
  refine ev_b (ev_loop (P := fun s => Bg (k + 1000) s.2 ∧ ∃ cs : List Nat, s.1 = nI cs ∧ (∀ c ∈ cs, (c : Int) < n)) (fun i s => i ≤ m ∧ Bg (k + 3 + 2 * i) s.2 ∧ ∃ cs : List Nat, s.1 = nI cs ∧ (∀ c ∈ cs, (c : Int) < n) ∧ cs.length ≤ 3 * i) ⟨Nat.zero_le _, B4, [], rfl, (fun c hc => nomatch hc), Nat.le_refl _⟩ ?_ ?_) ?_
  · rintro i x ⟨f, bg⟩ hi ⟨im, B, cs, e, hc, lc⟩
    dsimp only at e B
    subst e
    rw [List.getElem?_map] at hi
    obtain ⟨i', hi', rfl⟩ := Option.map_eq_some_iff.mp hi
    have il := (List.getElem?_eq_some_iff.mp hi').1
    rw [List.length_range] at il
    refine ev_b (m_draw B (by omega) (by omega) (by omega)) fun y5 ⟨e0, e1, B5⟩ => ?_
    refine ev_b (P := fun _ => True) ?_ fun y6 _ => ?_
    · unfold b2I
      split
      · exact ⟨_, rfl, trivial⟩
      · exact ⟨_, rfl, trivial⟩
    refine ev_be (modF_ok (by omega)) ?_
    have g0 := Int.emod_nonneg (y3.1 + y6) (show n ≠ 0 by omega)
    have g1 := Int.emod_lt_of_pos (y3.1 + y6) (show 0 < n by omega)
    generalize (y3.1 + y6) % n = q at g0 g1
    obtain ⟨qn, rfl⟩ : ∃ qn : Nat, q = (qn : Int) := ⟨q.toNat, by omega⟩
    refine ev_b (m_draw B5 (by decide) (by decide) (by omega)) fun y7 ⟨f0, f1, B7⟩ => ?_
    refine ev_b (P := fun v => 0 ≤ v ∧ v ≤ 2) ?_ fun w ⟨w0, w1⟩ => ?_
    · have z : y7.1 = 0 ∨ y7.1 = 1 ∨ y7.1 = 2 ∨ y7.1 = 3 := by omega
      rcases z with z | z | z | z <;> rw [z] <;> exact ⟨_, rfl, by omega, by omega⟩
    have small : ∀ i : Int, 0 ≤ i → i ≤ 2 → i.natAbs < 2 ^ 100000 := fun i h1 h2 => Nat.lt_of_lt_of_le (show i.natAbs < 2 ^ 2 by omega) (Nat.pow_le_pow_right (by decide) (by decide))
    have b01 : ∀ b : Bool, 0 ≤ b2I b ∧ b2I b ≤ 1 := fun b => by cases b <;> decide
    have bb := b01 (decide (y1.1 = 3))
    generalize b2I (decide (y1.1 = 3)) = t at bb
    refine ev_be (mulF_ok (small _ w0 w1) (small _ bb.1 (by omega))) ?_
    have wt : 0 ≤ w * t ∧ w * t ≤ 2 := by
      have z : t = 0 ∨ t = 1 := by omega
      rcases z with rfl | rfl <;> omega
    generalize w * t = u at wt
    refine ev_be (repF_ok (by omega) (by omega) (by unfold LIM; simp; omega)) ?_
    have er : (List.replicate (1 + u).toNat [(qn : Int)]).flatten = nI (List.replicate (1 + u).toNat qn) := by
      rw [LX.flat_rep]
      show _ = List.map _ _
      rw [List.map_replicate]
    rw [er]
    refine ev_be (catF_ok (by rw [List.length_map, List.length_map, List.length_replicate]; unfold LIM; omega)) ?_
    refine ev_s ⟨by omega, B7.up (by omega), cs ++ List.replicate (1 + u).toNat qn, ?_, ?_, ?_⟩
    · show nI cs ++ nI _ = nI _
      rw [nI, nI, nI, List.map_append]
    · intro c h
      rcases List.mem_append.mp h with h | h
      · exact hc c h
      · rw [(List.mem_replicate.mp h).2]
        exact g1
    · rw [List.length_append, List.length_replicate]
      omega
  · intro s ⟨_, B, cs, e, hc, _⟩
    rw [List.length_map, List.length_range] at B
    exact ⟨B.up (by omega), cs, e, hc⟩
  · rintro ⟨f, bg⟩ ⟨B, cs, e, hc⟩
    dsimp only at e B
    subst e
    obtain ⟨mn, rfl⟩ : ∃ mn : Nat, mo = (mn : Int) := ⟨mo.toNat, by omega⟩
    refine ev_s ⟨cs.take mn, ?_, fun c h => hc c (List.mem_of_mem_take h), ?_, B⟩
    · rw [cutL_to]
      show (nI cs).take mn = _
      rw [nI, nI, List.map_take]
    · rw [List.length_take]
      omega
end LQF

namespace LQF
open PySem L2 LX LQ
theorem m_is_integer (v : Int) : F_is_integer v = some true := rfl
theorem m_is_color {c : Nat} (h : 97 ≤ c ∧ c ≤ 122) : F_is_color (lt c) = some true := by
  have e := lt_col h
  unfold F_is_color
  show Option.bind (cond (decide ((1 : Int) = 1)) (some ((!ltS (lt c) (Str.ofString "a")) && (!ltS (Str.ofString "z") (lt c)))) (some false)) _ = _
  rw [e]
  rfl
theorem m_is_colored_integer {e : Nat × Nat} (h : 97 ≤ e.2 ∧ e.2 ≤ 122) : F_is_colored_integer (eRow e) = some true := by
  unfold F_is_colored_integer
  rw [m_is_integer, show F_is_color (eRow e).2 = some true from m_is_color h]
  rfl
theorem lenI_enc (r : Row) : lenI (enc r) = (r.length : Int) := by unfold lenI; rw [enc_len]
theorem loopC_nx {α R S : Type} {f : α → S → Option (Ctl R S)} {s : S} : ∀ {l : List α}, (∀ x ∈ l, f x s = some (.nx s)) → loopC f l s = some (.nx s)
  | [], _ => rfl
  | x :: l, h => by
    show (f x s).bind _ = _
    rw [h x List.mem_cons_self]
    exact loopC_nx fun y hy => h y (List.mem_cons_of_mem _ hy)
theorem loopF_nx {α S : Type} {f : α → S → Option S} {s : S} : ∀ {l : List α}, (∀ x ∈ l, f x s = some s) → loopF f l s = some s
  | [], _ => rfl
  | x :: l, h => by
    show (f x s).bind _ = _
    rw [h x List.mem_cons_self]
    exact loopF_nx fun y hy => h y (List.mem_cons_of_mem _ hy)
theorem sort_nI {ns : List Int} {n : Nat} (p : ns.Perm (nI (List.range n))) : sortI ns = nI (List.range n) := by
  unfold sortI
  refine List.Perm.eq_of_pairwise (le := fun a b : Int => decide (a ≤ b) = true) (fun a b _ _ x y => by rw [decide_eq_true_iff] at *; omega) ?_ ?_ ((List.mergeSort_perm _ _).trans p)
  · exact List.pairwise_mergeSort (fun a b c x y => by rw [decide_eq_true_iff] at *; omega) (fun a b => by simp; omega) ns
  · rw [nI, List.pairwise_map]
    exact List.pairwise_lt_range.imp fun h => by rw [decide_eq_true_iff]; omega
theorem ev_eq {o : Option Bool} (h : o = some true) : (o.bind fun b => some b) = some true := by rw [h]; rfl
theorem m_is_lineup {r : Row} (V : Vr r) : F_is_lineup (enc r) = some true := by
  have n1 := V.n1
  have n2 := V.n2
  unfold F_is_lineup
  rw [lenI_enc, decide_eq_true (show (1 : Int) ≤ r.length by omega), decide_eq_true (show (r.length : Int) ≤ 60 by omega)]
  show Option.bind (loopC _ (enc r) ()) _ = _
  rw [loopC_nx (fun x hx => by
    obtain ⟨e, he, rfl⟩ := List.mem_map.mp hx
    rw [m_is_colored_integer (V.col e he)]
    rfl)]
  show Option.bind (compL _ _) _ = _
  refine be (compL_map (g := fun a : Int × Str => a.1) (by rw [enc_len]; unfold LIM; omega) (fun _ _ => rfl)) ?_
  refine be (lrgF_ok (by decide) (by decide) (by omega) (by omega) (by unfold LIM; omega)) ?_
  rw [rgI_nat]
  have e : (enc r).map (fun a : Int × Str => a.1) = nI (r.map (·.1)) := by
    show List.map _ (List.map _ r) = List.map _ (List.map _ r)
    rw [List.map_map, List.map_map]
    rfl
  rw [e, sort_nI (V.perm.map _)]
  have q := (EqE.list EqE.int).run (by decide) (x := nI (List.range r.length)) (y := nI (List.range r.length)) (fun _ _ => trivial) (fun _ _ => trivial)
  rw [decide_eq_true rfl] at q
  exact ev_eq q
theorem m_check_lineup {r : Row} (V : Vr r) : F_check_lineup (enc r) = some () := by
  unfold F_check_lineup
  rw [m_is_lineup V]
  rfl
theorem m_is_person {r : Row} {p : Nat} (h : p < r.length) : F_is_person (enc r) (p : Int) = some true := by
  unfold F_is_person
  rw [m_is_integer, lenI_enc, decide_eq_true (show (0 : Int) ≤ p by omega), decide_eq_true (show (p : Int) < r.length by omega)]
  rfl
theorem m_check_calls {r : Row} {cs : List Nat} (h : ∀ c ∈ cs, c < r.length) : F_check_calls (enc r) (nI cs) = some () := by
  unfold F_check_calls
  show Option.bind (loopF _ _ _) _ = _
  rw [loopF_nx fun x hx => ?_]
  · rfl
  obtain ⟨i, hi⟩ := List.getElem?_of_mem hx
  obtain ⟨_, h2⟩ := enum_at hi
  have := List.mem_of_getElem? h2
  obtain ⟨c, hc, e⟩ := List.mem_map.mp this
  rw [← e, m_is_person (h c hc)]
  rfl
theorem m_fo {r : Row} (c : Nat) : F_first_other_color (enc r) (lt c) = some ((fo r c).map lt) := by
  unfold F_first_other_color
  have e : ∀ r : Row, loopC (R := Option Str) (fun (a : (Int × Str)) (s : Unit) => cond (!(decide (a.2 = lt c))) (some (.ret (some a.2))) (some (.nx ()))) (enc r) () = some (match fo r c with | none => .nx () | some d => .ret (some (lt d))) := by
    intro r
    induction r with
    | nil => rfl
    | cons e r ih =>
      show Option.bind (cond (!(decide (lt e.2 = lt c))) _ _) _ = _
      rw [lt_dec]
      by_cases h : e.2 = c
      · rw [decide_eq_true h, fo_no h]
        exact ih
      · rw [decide_eq_false h, fo_yes h]
        rfl
  rw [e]
  cases fo r c <;> rfl
theorem m_byPerson {r : Row} (V : Vr r) : F_colors_by_person (enc r) = some ((List.range r.length).map fun q => lt (colOf r q)) := by
  have n2 := V.n2
  unfold F_colors_by_person
  rw [lenI_enc, repF_ok (by omega) (by omega) (by unfold LIM; simp; omega), LX.flat_rep, Int.toNat_natCast]
  show Option.bind (loopF _ _ _) _ = _
  have key : ∀ (s : Row) (l : List Str), (∀ e ∈ s, e.1 < l.length) → loopF (fun (a2055 : (Int × Str)) (s2056 : (List Str)) => (setF s2056 a2055.1 a2055.2).bind fun l2085 => some l2085) (enc s) l = some (s.foldl (fun l e => l.set e.1 (lt e.2)) l) := by
    intro s
    induction s with
    | nil => intro l _; rfl
    | cons e s ih =>
      intro l h
      show Option.bind (Option.bind (setF l (e.1 : Int) (lt e.2)) _) _ = _
      rw [setF_nat (h e List.mem_cons_self)]
      exact ih _ fun x hx => by rw [List.length_set]; exact h x (List.mem_cons_of_mem _ hx)
  rw [key r _ fun e he => by rw [List.length_replicate]; exact V.lt he]
  show some _ = some _
  congr 1
  have fl : ∀ (s : Row) (l : List Str), (s.foldl (fun l e => l.set e.1 (lt e.2)) l).length = l.length := by
    intro s
    induction s with
    | nil => intro l; rfl
    | cons e s ih => intro l; rw [List.foldl_cons, ih, List.length_set]
  have fno : ∀ (q : Nat) (s : Row) (l : List Str), (∀ e ∈ s, e.1 ≠ q) → (s.foldl (fun l e => l.set e.1 (lt e.2)) l)[q]? = l[q]? := by
    intro q s
    induction s with
    | nil => intro l _; rfl
    | cons e s ih =>
      intro l h
      rw [List.foldl_cons, ih _ fun x hx => h x (List.mem_cons_of_mem _ hx), List.getElem?_set_ne (h e List.mem_cons_self)]
  have fat : ∀ (q : Nat) (s : Row) (l : List Str), (s.map (·.1)).Nodup → q < l.length → (∃ e ∈ s, e.1 = q) → (s.foldl (fun l e => l.set e.1 (lt e.2)) l)[q]? = some (lt (colOf s q)) := by
    intro q s
    induction s with
    | nil => intro l _ _ ⟨e, he, _⟩; cases he
    | cons e s ih =>
      intro l nd hl h
      have nd' := List.nodup_cons.mp (show (e.1 :: s.map (·.1)).Nodup from nd)
      rw [List.foldl_cons]
      by_cases c : e.1 = q
      · rw [fno q s _ fun x hx z => nd'.1 (by rw [c, ← z]; exact List.mem_map_of_mem (f := (·.1)) hx), c, List.getElem?_set_self hl]
        unfold colOf
        rw [List.find?_cons_of_pos (by simpa using c)]
        rfl
      · rw [ih _ nd'.2 (by rw [List.length_set]; exact hl) ?_]
        · unfold colOf
          rw [List.find?_cons_of_neg (by simpa using c)]
        · obtain ⟨x, hx, hq⟩ := h
          rcases List.mem_cons.mp hx with z | z
          · exact absurd (z ▸ hq) c
          · exact ⟨x, z, hq⟩
  apply List.ext_getElem?
  intro q
  rw [List.getElem?_map]
  by_cases c : q < r.length
  · rw [fat q r _ V.nodup (by rw [List.length_replicate]; exact c) (V.has c), List.getElem?_range c]
    rfl
  · rw [List.getElem?_eq_none (by rw [fl, List.length_replicate]; omega), List.getElem?_eq_none (by rw [List.length_range]; omega)]
    rfl
theorem ix_colors {r : Row} {p : Nat} (h : p < r.length) : ix ((List.range r.length).map fun q => lt (colOf r q)) (p : Int) = some (lt (colOf r p)) :=
  ix_nat (by rw [List.getElem?_map, List.getElem?_range h]; rfl)
theorem m_apply {r : Row} (V : Vr r) {p : Nat} (h : p < r.length) : F_apply_call (enc r) (p : Int) = some (enc (app r p), (fo r (colOf r p)).map lt) := by
  have n2 := V.n2
  unfold F_apply_call
  rw [m_byPerson V]
  show Option.bind (ix _ _) _ = _
  rw [ix_colors h]
  show Option.bind (F_first_other_color _ _) _ = _
  rw [m_fo]
  show Option.bind (compL _ _) _ = _
  refine be (compL_filt (q := fun a : Int × Str => !decide (a.1 = (p : Int))) (g := fun a => a) (by rw [enc_len]; unfold LIM; omega) (fun x _ => by cases c : decide (x.1 = (p : Int)) <;> simp)) ?_
  rw [List.map_id']
  have ef : (enc r).filter (fun a : Int × Str => !decide (a.1 = (p : Int))) = enc (r.filter fun e => e.1 != p) := by
    show (List.map _ r).filter _ = List.map _ (r.filter _)
    rw [List.filter_map]
    congr 1
    apply List.filter_congr
    intro e _
    show (!decide ((e.1 : Int) = (p : Int))) = (e.1 != p)
    have : decide ((e.1 : Int) = (p : Int)) = (e.1 == p) := Bool.eq_iff_iff.mpr ⟨fun h => by simp at h ⊢; omega, fun h => by simp at h ⊢; omega⟩
    rw [this]
    rfl
  rw [ef]
  show Option.bind (cond (Option.isNone _) _ _) _ = _
  have key : (cond ((fo r (colOf r p)).map lt).isNone (some (lt (colOf r p))) (((fo r (colOf r p)).map lt).bind fun o => some o)) = some (lt ((fo r (colOf r p)).getD (colOf r p))) := by
    cases fo r (colOf r p) <;> rfl
  rw [key]
  show Option.bind (catF _ _) _ = _
  rw [catF_ok (by
    have : (r.filter fun e => e.1 != p).length ≤ r.length := List.length_filter_le _ _
    rw [enc_len]
    show 1 + _ ≤ LIM
    unfold LIM
    omega)]
  rfl
theorem m_after {r : Row} (V : Vr r) {cs : List Nat} (h : ∀ c ∈ cs, c < r.length) : F_lineup_after (enc r) (nI cs) = some (enc (apps r cs)) := by
  unfold F_lineup_after
  rw [m_check_lineup V]
  show Option.bind (F_check_calls _ _) _ = _
  rw [m_check_calls h]
  show Option.bind (loopF _ _ _) _ = _
  have key : ∀ (cs : List Nat) (r : Row), Vr r → (∀ c ∈ cs, c < r.length) → loopF (fun (a2575 : Int) (s2576 : (List (Int × Str))) => (F_apply_call s2576 a2575).bind fun y2599 => some y2599.1) (nI cs) (enc r) = some (enc (apps r cs)) := by
    intro cs
    induction cs with
    | nil => intro r _ _; rfl
    | cons p cs ih =>
      intro r V h
      have hp := h p List.mem_cons_self
      show Option.bind (Option.bind (F_apply_call (enc r) (p : Int)) _) _ = _
      rw [m_apply V hp]
      exact ih (app r p) (V.app hp) fun c hc => by rw [app_len V hp]; exact h c (List.mem_cons_of_mem _ hc)
  rw [key cs r V h]
  rfl
theorem m_moments {r : Row} (V : Vr r) {cs : List Nat} (h : ∀ c ∈ cs, c < r.length) (z : cs.length ≤ 1000) : F_lineups_at_moments (enc r) (nI cs) = some ((List.range (cs.length + 1)).map fun i => enc (apps r (cs.take i))) := by
  unfold F_lineups_at_moments
  have key := ev_loop (f := fun (a2243 : Int) (s2244 : ((List (Int × Str)) × (List (List (Int × Str))))) => (F_apply_call s2244.1 a2243).bind fun y2269 =>
    (appF s2244.2 y2269.1).bind fun l2287 => some (y2269.1, l2287)) (l := nI cs) (s := (enc r, [enc r])) (P := fun s => s.2 = (List.range (cs.length + 1)).map fun i => enc (apps r (cs.take i)))
    (fun i s => i ≤ cs.length ∧ s = (enc (apps r (cs.take i)), (List.range (i + 1)).map fun i => enc (apps r (cs.take i)))) ⟨Nat.zero_le _, rfl⟩ (by
      rintro i x s hi ⟨il, rfl⟩
      rw [List.getElem?_map] at hi
      obtain ⟨c, hc, rfl⟩ := Option.map_eq_some_iff.mp hi
      have il2 := (List.getElem?_eq_some_iff.mp hc).1
      have V2 := apps_len V (cs.take i) fun p hp => h p (List.mem_of_mem_take hp)
      have cl := h c (List.mem_of_getElem? hc)
      refine ev_be (m_apply V2.1 (by rw [V2.2]; exact cl)) ?_
      refine ev_be (appF_ok (by rw [List.length_map, List.length_range]; unfold LIM; omega)) ?_
      refine ev_s ⟨by omega, ?_⟩
      have e : apps r (cs.take (i + 1)) = app (apps r (cs.take i)) c := by
        rw [take_of hc, apps_snoc]
      rw [List.range_succ (n := i + 1), List.map_append]
      show (enc (app _ c), _ ++ [enc (app _ c)]) = (enc _, _ ++ [enc _])
      rw [e]) (fun s ⟨_, e⟩ => by
        rw [e]
        show List.map _ (List.range ((nI cs).length + 1)) = _
        rw [List.length_map])
  obtain ⟨s, e, hs⟩ := key
  rw [e]
  show some s.2 = _
  rw [hs]
end LQF

namespace LX
open PySem L2
/-! ### the called people stand in front, in at most two colors -/
theorem fo_two (a b : Row) (c : Nat) : fo (a ++ b) c = (fo a c).or (fo b c) := by
  unfold fo
  rw [List.find?_append]
  cases a.find? fun e => e.2 != c <;> rfl
theorem fo_in {a : Row} {c d : Nat} (h : fo a c = some d) : d ≠ c ∧ ∃ e ∈ a, e.2 = d := by
  unfold fo at h
  obtain ⟨e, he, rfl⟩ := Option.map_eq_some_iff.mp h
  have h2 := List.find?_some he
  exact ⟨by simpa using h2, e, List.mem_of_find?_eq_some he, rfl⟩
theorem fo_all_is {a : Row} {c : Nat} (h : fo a c = none) : ∀ e ∈ a, e.2 = c := by
  unfold fo at h
  rw [Option.map_eq_none_iff, List.find?_eq_none] at h
  exact fun e he => by simpa using h e he
/-- front and rest after some calls -/
structure Split (r : Row) (cs : List Nat) (A B : Row) : Prop where
  eq : r = A ++ B
  called : ∀ e ∈ A, e.1 ∈ cs
  others : ∀ e ∈ B, e.1 ∉ cs
  two : ∃ x y, ∀ e ∈ A, e.2 = x ∨ e.2 = y
theorem Split.nil (r : Row) : Split r [] [] r := ⟨rfl, (fun e he => nomatch he), (fun e _ h => nomatch h), 0, 0, fun e he => nomatch he⟩
theorem Split.call {r : Row} {cs : List Nat} {A B : Row} (S : Split r cs A B) (p : Nat) : Split (app r p) (cs ++ [p]) ((p, (fo r (colOf r p)).getD (colOf r p)) :: A.filter fun e => e.1 != p) (B.filter fun e => e.1 != p) := by
  refine ⟨?_, fun e he => ?_, fun e he => ?_, ?_⟩
  · show (p, (fo r (colOf r p)).getD (colOf r p)) :: r.filter (fun e => e.1 != p) = _
    rw [show r.filter (fun e => e.1 != p) = A.filter (fun e => e.1 != p) ++ B.filter (fun e => e.1 != p) from by rw [S.eq, List.filter_append]]
    rfl
  · rcases List.mem_cons.mp he with z | z
    · rw [z]; exact List.mem_append_right _ List.mem_cons_self
    · exact List.mem_append_left _ (S.called e (List.mem_filter.mp z).1)
  · obtain ⟨h1, h2⟩ := List.mem_filter.mp he
    have h2 : e.1 ≠ p := by simpa using h2
    intro h
    rcases List.mem_append.mp h with z | z
    · exact S.others e h1 z
    · exact h2 (List.mem_singleton.mp z)
  · obtain ⟨x, y, xy⟩ := S.two
    generalize colOf r p = c
    cases q : fo A c with
    | some d =>
      obtain ⟨_, e, he, ed⟩ := fo_in q
      have en : (fo r c).getD c = d := by rw [S.eq, fo_two, q]; rfl
      refine ⟨x, y, fun u hu => ?_⟩
      rcases List.mem_cons.mp hu with z | z
      · rw [z]
        show (fo r c).getD c = x ∨ (fo r c).getD c = y
        rw [en, ← ed]
        exact xy e he
      · exact xy u (List.mem_filter.mp z).1
    | none =>
      refine ⟨(fo r c).getD c, c, fun u hu => ?_⟩
      rcases List.mem_cons.mp hu with z | z
      · rw [z]; exact Or.inl rfl
      · exact Or.inr (fo_all_is q u (List.mem_filter.mp z).1)
theorem split_more {r : Row} {cs : List Nat} {A B : Row} (S : Split r cs A B) : ∀ ds : List Nat, ∃ A' B', Split (apps r ds) (cs ++ ds) A' B'
  | [] => ⟨A, B, by rw [List.append_nil]; exact S⟩
  | p :: ds => by
    obtain ⟨A', B', S'⟩ := split_more (S.call p) ds
    rw [List.append_assoc] at S'
    exact ⟨A', B', S'⟩
theorem split_calls (r : Row) (cs : List Nat) : ∃ A B, Split (apps r cs) cs A B := split_more (Split.nil r) cs
/-- two colors in front: a call takes the other one -/
theorem Split.takes {r : Row} {cs : List Nat} {A B : Row} (S : Split r cs A B) {e e' : Nat × Nat} (h : e ∈ A) (h' : e' ∈ A) (ne : e.2 ≠ e'.2) (c : Nat) : (fo r c).getD c ≠ c ∧ ∃ u ∈ A, u.2 = (fo r c).getD c := by
  cases q : fo A c with
  | some d =>
    have en : (fo r c).getD c = d := by rw [S.eq, fo_two, q]; rfl
    rw [en]
    exact fo_in q
  | none => exact absurd ((fo_all_is q e h).trans (fo_all_is q e' h').symm) ne
end LX

namespace LX
open PySem L2
theorem fp_filt {r : Row} {p q : Nat} (h : q ≠ p) : colOf (r.filter fun e => e.1 != p) q = colOf r q := by
  induction r with
  | nil => rfl
  | cons e r ih =>
    unfold colOf at ih ⊢
    by_cases c : e.1 = p
    · rw [List.filter_cons_of_neg (by simp [c]), ih, List.find?_cons_of_neg (by simp [c]; exact fun z => h z.symm)]
    · rw [List.filter_cons_of_pos (by simp [c])]
      by_cases d : e.1 = q
      · rw [List.find?_cons_of_pos (by simp [d]), List.find?_cons_of_pos (by simp [d])]
      · rw [List.find?_cons_of_neg (by simp [d]), List.find?_cons_of_neg (by simp [d]), ih]
theorem fp_app (r : Row) (p q : Nat) : colOf (app r p) q = if q = p then (fo r (colOf r p)).getD (colOf r p) else colOf r q := by
  have e : app r p = (p, (fo r (colOf r p)).getD (colOf r p)) :: r.filter fun e => e.1 != p := rfl
  rw [e]
  by_cases h : q = p
  · rw [if_pos h, h]
    unfold colOf
    rw [List.find?_cons_of_pos (by simp)]
    rfl
  · have e2 : ∀ (c : Nat) (F : Row), colOf ((p, c) :: F) q = colOf F q := fun c F => by
      unfold colOf
      rw [List.find?_cons_of_neg (by
        show ¬ (p == q) = true
        rw [beq_iff_eq]
        exact fun z => h z.symm)]
    rw [if_neg h, e2, fp_filt h]
/-- whether two people have different colors -/
def dif (r : Row) (a b : Nat) : Bool := !decide (colOf r a = colOf r b)
/-- both colors are worn in front -/
def Both (A : Row) : Prop := ∃ e ∈ A, ∃ e' ∈ A, e.2 ≠ e'.2
/-- one call, two colors in front: who is called changes sides -/
theorem flip_one {r : Row} {cs : List Nat} {A B : Row} (S : Split r cs A B) (hb : Both A) {a b : Nat} (ha : ∃ e ∈ A, e.2 = colOf r a) (hb2 : ∃ e ∈ A, e.2 = colOf r b) (p : Nat) :
    dif (app r p) a b = (dif r a b ^^ (decide (a = p) ^^ decide (b = p))) := by
  obtain ⟨e, he, e', he', ne⟩ := hb
  obtain ⟨x, y, xy⟩ := S.two
  have in2 : ∀ {c : Nat}, (∃ u ∈ A, u.2 = c) → c = x ∨ c = y := fun ⟨u, hu, h⟩ => by rw [← h]; exact xy u hu
  have xny : x ≠ y := fun z => by
    have h1 := xy e he
    have h2 := xy e' he'
    rw [z] at h1 h2
    exact ne ((h1.elim id id).trans (h2.elim id id).symm)
  have tk : ∀ c : Nat, (c = x ∨ c = y) → (fo r c).getD c = if c = x then y else x := fun c hc => by
    have h := S.takes he he' ne c
    have h3 := in2 h.2
    generalize (fo r c).getD c = d at h h3
    rcases hc with z | z <;> rcases h3 with z2 | z2
    · exact absurd (z2.trans z.symm) h.1
    · rw [if_pos z, z2]
    · rw [if_neg (by rw [z]; exact Ne.symm xny), z2]
    · exact absurd (z2.trans z.symm) h.1
  have ca := in2 ha
  have cb := in2 hb2
  unfold dif
  rw [fp_app, fp_app]
  by_cases h1 : a = p
  · by_cases h2 : b = p
    · rw [if_pos h1, if_pos h2, h1, h2]
      simp
    · rw [if_pos h1, if_neg h2, ← h1, tk _ ca]
      rcases ca with z | z <;> rcases cb with z2 | z2 <;> simp [z, z2, xny, Ne.symm xny] <;> (rw [← h1] at h2; simp [h2])
  · by_cases h2 : b = p
    · rw [if_neg h1, if_pos h2, ← h2, tk _ cb]
      rcases ca with z | z <;> rcases cb with z2 | z2 <;> simp [z, z2, xny, Ne.symm xny] <;> (rw [← h2] at h1; simp [h1])
    · rw [if_neg h1, if_neg h2]
      simp [h1, h2]
end LX

namespace LQF
open PySem L2 LX LQ
/-- the colors of the called people after i calls -/
def colsN (r : Row) (cs : List Nat) (i : Nat) : List Nat := ((apps r (cs.take i)).filter fun e => decide (e.1 ∈ cs.take i)).map (·.2)
def colsA (r : Row) (cs : List Nat) (i : Nat) : List Str := (colsN r cs i).map lt
def okC (r : Row) (cs : List Nat) (i : Nat) (z : Str) : Prop := ∃ ns : List Nat, sortU (colsA r cs i) = ns.map lt ∧ z = txt ns ∧ z.length = (dd (colsA r cs i)).length
theorem enc_called {s : Row} {cs : List Nat} : ((enc s).filter fun e => decide (e.1 ∈ nI cs)).map (·.2) = ((s.filter fun e => decide (e.1 ∈ cs)).map (·.2)).map lt := by
  show ((List.map _ s).filter _).map _ = _
  rw [List.filter_map, List.map_map, List.map_map]
  have : s.filter ((fun e : Int × Str => decide (e.1 ∈ nI cs)) ∘ eRow) = s.filter fun e => decide (e.1 ∈ cs) := by
    apply List.filter_congr
    intro e _
    exact nI_dec
  rw [this]
  rfl
theorem m_colors {r : Row} (V : Vr r) {cs : List Nat} (h : ∀ c ∈ cs, c < r.length) (z : cs.length ≤ 1000) :
    Ev (F_called_colors (enc r) (nI cs)) fun zs => zs.length = cs.length + 1 ∧ ∀ i z, zs[i]? = some z → okC r cs i z := by
  unfold F_called_colors
  refine ev_be (m_check_lineup V) ?_
  refine ev_be (m_check_calls h) ?_
  refine ev_be (m_moments V h z) ?_
  refine ev_b (ev_loop (P := fun zs => zs.length = cs.length + 1 ∧ ∀ i z, zs[i]? = some z → okC r cs i z) (fun i zs => i ≤ cs.length + 1 ∧ zs.length = i ∧ ∀ i z, zs[i]? = some z → okC r cs i z) ⟨Nat.zero_le _, rfl, fun i z h => nomatch h⟩ ?_ ?_) fun zs hz => ev_s hz
  · rintro i ⟨j, x⟩ zs hi ⟨il, len, ok⟩
    obtain ⟨e1, e2⟩ := enum_at hi
    dsimp only at e1 e2
    subst e1
    rw [List.getElem?_map] at e2
    obtain ⟨i', hi', rfl⟩ := Option.map_eq_some_iff.mp e2
    obtain ⟨il2, e3⟩ := List.getElem?_eq_some_iff.mp hi'
    rw [List.getElem_range] at e3
    subst e3
    rw [List.length_range] at il2
    have V2 := apps_len V (cs.take i) fun p hp => h p (List.mem_of_mem_take hp)
    have n2 := V2.1.n2
    dsimp only
    rw [cutL_to, show (nI cs).take i = nI (cs.take i) from by show (List.map _ cs).take i = List.map _ (cs.take i); rw [List.map_take]]
    refine ev_be (compT_filt (q := fun a : Int × Str => decide (a.1 ∈ nI (cs.take i))) (g := fun a => a.2) (by rw [enc_len]; omega) (fun x _ => by cases decide (x.1 ∈ nI (cs.take i)) <;> rfl)) ?_
    rw [enc_called]
    have cl : (colsN r cs i).length ≤ 60 := by
      unfold colsN
      rw [List.length_map]
      exact Nat.le_trans (List.length_filter_le _ _) n2
    refine ev_b (join_lt (fun y hy => ?_) ?_) fun s ⟨ns, en, es, el⟩ => ?_
    · obtain ⟨c, _, rfl⟩ := List.mem_map.mp (mem_sortU.mp hy)
      exact ⟨c, rfl⟩
    · rw [sortU_len]
      refine Nat.le_trans (dd_le _) ?_
      rw [List.length_map]
      exact Nat.le_trans cl (by decide)
    refine ev_be (appF_ok (by unfold LIM; omega)) ?_
    refine ev_s ⟨by omega, by rw [List.length_append, len]; rfl, fun k w hk => ?_⟩
    by_cases c : k < zs.length
    · rw [List.getElem?_append_left c] at hk
      exact ok k w hk
    · rw [List.getElem?_append_right (by omega)] at hk
      have : k - zs.length = 0 := by
        cases hz : k - zs.length with
        | zero => rfl
        | succ m => rw [hz] at hk; cases hk
      rw [this] at hk
      have ki : k = i := by omega
      rw [ki]
      have : s = w := Option.some.inj hk
      rw [← this]
      exact ⟨ns, en, es, by rw [el, sortU_len]; rfl⟩
  · intro s ⟨_, h1, h2⟩
    rw [enum_len, List.length_map, List.length_range] at h1
    exact ⟨h1, h2⟩
theorem okC_len {r : Row} (V : Vr r) {cs : List Nat} (h : ∀ c ∈ cs, c < r.length) {i : Nat} {z : Str} (k : okC r cs i z) : z.length ≤ 60 := by
  obtain ⟨_, _, _, e⟩ := k
  rw [e]
  refine Nat.le_trans (dd_le _) ?_
  unfold colsA colsN
  rw [List.length_map, List.length_map]
  exact Nat.le_trans (List.length_filter_le _ _) (apps_len V (cs.take i) fun p hp => h p (List.mem_of_mem_take hp)).1.n2
theorem lenS_ok {z : Str} (h : z.length ≤ 60) : lenS z = some (z.length : Int) := by
  unfold lenS
  rw [decide_eq_true (show z.length ≤ LIM from Nat.le_trans h (by decide))]
  rfl
/-- the moments with k colors, by their numbers -/
theorem m_single {r : Row} (V : Vr r) {cs : List Nat} (h : ∀ c ∈ cs, c < r.length) (z : cs.length ≤ 1000) :
    Ev (F_single_color_moments (enc r) (nI cs)) fun ms => ∃ ns : List Nat, ms = nI ns ∧ ns.Pairwise (· < ·) ∧ ns.length ≤ cs.length + 1 ∧ ∀ t, t ∈ ns ↔ t ≤ cs.length ∧ (dd (colsA r cs t)).length = 1 := by
  unfold F_single_color_moments
  refine ev_b (m_colors V h z) fun zs ⟨zl, ok⟩ => ?_
  have zz : ∀ p ∈ enumI zs, lenS p.2 = some (p.2.length : Int) := fun p hp => by
    obtain ⟨i, hi⟩ := List.getElem?_of_mem hp
    exact lenS_ok (okC_len V h (ok i _ (enum_at hi).2))
  refine ev_be (compL_filt (q := fun a : Int × Str => decide ((a.2.length : Int) = 1)) (g := fun a => a.1) (by rw [enum_len, zl]; unfold LIM; omega) (fun x hx => by
    rw [zz x hx]
    show cond (decide ((x.2.length : Int) = 1)) _ _ = _
    cases decide ((x.2.length : Int) = 1) <;> rfl)) ?_
  have e : ((enumI zs).filter fun a : Int × Str => decide ((a.2.length : Int) = 1)).map (fun a => a.1) = nI ((List.range zs.length).filter fun i => match zs[i]? with | some z => decide ((z.length : Int) = 1) | none => false) := by
    have gen : ∀ (zs : List Str) (k : Nat), ((List.zipWith (fun (i : Nat) x => ((i : Int), x)) (List.range' k zs.length) zs).filter fun a : Int × Str => decide ((a.2.length : Int) = 1)).map (fun a => a.1) = nI ((List.range' k zs.length).filter fun i => match zs[i - k]? with | some z => decide ((z.length : Int) = 1) | none => false) := by
      intro zs
      induction zs with
      | nil => intro k; rfl
      | cons z zs ih =>
        intro k
        have ih := ih (k + 1)
        have e2 : (List.range' (k + 1) zs.length).filter (fun i => match (z :: zs)[i - k]? with | some z => decide ((z.length : Int) = 1) | none => false) = (List.range' (k + 1) zs.length).filter (fun i => match zs[i - (k + 1)]? with | some z => decide ((z.length : Int) = 1) | none => false) := by
          apply List.filter_congr
          intro i hi
          have := List.mem_range'_1.mp hi
          rw [show i - k = (i - (k + 1)) + 1 by omega, List.getElem?_cons_succ]
        rw [List.length_cons, List.range'_succ, List.zipWith_cons_cons]
        by_cases c : (z.length : Int) = 1
        · rw [List.filter_cons_of_pos (by exact decide_eq_true c), List.filter_cons_of_pos (by rw [Nat.sub_self]; exact decide_eq_true c), e2]
          show (k : Int) :: _ = (k : Int) :: _
          rw [ih]
        · rw [List.filter_cons_of_neg (by simpa using c), List.filter_cons_of_neg (by rw [Nat.sub_self]; simpa using c), e2]
          exact ih
    have := gen zs 0
    rw [← List.range_eq_range'] at this
    exact this
  refine ev_s ⟨_, e, List.Pairwise.filter _ List.pairwise_lt_range, ?_, fun t => ?_⟩
  · refine Nat.le_trans (List.length_filter_le _ _) ?_
    rw [List.length_range, zl]
    exact Nat.le_refl _
  · rw [List.mem_filter, List.mem_range, zl]
    constructor
    · rintro ⟨h1, h2⟩
      have ht : zs[t]? = some zs[t] := List.getElem?_eq_getElem (by omega)
      rw [ht] at h2
      obtain ⟨_, _, _, el⟩ := ok t _ ht
      have := of_decide_eq_true h2
      exact ⟨by omega, by omega⟩
    · rintro ⟨h1, h2⟩
      have ht : zs[t]? = some (zs[t]'(by omega)) := List.getElem?_eq_getElem (by omega)
      refine ⟨by omega, ?_⟩
      rw [ht]
      obtain ⟨_, _, _, el⟩ := ok t _ ht
      exact decide_eq_true (by omega)
/-- the color in front -/
def front (r : Row) : Nat := (r.headD (0, 0)).2
theorem ix_front {r : Row} (V : Vr r) : ix (enc r) 0 = some (((r.headD (0, 0)).1 : Int), lt (front r)) := by
  cases r with
  | nil => exact absurd V.n1 (by simp)
  | cons e r => exact ix_int (by decide) rfl
theorem m_side_numbers {r : Row} (V : Vr r) {cs ps : List Nat} (h : ∀ c ∈ cs, c < r.length) (z : ps.length ≤ 1000) (hp : ∀ p ∈ ps, p ∈ cs) :
    F__law_side_numbers (enc r) (nI cs) (nI ps) = some (ps.map fun p => b2I (decide (colOf (apps r cs) p = front (apps r cs)))) := by
  have V2 := apps_len V cs h
  have n2 := V2.1.n2
  unfold F__law_side_numbers
  have sides : ∃ a b, F_called_sides (enc r) (nI cs) = some (a, b) ∧ ∀ p : Nat, (p : Int) ∈ a ↔ p ∈ cs ∧ p < r.length ∧ colOf (apps r cs) p = front (apps r cs) := by
    unfold F_called_sides
    have ma := m_after V h
    generalize apps r cs = R at V2 n2 ma
    have so : sortRF (enc R) = some (sortR (enc R)) := by
      unfold sortRF
      rw [decide_eq_true (by rw [enc_len]; omega)]
      rfl
    have sl : (sortR (enc R)).length = R.length := by
      unfold sortR
      rw [(List.mergeSort_perm _ _).length_eq, enc_len]
    refine ⟨_, _, be ma (be (ix_front V2.1) (be so (be (compL_filt (q := fun a : Int × Str => decide (a.1 ∈ nI cs)) (g := fun a => a) (by rw [sl]; unfold LIM; omega) (fun x _ => by cases decide (x.1 ∈ nI cs) <;> rfl)) (be (compL_filt (q := fun a : Int × Str => decide (a.2 = lt (front R))) (g := fun a => a.1) (by
        rw [List.map_id']
        refine Nat.le_trans (List.length_filter_le _ _) ?_
        rw [sl]
        unfold LIM
        omega) (fun x _ => by cases decide (x.2 = lt (front R)) <;> rfl)) (be (compL_filt (q := fun a : Int × Str => !decide (a.2 = lt (front R))) (g := fun a => a.1) (by
        rw [List.map_id']
        refine Nat.le_trans (List.length_filter_le _ _) ?_
        rw [sl]
        unfold LIM
        omega) (fun x _ => by cases decide (x.2 = lt (front R)) <;> rfl)) rfl))))), fun p => ?_⟩
    rw [List.map_id', List.mem_map]
    have mem : ∀ x : Int × Str, x ∈ sortR (enc R) ↔ x ∈ enc R := fun x => by
      unfold sortR
      exact (List.mergeSort_perm _ _).mem_iff
    constructor
    · rintro ⟨x, hx, e⟩
      obtain ⟨hx, h1⟩ := List.mem_filter.mp hx
      obtain ⟨hx, h2⟩ := List.mem_filter.mp hx
      obtain ⟨u, hu, rfl⟩ := List.mem_map.mp ((mem x).mp hx)
      have up : u.1 = p := by
        have : (u.1 : Int) = (p : Int) := e
        omega
      subst up
      have h2 := mem_nI.mp (of_decide_eq_true h2)
      refine ⟨h2, ?_, ?_⟩
      · rw [← V2.2]; exact V2.1.lt hu
      · rw [colOf_is V2.1.nodup hu]
        exact lt_inj.mp (of_decide_eq_true h1)
    · rintro ⟨h1, h2, h3⟩
      refine ⟨eRow (p, colOf R p), List.mem_filter.mpr ⟨List.mem_filter.mpr ⟨(mem _).mpr (List.mem_map_of_mem (f := eRow) (colOf_mem (V2.1.has (by rw [V2.2]; exact h2)))), decide_eq_true (mem_nI.mpr h1)⟩, decide_eq_true (by show lt (colOf R p) = _; rw [h3])⟩, rfl⟩
  obtain ⟨a, b, e, m⟩ := sides
  rw [e]
  show Option.bind (compL _ _) _ = _
  refine be (compL_map (g := fun p : Int => b2I (decide (p ∈ a))) (by rw [List.length_map]; unfold LIM; omega) (fun _ _ => rfl)) ?_
  show some (List.map _ (List.map _ ps)) = _
  rw [List.map_map]
  congr 1
  apply List.map_congr_left
  intro p hpp
  show b2I (decide ((p : Int) ∈ a)) = _
  congr 1
  rw [decide_eq_decide, m p]
  have := hp p hpp
  exact ⟨fun h => h.2.2, fun h4 => ⟨this, h p this, h4⟩⟩
end LQF

namespace LQF
open PySem L2 LX LQ
theorem in_front {R : Row} {cs : List Nat} {A B : Row} (S : Split R cs A B) {e : Nat × Nat} (h : e ∈ R) (hc : e.1 ∈ cs) : e ∈ A := by
  rw [S.eq] at h
  rcases List.mem_append.mp h with z | z
  · exact z
  · exact absurd hc (S.others e z)
theorem both_of {r : Row} {cs : List Nat} {t : Nat} (h : 2 ≤ (dd (colsA r cs t)).length) {A B : Row} (S : Split (apps r (cs.take t)) (cs.take t) A B) : Both A := by
  obtain ⟨x, hx, y, hy, ne⟩ := dd_two h
  obtain ⟨c, hc, rfl⟩ := List.mem_map.mp hx
  obtain ⟨d, hd, rfl⟩ := List.mem_map.mp hy
  obtain ⟨e, he, rfl⟩ := List.mem_map.mp hc
  obtain ⟨e2, he2, rfl⟩ := List.mem_map.mp hd
  obtain ⟨h1, h2⟩ := List.mem_filter.mp he
  obtain ⟨h3, h4⟩ := List.mem_filter.mp he2
  exact ⟨e, in_front S h1 (of_decide_eq_true h2), e2, in_front S h3 (of_decide_eq_true h4), fun z => ne (by rw [z])⟩
theorem col_front {R : Row} (V : Vr R) {cs : List Nat} {A B : Row} (S : Split R cs A B) {p : Nat} (h : p < R.length) (hc : p ∈ cs) : ∃ u ∈ A, u.2 = colOf R p :=
  ⟨(p, colOf R p), in_front S (colOf_mem (V.has h)) hc, rfl⟩
theorem odd_more (a b c d : Nat) (hc : c ≤ 1) (hd : d ≤ 1) : decide (((a + c) + (b + d)) % 2 = 1) = (decide ((a + b) % 2 = 1) ^^ (decide (c = 1) ^^ decide (d = 1))) := by
  have z1 : c = 0 ∨ c = 1 := by omega
  have z2 : d = 0 ∨ d = 1 := by omega
  have z3 : (a + b) % 2 = 0 ∨ (a + b) % 2 = 1 := by omega
  rcases z1 with rfl | rfl <;> rcases z2 with rfl | rfl <;> rcases z3 with z | z
  all_goals
    rw [z]
    first
      | rw [show (a + 0 + (b + 0)) % 2 = 0 by omega]; rfl
      | rw [show (a + 0 + (b + 0)) % 2 = 1 by omega]; rfl
      | rw [show (a + 0 + (b + 1)) % 2 = 0 by omega]; rfl
      | rw [show (a + 0 + (b + 1)) % 2 = 1 by omega]; rfl
      | rw [show (a + 1 + (b + 0)) % 2 = 0 by omega]; rfl
      | rw [show (a + 1 + (b + 0)) % 2 = 1 by omega]; rfl
      | rw [show (a + 1 + (b + 1)) % 2 = 0 by omega]; rfl
      | rw [show (a + 1 + (b + 1)) % 2 = 1 by omega]; rfl
theorem flips {r : Row} (V : Vr r) {cs : List Nat} (h : ∀ c ∈ cs, c < r.length) {s : Nat} {a b : Nat} (ha : a ∈ cs.take s) (hb : b ∈ cs.take s) : ∀ k : Nat, s + k ≤ cs.length → (∀ t, s ≤ t → t < s + k → 2 ≤ (dd (colsA r cs t)).length) →
    dif (apps r (cs.take (s + k))) a b = (dif (apps r (cs.take s)) a b ^^ decide ((((cs.take (s + k)).drop s).count a + ((cs.take (s + k)).drop s).count b) % 2 = 1))
  | 0, _, _ => by
    rw [Nat.add_zero, List.drop_eq_nil_of_le (by rw [List.length_take]; omega)]
    simp
  | k + 1, hk, h2 => by
    have ih := flips V h ha hb k (by omega) fun t t1 t2 => h2 t t1 (by omega)
    have tl : s + k < cs.length := by omega
    have ht : cs[s + k]? = some cs[s + k] := List.getElem?_eq_getElem tl
    have e : cs.take (s + k + 1) = cs.take (s + k) ++ [cs[s + k]] := take_of ht
    have V2 := apps_len V (cs.take (s + k)) fun p hp => h p (List.mem_of_mem_take hp)
    obtain ⟨A, B, S⟩ := split_calls r (cs.take (s + k))
    have sub : ∀ p, p ∈ cs.take s → p ∈ cs.take (s + k) := fun p hp => by
      have : cs.take s = (cs.take (s + k)).take s := by rw [List.take_take, Nat.min_eq_left (by omega)]
      rw [this] at hp
      exact List.mem_of_mem_take hp
    have al : ∀ p, p ∈ cs.take s → p < (apps r (cs.take (s + k))).length := fun p hp => by rw [V2.2]; exact h p (List.mem_of_mem_take hp)
    rw [← Nat.add_assoc, e, apps_snoc, flip_one S (both_of (h2 (s + k) (by omega) (by omega)) S) (col_front V2.1 S (al a ha) (sub a ha)) (col_front V2.1 S (al b hb) (sub b hb)), ih,
      List.drop_append_of_le_length (by rw [List.length_take]; omega), List.count_append, List.count_append]
    have one : ∀ p, [cs[s + k]].count p ≤ 1 := fun p => Nat.le_trans List.count_le_length (by simp)
    have onei : ∀ p, decide ([cs[s + k]].count p = 1) = decide (p = cs[s + k]) := fun p => by
      rw [List.count_singleton]
      by_cases c : p = cs[s + k]
      · rw [c]; simp
      · rw [show (cs[s + k] == p) = false from beq_eq_false_iff_ne.mpr fun z => c z.symm, decide_eq_false c]
        rfl
    rw [odd_more _ _ _ _ (one a) (one b), onei, onei, Bool.xor_assoc]
theorem par_dif {R : Row} (V : Vr R) {cs : List Nat} {A B : Row} (S : Split R cs A B) {p q : Nat} (hp : p < R.length) (hq : q < R.length) (cp : p ∈ cs) (cq : q ∈ cs) :
    (b2I (decide (colOf R p = front R)) + b2I (decide (colOf R q = front R))) % 2 = b2I (dif R p q) := by
  obtain ⟨x, y, xy⟩ := S.two
  obtain ⟨u, hu, eu⟩ := col_front V S hp cp
  obtain ⟨v, hv, ev⟩ := col_front V S hq cq
  have ff : ∃ w ∈ A, w.2 = front R := by
    cases A with
    | nil => cases hu
    | cons w A =>
      refine ⟨w, List.mem_cons_self, ?_⟩
      unfold front
      rw [S.eq]
      rfl
  obtain ⟨w, hw, ew⟩ := ff
  have h1 := xy u hu
  have h2 := xy v hv
  have h3 := xy w hw
  rw [eu] at h1
  rw [ev] at h2
  rw [ew] at h3
  unfold dif
  generalize colOf R p = c at h1
  generalize colOf R q = d at h2
  generalize front R = f at h3
  by_cases cf : c = f
  · by_cases df : d = f
    · rw [cf, df]
      simp [b2I]
    · rw [decide_eq_true cf, decide_eq_false df, decide_eq_false (fun z => df (z.symm.trans cf))]
      rfl
  · by_cases df : d = f
    · rw [decide_eq_false cf, decide_eq_true df, decide_eq_false (fun z => cf (z.trans df))]
      rfl
    · have cd : c = d := by
        rcases h1 with h1 | h1 <;> rcases h2 with h2 | h2 <;> rcases h3 with h3 | h3
        · exact h1.trans h2.symm
        · exact h1.trans h2.symm
        · exact absurd (h1.trans h3.symm) cf
        · exact absurd (h2.trans h3.symm) df
        · exact absurd (h2.trans h3.symm) df
        · exact absurd (h1.trans h3.symm) cf
        · exact h1.trans h2.symm
        · exact h1.trans h2.symm
      rw [decide_eq_false cf, decide_eq_false df, decide_eq_true cd]
      rfl
theorem take_nI (cs : List Nat) (t : Nat) : (nI cs).take t = nI (cs.take t) := by
  show (List.map _ cs).take t = List.map _ (cs.take t)
  rw [List.map_take]
theorem b2I_xor (d o : Bool) (n : Nat) (h : o = decide (n % 2 = 1)) : (b2I d + (n : Int)) % 2 = b2I (d ^^ o) := by
  have z : n % 2 = 0 ∨ n % 2 = 1 := by omega
  rcases z with z | z
  · rw [h, z]
    cases d
    · show (0 + (n : Int)) % 2 = 0; omega
    · show (1 + (n : Int)) % 2 = 1; omega
  · rw [h, z]
    cases d
    · show (0 + (n : Int)) % 2 = 1; omega
    · show (1 + (n : Int)) % 2 = 0; omega
theorem m_interval {r : Row} (V : Vr r) {cs : List Nat} (h : ∀ c ∈ cs, c < r.length) (z : cs.length ≤ 1000) {s e : Nat} (se : s ≤ e) (ec : e ≤ cs.length) (two : ∀ t, s ≤ t → t < e → 2 ≤ (dd (colsA r cs t)).length) :
    F__law_interval_holds (enc r) (nI cs) (s : Int) (e : Int) = some true := by
  unfold F__law_interval_holds
  rw [cutL_to, cutL_to, cutL_mid, take_nI, take_nI, show (nI (cs.take e)).drop s = nI ((cs.take e).drop s) from by show (List.map _ _).drop s = List.map _ _; rw [List.map_drop]]
  have sl : (cs.take s).length ≤ 1000 := by rw [List.length_take]; omega
  refine be (x := nI (cs.take s)) (by
    unfold setSF
    rw [decide_eq_true (by rw [List.length_map]; omega)]
    rfl) ?_
  obtain ⟨ps, hps⟩ : ∃ ps, sortUI (nI (cs.take s)) = nI ps := ex_nI fun x hx => by
    obtain ⟨n, _, e⟩ := List.mem_map.mp (mem_sortUI.mp hx)
    exact ⟨n, e.symm⟩
  have mem : ∀ p, p ∈ ps ↔ p ∈ cs.take s := fun p => by
    rw [← mem_nI, ← hps, mem_sortUI, mem_nI]
  have pl : ps.length ≤ 1000 := by
    have : (nI ps).length ≤ (nI (cs.take s)).length := by
      rw [← hps]
      unfold sortUI
      rw [(List.mergeSort_perm _ _).length_eq]
      exact dd_le _
    rw [List.length_map, List.length_map] at this
    omega
  rw [hps]
  have hs : ∀ c ∈ cs.take s, c < r.length := fun c hc => h c (List.mem_of_mem_take hc)
  have he : ∀ c ∈ cs.take e, c < r.length := fun c hc => h c (List.mem_of_mem_take hc)
  have sub : ∀ p, p ∈ cs.take s → p ∈ cs.take e := fun p hp => by
    have : cs.take s = (cs.take e).take s := by rw [List.take_take, Nat.min_eq_left se]
    rw [this] at hp
    exact List.mem_of_mem_take hp
  refine be (m_side_numbers V hs pl fun p hp => (mem p).mp hp) ?_
  refine be (m_side_numbers V he pl fun p hp => sub p ((mem p).mp hp)) ?_
  refine be (m_after V he) ?_
  have ll : lenI (nI ps) = (ps.length : Int) := by unfold lenI; rw [List.length_map]
  rw [ll]
  refine be (rngF_ok (by decide) (by decide) (by omega) (by omega)) ?_
  rw [rgI_nat]
  refine be (loopC_nx fun x hx => ?_) rfl
  obtain ⟨i, hi, rfl⟩ := List.mem_map.mp hx
  have il := List.mem_range.mp hi
  have hp : ps[i]? = some ps[i] := List.getElem?_eq_getElem il
  have hq : ps[0]? = some (ps[0]'(by omega)) := List.getElem?_eq_getElem (by omega)
  have i1 : ix (nI ps) (i : Int) = some ((ps[i] : Nat) : Int) := ix_nat (by rw [List.getElem?_map, hp]; rfl)
  have i2 : ix (nI ps) (0 : Int) = some (((ps[0]'(by omega) : Nat)) : Int) := ix_int (by decide) (by show (nI ps)[0]? = _; rw [List.getElem?_map, hq]; rfl)
  generalize hP : ps[i] = p at i1 hp
  generalize hQ : (ps[0]'(by omega)) = q at i2 hq
  have pin := (mem p).mp (List.mem_of_getElem? hp)
  have qin := (mem q).mp (List.mem_of_getElem? hq)
  have at_ : ∀ (g : Nat → Int), ix (ps.map g) (i : Int) = some (g p) ∧ ix (ps.map g) (0 : Int) = some (g q) := fun g =>
    ⟨ix_nat (by rw [List.getElem?_map, hp]; rfl), ix_int (by decide) (by show (ps.map g)[0]? = _; rw [List.getElem?_map, hq]; rfl)⟩
  have Vs := apps_len V _ hs
  have Ve := apps_len V _ he
  have plr := hs p pin
  have qlr := hs q qin
  obtain ⟨As, Bs, Ss⟩ := split_calls r (cs.take s)
  obtain ⟨Ae, Be, Se⟩ := split_calls r (cs.take e)
  have k1 := par_dif Vs.1 Ss (by rw [Vs.2]; exact plr) (by rw [Vs.2]; exact qlr) pin qin
  have k2 := par_dif Ve.1 Se (by rw [Ve.2]; exact plr) (by rw [Ve.2]; exact qlr) (sub p pin) (sub q qin)
  have fl := flips V h pin qin (e - s) (by omega) fun t t1 t2 => two t t1 (by omega)
  rw [show s + (e - s) = e by omega] at fl
  refine be i1 (be i2 (be (at_ _).1 (be (at_ _).2 ?_)))
  rw [count_nI, count_nI]
  generalize hn : ((cs.take e).drop s).count p + ((cs.take e).drop s).count q = n at fl
  have par : ((b2I (decide (colOf (apps r (cs.take s)) p = front (apps r (cs.take s)))) + b2I (decide (colOf (apps r (cs.take s)) q = front (apps r (cs.take s))))) + ((((cs.take e).drop s).count p : Int) + (((cs.take e).drop s).count q : Int))) % 2 = b2I (dif (apps r (cs.take e)) p q) := by
    rw [show ((((cs.take e).drop s).count p : Int) + (((cs.take e).drop s).count q : Int)) = (n : Int) by omega, fl, ← b2I_xor _ _ n rfl, ← k1]
    omega
  refine be (x := false) (be (at_ _).1 (be (at_ _).2 ?_)) rfl
  rw [par, k2, decide_eq_true rfl]
  refine be i1 (be (dget_row Ve.1 (by rw [Ve.2]; exact plr)) (be i2 (be (dget_row Ve.1 (by rw [Ve.2]; exact qlr)) ?_)))
  rw [lt_dec]
  show some (!(decide (dif (apps r (cs.take e)) p q = decide (b2I (dif (apps r (cs.take e)) p q) = 1)))) = some false
  cases dif (apps r (cs.take e)) p q <;> rfl
end LQF

namespace LQF
open PySem L2 LX LQ
theorem filt_nI (l : List Nat) (q : Int → Bool) : (nI l).filter q = nI (l.filter fun n => q (n : Int)) := by
  show (List.map _ l).filter q = List.map _ (l.filter _)
  rw [List.filter_map]
  rfl
theorem m_holds {k : Nat} {bg : List Int} (hB : Bg k bg) (hk : k < 2 ^ 60) {r : Row} (V : Vr r) {cs : List Nat} (h : ∀ c ∈ cs, c < r.length) (z : cs.length ≤ 900) :
    Ev (F__law_holds bg (enc r) (nI cs)) fun p => p.1 = true := by
  unfold F__law_holds
  refine ev_b (m_colors V h (by omega)) fun zs ⟨zl, ok⟩ => ?_
  refine ev_b (m_single V h (by omega)) fun ms ⟨ns, e, pw, nl, mem⟩ => ?_
  subst e
  have lc : lenI (nI cs) = (cs.length : Int) := by unfold lenI; rw [List.length_map]
  have lz : lenI zs = ((cs.length + 1 : Nat) : Int) := by unfold lenI; rw [zl]
  rw [lc, lz]
  refine ev_be (catF_ok (by rw [List.length_map]; unfold LIM; show ns.length + 1 ≤ _; omega)) ?_
  have e1 : nI ns ++ [(cs.length : Int) + 1] = nI (ns ++ [cs.length + 1]) := by
    show _ = List.map _ _
    rw [List.map_append]
    rfl
  rw [e1]
  refine ev_be (rngF_ok (by decide) (by decide) (by omega) (by omega)) ?_
  rw [rgI_nat]
  refine ev_be (compL_filt (q := fun i : Int => match zs[i.toNat]? with | some z => decide ((z.length : Int) = 2) | none => false) (g := fun i => i) (by rw [List.length_map, List.length_range]; unfold LIM; omega) (fun x hx => by
    obtain ⟨i, hi, rfl⟩ := List.mem_map.mp hx
    have il := List.mem_range.mp hi
    have hz : zs[i]? = some (zs[i]'(by omega)) := List.getElem?_eq_getElem (by omega)
    rw [ix_nat hz]
    show (lenS _).bind _ = _
    rw [lenS_ok (okC_len V h (ok i _ hz))]
    show cond (decide (((zs[i]'(by omega)).length : Int) = 2)) _ _ = _
    show _ = some (if (match zs[(i : Int).toNat]? with | some z => decide ((z.length : Int) = 2) | none => false) = true then some ((i : Int)) else none)
    rw [Int.toNat_natCast, hz]
    show _ = some (if decide (((zs[i]'(by omega)).length : Int) = 2) = true then some ((i : Int)) else none)
    cases decide (((zs[i]'(by omega)).length : Int) = 2) <;> rfl)) ?_
  rw [List.map_id', filt_nI]
  have tw : ∀ t, t ∈ (List.range (cs.length + 1)).filter (fun n : Nat => match zs[(n : Int).toNat]? with | some z => decide ((z.length : Int) = 2) | none => false) → t ≤ cs.length ∧ (dd (colsA r cs t)).length = 2 := fun t ht => by
    obtain ⟨h1, h2⟩ := List.mem_filter.mp ht
    have il := List.mem_range.mp h1
    have hz : zs[t]? = some (zs[t]'(by omega)) := List.getElem?_eq_getElem (by omega)
    rw [Int.toNat_natCast, hz] at h2
    obtain ⟨_, _, _, el⟩ := ok t _ hz
    have := of_decide_eq_true h2
    exact ⟨by omega, by omega⟩
  have tl : ((List.range (cs.length + 1)).filter (fun n : Nat => match zs[(n : Int).toNat]? with | some z => decide ((z.length : Int) = 2) | none => false)).length ≤ cs.length + 1 := by
    refine Nat.le_trans (List.length_filter_le _ _) ?_
    rw [List.length_range]
    exact Nat.le_refl _
  generalize (List.range (cs.length + 1)).filter (fun n : Nat => match zs[(n : Int).toNat]? with | some z => decide ((z.length : Int) = 2) | none => false) = ts at tw tl
  have lt_ : lenI (nI ts) = (ts.length : Int) := by unfold lenI; rw [List.length_map]
  rw [lt_, minI_eq]
  refine ev_be (rngF_ok (by decide) (by decide) (by omega) (by omega)) ?_
  refine ev_b (loop_all (P := fun c => ∃ s, c = .nx s) (fun i s => i ≤ 8 ∧ Bg (k + 2 * i) s) ⟨by omega, hB⟩ ?_ fun s _ => ⟨s, rfl⟩) fun c ⟨s, e⟩ => by rw [e]; exact ev_s rfl
  rintro i x s hi ⟨i8, B⟩
  have hx := rgI_at hi
  have tp : 0 < ts.length := by omega
  refine ev_b (m_draw B (by omega) (by omega) (by omega)) fun y1 ⟨a0, a1, B1⟩ => ?_
  refine ev_b (ev_ix (P := fun v => ∃ t : Nat, v = (t : Int) ∧ t ≤ cs.length ∧ (dd (colsA r cs t)).length = 2) a0 (by rw [lt_]; exact a1) fun v hv => ?_) fun v ⟨t, e, tc, t2⟩ => ?_
  · rw [List.getElem?_map] at hv
    obtain ⟨t, ht, rfl⟩ := Option.map_eq_some_iff.mp hv
    exact ⟨t, rfl, tw t (List.mem_of_getElem? ht)⟩
  subst e
  refine ev_be (compL_filt (q := fun m : Int => decide ((t : Int) < m)) (g := fun m => m) (by rw [List.length_map, List.length_append]; show _ + 1 ≤ _; unfold LIM; omega) (fun x _ => by cases decide ((t : Int) < x) <;> rfl)) ?_
  rw [List.map_id', filt_nI]
  have pw2 : (ns ++ [cs.length + 1]).Pairwise (· < ·) := by
    rw [List.pairwise_append]
    refine ⟨pw, List.pairwise_singleton _ _, fun a ha b hb => ?_⟩
    rw [List.mem_singleton.mp hb]
    have := (mem a).mp ha
    omega
  have hd : ∃ n l, (ns ++ [cs.length + 1]).filter (fun n : Nat => decide ((t : Int) < (n : Int))) = n :: l ∧ t < n ∧ n ≤ cs.length + 1 ∧ ∀ u, t < u → u < n → u ∉ ns := by
    have pf := List.Pairwise.filter (fun n : Nat => decide ((t : Int) < (n : Int))) pw2
    have me : ∀ u, u ∈ (ns ++ [cs.length + 1]).filter (fun n : Nat => decide ((t : Int) < (n : Int))) ↔ (u ∈ ns ∨ u = cs.length + 1) ∧ t < u := fun u => by
      rw [List.mem_filter, List.mem_append, List.mem_singleton, decide_eq_true_iff]
      constructor
      · rintro ⟨a, b⟩; exact ⟨a, by omega⟩
      · rintro ⟨a, b⟩; exact ⟨a, by omega⟩
    cases e : (ns ++ [cs.length + 1]).filter (fun n : Nat => decide ((t : Int) < (n : Int))) with
    | nil =>
      have := (me (cs.length + 1)).mpr ⟨Or.inr rfl, by omega⟩
      rw [e] at this
      cases this
    | cons n l =>
      rw [e] at pf me
      have mn := (me n).mp List.mem_cons_self
      have le : ∀ u, (u ∈ ns ∨ u = cs.length + 1) → t < u → n ≤ u := fun u h1 h2 => by
        rcases List.mem_cons.mp ((me u).mpr ⟨h1, h2⟩) with z | z
        · omega
        · have := (List.pairwise_cons.mp pf).1 u z
          omega
      exact ⟨n, l, rfl, mn.2, le _ (Or.inr rfl) (by omega), fun u h1 h2 h3 => by have := le u (Or.inl h3) h1; omega⟩
  obtain ⟨n, l, e2, tn, nc, no⟩ := hd
  rw [e2]
  refine ev_be (x := (n : Int)) (ix_int (by decide) rfl) ?_
  refine ev_b (m_draw B1 (by omega) (by omega) (by omega)) fun y2 ⟨b0, b1, B2⟩ => ?_
  obtain ⟨d, hd⟩ : ∃ d : Nat, y2.1 = (d : Int) := ⟨y2.1.toNat, by omega⟩
  rw [hd, show (t : Int) + (d : Int) = ((t + d : Nat) : Int) by omega]
  refine ev_be (m_interval V h (by omega) (by omega) (by omega) fun u u1 u2 => ?_) (ev_s ⟨_, rfl, by omega, B2.up (by omega)⟩)
  by_cases ut : u = t
  · rw [ut]; omega
  · have h1 := no u (by omega) (by omega)
    have h2 : (dd (colsA r cs u)).length ≠ 1 := fun z => h1 ((mem u).mpr ⟨by omega, z⟩)
    have h3 : 1 ≤ (dd (colsA r cs u)).length := by
      refine dd_ne fun z => ?_
      have ul : 0 < u := by omega
      have h0 : (cs.take u)[0]? = some (cs[0]'(by omega)) := by rw [List.getElem?_take_of_lt ul]; exact List.getElem?_eq_getElem _
      have hm := List.mem_of_getElem? h0
      have Vu := apps_len V (cs.take u) fun p hp => h p (List.mem_of_mem_take hp)
      have hl := h _ (List.mem_of_mem_take hm)
      have : lt (colOf (apps r (cs.take u)) (cs[0]'(by omega))) ∈ colsA r cs u := List.mem_map_of_mem (List.mem_map_of_mem (f := (·.2)) (List.mem_filter.mpr ⟨colOf_mem (Vu.1.has (by rw [Vu.2]; exact hl)), decide_eq_true hm⟩))
      rw [z] at this
      cases this
    omega
theorem law_true (ns : List Int) (hz : ns.length ≤ 63) : F_law ns = some true := by
  unfold F_law
  have cl : (cutL ns none (some (6 : Int))).length ≤ 63 := Nat.le_trans (cutL_len _ _ _) hz
  generalize cutL ns none (some (6 : Int)) = xs at cl
  refine be (catF_ok (by show xs.length + 1 ≤ LIM; unfold LIM; omega)) ?_
  refine be_ev (loop_all (P := fun c => c = .nx ()) (fun _ _ => True) trivial (fun i x s hi _ => ?_) fun s _ => rfl) fun c hc => by rw [hc]; rfl
  refine ev_b (m_bag _) fun b0 B0 => ?_
  refine ev_b (P := fun p => 1 ≤ p.1 ∧ p.1 ≤ 60 ∧ Bg 1 p.2) ?_ fun p ⟨p1, p2, B1⟩ => ?_
  · refine ev_c (fun _ => ev_s ⟨by omega, by omega, B0.up (by omega)⟩) fun _ => ?_
    refine ev_b (m_draw B0 (by decide) (by decide) (by omega)) fun y ⟨a0, a1, B1⟩ => ?_
    have z : y.1 = 0 ∨ y.1 = 1 ∨ y.1 = 2 := by omega
    rcases z with z | z | z <;> rw [z] <;> exact ⟨_, rfl, by dsimp only; omega, by dsimp only; omega, B1⟩
  refine ev_b (m_lineup B1 p1 p2 (by omega)) fun q ⟨row, V, e, _, B2⟩ => ?_
  rw [e]
  refine ev_b (P := fun p => 0 ≤ p.1 ∧ p.1 ≤ 90 ∧ Bg 302 p.2) ?_ fun p ⟨p1, p2, B3⟩ => ?_
  · refine ev_c (fun _ => ev_s ⟨by omega, by omega, B2.up (by omega)⟩) fun _ => ?_
    refine ev_b (m_draw B2 (by decide) (by decide) (by omega)) fun y ⟨a0, a1, B1⟩ => ?_
    have z : y.1 = 0 ∨ y.1 = 1 ∨ y.1 = 2 := by omega
    rcases z with z | z | z <;> rw [z] <;> exact ⟨_, rfl, by dsimp only; omega, by dsimp only; omega, B1⟩
  have n1 := V.n1
  have n2 := V.n2
  refine ev_b (m_calls B3 (by rw [lenI_enc]; omega) (by rw [lenI_enc]; omega) p1 (by omega) (by omega)) fun w ⟨cs, e2, hc, lc, B4⟩ => ?_
  rw [e2]
  refine ev_b (m_holds B4 (by omega) V (fun c h => by have := hc c h; rw [lenI_enc] at this; omega) (by omega)) fun v hv => ?_
  rw [hv]
  exact ev_s ⟨(), rfl, trivial⟩
end LQF

namespace K74
open PySem L2 LX LQ
section
variable {P : Program} {w : World} {K : PySem.W.Frag} {mg : Str → Option Value} {base : Heap} {a : Ad}
def sp_law (K : PySem.W.Frag) : Sp := fun vs H Q _ => ∃ (l : Addr) (ns : List Int), vs = [.ref l] ∧ Scr K H l ns ∧ ns.length ≤ 63 ∧ ∀ H', Q (.bl true) H'
theorem ok_law (T : Txt K mg a) : FnOk P w K mg base CX0 10 a.f_law a.d_law ["script"] (sp_law K) := (ok_law0 T).imp fun vs H Q E h => by
  obtain ⟨l, ns, rfl, hS, hz, kq⟩ := h
  exact ⟨l, ns, rfl, hS, true, LQF.law_true ns hz, fun _ H' _ => kq H'⟩
end
theorem all_mk {l : PySem.W.OpenLaw} {w : World} {K : PySem.W.Frag} {h : Heap} {mg : Str → Option Value} {fa : Addr} (X : K.In h) (G : h.Ns mainGlobals mg) (hfa : mg "law" = some (.ref fa))
    {f__law_bag : Addr} {od__law_bag an__law_bag : Option Addr} {sl__law_bag : Array (Option Value)} {oc__law_bag kV__law_bag dc__law_bag pm__law_bag cd__law_bag ct__law_bag : Value}
    {f__law_draw : Addr} {od__law_draw an__law_draw : Option Addr} {sl__law_draw : Array (Option Value)} {oc__law_draw kV__law_draw dc__law_draw pm__law_draw cd__law_draw ct__law_draw : Value}
    {f__law_lineup : Addr} {od__law_lineup an__law_lineup : Option Addr} {sl__law_lineup : Array (Option Value)} {oc__law_lineup kV__law_lineup dc__law_lineup pm__law_lineup cd__law_lineup ct__law_lineup : Value}
    {f__law_calls : Addr} {od__law_calls an__law_calls : Option Addr} {sl__law_calls : Array (Option Value)} {oc__law_calls kV__law_calls dc__law_calls pm__law_calls cd__law_calls ct__law_calls : Value}
    {f_is_integer : Addr} {od_is_integer an_is_integer : Option Addr} {sl_is_integer : Array (Option Value)} {oc_is_integer kV_is_integer dc_is_integer pm_is_integer cd_is_integer ct_is_integer : Value}
    {f_is_color : Addr} {od_is_color an_is_color : Option Addr} {sl_is_color : Array (Option Value)} {oc_is_color kV_is_color dc_is_color pm_is_color cd_is_color ct_is_color : Value}
    {f_is_colored_integer : Addr} {od_is_colored_integer an_is_colored_integer : Option Addr} {sl_is_colored_integer : Array (Option Value)} {oc_is_colored_integer kV_is_colored_integer dc_is_colored_integer pm_is_colored_integer cd_is_colored_integer ct_is_colored_integer : Value}
    {f_is_lineup : Addr} {od_is_lineup an_is_lineup : Option Addr} {sl_is_lineup : Array (Option Value)} {oc_is_lineup kV_is_lineup dc_is_lineup pm_is_lineup cd_is_lineup ct_is_lineup : Value}
    {f_check_lineup : Addr} {od_check_lineup an_check_lineup : Option Addr} {sl_check_lineup : Array (Option Value)} {oc_check_lineup kV_check_lineup dc_check_lineup pm_check_lineup cd_check_lineup ct_check_lineup : Value}
    {f_is_person : Addr} {od_is_person an_is_person : Option Addr} {sl_is_person : Array (Option Value)} {oc_is_person kV_is_person dc_is_person pm_is_person cd_is_person ct_is_person : Value}
    {f_check_calls : Addr} {od_check_calls an_check_calls : Option Addr} {sl_check_calls : Array (Option Value)} {oc_check_calls kV_check_calls dc_check_calls pm_check_calls cd_check_calls ct_check_calls : Value}
    {f_first_other_color : Addr} {od_first_other_color an_first_other_color : Option Addr} {sl_first_other_color : Array (Option Value)} {oc_first_other_color kV_first_other_color dc_first_other_color pm_first_other_color cd_first_other_color ct_first_other_color : Value}
    {f_colors_by_person : Addr} {od_colors_by_person an_colors_by_person : Option Addr} {sl_colors_by_person : Array (Option Value)} {oc_colors_by_person kV_colors_by_person dc_colors_by_person pm_colors_by_person cd_colors_by_person ct_colors_by_person : Value}
    {f_apply_call : Addr} {od_apply_call an_apply_call : Option Addr} {sl_apply_call : Array (Option Value)} {oc_apply_call kV_apply_call dc_apply_call pm_apply_call cd_apply_call ct_apply_call : Value}
    {f_lineups_at_moments : Addr} {od_lineups_at_moments an_lineups_at_moments : Option Addr} {sl_lineups_at_moments : Array (Option Value)} {oc_lineups_at_moments kV_lineups_at_moments dc_lineups_at_moments pm_lineups_at_moments cd_lineups_at_moments ct_lineups_at_moments : Value}
    {f_called_colors : Addr} {od_called_colors an_called_colors : Option Addr} {sl_called_colors : Array (Option Value)} {oc_called_colors kV_called_colors dc_called_colors pm_called_colors cd_called_colors ct_called_colors : Value}
    {f_single_color_moments : Addr} {od_single_color_moments an_single_color_moments : Option Addr} {sl_single_color_moments : Array (Option Value)} {oc_single_color_moments kV_single_color_moments dc_single_color_moments pm_single_color_moments cd_single_color_moments ct_single_color_moments : Value}
    {f_lineup_after : Addr} {od_lineup_after an_lineup_after : Option Addr} {sl_lineup_after : Array (Option Value)} {oc_lineup_after kV_lineup_after dc_lineup_after pm_lineup_after cd_lineup_after ct_lineup_after : Value}
    {f_called_sides : Addr} {od_called_sides an_called_sides : Option Addr} {sl_called_sides : Array (Option Value)} {oc_called_sides kV_called_sides dc_called_sides pm_called_sides cd_called_sides ct_called_sides : Value}
    {f__law_side_numbers : Addr} {od__law_side_numbers an__law_side_numbers : Option Addr} {sl__law_side_numbers : Array (Option Value)} {oc__law_side_numbers kV__law_side_numbers dc__law_side_numbers pm__law_side_numbers cd__law_side_numbers ct__law_side_numbers : Value}
    {f__law_interval_holds : Addr} {od__law_interval_holds an__law_interval_holds : Option Addr} {sl__law_interval_holds : Array (Option Value)} {oc__law_interval_holds kV__law_interval_holds dc__law_interval_holds pm__law_interval_holds cd__law_interval_holds ct__law_interval_holds : Value}
    {f__law_holds : Addr} {od__law_holds an__law_holds : Option Addr} {sl__law_holds : Array (Option Value)} {oc__law_holds kV__law_holds dc__law_holds pm__law_holds cd__law_holds ct__law_holds : Value}
    {f_law : Addr} {od_law an_law : Option Addr} {sl_law : Array (Option Value)} {oc_law kV_law dc_law pm_law cd_law ct_law : Value}
    {t_MOST_PEOPLE : Tok}
    (a__law_bag : PySem.W.nsIn K mainGlobals "_law_bag" = some (some (.ref f__law_bag)))
    (l__law_bag : K.lookup f__law_bag = some ⟨oc__law_bag, od__law_bag, .func (PySem.W.fnOf "_law_bag" "_law_bag" (defArgs s__law_bag) (defBody s__law_bag) (defScope s__law_bag) .none kV__law_bag dc__law_bag pm__law_bag an__law_bag cd__law_bag ct__law_bag), sl__law_bag⟩)
    (c__law_bag : PySem.W.codeIn K cd__law_bag "_law_bag" = true) (k__law_bag : PySem.W.keepIn K (.ref f__law_bag) = true)
    (a__law_draw : PySem.W.nsIn K mainGlobals "_law_draw" = some (some (.ref f__law_draw)))
    (l__law_draw : K.lookup f__law_draw = some ⟨oc__law_draw, od__law_draw, .func (PySem.W.fnOf "_law_draw" "_law_draw" (defArgs s__law_draw) (defBody s__law_draw) (defScope s__law_draw) .none kV__law_draw dc__law_draw pm__law_draw an__law_draw cd__law_draw ct__law_draw), sl__law_draw⟩)
    (c__law_draw : PySem.W.codeIn K cd__law_draw "_law_draw" = true) (k__law_draw : PySem.W.keepIn K (.ref f__law_draw) = true)
    (a__law_lineup : PySem.W.nsIn K mainGlobals "_law_lineup" = some (some (.ref f__law_lineup)))
    (l__law_lineup : K.lookup f__law_lineup = some ⟨oc__law_lineup, od__law_lineup, .func (PySem.W.fnOf "_law_lineup" "_law_lineup" (defArgs s__law_lineup) (defBody s__law_lineup) (defScope s__law_lineup) .none kV__law_lineup dc__law_lineup pm__law_lineup an__law_lineup cd__law_lineup ct__law_lineup), sl__law_lineup⟩)
    (c__law_lineup : PySem.W.codeIn K cd__law_lineup "_law_lineup" = true) (k__law_lineup : PySem.W.keepIn K (.ref f__law_lineup) = true)
    (a__law_calls : PySem.W.nsIn K mainGlobals "_law_calls" = some (some (.ref f__law_calls)))
    (l__law_calls : K.lookup f__law_calls = some ⟨oc__law_calls, od__law_calls, .func (PySem.W.fnOf "_law_calls" "_law_calls" (defArgs s__law_calls) (defBody s__law_calls) (defScope s__law_calls) .none kV__law_calls dc__law_calls pm__law_calls an__law_calls cd__law_calls ct__law_calls), sl__law_calls⟩)
    (c__law_calls : PySem.W.codeIn K cd__law_calls "_law_calls" = true) (k__law_calls : PySem.W.keepIn K (.ref f__law_calls) = true)
    (a_is_integer : PySem.W.nsIn K mainGlobals "is_integer" = some (some (.ref f_is_integer)))
    (l_is_integer : K.lookup f_is_integer = some ⟨oc_is_integer, od_is_integer, .func (PySem.W.fnOf "is_integer" "is_integer" (defArgs s_is_integer) (defBody s_is_integer) (defScope s_is_integer) .none kV_is_integer dc_is_integer pm_is_integer an_is_integer cd_is_integer ct_is_integer), sl_is_integer⟩)
    (c_is_integer : PySem.W.codeIn K cd_is_integer "is_integer" = true) (k_is_integer : PySem.W.keepIn K (.ref f_is_integer) = true)
    (a_is_color : PySem.W.nsIn K mainGlobals "is_color" = some (some (.ref f_is_color)))
    (l_is_color : K.lookup f_is_color = some ⟨oc_is_color, od_is_color, .func (PySem.W.fnOf "is_color" "is_color" (defArgs s_is_color) (defBody s_is_color) (defScope s_is_color) .none kV_is_color dc_is_color pm_is_color an_is_color cd_is_color ct_is_color), sl_is_color⟩)
    (c_is_color : PySem.W.codeIn K cd_is_color "is_color" = true) (k_is_color : PySem.W.keepIn K (.ref f_is_color) = true)
    (a_is_colored_integer : PySem.W.nsIn K mainGlobals "is_colored_integer" = some (some (.ref f_is_colored_integer)))
    (l_is_colored_integer : K.lookup f_is_colored_integer = some ⟨oc_is_colored_integer, od_is_colored_integer, .func (PySem.W.fnOf "is_colored_integer" "is_colored_integer" (defArgs s_is_colored_integer) (defBody s_is_colored_integer) (defScope s_is_colored_integer) .none kV_is_colored_integer dc_is_colored_integer pm_is_colored_integer an_is_colored_integer cd_is_colored_integer ct_is_colored_integer), sl_is_colored_integer⟩)
    (c_is_colored_integer : PySem.W.codeIn K cd_is_colored_integer "is_colored_integer" = true) (k_is_colored_integer : PySem.W.keepIn K (.ref f_is_colored_integer) = true)
    (a_is_lineup : PySem.W.nsIn K mainGlobals "is_lineup" = some (some (.ref f_is_lineup)))
    (l_is_lineup : K.lookup f_is_lineup = some ⟨oc_is_lineup, od_is_lineup, .func (PySem.W.fnOf "is_lineup" "is_lineup" (defArgs s_is_lineup) (defBody s_is_lineup) (defScope s_is_lineup) .none kV_is_lineup dc_is_lineup pm_is_lineup an_is_lineup cd_is_lineup ct_is_lineup), sl_is_lineup⟩)
    (c_is_lineup : PySem.W.codeIn K cd_is_lineup "is_lineup" = true) (k_is_lineup : PySem.W.keepIn K (.ref f_is_lineup) = true)
    (a_check_lineup : PySem.W.nsIn K mainGlobals "check_lineup" = some (some (.ref f_check_lineup)))
    (l_check_lineup : K.lookup f_check_lineup = some ⟨oc_check_lineup, od_check_lineup, .func (PySem.W.fnOf "check_lineup" "check_lineup" (defArgs s_check_lineup) (defBody s_check_lineup) (defScope s_check_lineup) .none kV_check_lineup dc_check_lineup pm_check_lineup an_check_lineup cd_check_lineup ct_check_lineup), sl_check_lineup⟩)
    (c_check_lineup : PySem.W.codeIn K cd_check_lineup "check_lineup" = true) (k_check_lineup : PySem.W.keepIn K (.ref f_check_lineup) = true)
    (a_is_person : PySem.W.nsIn K mainGlobals "is_person" = some (some (.ref f_is_person)))
    (l_is_person : K.lookup f_is_person = some ⟨oc_is_person, od_is_person, .func (PySem.W.fnOf "is_person" "is_person" (defArgs s_is_person) (defBody s_is_person) (defScope s_is_person) .none kV_is_person dc_is_person pm_is_person an_is_person cd_is_person ct_is_person), sl_is_person⟩)
    (c_is_person : PySem.W.codeIn K cd_is_person "is_person" = true) (k_is_person : PySem.W.keepIn K (.ref f_is_person) = true)
    (a_check_calls : PySem.W.nsIn K mainGlobals "check_calls" = some (some (.ref f_check_calls)))
    (l_check_calls : K.lookup f_check_calls = some ⟨oc_check_calls, od_check_calls, .func (PySem.W.fnOf "check_calls" "check_calls" (defArgs s_check_calls) (defBody s_check_calls) (defScope s_check_calls) .none kV_check_calls dc_check_calls pm_check_calls an_check_calls cd_check_calls ct_check_calls), sl_check_calls⟩)
    (c_check_calls : PySem.W.codeIn K cd_check_calls "check_calls" = true) (k_check_calls : PySem.W.keepIn K (.ref f_check_calls) = true)
    (a_first_other_color : PySem.W.nsIn K mainGlobals "first_other_color" = some (some (.ref f_first_other_color)))
    (l_first_other_color : K.lookup f_first_other_color = some ⟨oc_first_other_color, od_first_other_color, .func (PySem.W.fnOf "first_other_color" "first_other_color" (defArgs s_first_other_color) (defBody s_first_other_color) (defScope s_first_other_color) .none kV_first_other_color dc_first_other_color pm_first_other_color an_first_other_color cd_first_other_color ct_first_other_color), sl_first_other_color⟩)
    (c_first_other_color : PySem.W.codeIn K cd_first_other_color "first_other_color" = true) (k_first_other_color : PySem.W.keepIn K (.ref f_first_other_color) = true)
    (a_colors_by_person : PySem.W.nsIn K mainGlobals "colors_by_person" = some (some (.ref f_colors_by_person)))
    (l_colors_by_person : K.lookup f_colors_by_person = some ⟨oc_colors_by_person, od_colors_by_person, .func (PySem.W.fnOf "colors_by_person" "colors_by_person" (defArgs s_colors_by_person) (defBody s_colors_by_person) (defScope s_colors_by_person) .none kV_colors_by_person dc_colors_by_person pm_colors_by_person an_colors_by_person cd_colors_by_person ct_colors_by_person), sl_colors_by_person⟩)
    (c_colors_by_person : PySem.W.codeIn K cd_colors_by_person "colors_by_person" = true) (k_colors_by_person : PySem.W.keepIn K (.ref f_colors_by_person) = true)
    (a_apply_call : PySem.W.nsIn K mainGlobals "apply_call" = some (some (.ref f_apply_call)))
    (l_apply_call : K.lookup f_apply_call = some ⟨oc_apply_call, od_apply_call, .func (PySem.W.fnOf "apply_call" "apply_call" (defArgs s_apply_call) (defBody s_apply_call) (defScope s_apply_call) .none kV_apply_call dc_apply_call pm_apply_call an_apply_call cd_apply_call ct_apply_call), sl_apply_call⟩)
    (c_apply_call : PySem.W.codeIn K cd_apply_call "apply_call" = true) (k_apply_call : PySem.W.keepIn K (.ref f_apply_call) = true)
    (a_lineups_at_moments : PySem.W.nsIn K mainGlobals "lineups_at_moments" = some (some (.ref f_lineups_at_moments)))
    (l_lineups_at_moments : K.lookup f_lineups_at_moments = some ⟨oc_lineups_at_moments, od_lineups_at_moments, .func (PySem.W.fnOf "lineups_at_moments" "lineups_at_moments" (defArgs s_lineups_at_moments) (defBody s_lineups_at_moments) (defScope s_lineups_at_moments) .none kV_lineups_at_moments dc_lineups_at_moments pm_lineups_at_moments an_lineups_at_moments cd_lineups_at_moments ct_lineups_at_moments), sl_lineups_at_moments⟩)
    (c_lineups_at_moments : PySem.W.codeIn K cd_lineups_at_moments "lineups_at_moments" = true) (k_lineups_at_moments : PySem.W.keepIn K (.ref f_lineups_at_moments) = true)
    (a_called_colors : PySem.W.nsIn K mainGlobals "called_colors" = some (some (.ref f_called_colors)))
    (l_called_colors : K.lookup f_called_colors = some ⟨oc_called_colors, od_called_colors, .func (PySem.W.fnOf "called_colors" "called_colors" (defArgs s_called_colors) (defBody s_called_colors) (defScope s_called_colors) .none kV_called_colors dc_called_colors pm_called_colors an_called_colors cd_called_colors ct_called_colors), sl_called_colors⟩)
    (c_called_colors : PySem.W.codeIn K cd_called_colors "called_colors" = true) (k_called_colors : PySem.W.keepIn K (.ref f_called_colors) = true)
    (a_single_color_moments : PySem.W.nsIn K mainGlobals "single_color_moments" = some (some (.ref f_single_color_moments)))
    (l_single_color_moments : K.lookup f_single_color_moments = some ⟨oc_single_color_moments, od_single_color_moments, .func (PySem.W.fnOf "single_color_moments" "single_color_moments" (defArgs s_single_color_moments) (defBody s_single_color_moments) (defScope s_single_color_moments) .none kV_single_color_moments dc_single_color_moments pm_single_color_moments an_single_color_moments cd_single_color_moments ct_single_color_moments), sl_single_color_moments⟩)
    (c_single_color_moments : PySem.W.codeIn K cd_single_color_moments "single_color_moments" = true) (k_single_color_moments : PySem.W.keepIn K (.ref f_single_color_moments) = true)
    (a_lineup_after : PySem.W.nsIn K mainGlobals "lineup_after" = some (some (.ref f_lineup_after)))
    (l_lineup_after : K.lookup f_lineup_after = some ⟨oc_lineup_after, od_lineup_after, .func (PySem.W.fnOf "lineup_after" "lineup_after" (defArgs s_lineup_after) (defBody s_lineup_after) (defScope s_lineup_after) .none kV_lineup_after dc_lineup_after pm_lineup_after an_lineup_after cd_lineup_after ct_lineup_after), sl_lineup_after⟩)
    (c_lineup_after : PySem.W.codeIn K cd_lineup_after "lineup_after" = true) (k_lineup_after : PySem.W.keepIn K (.ref f_lineup_after) = true)
    (a_called_sides : PySem.W.nsIn K mainGlobals "called_sides" = some (some (.ref f_called_sides)))
    (l_called_sides : K.lookup f_called_sides = some ⟨oc_called_sides, od_called_sides, .func (PySem.W.fnOf "called_sides" "called_sides" (defArgs s_called_sides) (defBody s_called_sides) (defScope s_called_sides) .none kV_called_sides dc_called_sides pm_called_sides an_called_sides cd_called_sides ct_called_sides), sl_called_sides⟩)
    (c_called_sides : PySem.W.codeIn K cd_called_sides "called_sides" = true) (k_called_sides : PySem.W.keepIn K (.ref f_called_sides) = true)
    (a__law_side_numbers : PySem.W.nsIn K mainGlobals "_law_side_numbers" = some (some (.ref f__law_side_numbers)))
    (l__law_side_numbers : K.lookup f__law_side_numbers = some ⟨oc__law_side_numbers, od__law_side_numbers, .func (PySem.W.fnOf "_law_side_numbers" "_law_side_numbers" (defArgs s__law_side_numbers) (defBody s__law_side_numbers) (defScope s__law_side_numbers) .none kV__law_side_numbers dc__law_side_numbers pm__law_side_numbers an__law_side_numbers cd__law_side_numbers ct__law_side_numbers), sl__law_side_numbers⟩)
    (c__law_side_numbers : PySem.W.codeIn K cd__law_side_numbers "_law_side_numbers" = true) (k__law_side_numbers : PySem.W.keepIn K (.ref f__law_side_numbers) = true)
    (a__law_interval_holds : PySem.W.nsIn K mainGlobals "_law_interval_holds" = some (some (.ref f__law_interval_holds)))
    (l__law_interval_holds : K.lookup f__law_interval_holds = some ⟨oc__law_interval_holds, od__law_interval_holds, .func (PySem.W.fnOf "_law_interval_holds" "_law_interval_holds" (defArgs s__law_interval_holds) (defBody s__law_interval_holds) (defScope s__law_interval_holds) .none kV__law_interval_holds dc__law_interval_holds pm__law_interval_holds an__law_interval_holds cd__law_interval_holds ct__law_interval_holds), sl__law_interval_holds⟩)
    (c__law_interval_holds : PySem.W.codeIn K cd__law_interval_holds "_law_interval_holds" = true) (k__law_interval_holds : PySem.W.keepIn K (.ref f__law_interval_holds) = true)
    (a__law_holds : PySem.W.nsIn K mainGlobals "_law_holds" = some (some (.ref f__law_holds)))
    (l__law_holds : K.lookup f__law_holds = some ⟨oc__law_holds, od__law_holds, .func (PySem.W.fnOf "_law_holds" "_law_holds" (defArgs s__law_holds) (defBody s__law_holds) (defScope s__law_holds) .none kV__law_holds dc__law_holds pm__law_holds an__law_holds cd__law_holds ct__law_holds), sl__law_holds⟩)
    (c__law_holds : PySem.W.codeIn K cd__law_holds "_law_holds" = true) (k__law_holds : PySem.W.keepIn K (.ref f__law_holds) = true)
    (a_law : PySem.W.nsIn K mainGlobals "law" = some (some (.ref f_law)))
    (l_law : K.lookup f_law = some ⟨oc_law, od_law, .func (PySem.W.fnOf "law" "law" (defArgs s_law) (defBody s_law) (defScope s_law) .none kV_law dc_law pm_law an_law cd_law ct_law), sl_law⟩)
    (c_law : PySem.W.codeIn K cd_law "law" = true) (k_law : PySem.W.keepIn K (.ref f_law) = true)
    (a_MOST_PEOPLE : PySem.W.nsIn K mainGlobals "MOST_PEOPLE" = some (some (.int 60 t_MOST_PEOPLE)))
    (z_bool : PySem.W.nsIn K mainGlobals "bool" = some none)
    (z_dict : PySem.W.nsIn K mainGlobals "dict" = some none)
    (z_enumerate : PySem.W.nsIn K mainGlobals "enumerate" = some none)
    (z_int : PySem.W.nsIn K mainGlobals "int" = some none)
    (z_isinstance : PySem.W.nsIn K mainGlobals "isinstance" = some none)
    (z_len : PySem.W.nsIn K mainGlobals "len" = some none)
    (z_list : PySem.W.nsIn K mainGlobals "list" = some none)
    (z_max : PySem.W.nsIn K mainGlobals "max" = some none)
    (z_min : PySem.W.nsIn K mainGlobals "min" = some none)
    (z_range : PySem.W.nsIn K mainGlobals "range" = some none)
    (z_set : PySem.W.nsIn K mainGlobals "set" = some none)
    (z_sorted : PySem.W.nsIn K mainGlobals "sorted" = some none)
    (z_str : PySem.W.nsIn K mainGlobals "str" = some none)
    (z_tuple : PySem.W.nsIn K mainGlobals "tuple" = some none)
    (z_type : PySem.W.nsIn K mainGlobals "type" = some none)
    : ∃ fd : FuncData, (∀ (s : Shared) (v : Value), BindsTo s fd ⟨[v], []⟩ [("script", v)]) ∧ ∀ base : Heap, K.In base → base.Ns mainGlobals mg → FnOk l.prog w K mg base CX0 10 fa fd ["script"] (sp_law K) := by
  have e := hfa.symm.trans (PySem.W.mg_of X G a_law)
  cases e
  have F__law_bag := fun_mk (st := s__law_bag) l__law_bag c__law_bag k__law_bag
  have n__law_bag := F__law_bag.binds (ps := ["cell"]) fun _ _ _ _ _ _ us hl => match us, hl with | [_], _ => rfl
  have F__law_draw := fun_mk (st := s__law_draw) l__law_draw c__law_draw k__law_draw
  have n__law_draw := F__law_draw.binds (ps := ["bag", "limit"]) fun _ _ _ _ _ _ us hl => match us, hl with | [_, _], _ => rfl
  have F__law_lineup := fun_mk (st := s__law_lineup) l__law_lineup c__law_lineup k__law_lineup
  have n__law_lineup := F__law_lineup.binds (ps := ["bag", "most"]) fun _ _ _ _ _ _ us hl => match us, hl with | [_, _], _ => rfl
  have F__law_calls := fun_mk (st := s__law_calls) l__law_calls c__law_calls k__law_calls
  have n__law_calls := F__law_calls.binds (ps := ["bag", "size", "most"]) fun _ _ _ _ _ _ us hl => match us, hl with | [_, _, _], _ => rfl
  have F_is_integer := fun_mk (st := s_is_integer) l_is_integer c_is_integer k_is_integer
  have n_is_integer := F_is_integer.binds (ps := ["value"]) fun _ _ _ _ _ _ us hl => match us, hl with | [_], _ => rfl
  have F_is_color := fun_mk (st := s_is_color) l_is_color c_is_color k_is_color
  have n_is_color := F_is_color.binds (ps := ["value"]) fun _ _ _ _ _ _ us hl => match us, hl with | [_], _ => rfl
  have F_is_colored_integer := fun_mk (st := s_is_colored_integer) l_is_colored_integer c_is_colored_integer k_is_colored_integer
  have n_is_colored_integer := F_is_colored_integer.binds (ps := ["value"]) fun _ _ _ _ _ _ us hl => match us, hl with | [_], _ => rfl
  have F_is_lineup := fun_mk (st := s_is_lineup) l_is_lineup c_is_lineup k_is_lineup
  have n_is_lineup := F_is_lineup.binds (ps := ["value"]) fun _ _ _ _ _ _ us hl => match us, hl with | [_], _ => rfl
  have F_check_lineup := fun_mk (st := s_check_lineup) l_check_lineup c_check_lineup k_check_lineup
  have n_check_lineup := F_check_lineup.binds (ps := ["value"]) fun _ _ _ _ _ _ us hl => match us, hl with | [_], _ => rfl
  have F_is_person := fun_mk (st := s_is_person) l_is_person c_is_person k_is_person
  have n_is_person := F_is_person.binds (ps := ["lineup", "value"]) fun _ _ _ _ _ _ us hl => match us, hl with | [_, _], _ => rfl
  have F_check_calls := fun_mk (st := s_check_calls) l_check_calls c_check_calls k_check_calls
  have n_check_calls := F_check_calls.binds (ps := ["lineup", "value"]) fun _ _ _ _ _ _ us hl => match us, hl with | [_, _], _ => rfl
  have F_first_other_color := fun_mk (st := s_first_other_color) l_first_other_color c_first_other_color k_first_other_color
  have n_first_other_color := F_first_other_color.binds (ps := ["lineup", "color"]) fun _ _ _ _ _ _ us hl => match us, hl with | [_, _], _ => rfl
  have F_colors_by_person := fun_mk (st := s_colors_by_person) l_colors_by_person c_colors_by_person k_colors_by_person
  have n_colors_by_person := F_colors_by_person.binds (ps := ["lineup"]) fun _ _ _ _ _ _ us hl => match us, hl with | [_], _ => rfl
  have F_apply_call := fun_mk (st := s_apply_call) l_apply_call c_apply_call k_apply_call
  have n_apply_call := F_apply_call.binds (ps := ["lineup", "person"]) fun _ _ _ _ _ _ us hl => match us, hl with | [_, _], _ => rfl
  have F_lineups_at_moments := fun_mk (st := s_lineups_at_moments) l_lineups_at_moments c_lineups_at_moments k_lineups_at_moments
  have n_lineups_at_moments := F_lineups_at_moments.binds (ps := ["lineup", "calls"]) fun _ _ _ _ _ _ us hl => match us, hl with | [_, _], _ => rfl
  have F_called_colors := fun_mk (st := s_called_colors) l_called_colors c_called_colors k_called_colors
  have n_called_colors := F_called_colors.binds (ps := ["lineup", "calls"]) fun _ _ _ _ _ _ us hl => match us, hl with | [_, _], _ => rfl
  have F_single_color_moments := fun_mk (st := s_single_color_moments) l_single_color_moments c_single_color_moments k_single_color_moments
  have n_single_color_moments := F_single_color_moments.binds (ps := ["lineup", "calls"]) fun _ _ _ _ _ _ us hl => match us, hl with | [_, _], _ => rfl
  have F_lineup_after := fun_mk (st := s_lineup_after) l_lineup_after c_lineup_after k_lineup_after
  have n_lineup_after := F_lineup_after.binds (ps := ["lineup", "calls"]) fun _ _ _ _ _ _ us hl => match us, hl with | [_, _], _ => rfl
  have F_called_sides := fun_mk (st := s_called_sides) l_called_sides c_called_sides k_called_sides
  have n_called_sides := F_called_sides.binds (ps := ["lineup", "calls"]) fun _ _ _ _ _ _ us hl => match us, hl with | [_, _], _ => rfl
  have F__law_side_numbers := fun_mk (st := s__law_side_numbers) l__law_side_numbers c__law_side_numbers k__law_side_numbers
  have n__law_side_numbers := F__law_side_numbers.binds (ps := ["lineup", "calls", "people"]) fun _ _ _ _ _ _ us hl => match us, hl with | [_, _, _], _ => rfl
  have F__law_interval_holds := fun_mk (st := s__law_interval_holds) l__law_interval_holds c__law_interval_holds k__law_interval_holds
  have n__law_interval_holds := F__law_interval_holds.binds (ps := ["lineup", "calls", "start", "end"]) fun _ _ _ _ _ _ us hl => match us, hl with | [_, _, _, _], _ => rfl
  have F__law_holds := fun_mk (st := s__law_holds) l__law_holds c__law_holds k__law_holds
  have n__law_holds := F__law_holds.binds (ps := ["bag", "lineup", "calls"]) fun _ _ _ _ _ _ us hl => match us, hl with | [_, _, _], _ => rfl
  have F_law := fun_mk (st := s_law) l_law c_law k_law
  have n_law := F_law.binds (ps := ["script"]) fun _ _ _ _ _ _ us hl => match us, hl with | [_], _ => rfl
  have T : Txt K mg { f__law_bag := _, d__law_bag := _, f__law_draw := _, d__law_draw := _, f__law_lineup := _, d__law_lineup := _, f__law_calls := _, d__law_calls := _, f_is_integer := _, d_is_integer := _, f_is_color := _, d_is_color := _, f_is_colored_integer := _, d_is_colored_integer := _, f_is_lineup := _, d_is_lineup := _, f_check_lineup := _, d_check_lineup := _, f_is_person := _, d_is_person := _, f_check_calls := _, d_check_calls := _, f_first_other_color := _, d_first_other_color := _, f_colors_by_person := _, d_colors_by_person := _, f_apply_call := _, d_apply_call := _, f_lineups_at_moments := _, d_lineups_at_moments := _, f_called_colors := _, d_called_colors := _, f_single_color_moments := _, d_single_color_moments := _, f_lineup_after := _, d_lineup_after := _, f_called_sides := _, d_called_sides := _, f__law_side_numbers := _, d__law_side_numbers := _, f__law_interval_holds := _, d__law_interval_holds := _, f__law_holds := _, d__law_holds := _, f_law := _, d_law := _, t_MOST_PEOPLE := t_MOST_PEOPLE } := {
    b_bool := PySem.W.mg_none_of X G z_bool,
    b_dict := PySem.W.mg_none_of X G z_dict,
    b_enumerate := PySem.W.mg_none_of X G z_enumerate,
    b_int := PySem.W.mg_none_of X G z_int,
    b_isinstance := PySem.W.mg_none_of X G z_isinstance,
    b_len := PySem.W.mg_none_of X G z_len,
    b_list := PySem.W.mg_none_of X G z_list,
    b_max := PySem.W.mg_none_of X G z_max,
    b_min := PySem.W.mg_none_of X G z_min,
    b_range := PySem.W.mg_none_of X G z_range,
    b_set := PySem.W.mg_none_of X G z_set,
    b_sorted := PySem.W.mg_none_of X G z_sorted,
    b_str := PySem.W.mg_none_of X G z_str,
    b_tuple := PySem.W.mg_none_of X G z_tuple,
    b_type := PySem.W.mg_none_of X G z_type,
    c_MOST_PEOPLE := PySem.W.mg_of X G a_MOST_PEOPLE,
    F__law_bag := F__law_bag,
    n__law_bag := n__law_bag,
    g__law_bag := PySem.W.mg_of X G a__law_bag,
    k__law_bag := k__law_bag,
    F__law_draw := F__law_draw,
    n__law_draw := n__law_draw,
    g__law_draw := PySem.W.mg_of X G a__law_draw,
    k__law_draw := k__law_draw,
    F__law_lineup := F__law_lineup,
    n__law_lineup := n__law_lineup,
    g__law_lineup := PySem.W.mg_of X G a__law_lineup,
    k__law_lineup := k__law_lineup,
    F__law_calls := F__law_calls,
    n__law_calls := n__law_calls,
    g__law_calls := PySem.W.mg_of X G a__law_calls,
    k__law_calls := k__law_calls,
    F_is_integer := F_is_integer,
    n_is_integer := n_is_integer,
    g_is_integer := PySem.W.mg_of X G a_is_integer,
    k_is_integer := k_is_integer,
    F_is_color := F_is_color,
    n_is_color := n_is_color,
    g_is_color := PySem.W.mg_of X G a_is_color,
    k_is_color := k_is_color,
    F_is_colored_integer := F_is_colored_integer,
    n_is_colored_integer := n_is_colored_integer,
    g_is_colored_integer := PySem.W.mg_of X G a_is_colored_integer,
    k_is_colored_integer := k_is_colored_integer,
    F_is_lineup := F_is_lineup,
    n_is_lineup := n_is_lineup,
    g_is_lineup := PySem.W.mg_of X G a_is_lineup,
    k_is_lineup := k_is_lineup,
    F_check_lineup := F_check_lineup,
    n_check_lineup := n_check_lineup,
    g_check_lineup := PySem.W.mg_of X G a_check_lineup,
    k_check_lineup := k_check_lineup,
    F_is_person := F_is_person,
    n_is_person := n_is_person,
    g_is_person := PySem.W.mg_of X G a_is_person,
    k_is_person := k_is_person,
    F_check_calls := F_check_calls,
    n_check_calls := n_check_calls,
    g_check_calls := PySem.W.mg_of X G a_check_calls,
    k_check_calls := k_check_calls,
    F_first_other_color := F_first_other_color,
    n_first_other_color := n_first_other_color,
    g_first_other_color := PySem.W.mg_of X G a_first_other_color,
    k_first_other_color := k_first_other_color,
    F_colors_by_person := F_colors_by_person,
    n_colors_by_person := n_colors_by_person,
    g_colors_by_person := PySem.W.mg_of X G a_colors_by_person,
    k_colors_by_person := k_colors_by_person,
    F_apply_call := F_apply_call,
    n_apply_call := n_apply_call,
    g_apply_call := PySem.W.mg_of X G a_apply_call,
    k_apply_call := k_apply_call,
    F_lineups_at_moments := F_lineups_at_moments,
    n_lineups_at_moments := n_lineups_at_moments,
    g_lineups_at_moments := PySem.W.mg_of X G a_lineups_at_moments,
    k_lineups_at_moments := k_lineups_at_moments,
    F_called_colors := F_called_colors,
    n_called_colors := n_called_colors,
    g_called_colors := PySem.W.mg_of X G a_called_colors,
    k_called_colors := k_called_colors,
    F_single_color_moments := F_single_color_moments,
    n_single_color_moments := n_single_color_moments,
    g_single_color_moments := PySem.W.mg_of X G a_single_color_moments,
    k_single_color_moments := k_single_color_moments,
    F_lineup_after := F_lineup_after,
    n_lineup_after := n_lineup_after,
    g_lineup_after := PySem.W.mg_of X G a_lineup_after,
    k_lineup_after := k_lineup_after,
    F_called_sides := F_called_sides,
    n_called_sides := n_called_sides,
    g_called_sides := PySem.W.mg_of X G a_called_sides,
    k_called_sides := k_called_sides,
    F__law_side_numbers := F__law_side_numbers,
    n__law_side_numbers := n__law_side_numbers,
    g__law_side_numbers := PySem.W.mg_of X G a__law_side_numbers,
    k__law_side_numbers := k__law_side_numbers,
    F__law_interval_holds := F__law_interval_holds,
    n__law_interval_holds := n__law_interval_holds,
    g__law_interval_holds := PySem.W.mg_of X G a__law_interval_holds,
    k__law_interval_holds := k__law_interval_holds,
    F__law_holds := F__law_holds,
    n__law_holds := n__law_holds,
    g__law_holds := PySem.W.mg_of X G a__law_holds,
    k__law_holds := k__law_holds,
    F_law := F_law,
    n_law := n_law,
    g_law := PySem.W.mg_of X G a_law,
    k_law := k_law }
  exact ⟨_, fun s v => .of_eq rfl, fun base _ _ => ok_law T⟩
theorem walk {l : PySem.W.OpenLaw} {q : Program} {loose : List Str} {XP : (Str → Option Value) → Heap → Prop} {YP : World → Heap → Prop} {d : DefRec} {K : Params → PySem.W.Frag} (hn : l.most = some 63) (hdf : d.params.defaults = [])
    (hY : ∀ (w : World) (h : Heap), YP w h → (K w.params).In h)
    (F : ∀ (w : World) (mg : Str → Option Value) (fa : Addr) (h : Heap), (K w.params).In h → h.Ns mainGlobals mg → mg d.name = some (.ref fa) →
      ∃ fd : FuncData, (∀ (s : Shared) (u : Value), BindsTo s fd ⟨[u], []⟩ [("script", u)]) ∧ ∀ base : Heap, (K w.params).In base → base.Ns mainGlobals mg → FnOk l.prog w (K w.params) mg base CX0 10 fa fd ["script"] (sp_law (K w.params))) :
    PySem.W.WalkO q loose XP YP l.row.toRowW d [] (fun f vs => PySem.call f vs) :=
  L2.walk_of (n := 63) (k := 10) (x := "script") (CX := fun _ => CX0) (sp := fun w => sp_law (K w.params)) hn (by decide) hdf ⟨rfl, by decide, by decide⟩ hY F (fun _ _ a ns hl hO hS => ⟨a, ns, rfl, Scr.of hO hS, hl, fun _ => rfl⟩) fun _ _ _ _ _ z => z
end K74

open PySem PySem.W PyProof.Rows
set_option maxRecDepth 100000 in
set_option maxHeartbeats 0 in
theorem PySem.Challenge.cw_lastother_k74_whole_sides_by_counting_ca_holds : PySem.Challenge.rw_lastother_k74_whole_sides_by_counting_ca.Holds := by
  w_on; o_law; k_head; (case hw => w_witness2)
  k_fill
  refine K74.walk (l := PySem.Challenge.rw_lastother_k74_whole_sides_by_counting_ca) rfl rfl (fun w h Y => PySem.W.kIn_of Y) ?F
  case F =>
    intro w mg fa h KX G hmg
    refine' K74.all_mk KX G hmg ?a__law_bag ?l__law_bag ?c__law_bag ?k__law_bag ?a__law_draw ?l__law_draw ?c__law_draw ?k__law_draw ?a__law_lineup ?l__law_lineup ?c__law_lineup ?k__law_lineup ?a__law_calls ?l__law_calls ?c__law_calls ?k__law_calls ?a_is_integer ?l_is_integer ?c_is_integer ?k_is_integer ?a_is_color ?l_is_color ?c_is_color ?k_is_color ?a_is_colored_integer ?l_is_colored_integer ?c_is_colored_integer ?k_is_colored_integer ?a_is_lineup ?l_is_lineup ?c_is_lineup ?k_is_lineup ?a_check_lineup ?l_check_lineup ?c_check_lineup ?k_check_lineup ?a_is_person ?l_is_person ?c_is_person ?k_is_person ?a_check_calls ?l_check_calls ?c_check_calls ?k_check_calls ?a_first_other_color ?l_first_other_color ?c_first_other_color ?k_first_other_color ?a_colors_by_person ?l_colors_by_person ?c_colors_by_person ?k_colors_by_person ?a_apply_call ?l_apply_call ?c_apply_call ?k_apply_call ?a_lineups_at_moments ?l_lineups_at_moments ?c_lineups_at_moments ?k_lineups_at_moments ?a_called_colors ?l_called_colors ?c_called_colors ?k_called_colors ?a_single_color_moments ?l_single_color_moments ?c_single_color_moments ?k_single_color_moments ?a_lineup_after ?l_lineup_after ?c_lineup_after ?k_lineup_after ?a_called_sides ?l_called_sides ?c_called_sides ?k_called_sides ?a__law_side_numbers ?l__law_side_numbers ?c__law_side_numbers ?k__law_side_numbers ?a__law_interval_holds ?l__law_interval_holds ?c__law_interval_holds ?k__law_interval_holds ?a__law_holds ?l__law_holds ?c__law_holds ?k__law_holds ?a_law ?l_law ?c_law ?k_law ?a_MOST_PEOPLE ?z_bool ?z_dict ?z_enumerate ?z_int ?z_isinstance ?z_len ?z_list ?z_max ?z_min ?z_range ?z_set ?z_sorted ?z_str ?z_tuple ?z_type
    (case a__law_bag => k_is)
    (case l__law_bag => k_is)
    (case c__law_bag => k_is)
    (case k__law_bag => k_is)
    (case a__law_draw => k_is)
    (case l__law_draw => k_is)
    (case c__law_draw => k_is)
    (case k__law_draw => k_is)
    (case a__law_lineup => k_is)
    (case l__law_lineup => k_is)
    (case c__law_lineup => k_is)
    (case k__law_lineup => k_is)
    (case a__law_calls => k_is)
    (case l__law_calls => k_is)
    (case c__law_calls => k_is)
    (case k__law_calls => k_is)
    (case a_is_integer => k_is)
    (case l_is_integer => k_is)
    (case c_is_integer => k_is)
    (case k_is_integer => k_is)
    (case a_is_color => k_is)
    (case l_is_color => k_is)
    (case c_is_color => k_is)
    (case k_is_color => k_is)
    (case a_is_colored_integer => k_is)
    (case l_is_colored_integer => k_is)
    (case c_is_colored_integer => k_is)
    (case k_is_colored_integer => k_is)
    (case a_is_lineup => k_is)
    (case l_is_lineup => k_is)
    (case c_is_lineup => k_is)
    (case k_is_lineup => k_is)
    (case a_check_lineup => k_is)
    (case l_check_lineup => k_is)
    (case c_check_lineup => k_is)
    (case k_check_lineup => k_is)
    (case a_is_person => k_is)
    (case l_is_person => k_is)
    (case c_is_person => k_is)
    (case k_is_person => k_is)
    (case a_check_calls => k_is)
    (case l_check_calls => k_is)
    (case c_check_calls => k_is)
    (case k_check_calls => k_is)
    (case a_first_other_color => k_is)
    (case l_first_other_color => k_is)
    (case c_first_other_color => k_is)
    (case k_first_other_color => k_is)
    (case a_colors_by_person => k_is)
    (case l_colors_by_person => k_is)
    (case c_colors_by_person => k_is)
    (case k_colors_by_person => k_is)
    (case a_apply_call => k_is)
    (case l_apply_call => k_is)
    (case c_apply_call => k_is)
    (case k_apply_call => k_is)
    (case a_lineups_at_moments => k_is)
    (case l_lineups_at_moments => k_is)
    (case c_lineups_at_moments => k_is)
    (case k_lineups_at_moments => k_is)
    (case a_called_colors => k_is)
    (case l_called_colors => k_is)
    (case c_called_colors => k_is)
    (case k_called_colors => k_is)
    (case a_single_color_moments => k_is)
    (case l_single_color_moments => k_is)
    (case c_single_color_moments => k_is)
    (case k_single_color_moments => k_is)
    (case a_lineup_after => k_is)
    (case l_lineup_after => k_is)
    (case c_lineup_after => k_is)
    (case k_lineup_after => k_is)
    (case a_called_sides => k_is)
    (case l_called_sides => k_is)
    (case c_called_sides => k_is)
    (case k_called_sides => k_is)
    (case a__law_side_numbers => k_is)
    (case l__law_side_numbers => k_is)
    (case c__law_side_numbers => k_is)
    (case k__law_side_numbers => k_is)
    (case a__law_interval_holds => k_is)
    (case l__law_interval_holds => k_is)
    (case c__law_interval_holds => k_is)
    (case k__law_interval_holds => k_is)
    (case a__law_holds => k_is)
    (case l__law_holds => k_is)
    (case c__law_holds => k_is)
    (case k__law_holds => k_is)
    (case a_law => k_is)
    (case l_law => k_is)
    (case c_law => k_is)
    (case k_law => k_is)
    (case a_MOST_PEOPLE => k_is)
    (case z_bool => k_is)
    (case z_dict => k_is)
    (case z_enumerate => k_is)
    (case z_int => k_is)
    (case z_isinstance => k_is)
    (case z_len => k_is)
    (case z_list => k_is)
    (case z_max => k_is)
    (case z_min => k_is)
    (case z_range => k_is)
    (case z_set => k_is)
    (case z_sorted => k_is)
    (case z_str => k_is)
    (case z_tuple => k_is)
    (case z_type => k_is)
